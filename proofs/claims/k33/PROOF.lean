import PyProof.Rows.All
import Wide.All
import OpenK.AllK
import Wide.FinOn
import Lean
import PyProof.EqAt
import PyProof.EqKinds
import PyProof.TupleCall
import PyProof.NeKinds
import KE.KTryMore
import PyProof.NsDelKeeps
import PySem.SetTable
import PyProof.StrLawsChain
import PyProof.StrBlockL
import KE.KIntText
import PyProof.DictTable
import PyProof.SliceStr2
import PyProof.MeetsStr
import PyProof.StrWalks
import PyProof.TupleKey
import PyProof.SetKind
import PyProof.Rows.SetFrom
import PyProof.ZipIter
import PyProof.Rows.ZipGen
import PyProof.LayNew
import PyProof.ExcInit
import PyProof.ExcClass3
import PyProof.EnumFor
import PyProof.EnumMake
import PyProof.EnumStmt
import PyProof.Rows.StrNews
import KE.KDictSum
import KE.KSortTup
import PyProof.DictWalks
import PyProof.DictRoadsH
import PyProof.DictKeyH
import PyProof.AutoSeq1
import PyProof.MeetsStr2
import PySem.Challenge.RW_chalkline_k33_no_drawing
set_option Elab.async false
set_option linter.all false
set_option compiler.extract_closed false
set_option maxRecDepth 100000
set_option maxHeartbeats 1000000
section
open PySem PyProof.Rows
abbrev xFg:=PySem.W.Frag
abbrev xaa:=@List.length_append
abbrev xab:=@List.length_map
abbrev xad:=@List.length_cons
abbrev xae:=@List.mem_cons_of_mem
abbrev xaf:=@decide_eq_true
abbrev xag:=@decide_eq_false
abbrev xah:=@Nat.le_trans
abbrev xai:=@wpAny_bind
abbrev xaj:=@Heap.get?_push_of_some
abbrev xak:=@Nat.le_refl
abbrev xal:=@List.mem_cons
abbrev xam:=@List.getElem?_set_ne
abbrev xan:=@List.getElem?_eq_some_iff
abbrev xao:=@List.size_toArray
abbrev xap:=@Bool.and_eq_true
abbrev xaq:=@List.mem_cons_self
abbrev xar:=@List.append_assoc
abbrev xas:=@of_decide_eq_true
abbrev xat:=@absurd
abbrev xau:=@Nat.lt_of_lt_of_le
abbrev xav:=@List.map_append
abbrev xaw:=@Heap.lt_size
abbrev xax:=@List.getElem?_eq_getElem
abbrev xay:=@List.mem_map
abbrev xaz:=@if_neg
abbrev xa0:=@List.getElem?_set_self
abbrev xa1:=@List.mem_append
abbrev xa2:=@List.all_eq_true
abbrev xa3:=@PySem.W.mg_of
abbrev xa4:=@wpAny_pure
abbrev xa5:=@if_pos
abbrev xa6:=@Heap.get?_push_size
abbrev xa7:=@Bool.false_ne_true
abbrev xa8:=@List.append_nil
abbrev xa9:=@List.getD_eq_getElem?_getD
abbrev xba:=@List.replicate_succ
abbrev xbb:=@List.mem_append_right
abbrev xbc:=@List.mem_singleton
abbrev xbd:=@Ne.symm
abbrev xbe:=@List.getElem?_append_right
abbrev xbf:=@Nat.ne_of_lt
abbrev xbg:=@List.map_cons
abbrev xbh:=@List.length_take
abbrev xbi:=@List.length_nil
abbrev xbj:=@List.map_map
abbrev xbk:=@List.not_mem_nil
abbrev xbl:=@List.getElem?_map
abbrev xbm:=@Int.toNat_natCast
abbrev xbn:=@List.getElem?_append_left
abbrev xbo:=@PySem.W.mg_none_of
abbrev xbp:=@Option.some.inj
abbrev xbq:=@List.nil_append
abbrev xbr:=@List.length_replicate
abbrev xbs:=@List.getElem?_cons_succ
abbrev xbt:=@List.mem_of_getElem?
abbrev xbu:=@List.length_drop
abbrev xbv:=@Heap.get?_update_other
abbrev xbw:=@List.flatten_cons
abbrev xbx:=@List.getElem?_eq_none
abbrev xby:=@Nat.lt_irrefl
abbrev xbz:=@Nat.zero_le
abbrev xb0:=@List.length_eq_zero_iff
abbrev xb1:=@Bool.or_eq_true
abbrev xb2:=@Array.length_toList
abbrev xb3:=@List.getElem?_range
abbrev xb4:=@Array.getElem?_eq_some_iff
abbrev xb5:=@Nat.lt_succ_self
abbrev xb6:=@List.mem_of_mem_take
abbrev xb7:=@List.eq_of_mem_replicate
abbrev xb8:=@Bool.not_eq_true'
abbrev xb9:=@List.mem_range
abbrev xca:=@List.lookup_cons
abbrev xcb:=@List.length_set
abbrev xcc:=@Option.isSome_iff_exists
abbrev xcd:=@List.getElem_mem
abbrev xcf:=@List.getElem?_replicate
abbrev xcg:=@List.any_cons
abbrev xch:=@List.map_take
abbrev xci:=@Nat.lt_of_le_of_lt
abbrev xcj:=@Heap.size_push
abbrev xck:=@List.map_nil
abbrev xcl:=@Nat.zero_add
abbrev xcm:=@List.cons_append
abbrev xcn:=@List.filterMap_cons
abbrev xco:=@List.map_congr_left
abbrev xcp:=@List.nodup_cons
abbrev xcq:=@List.forIn_cons
abbrev xcr:=@Bool.eq_iff_iff
abbrev xcs:=@Nat.le_of_lt
abbrev xct:=@List.drop_of_length_le
abbrev xcu:=@Option.map_eq_some_iff
abbrev xcv:=@List.all_cons
abbrev xcw:=@Bool.true_and
abbrev xcx:=@Bool.and_true
abbrev xcy:=@List.map_drop
abbrev xcz:=@Array.toList_inj
abbrev xc0:=@List.take_length
abbrev xc1:=@List.take_append_drop
abbrev xc2:=@List.mem_append_left
abbrev xc3:=@Nat.ne_of_gt
abbrev xc4:=@List.length_dropLast
abbrev xc5:=@List.mem_of_mem_drop
abbrev xc6:=@List.length_pos_iff
end
open PySem
section
namespace L2
open PySem.Spec PyProof.Rows
abbrev Key:=Sum Int Str
def CF:Key->Value->Bool
 |.inl k,v=>Value.isInt k v
 |.inr x,v=>Value.isStrOf x v
def P6(w:World):Key->Int
 |.inl k=>hashInt k
 |.inr x=>hashStr w x
theorem kK:∀{k:Key} {v:Value},CF k v=true->(∃i t,k=Sum.inl i/\v=Value.int i t)\/(∃x t,k=Sum.inr x/\v=Value.str x t)
 |.inl i,v,h=>by
  obtain⟨t,e⟩:=Value.isInt_shape (k:=i) (v:=v) h
  exact .inl ⟨i,t,rfl,e⟩
 |.inr x,v,h=>by
  obtain⟨t,e⟩:=Value.isStrOf_shape (x:=x) (v:=v) h
  exact .inr ⟨x,t,rfl,e⟩
theorem P7(a b:Int):decide ((Sum.inl a:Key)=Sum.inl b)=(a==b):=by
 by_cases e:a=b
 ·subst e;simp
 ·have h:¬(Sum.inl a:Key)=Sum.inl b:=fun q=>e (Sum.inl.inj q)
  rw[xag h]
  exact(beq_eq_false_iff_ne.mpr e).symm
theorem P8(a b:Str):decide ((Sum.inr a:Key)=Sum.inr b)=decide (a=b):=by
 by_cases e:a=b
 ·subst e;simp
 ·have h:¬(Sum.inr a:Key)=Sum.inr b:=fun q=>e (Sum.inr.inj q)
  rw[xag h,xag e]
theorem P9(a:Int)(b:Str):decide ((Sum.inl a:Key)=Sum.inr b)=false:=xag (fun q=>nomatch q)
theorem QA(a:Str)(b:Int):decide ((Sum.inr a:Key)=Sum.inl b)=false:=xag (fun q=>nomatch q)
def CG(prog:Program)(w:World):PySem.KeyKind prog w Key where
 is:=CF
 hash:=P6 w
 inj:=fun v a b ha hb=>by
  rcases kK ha with⟨i,t,rfl,rfl⟩|⟨x,t,rfl,rfl⟩
  ·rcases kK hb with⟨j,u,rfl,e⟩|⟨y,u,rfl,e⟩
   ·injection e with e1 _;rw[e1]
   ·exact nomatch e
  ·rcases kK hb with⟨j,u,rfl,e⟩|⟨y,u,rfl,e⟩
   ·exact nomatch e
   ·injection e with e1 _;rw[e1]
 byValue:=fun k v h=>by
  rcases kK h with⟨i,t,rfl,rfl⟩|⟨x,t,rfl,rfl⟩<;>rfl
 pyHash:=fun hv h=>by
  rcases kK hv with⟨i,t,rfl,rfl⟩|⟨x,t,rfl,rfl⟩
  ·exact wpAny_pyHash_int h
  ·exact wpAny_pyHash_str h
 eqBool:=fun hu hv h=>by
  rcases kK hu with⟨i,t,rfl,rfl⟩|⟨x,t,rfl,rfl⟩
  ·rcases kK hv with⟨j,u,rfl,rfl⟩|⟨y,u,rfl,rfl⟩
   ·rw[P7] at h;exact wpAny_eqBool_int h
   ·rw[P9] at h;exact SeqAt.EqAt.int_str i t y u _ _ _ _ h
  ·rcases kK hv with⟨j,u,rfl,rfl⟩|⟨y,u,rfl,rfl⟩
   ·rw[QA] at h;exact SeqAt.EqAt.str_int x t j u _ _ _ _ h
   ·rw[P8] at h;exact wpAny_eqBool_str h
 «strs»:=fun k x t v h=>by
  rcases kK h with⟨i,u,rfl,e⟩|⟨y,u,rfl,e⟩
  ·exact nomatch e
  ·injection e with e1 _
   subst e1
   cases v<;>rfl
end L2
namespace L2
open PySem.Spec PyProof.Rows
inductive V where
 |non|bl (b:Bool)|int (i:Int)|str (x:Str)|byt (b:Array UInt8)|flt (b:UInt64)|ref (a:Addr)|ty (n:String)
 deriving DecidableEq
def aZ:V->Value->Prop
 |.non,u=>u=Value.none
 |.bl b,u=>u=Value.bool b
 |.int i,u=>∃t,u=Value.int i t
 |.str x,u=>∃t,u=Value.str x t
 |.byt b,u=>∃t,u=Value.bytes b t
 |.flt b,u=>∃t,u=Value.float b t
 |.ref a,u=>u=Value.ref a
 |.ty n,u=>u=Value.type n
abbrev bA:List V->List Value->Prop:=Paired aZ
theorem bA.length{xs:List V}{us:List Value}(r:bA xs us):xs.length=us.length:=Paired.length r
theorem bA.get:∀{xs:List V} {us:List Value} {i:Nat} {x:V},bA xs us->xs[i]? = some x->∃u,us[i]? = some u/\aZ x u
 |_,_,_,_,.nil,e=>by simp at e
 |_,_,0,_,.cons r _,e=>by simp at e;subst e;exact⟨_,rfl,r⟩
 |_,_,i+1,x,.cons _ t,e=>by
  obtain⟨u,h1,h2⟩:=bA.get (i:=i) (x:=x) t (by simpa using e)
  exact⟨u,by simpa using h1,h2⟩
theorem bA.append:∀{xs ys:List V} {us ws:List Value},bA xs us->bA ys ws->bA (xs++ys) (us++ws)
 |_,_,_,_,.nil,s=>s
 |_,_,_,_,.cons r t,s=>.cons r (bA.append t s)
theorem bA.take:∀{xs:List V} {us:List Value} (n:Nat),bA xs us->bA (xs.take n) (us.take n)
 |_,_,0,_=>.nil
 |_,_,_+1,.nil=>.nil
 |_,_,n+1,.cons r t=>.cons r (bA.take n t)
theorem bA.drop:∀{xs:List V} {us:List Value} (n:Nat),bA xs us->bA (xs.drop n) (us.drop n)
 |_,_,0,r=>r
 |_,_,_+1,.nil=>.nil
 |_,_,n+1,.cons _ t=>bA.drop n t
def jY:Option V->Option Value->Prop
 |some v,some u=>aZ v u
 |none,none=>True
 |_,_=>False
def KV{κ:Type}:List (κ×V)->List (κ×Value)->Prop:=Paired fun (p:κ×V) (q:κ×Value)=>p.1=q.1/\aZ p.2 q.2
def kV:Key->V
 |.inl i=>.int i
 |.inr x=>.str x
inductive HO where
 |lst (xs:List V)
 |tup (xs:List V)
 |dK (kvs:List (Key×V))|dT (kvs:List (List Key×V))
 |set (S:Int->Bool) (n:Nat)
 |ins (C dx:Addr) (fs:List (Str×V))
 |own (x:Addr)
 |xd (fs:List (Str×V))
 |met (f x:Addr)
 |rng (lo hi:Int)
 |frz (o:Obj) (u:HO)
 |tbl (ps:Array Value)
 |ext (φ:Heap->Prop)
abbrev Hp:=Addr->Option HO
def aU(H:Hp)(a:Addr)(o:HO):Hp:=fun b=>if b=a then some o else H b
theorem bV{H:Hp}{a:Addr}{o:HO}:aU H a o a=some o:=by unfold aU;rw[xa5 rfl]
theorem bF{H:Hp}{a b:Addr}{o:HO}(h:b≠a):aU H a o b=H b:=by unfold aU;rw[xaz h]
theorem cU{H:Hp}{a b:Addr}{o:HO}(h:H a=some o)(h':H b=none):a≠b:=by
 intro e;subst e;rw[h] at h';cases h'
def jZ(h:Heap)(a:Addr)(items:Array Value):Prop:=∃o,h.get? a=some o/\o.cls=.type "tuple"/\(∃n,o.data=.seq items n)/\o.dict=none
theorem jZ.tup{h:Heap}{a:Addr}{items:Array Value}(x:jZ h a items):IsTup h a items:=by
 obtain⟨o,e,c,d,_⟩:=x;exact⟨o,e,c,d⟩
theorem jZ.new(h:Heap)(items:Array Value):jZ (h.push { cls:=.type "tuple",data:=.seq items }) h.objs.size items:=⟨_,xa6 h rfl,rfl,⟨0,rfl⟩,rfl⟩
section
variable(P:Program)(w:World)
def eK(H:Hp)(h:Heap)(a:Addr):HO->Prop
 |.lst xs=>xs.length<=sizeLine/\∃(its:List Value) (n:Nat),bA xs its/\h.get? a=some { cls:=.type "list",data:=.seq its.toArray n }
 |.tup xs=>xs.length<=sizeLine/\∃its:List Value,bA xs its/\jZ h a its.toArray
 |.dK kvs=>kvs.length<=sizeLine/\(a==sysModules)=false/\∃vs,KV kvs vs/\h.DictOf (CG P w) a vs
 |.dT kvs=>kvs.length<=sizeLine/\(a==sysModules)=false/\∃xs:List (List Key×Addr×Value),
   Paired (fun (p:List Key×V) (q:List Key×Addr×Value)=>p.1=q.1/\H q.2.1=some (.tup (p.1.map kV))/\aZ p.2 q.2.2) kvs xs/\
   ∃o es ep,h.get? a=some o/\o.ExactDict/\o.data=.dict es ep/\es.toList=xs.map (entryOfKey (tupleKind (CG P w)))/\(xs.map (·.1)).Nodup
 |.set S n=>h.SetOf (intKind P w) a S n
 |.ins C dx fs=>H dx=some (.own a)/\fs.length<=1000/\dx≠a/\h.get? a=some (PySem.W.instObj C dx)/\
   ∃mA,h.Ns1 dx mA/\(∀f,jY (fs.lookup f) (mA f))/\PySem.Within mA (fs.map (·.1))
 |.own _=>∃o,h.get? a=some o
 |.xd fs=>∃mA,h.Ns1 a mA/\∀f,jY (fs.lookup f) (mA f)
 |.rng lo hi=>∃t u v,h.get? a=some { cls:=.type "range",data:=.fields #[.int lo t,.int hi u,.int 1 v] }
 |.frz o u=>h.get? a=some o/\eK H h a u
 |.tbl ps=>h.get? a=some { cls:=.none,data:=.fields ps }
 |.met f x=>h.get? a=some (PySem.W.methodObj (.ref f) (.ref x))
 |.ext φ=>φ h/\(∃o,h.get? a=some o)/\∀h1 h2:Heap,φ h1->(∀o,h1.get? a=some o->h2.get? a=some o)->φ h2
def c8(H:Hp)(h:Heap):Prop:=∀a o,H a=some o->eK P w H h a o
end
section
variable{P:Program}{w:World}{H H':Hp}{h h':Heap}{a:Addr}{o:HO}
theorem eK.lt(x:eK P w H h a o):a<h.objs.size:=by
 cases o with
 |lst xs=>obtain⟨_,_,_,_,e⟩:=x;exact xaw e
 |tup xs=>obtain⟨_,_,_,p⟩:=x;exact p.tup.lt
 |dK kvs=>obtain⟨_,_,_,_,o,_,_,e,_⟩:=x;exact xaw e
 |dT kvs=>obtain⟨_,_,_,_,o,_,_,e,_⟩:=x;exact xaw e
 |set S n=>obtain⟨o,_,_,_,e,_⟩:=x;exact xaw e
 |ins C dx fs=>obtain⟨_,_,_,e,_⟩:=x;exact xaw e
 |own y=>obtain⟨_,e⟩:=x;exact xaw e
 |xd fs=>obtain⟨_,⟨_,_,_,e,_⟩,_⟩:=x;exact xaw e
 |rng lo hi=>obtain⟨_,_,_,e⟩:=x;exact xaw e
 |frz ob u=>obtain⟨e,_⟩:=x;exact xaw e
 |tbl ps=>exact xaw (show h.get? a=some _ from x)
 |met f y=>exact xaw (show h.get? a=some _ from x)
 |ext φ=>obtain⟨_,⟨_,e⟩,_⟩:=x;exact xaw e
theorem Paired.mapP{α β:Type}{F G:α->β->Prop}:∀{l₁:List α} {l₂:List β},Paired F l₁ l₂->(∀a b,F a b->G a b)->Paired G l₁ l₂
 |_,_,.nil,_=>.nil
 |_,_,.cons r t,f=>.cons (f _ _ r) (Paired.mapP t f)
theorem eK.stay(x:eK P w H h a o)(k:∀b u,(b=a\/H b=some (.own a))->h.get? b=some u->h'.get? b=some u)
  (ho:∀b,H b=some (.own a)->H' b=some (.own a)) (ht:∀b xs,H b=some (.tup xs)->H' b=some (.tup xs)):eK P w H' h' a o:=by
 induction o with
 |lst xs=>obtain⟨z,its,n,r,e⟩:=x;exact⟨z,its,n,r,k _ _ (.inl rfl) e⟩
 |tup xs=>obtain⟨z,its,r,ob,e,c⟩:=x;exact⟨z,its,r,ob,k _ _ (.inl rfl) e,c⟩
 |dK kvs=>obtain⟨z,y,vs,r,ob,es,ep,e,c⟩:=x;exact⟨z,y,vs,r,ob,es,ep,k _ _ (.inl rfl) e,c⟩
 |dT kvs=>
  obtain⟨z,y,xs,r,ob,es,ep,e,c⟩:=x
  exact⟨z,y,xs,Paired.mapP r fun p q z=>⟨z.1,ht _ _ z.2.1,z.2.2⟩,ob,es,ep,k _ _ (.inl rfl) e,c⟩
 |set S n=>obtain⟨ob,es,ep,t,e,c⟩:=x;exact⟨ob,es,ep,t,k _ _ (.inl rfl) e,c⟩
 |ins C dx fs=>
  obtain⟨d,z,ne,e,mA,⟨od,es,ep,e2,c⟩,r⟩:=x
  exact⟨ho _ d,z,ne,k _ _ (.inl rfl) e,mA,⟨od,es,ep,k _ _ (.inr d) e2,c⟩,r⟩
 |own y=>obtain⟨ob,e⟩:=x;exact⟨ob,k _ _ (.inl rfl) e⟩
 |xd fs=>obtain⟨mA,⟨od,es,ep,e,c⟩,r⟩:=x;exact⟨mA,⟨od,es,ep,k _ _ (.inl rfl) e,c⟩,r⟩
 |rng lo hi=>obtain⟨t,u,v,e⟩:=x;exact⟨t,u,v,k _ _ (.inl rfl) e⟩
 |frz ob u ih=>obtain⟨e,q⟩:=x;exact⟨k _ _ (.inl rfl) e,ih q⟩
 |tbl ps=>
  have e:h.get? a=some { cls:=.none,data:=.fields ps }:=x
  show h'.get? a=some { cls:=.none,data:=.fields ps }
  exact k a _ (.inl rfl) e
 |met f y=>
  have e:h.get? a=some (PySem.W.methodObj (.ref f) (.ref y)):=x
  show h'.get? a=some (PySem.W.methodObj (.ref f) (.ref y))
  exact k a _ (.inl rfl) e
 |ext φ=>obtain⟨p,⟨o,e⟩,st⟩:=x;exact⟨st _ _ p fun o q=>k _ _ (.inl rfl) q,⟨o,k _ _ (.inl rfl) e⟩,st⟩
theorem c8.lt(x:c8 P w H h)(e:H a=some o):a<h.objs.size:=(x a o e).lt
theorem c8.fresh(x:c8 P w H h)(e:h.objs.size<=a):H a=none:=by
 cases q:H a with
 |none=>rfl
 |some u=>exact xat (xau (x.lt q) e) (xby _)
theorem c8.kept(x:c8 P w H h)(k:∀b u,h.get? b=some u->h'.get? b=some u):c8 P w H h':=fun a o e=>
 (x a o e).stay (fun b u _ q=>k b u q) (fun _ q=>q) fun _ _ q=>q
theorem c8.laid(x:c8 P w H h)(k:∀b u,h.get? b=some u->h'.get? b=some u)(hp:h.objs.size<=a)(new:eK P w (aU H a o) h' a o):c8 P w (aU H a o) h':=fun b u e=>by
 have hn:=x.fresh hp
 by_cases hb:b=a
 ·subst hb;rw[bV] at e;cases e;exact new
 ·rw[bF hb] at e
  exact(x b u e).stay (fun c v _ q=>k c v q) (fun c q=>by rw[bF (cU q hn)];exact q) fun c xs q=>by rw[bF (cU q hn)];exact q
end
def Rd(H:Hp)(a:Addr)(u:HO):Prop:=H a=some u\/∃o,H a=some (.frz o u)
theorem Rd.ok{P:Program}{w:World}{H:Hp}{h:Heap}{a:Addr}{u:HO}(r:Rd H a u)(x:c8 P w H h):eK P w H h a u:=by
 rcases r with r|⟨o,r⟩
 ·exact x a u r
 ·obtain⟨_,q⟩:=x a _ r
  exact q
def tU:Option HO->Prop
 |some (.lst _)=>True
 |some (.dK _)=>True
 |some (.dT _)=>True
 |some (.set _ _)=>True
 |some (.ins _ _ _)=>True
 |some (.ext _)=>True
 |_=>False
section
variable{P:Program}{w:World}{H:Hp}{h h':Heap}{x e:Addr}{o':HO}
theorem c8.write(ok:c8 P w H h)(mu:tU (H x))(he:e=x\/H e=some (.own x))(k:∀b u,b≠e->h.get? b=some u->h'.get? b=some u)(heo:∃u,h'.get? e=some u)
  (new:eK P w (aU H x o') h' x o'):c8 P w (aU H x o') h':=fun b u q=>by
 have nown:∀c y,H c=some (.own y)->c≠x:=fun c y r z=>by subst z;rw[r] at mu;exact mu
 have ntup:∀c xs,H c=some (.tup xs)->c≠x:=fun c xs r z=>by subst z;rw[r] at mu;exact mu
 by_cases hb:b=x
 ·subst hb;rw[bV] at q;cases q;exact new
 ·rw[bF hb] at q
  by_cases hbe:b=e
  ·have q':H b=some (.own x):=by
    rcases he with z|z
    ·exact xat (hbe.trans z) hb
    ·rw[hbe];exact z
   rw[q] at q';cases q'
   obtain⟨v,hv⟩:=heo
   exact⟨v,by rw[hbe];exact hv⟩
  ·refine(ok b u q).stay (fun c v hc r=>k c v ?_ r) (fun c r=>by rw[bF (nown c b r)];exact r) fun c xs r=>by rw[bF (ntup c xs r)];exact r
   rcases hc with rfl|hc
   ·exact hbe
   ·rintro rfl
    rcases he with z|z
    ·exact nown c b hc z
    ·rw[hc] at z;cases z;exact hb rfl
end
structure Un(fs ex:List Addr)(H H':Hp)(h h':Heap):Prop where
 keep:∀b o,h.get? b=some o->H b=none->b∉fs->b∉ex->h'.get? b=some o
 slot:∀b o,h.get? b=some o->H b=none->b∈fs->b∉ex->∃sl,h'.get? b=some { o with slots:=sl }
 free:∀b o,h.get? b=some o->H b=none->b∉ex->H' b=none
 there:∀b o,h.get? b=some o->b∉ex->∃o',h'.get? b=some o'
 tups:∀b xs,H b=some (.tup xs)->H' b=some (.tup xs)
 frzs:∀b o u,H b=some (.frz o u)->H' b=some (.frz o u)
 tbls:∀b ps,H b=some (.tbl ps)->∃more,H' b=some (.tbl (ps++more))
section
variable{fs fs' ex ex':List Addr}{H H1 H2:Hp}{h h1 h2 h':Heap}{a x e:Addr}{o:HO}
theorem Un.any(u:Un fs ex H H1 h h1){b:Addr}{ob:Obj}(q:h.get? b=some ob)(n:H b=none)(hx:b∉ex):∃sl,h1.get? b=some { ob with slots:=sl }:=by
 by_cases hb:b∈fs
 ·exact u.slot b ob q n hb hx
 ·exact⟨ob.slots,u.keep b ob q n hb hx⟩
theorem Un.kept(k:∀b u,h.get? b=some u->h'.get? b=some u):Un fs ex H H h h':=
 ⟨fun b ob q _ _ _=>k b ob q,fun b ob q _ _ _=>⟨ob.slots,k b ob q⟩,fun _ _ _ n _=>n,fun b ob q _=>⟨ob,k b ob q⟩,fun _ _ q=>q,fun _ _ _ q=>q,fun _ ps q=>⟨#[],by rw[q];simp⟩⟩
theorem Un.refl:Un fs ex H H h h:=Un.kept fun _ _ q=>q
theorem Un.laid(k:∀b u,h.get? b=some u->h'.get? b=some u)(hp:h.objs.size<=a)(hn:H a=none):Un fs ex H (aU H a o) h h' where
 keep:=fun b u q _ _ _=>k b u q
 slot:=fun b u q _ _ _=>⟨u.slots,k b u q⟩
 free:=fun b u q n _=>by rw[bF (xbf (xau (xaw q) hp))];exact n
 there:=fun b u q _=>⟨u,k b u q⟩
 tups:=fun b xs q=>by rw[bF (cU q hn)];exact q
 frzs:=fun b u xs q=>by rw[bF (cU q hn)];exact q
 tbls:=fun b ps q=>⟨#[],by rw[bF (cU q hn),q];simp⟩
theorem Un.write(mu:tU (H x))(he:e=x\/H e=some (.own x))(k:∀b u,b≠e->h.get? b=some u->h'.get? b=some u)(heo:∃u,h'.get? e=some u):Un fs ex H (aU H x o) h h':=by
 have hx:∀b,H b=none->b≠x:=fun b n z=>by subst z;rw[n] at mu;exact mu
 have hb:∀b,H b=none->b≠e:=fun b n z=>by
  subst z
  rcases he with r|r
  ·exact hx b n r
  ·rw[n] at r;cases r
 have hm:∀b u,H b=some u->¬tU (some u)->b≠x:=fun b u q nm z=>by subst z;rw[q] at mu;exact nm mu
 refine⟨fun b u q n _ _=>k b u (hb b n) q,fun b u q n _ _=>⟨u.slots,k b u (hb b n) q⟩,fun b u q n _=>by rw[bF (hx b n)];exact n,fun b u q _=>?_,
  fun b xs q=>by rw[bF (hm b _ q fun z=>z)];exact q,fun b u xs q=>by rw[bF (hm b _ q fun z=>z)];exact q,fun b ps q=>⟨#[],by rw[bF (hm b _ q fun z=>z),q];simp⟩⟩
 by_cases hbe:b=e
 ·subst hbe;exact heo
 ·exact⟨u,k b u hbe q⟩
end
def trk(h:Heap)(H:Hp):List Addr:=(List.range h.objs.size).filter fun a=>(H a).isSome
def kL(h:Heap)(H:Hp):Heap:=PySem.W.hideAll h (trk h H)
theorem QB(h:Heap)(H:Hp):(kL h H).objs.size=h.objs.size:=PySem.W.hideAll_size _ _
theorem QC{h:Heap}{H:Hp}{b:Addr}{o:Obj}(e:h.get? b=some o)(n:H b=none):(kL h H).get? b=some o:=
 PySem.W.hideAll_get _ e fun hm=>by
  have q:(H b).isSome=true:=(List.mem_filter.mp hm).2
  rw[n] at q;simp at q
theorem QD{h:Heap}{H:Hp}{b:Addr}{o:Obj}(e:(kL h H).get? b=some o):h.get? b=some o/\H b=none:=by
 have e':h.get? b=some o:=PySem.W.of_hideAll (trk h H) e
 refine⟨e',?_⟩
 cases q:H b with
 |none=>rfl
 |some x=>
  have hm:b∈trk h H:=List.mem_filter.mpr ⟨xb9.mpr (xaw e'),by simp[q]⟩
  have z:(kL h H).get? b=none:=PySem.W.hideAll_none (trk h H) hm
  rw[z] at e;cases e
def QE(g h:Heap)(L:Addr):List (Addr×Obj):=(List.range h.objs.size).filterMap fun a=>if a=L\/(g.get? a).isSome=true then none else (h.get? a).map fun o=>(a,o)
def rest(g h:Heap)(L d:Addr):List (Addr×Obj):=(QE g h L).filter fun p=>decide (p.1≠d)
end L2
namespace L2
open PySem.Spec PyProof.Rows
structure Mod(K:xFg)(mg:Str->Option Value)(base:Heap):Prop where
 kin:K.In base
 glob:base.Ns mainGlobals mg
 blt:∃mb,base.Ns builtinsNs mb/\∀x:Str,x≠"__name__"->mb x=bootBuiltins x
 nolimit:base.NoLimit
structure Cx where
 prog:Program
 w:World
 K:xFg
 mg:Str->Option Value
 base:Heap
 A:Around
 N:List Str
 s₀:Shared
 H₀:Hp
 env:Env
 outer:List Env
 stack:List Env
 ex:List Addr
 fn:Str->Bool
 calm:Bool
 pn:List (Addr×Obj)
 xe:Value->Shared->Prop
def cG(l:List Env):List Addr:=l.filterMap (·.frame)
abbrev Cx.fs(X:Cx):List Addr:=cG X.outer
def iS(sc:Scope)(x:Str):Prop:=sc.names.lookup x=some .local\/sc.names.lookup x=some .cell\/sc.names.lookup x=some .free
def iT(sc:Scope)(x:Str):Prop:=sc.names.lookup x=some .local\/sc.names.lookup x=some .cell
def CH(env:Env)(h:Heap)(m:Str->Option Value)(x:Str)(u:Value):Prop:=
 (env.kindOf x=some .local/\m x=some u)\/((env.kindOf x=some .cell\/env.kindOf x=some .free)/\∃c,env.cells.lookup x=some c/\h.IsCell c (some u))
structure Cx.Ok(X:Cx):Prop where
 mod:Mod X.K X.mg X.base
 kind:X.env.scope.kind=.function
 glob:X.env.globals=mainGlobals
 blt:X.env.builtins=builtinsNs
 above:X.s₀.heap.objs.size<=X.env.locals
 inj:∀x y c,X.env.cells.lookup x=some c->X.env.cells.lookup y=some c->x=y
 has:∀x,(X.env.kindOf x=some .cell\/X.env.kindOf x=some .free)->∃c,X.env.cells.lookup x=some c
 cab:∀x c,X.fn x=true->X.env.cells.lookup x=some c->X.s₀.heap.objs.size<=c
 hd:X.calm=true->X.A.handled=none
 frames:X.A.frames=some X.stack
 stk:X.stack=X.outer\/(X.stack=X.env::X.outer/\X.env.frame=some X.env.locals)
 exf:∀b∈X.ex,b≠X.env.locals/\∀x c,X.env.cells.lookup x=some c->c≠b
 bs:∀b o,X.base.get? b=some o->X.s₀.heap.get? b=some o/\X.H₀ b=none
 bsz:X.base.objs.size<=X.s₀.heap.objs.size
 noex:∀b o,X.base.get? b=some o->b∉X.ex
 exfs:∀b∈X.ex,b∉X.fs
 funs:X.s₀.heap.FunFrames X.base X.outer
 frf:∀b∈X.fs,X.H₀ b=none
structure aH(X:Cx)(pins:List (Addr×Obj))(Z:List (Option V))(H:Hp)(s:Shared):Prop where
 ok:X.Ok
 os:s.os=X.s₀.os
 bare:AllBare s.gens
 base:Un X.fs X.ex X.H₀ H X.s₀.heap s.heap
 loc:∃m,s.heap.Ns X.env.locals m/\∀(i:Nat) (x:Str) (v:V),X.N[i]? = some x->Z[i]? = some (some v)->iS X.env.scope x->∃u,aZ v u/\CH X.env s.heap m x u
 cell:∀x c,X.env.cells.lookup x=some c->∃v,s.heap.IsCell c v
 free:H X.env.locals=none
 freeC:∀x c,X.env.cells.lookup x=some c->H c=none
 pin:∀p∈X.pn++pins,s.heap.get? p.1=some p.2/\H p.1=none/\p.1≠X.env.locals/\p.1∉X.fs/\∀v,p.2.data≠.cell v
 hok:c8 X.prog X.w H s.heap
 len:Z.length=X.N.length
section
variable{X:Cx}{pins:List (Addr×Obj)}{Z:List (Option V)}{H H':Hp}{s:Shared}{h':Heap}
theorem Cx.Ok.nofr(ok:X.Ok){b:Addr}{o:Obj}(e:X.base.get? b=some o):b∉X.fs:=fun hb=>by
 have:=(ok.funs.mem hb).1
 rw[e] at this;cases this
theorem aH.bs(I:aH X pins Z H s):∀b o,X.base.get? b=some o->s.heap.get? b=some o/\H b=none:=fun b o e=>
 ⟨I.base.keep b o (I.ok.bs b o e).1 (I.ok.bs b o e).2 (I.ok.nofr e) (I.ok.noex b o e),I.base.free b o (I.ok.bs b o e).1 (I.ok.bs b o e).2 (I.ok.noex b o e)⟩
theorem aH.bk(I:aH X pins Z H s):∀b o,X.base.get? b=some o->s.heap.get? b=some o:=fun b o e=>(I.bs b o e).1
theorem aH.mod(I:aH X pins Z H s):Mod X.K X.mg X.base:=I.ok.mod
theorem aH.kIn(I:aH X pins Z H s):X.K.In s.heap:=I.ok.mod.kin.keeps I.bk
theorem aH.fr(I:aH X pins Z H s):∃m,Fr X.base X.env.locals s.heap m:=
 let⟨m,hn,_⟩:=I.loc
 ⟨m,hn,I.bk,xah I.ok.bsz I.ok.above⟩
theorem aH.lt(I:aH X pins Z H s):X.env.locals<s.heap.objs.size:=let⟨_,hn,_⟩:=I.loc;hn.lt
theorem aH.sz(I:aH X pins Z H s):X.s₀.heap.objs.size<=s.heap.objs.size:=xah I.ok.above (xcs I.lt)
theorem aH.nofs(I:aH X pins Z H s){a:Addr}(h:s.heap.objs.size<=a):a∉X.fs:=fun hb=>by
 obtain⟨_,o,ho,_⟩:=I.ok.funs.mem hb
 exact xat (xau (xaw ho) (xah I.sz h)) (xby _)
theorem aH.cne(I:aH X pins Z H s):∀x c,X.env.cells.lookup x=some c->c≠X.env.locals:=fun x c e z=>by
 obtain⟨v,o,ho,hd⟩:=I.cell x c e
 obtain⟨m,⟨o',es,ep,ho',hd',_⟩,_⟩:=I.loc
 rw[z,ho'] at ho;cases ho;rw[hd'] at hd;cases hd
theorem aH.funs(I:aH X pins Z H s):s.heap.FunFrames X.base X.outer:=by
 have all:∀(l:List Env),(∀b∈cG l,b∈X.fs)->X.s₀.heap.FunFrames X.base l->s.heap.FunFrames X.base l:=by
  intro l
  induction l with
  |nil=>intro _ _;trivial
  |cons env r ih=>
   intro hs hl
   obtain⟨hk,⟨L,o,hf,hn,ho,hd⟩,hr⟩:=hl
   have hL:L∈X.fs:=hs L (by unfold cG;rw[xcn,hf];exact xaq)
   obtain⟨sl,e⟩:=I.base.slot L o ho (I.ok.frf L hL) hL fun z=>I.ok.exfs L z hL
   exact⟨hk,⟨L,_,hf,hn,e,hd⟩,ih (fun b hb=>hs b (by unfold cG;rw[xcn,hf];exact xae _ hb)) hr⟩
 exact all X.outer (fun _ hb=>hb) I.ok.funs
theorem aH.stack(I:aH X pins Z H s):s.heap.FunFrames X.base X.stack:=by
 rcases I.ok.stk with e|⟨e,hf⟩
 ·rw[e];exact I.funs
 ·rw[e]
  obtain⟨m,hn,_⟩:=I.loc
  refine .cons (by rw[I.ok.kind];decide) hf hn ?_ I.funs
  exact Heap.get?_none_of_le (xah I.ok.bsz I.ok.above)
theorem aH.stkSub(I:aH X pins Z H s):∀b∈cG X.stack,b∈X.env.locals::X.fs:=fun b hb=>by
 rcases I.ok.stk with e|⟨e,hf⟩
 ·rw[e] at hb;exact xae _ hb
 ·rw[e] at hb
  unfold cG at hb
  rw[xcn,hf] at hb
  exact hb
theorem aH.stkFree(I:aH X pins Z H s):∀b∈cG X.stack,H b=none:=fun b hb=>by
 rcases xal.mp (I.stkSub b hb) with e|hb
 ·rw[e];exact I.free
 ·obtain⟨_,o,ho,_⟩:=I.ok.funs.mem hb
  exact I.base.free b o ho (I.ok.frf b hb) fun z=>I.ok.exfs b z hb
theorem aH.step{g':Array GenState}{t':Nat}{d':Drawn}{ch:List Addr}(I:aH X pins Z H s)
  (hch:∀b∈ch,(b∈X.ex\/X.s₀.heap.objs.size<=b)/\b≠X.env.locals/\(∀x c,X.env.cells.lookup x=some c->c≠b)/\∀p∈X.pn++pins,p.1≠b)
  (keep:∀b o,b≠X.env.locals->b∉X.fs->b∉ch->s.heap.get? b=some o->H b=none->h'.get? b=some o)
  (slot:∀b o,b≠X.env.locals->b∈X.fs->b∉ch->s.heap.get? b=some o->H b=none->∃sl,h'.get? b=some { o with slots:=sl }) (free:∀b o,b∉ch->s.heap.get? b=some o->H b=none->H' b=none)
  (there:∀b o,b∉ch->s.heap.get? b=some o->∃o',h'.get? b=some o')
  (tups:∀b xs,H b=some (.tup xs)->H' b=some (.tup xs)) (frzs:∀b o u,H b=some (.frz o u)->H' b=some (.frz o u)) (tbls:∀b ps,H b=some (.tbl ps)->∃more,H' b=some (.tbl (ps++more)))
  (ns:∀m,s.heap.Ns X.env.locals m->h'.Ns X.env.locals m) (hok:c8 X.prog X.w H' h') (hg:AllBare g') :
  aH X pins Z H' { s with heap:=h',gens:=g',drawn:=d',toks:=t' }:=by
 have neL:∀b o,X.s₀.heap.get? b=some o->b≠X.env.locals:=fun b o e=>xbf (xau (xaw e) I.ok.above)
 have neC:∀b o,X.s₀.heap.get? b=some o->b∉X.ex->b∉ch:=fun b o e hx hb=>by
  rcases(hch b hb).1 with z|z
  ·exact hx z
  ·exact xat (xau (xaw e) z) (xby _)
 have cellK:∀x c,X.env.cells.lookup x=some c->∀v,s.heap.IsCell c v->h'.IsCell c v:=fun x c e v ⟨o,ho,hd⟩=>by
  have nch:c∉ch:=fun z=>(hch c z).2.2.1 x c e rfl
  by_cases hc:c∈X.fs
  ·obtain⟨sl,q⟩:=slot c o (I.cne x c e) hc nch ho (I.freeC x c e)
   exact⟨_,q,hd⟩
  ·exact⟨o,keep c o (I.cne x c e) hc nch ho (I.freeC x c e),hd⟩
 refine⟨I.ok,I.os,hg,⟨fun b o e n hb hx=>?_,fun b o e n hb hx=>?_,fun b o e n hx=>?_,fun b o e hx=>?_,fun b xs e=>tups b xs (I.base.tups b xs e),fun b o xs e=>frzs b o xs (I.base.frzs b o xs e),fun b ps e=>?_⟩,?_,fun x c e=>?_,?_,fun x c e=>?_,fun p hp=>?_,hok,I.len⟩
 ·exact keep b o (neL b o e) hb (neC b o e hx) (I.base.keep b o e n hb hx) (I.base.free b o e n hx)
 ·obtain⟨sl,e1⟩:=I.base.slot b o e n hb hx
  obtain⟨sl',e2⟩:=slot b _ (neL b o e) hb (neC b o e hx) e1 (I.base.free b o e n hx)
  exact⟨sl',e2⟩
 ·obtain⟨o',e1⟩:=I.base.there b o e hx
  exact free b o' (neC b o e hx) e1 (I.base.free b o e n hx)
 ·obtain⟨o',e1⟩:=I.base.there b o e hx
  exact there b o' (neC b o e hx) e1
 ·obtain⟨m1,e1⟩:=I.base.tbls b ps e
  obtain⟨m2,e2⟩:=tbls b _ e1
  exact⟨m1++m2,by rw[e2,Array.append_assoc]⟩
 ·obtain⟨m,hn,hl⟩:=I.loc
  refine⟨m,ns m hn,fun i x v e1 e2 e3=>?_⟩
  obtain⟨u,r,l⟩:=hl i x v e1 e2 e3
  refine⟨u,r,?_⟩
  rcases l with l|⟨k,c,e,z⟩
  ·exact .inl l
  ·exact .inr ⟨k,c,e,cellK x c e _ z⟩
 ·obtain⟨v,z⟩:=I.cell x c e
  exact⟨v,cellK x c e v z⟩
 ·obtain⟨m,⟨o,_,_,ho,_⟩,_⟩:=I.loc
  exact free _ o (fun z=>(hch _ z).2.1 rfl) ho I.free
 ·obtain⟨v,o,ho,hd⟩:=I.cell x c e
  exact free c o (fun z=>(hch c z).2.2.1 x c e rfl) ho (I.freeC x c e)
 ·obtain⟨e,n,ne,nf,d⟩:=I.pin p hp
  have nch:p.1∉ch:=fun z=>(hch p.1 z).2.2.2 p hp rfl
  exact⟨keep p.1 p.2 ne nf nch e n,free p.1 p.2 nch e n,ne,nf,d⟩
theorem aH.un{t':Nat}(I:aH X pins Z H s)(u:Un X.fs [] H H' s.heap h')(hok:c8 X.prog X.w H' h'):aH X pins Z H' { s with heap:=h',toks:=t' }:=by
 obtain⟨m,⟨o,es,ep,ho,r⟩,_⟩:=id I.loc
 obtain⟨sl,hL⟩:=u.any ho I.free (by simp)
 exact I.step (g':=s.gens) (d':=s.drawn) (ch:=[]) (fun _ z=>nomatch z) (fun b o _ hb _ e n=>u.keep b o e n hb (by simp)) (fun b o _ hb _ e n=>u.slot b o e n hb (by simp)) (fun b o _ e n=>u.free b o e n (by simp)) (fun b o _ e=>u.there b o e (by simp)) u.tups u.frzs u.tbls (fun m' hm=>by
  obtain⟨o',es',ep',ho',r'⟩:=hm
  rw[ho] at ho';cases ho'
  exact⟨_,es',ep',hL,r'⟩) hok I.bare
theorem aH.call{g':Array GenState}{t':Nat}{d':Drawn}{ch:List Addr}(I:aH X pins Z H s)(u:Un (cG X.stack) ch H H' s.heap h')(hok:c8 X.prog X.w H' h')(hg:AllBare g')
  (hch:∀b∈ch,(b∈X.ex\/X.s₀.heap.objs.size<=b)/\b≠X.env.locals/\(∀x c,X.env.cells.lookup x=some c->c≠b)/\∀p∈X.pn++pins,p.1≠b) :
  aH X pins Z H' { s with heap:=h',gens:=g',drawn:=d',toks:=t' }:=by
 obtain⟨m,⟨o,es,ep,ho,r⟩,_⟩:=id I.loc
 obtain⟨sl,hL⟩:=u.any ho I.free fun z=>(hch _ z).2.1 rfl
 exact I.step (ch:=ch) hch (fun b o hL hb hc e n=>u.keep b o e n (fun z=>(xal.mp (I.stkSub b z)).elim hL hb) hc) (fun b o _ _ hc e n=>u.any e n hc) (fun b o hc e n=>u.free b o e n hc) (fun b o hc e=>u.there b o e hc) u.tups u.frzs u.tbls (fun m' hm=>by
  obtain⟨o',es',ep',ho',r'⟩:=hm
  rw[ho] at ho';cases ho'
  exact⟨_,es',ep',hL,r'⟩) hok hg
theorem aH.turned{t':Nat}{it:Addr}(I:aH X pins Z H s)(k:∀b o,b≠it->s.heap.get? b=some o->h'.get? b=some o)(hn:H it=none)(hL:it≠X.env.locals)
  (h1:it∈X.ex\/X.s₀.heap.objs.size<=it) (h2:∀x c,X.env.cells.lookup x=some c->c≠it) (h3:∀p∈X.pn++pins,p.1≠it):aH X pins Z H { s with heap:=h',toks:=t' }:=by
 have nit:∀b u,H b=some u->b≠it:=fun b u e z=>by rw[z,hn] at e;cases e
 refine I.step (g':=s.gens) (d':=s.drawn) (ch:=[it]) (fun b hb=>?_) (fun b o _ _ hc e _=>k b o (fun z=>hc (by simp[z])) e) (fun b o _ _ hc e _=>⟨o.slots,k b o (fun z=>hc (by simp[z])) e⟩) (fun _ _ _ _ n=>n)
  (fun b o hc e=>⟨o,k b o (fun z=>hc (by simp[z])) e⟩) (fun _ _ e=>e) (fun _ _ _ e=>e) (fun b ps e=>⟨#[],by rw[e];simp⟩) (fun m hm=>?_) (fun b u e=>?_) I.bare
 ·have e:b=it:=by simpa using hb
  subst e
  exact⟨h1,hL,h2,h3⟩
 ·obtain⟨o,es,ep,ho,r⟩:=hm
  exact⟨o,es,ep,k _ o (xbd hL) ho,r⟩
 ·refine(I.hok b u e).stay (fun c v hc q=>k c v ?_ q) (fun _ q=>q) fun _ _ q=>q
  rcases hc with z|z
  ·rw[z];exact nit b u e
  ·exact nit c _ z
theorem aH.tok(I:aH X pins Z H s)(t:Nat):aH X pins Z H { s with toks:=t }:=I.un (h':=s.heap) (t':=t) Un.refl I.hok
theorem aH.kept{t':Nat}(I:aH X pins Z H s)(k:∀b u,s.heap.get? b=some u->h'.get? b=some u):aH X pins Z H { s with heap:=h',toks:=t' }:=I.un (Un.kept k) (I.hok.kept k)
theorem aH.laid{a:Addr}{o:HO}{t':Nat}(I:aH X pins Z H s)(k:∀b u,s.heap.get? b=some u->h'.get? b=some u)(hp:s.heap.objs.size<=a)(new:eK X.prog X.w (aU H a o) h' a o) :
  aH X pins Z (aU H a o) { s with heap:=h',toks:=t' }:=I.un (Un.laid k hp (I.hok.fresh hp)) (I.hok.laid k hp new)
theorem aH.write{x e:Addr}{o:HO}{t':Nat}(I:aH X pins Z H s)(mu:tU (H x))(he:e=x\/H e=some (.own x))(k:∀b u,b≠e->s.heap.get? b=some u->h'.get? b=some u)(heo:∃u,h'.get? e=some u)
  (new:eK X.prog X.w (aU H x o) h' x o):aH X pins Z (aU H x o) { s with heap:=h',toks:=t' }:=I.un (Un.write mu he k heo) (I.hok.write mu he k heo new)
theorem aH.weak{Z':List (Option V)}(I:aH X pins Z H s)(hl:Z'.length=Z.length)(w:∀(i:Nat) v,Z'[i]? = some (some v)->Z[i]? = some (some v)):aH X pins Z' H s:=
 ⟨I.ok,I.os,I.bare,I.base,let⟨m,hn,hl'⟩:=I.loc;⟨m,hn,fun i x v e1 e2 e3=>hl' i x v e1 (w i v e2) e3⟩,I.cell,I.free,I.freeC,I.pin,I.hok,hl.trans I.len⟩
theorem aH.pins_of{pins':List (Addr×Obj)}(I:aH X pins Z H s)(h:∀p∈pins',s.heap.get? p.1=some p.2/\H p.1=none/\p.1≠X.env.locals/\p.1∉X.fs/\∀v,p.2.data≠.cell v):aH X pins' Z H s:=
 ⟨I.ok,I.os,I.bare,I.base,I.loc,I.cell,I.free,I.freeC,fun p hp=>(xa1.mp hp).elim (fun z=>I.pin p (xc2 _ z)) (h p),I.hok,I.len⟩
theorem xL{N:List Str}(hN:N.Nodup){i j:Nat}{x:Str}(a:N[i]? = some x)(b:N[j]? = some x):i=j:=by
 obtain⟨h1,e1⟩:=xan.mp a
 obtain⟨h2,e2⟩:=xan.mp b
 exact(List.getElem_inj hN).mp (e1.trans e2.symm)
theorem QF{M:Model}{A:Around}{E:Value->Shared->Prop}{i:Nat}{x:Str}{v:V}{u:Value}{Q:Unit->Shared->Prop}(I:aH X pins Z H s)(hN:X.N.Nodup)(hi:X.N[i]? = some x)(hx:iT X.env.scope x)(r:aZ v u)
  (h:∀s',aH X pins (Z.set i (some v)) H s'->(∃a,Heap.SameBut a s.heap s'.heap/\(a=X.env.locals\/X.env.cells.lookup x=some a))->Q () s') (hf:X.fn x=true\/X.env.scope.names.lookup x=some .local:=by first|exact .inl rfl|exact .inr rfl|assumption):wpAny M A (storeName X.env x u) Q E s:=by
 obtain⟨m,hn,hl⟩:=id I.loc
 have hcls:(X.env.scope.kind==.class||(X.env.scope.kind==.module&&X.env.locals != X.env.globals))=false:=by rw[I.ok.kind];rfl
 have hiZ:i<Z.length:=by rw[I.len];exact(xan.mp hi).1
 have cne:=I.cne
 have tracked:∀{a:Addr} {h':Heap},(∃o,s.heap.get? a=some o/\H a=none)->Heap.SameBut a s.heap h'->c8 X.prog X.w H h':=fun {a h'} ha hs b ob e=>by
  obtain⟨_,_,hfree⟩:=ha
  refine(I.hok b ob e).stay (fun c w' hc q=>(hs.2 c ?_).trans q) (fun _ q=>q) fun _ _ q=>q
  rintro rfl
  rcases hc with rfl|hc
  ·rw[hfree] at e;cases e
  ·rw[hfree] at hc;cases hc
 rcases hx with hk|hk
 ·refine wpAny_storeName_local hk hn (fun h' hn' hs=>?_) hcls
  obtain⟨oL,_,_,hoL,_⟩:=id hn
  refine h _ ⟨I.ok,I.os,I.bare,⟨fun b o e n hb hx=>?_,fun b o e n hb hx=>?_,I.base.free,fun b o e hx=>?_,I.base.tups,I.base.frzs,I.base.tbls⟩,⟨_,hn',fun j y v' e1 e2 e3=>?_⟩,fun y c e=>?_,I.free,I.freeC,fun p hp=>?_,tracked ⟨oL,hoL,I.free⟩ hs,by simpa using I.len⟩ ⟨_,hs,.inl rfl⟩
  ·exact(hs.2 b (xbf (xau (xaw e) I.ok.above))).trans (I.base.keep b o e n hb hx)
  ·obtain⟨sl,e1⟩:=I.base.slot b o e n hb hx
   exact⟨sl,(hs.2 b (xbf (xau (xaw e) I.ok.above))).trans e1⟩
  ·obtain⟨o',e1⟩:=I.base.there b o e hx
   exact⟨o',(hs.2 b (xbf (xau (xaw e) I.ok.above))).trans e1⟩
  ·by_cases hj:j=i
   ·subst hj
    rw[hi] at e1;cases e1
    rw[xa0 hiZ] at e2
    cases e2
    exact⟨u,r,.inl ⟨hk,by simp⟩⟩
   ·rw[xam (xbd hj)] at e2
    obtain⟨u',r',q⟩:=hl j y v' e1 e2 e3
    refine⟨u',r',?_⟩
    rcases q with⟨k,e⟩|⟨k,c,e,z⟩
    ·refine .inl ⟨k,?_⟩
     have:y≠x:=fun e=>hj (xL hN e1 (e▸hi))
     simp[this,e]
    ·exact .inr ⟨k,c,e,z.sameBut hs (cne y c e)⟩
  ·obtain⟨w',z⟩:=I.cell y c e
   exact⟨w',z.sameBut hs (cne y c e)⟩
  ·obtain⟨e,n,ne,nf,d⟩:=I.pin p hp
   exact⟨(hs.2 p.1 ne).trans e,n,ne,nf,d⟩
 ·have hfn:X.fn x=true:=by
   rcases hf with z|z
   ·exact z
   ·rw[z] at hk;cases hk
  obtain⟨c,hc⟩:=I.ok.has x (.inl hk)
  obtain⟨w',z⟩:=I.cell x c hc
  refine wpAny_storeName_cell I.ok.kind hk hc z (fun h' hc' hs=>?_)
  obtain⟨oc,hoc,hocd⟩:=id z
  refine h { s with heap:=h' } ⟨I.ok,I.os,I.bare,⟨fun b o e n hb hx=>?_,fun b o e n hb hx=>?_,I.base.free,fun b o e hx=>?_,I.base.tups,I.base.frzs,I.base.tbls⟩,⟨m,hn.sameBut hs (xbd (cne x c hc)),fun j y v' e1 e2 e3=>?_⟩,fun y c' e=>?_,I.free,I.freeC,fun p hp=>?_,tracked ⟨oc,hoc,I.freeC x c hc⟩ hs,by simpa using I.len⟩ ⟨c,hs,.inr hc⟩
  ·exact(hs.2 b (xbf (xau (xaw e) (I.ok.cab x c hfn hc)))).trans (I.base.keep b o e n hb hx)
  ·obtain⟨sl,e1⟩:=I.base.slot b o e n hb hx
   exact⟨sl,(hs.2 b (xbf (xau (xaw e) (I.ok.cab x c hfn hc)))).trans e1⟩
  ·obtain⟨o',e1⟩:=I.base.there b o e hx
   exact⟨o',(hs.2 b (xbf (xau (xaw e) (I.ok.cab x c hfn hc)))).trans e1⟩
  ·by_cases hj:j=i
   ·subst hj
    rw[hi] at e1;cases e1
    rw[xa0 hiZ] at e2
    cases e2
    exact⟨u,r,.inr ⟨.inl hk,c,hc,hc'⟩⟩
   ·rw[xam (xbd hj)] at e2
    obtain⟨u',r',q⟩:=hl j y v' e1 e2 e3
    refine⟨u',r',?_⟩
    rcases q with q|⟨k,c',e,z'⟩
    ·exact .inl q
    ·refine .inr ⟨k,c',e,z'.sameBut hs ?_⟩
     rintro rfl
     exact hj (xL hN e1 (I.ok.inj _ _ _ e hc▸hi))
  ·by_cases hcc:c'=c
   ·subst hcc;exact⟨_,hc'⟩
   ·obtain⟨w2,z2⟩:=I.cell y c' e
    exact⟨w2,z2.sameBut hs hcc⟩
  ·obtain⟨e,n,ne,nf,d⟩:=I.pin p hp
   refine⟨(hs.2 p.1 ?_).trans e,n,ne,nf,d⟩
   intro q
   rw[q,hoc] at e
   have q':oc=p.2:=xbp e
   exact d w' (by rw[<- q'];exact hocd)
theorem tV{M:Model}{A:Around}{E:Value->Shared->Prop}{i:Nat}{x:Str}{v:V}{u:Value}{Q:Unit->Shared->Prop}(I:aH X pins Z H s)(hN:X.N.Nodup)(hi:X.N[i]? = some x)(hx:iT X.env.scope x)(r:aZ v u)
  (h:∀s',aH X pins (Z.set i (some v)) H s'->Q () s') (hf:X.fn x=true\/X.env.scope.names.lookup x=some .local:=by first|exact .inl rfl|exact .inr rfl|assumption):wpAny M A (storeName X.env x u) Q E s:=
 QF I hN hi hx r (fun s' I' _=>h s' I') hf
theorem aH.call'{s':Shared}{ch:List Addr}(I:aH X pins Z H s)(ho:s'.os=s.os)(u:Un (cG X.stack) ch H H' s.heap s'.heap)(hok:c8 X.prog X.w H' s'.heap)(hg:AllBare s'.gens)
  (hch:∀b∈ch,(b∈X.ex\/X.s₀.heap.objs.size<=b)/\b≠X.env.locals/\(∀x c,X.env.cells.lookup x=some c->c≠b)/\∀p∈X.pn++pins,p.1≠b):aH X pins Z H' s':=by
 obtain⟨h',g',d',t',o'⟩:=s'
 have e:o'=s.os:=ho
 subst e
 exact I.call (g':=g') (t':=t') (d':=d') u hok hg hch
end
abbrev XK:=Value->Option Addr->Hp->Prop
abbrev St:=List (Option V)
abbrev VK:=V->Hp->Prop
abbrev TE:=St->Hp->VK->Prop
abbrev TT:=St->Hp->(Bool->Hp->Prop)->Prop
abbrev TA:=St->Hp->(List V->Hp->Prop)->Prop
structure iB where
 nx:St->Hp->Prop
 rt:VK
 bk:St->Hp->Prop:=fun _ _=>False
 ct:St->Hp->Prop:=fun _ _=>False
abbrev TS:=iB->St->Hp->Prop
def EP(X:Cx)(pins:List (Addr×Obj))(Z:St)(Q:VK)(u:Value)(s':Shared):Prop:=∃v H',aH X pins Z H' s'/\aZ v u/\Q v H'
def TP(X:Cx)(pins:List (Addr×Obj))(Z:St)(Q:Bool->Hp->Prop)(b:Bool)(s':Shared):Prop:=∃H',aH X pins Z H' s'/\Q b H'
def AP(X:Cx)(pins:List (Addr×Obj))(Z:St)(Q:List V->Hp->Prop)(us:List Value)(s':Shared):Prop:=∃vs H',aH X pins Z H' s'/\bA vs us/\Q vs H'
def SP(X:Cx)(pins:List (Addr×Obj))(D:iB)(f:Flow)(s':Shared):Prop:=
 match f with
 |.next=>∃Z' H',aH X pins Z' H' s'/\D.nx Z' H'
 |.brk=>∃Z' H',aH X pins Z' H' s'/\D.bk Z' H'
 |.cont=>∃Z' H',aH X pins Z' H' s'/\D.ct Z' H'
 |.ret u=>∃v Z' H',aH X pins Z' H' s'/\aZ v u/\D.rt v H'
def PE(X:Cx)(e:Expr)(t:TE):Prop:=
 ∀(pins:List (Addr×Obj)) (s:Shared) (Z:St) (H:Hp) (Q:VK),aH X pins Z H s->t Z H Q->wpAny (model X.prog X.w) X.A (eval e X.env) (EP X pins Z Q) X.xe s
def PT(X:Cx)(e:Expr)(t:TT):Prop:=
 ∀(pins:List (Addr×Obj)) (s:Shared) (Z:St) (H:Hp) (Q:Bool->Hp->Prop),aH X pins Z H s->t Z H Q->wpAny (model X.prog X.w) X.A (isTrue e X.env (eval e X.env)) (TP X pins Z Q) X.xe s
def PW(X:Cx)(e:Expr)(t:TT):Prop:=
 ∀(whole:Sem Value) (pins:List (Addr×Obj)) (s:Shared) (Z:St) (H:Hp) (Q:Bool->Hp->Prop),aH X pins Z H s->t Z H Q->wpAny (model X.prog X.w) X.A (isTrue e X.env whole) (TP X pins Z Q) X.xe s
def PA(X:Cx)(es:List Expr)(t:TA):Prop:=
 ∀(pos:Pos) (pins:List (Addr×Obj)) (s:Shared) (Z:St) (H:Hp) (Q:List V->Hp->Prop),aH X pins Z H s->t Z H Q->wpAny (model X.prog X.w) X.A (spliced (backTo pos (starEach es X.env))) (AP X pins Z Q) X.xe s
def PS(X:Cx)(st:Stmt)(t:TS):Prop:=
 ∀(pins:List (Addr×Obj)) (s:Shared) (Z:St) (H:Hp) (D:iB),aH X pins Z H s->t D Z H->wpAny (model X.prog X.w) X.A (exec st X.env) (SP X pins D) X.xe s
def dP(X:Cx)(st:List Stmt)(t:TS):Prop:=
 ∀(pins:List (Addr×Obj)) (s:Shared) (Z:St) (H:Hp) (D:iB),aH X pins Z H s->t D Z H->wpAny (model X.prog X.w) X.A (execs st X.env) (SP X pins D) X.xe s
theorem aX{α:Type}{t:Sem α}{Q Q':α->Shared->Prop}{M:Model}{A:Around}{E:Value->Shared->Prop}{s:Shared}(h:wpAny M A t Q E s)(hQ:∀a s,Q a s->Q' a s):wpAny M A t Q' E s:=wpAny_mono h hQ fun _ _ x=>x
end L2
namespace L2
open PySem.Spec PyProof.Rows
section
variable{X:Cx}
theorem bin{a b:Expr}{ta tb:TE}(ha:PE X a ta)(hb:PE X b tb){pins:List (Addr×Obj)}{s:Shared}{Z:St}{H:Hp}{R:V->V->Hp->Prop}(I:aH X pins Z H s)(h:ta Z H fun x H1=>tb Z H1 fun y H2=>R x y H2)
  {α:Type} {Q:α->Shared->Prop} {f:Value->Value->Sem α}
  (hf:∀v u s2 x y H2,aH X pins Z H2 s2->aZ x v->aZ y u->R x y H2->wpAny (model X.prog X.w) X.A (f v u) Q X.xe s2) :
  wpAny (model X.prog X.w) X.A (eval a X.env) (fun v s₁=>wpAny (model X.prog X.w) X.A (eval b X.env) (fun u s₂=>wpAny (model X.prog X.w) X.A (f v u) Q X.xe s₂) X.xe s₁) X.xe s:=by
 refine aX (ha pins s Z H _ I h) fun v s1 ⟨x,H1,I1,r1,q1⟩=>?_
 refine aX (hb pins s1 Z H1 _ I1 q1) fun u s2 ⟨y,H2,I2,r2,q2⟩=>?_
 exact hf v u s2 x y H2 I2 r1 r2 q2
def CI(i:Nat):TE:=fun Z H Q=>∃v,Z[i]? = some (some v)/\Q v H
def tC(v:V):TE:=fun _ H Q=>Q v H
theorem QH{i:Nat}{x:Str}{pos:Pos}(hN:X.N[i]? = some x)(hv:iS X.env.scope x)(hd:(x==("__debug__":Str))=false:=by decide)(hcd:(x==("__classdict__":Str))=false:=by decide):PE X (.Name x pos) (CI i):=by
 intro pins s Z H Q I h
 obtain⟨v,e,h⟩:=h
 obtain⟨m,hn,hl⟩:=I.loc
 obtain⟨u,r,l⟩:=hl i x v hN e hv
 have fin:EP X pins Z Q u s:=⟨v,H,I,r,h⟩
 rcases l with⟨hk,hm⟩|⟨hk,c,hc,hcell⟩
 ·exact wpAny_Name (wpAny_loadName_local I.ok.kind hk hn hm fin) hd
 ·rcases hk with hk|hk
  ·exact wpAny_Name (wpAny_loadName_cell I.ok.kind hk hc hcell fin) hd
  ·exact wpAny_Name (wpAny_loadName_free I.ok.kind hk hc hcell fin hcd) hd
theorem xM{i j pos}:PE X (.Constant (.int i) j pos) (tC (.int i)):=fun _ _ _ H _ I h=>wpAny_Constant_int ⟨.int i,H,I.tok _,⟨_,rfl⟩,h⟩
theorem QI{b j pos}:PE X (.Constant (.bool b) j pos) (tC (.bl b)):=fun _ _ _ H _ I h=>Constant_bool ⟨.bl b,H,I,rfl,h⟩
theorem QJ{j pos}:PE X (.Constant .none j pos) (tC .non):=fun _ _ _ H _ I h=>Constant_none ⟨.non,H,I,rfl,h⟩
theorem QK{x j pos}:PE X (.Constant (.str x) j pos) (tC (.str x)):=fun _ _ _ H _ I h=>Calls.Constant_str ⟨.str x,H,I.tok _,⟨_,rfl⟩,h⟩
def Gl(X:Cx)(x:Str):Prop:=X.env.kindOf x=some .globalImplicit
theorem mW{E:Value->Shared->Prop}{pins:List (Addr×Obj)}{s:Shared}{Z:St}{H:Hp}{x:Str}{u:Value}{pos:Pos}{Q:Value->Shared->Prop}(I:aH X pins Z H s)(hg:Gl X x)(hm:X.mg x=some u)(h:Q u s)
  (hd:(x==("__debug__":Str))=false:=by decide):wpAny (model X.prog X.w) X.A (eval (.Name x pos) X.env) Q E s:=
 Calls.Name_function_global I.ok.kind hg (Calls.loadGlobal_global (by rw[I.ok.glob];exact I.mod.glob.keeps I.bk) hm h) hd
theorem qB{E:Value->Shared->Prop}{pins:List (Addr×Obj)}{s:Shared}{Z:St}{H:Hp}{x:Str}{u:Value}{pos:Pos}{Q:Value->Shared->Prop}(I:aH X pins Z H s)(hg:Gl X x)(hm:X.mg x=none)(hv:bootBuiltins x=some u)(h:Q u s)
  (hn:x≠"__name__":=by decide) (hd:(x==("__debug__":Str))=false:=by decide):wpAny (model X.prog X.w) X.A (eval (.Name x pos) X.env) Q E s:=by
 obtain⟨mb,h1,h2⟩:=I.mod.blt
 exact Calls.Name_function_global I.ok.kind hg (Calls.loadGlobal_builtin (by rw[I.ok.glob];exact I.mod.glob.keeps I.bk) hm (by rw[I.ok.blt];exact h1.keeps I.bk) ((h2 x hn).trans hv) h) hd
theorem QL{x:Str}{v:V}{u:Value}{pos:Pos}(hg:Gl X x)(hm:X.mg x=some u)(r:aZ v u)(hd:(x==("__debug__":Str))=false:=by decide):PE X (.Name x pos) (tC v):=
 fun _ _ _ H _ I h=>mW I hg hm ⟨v,H,I,r,h⟩ hd
theorem QM{x:Str}{v:V}{u:Value}{pos:Pos}(hg:Gl X x)(hm:X.mg x=none)(hv:bootBuiltins x=some u)(r:aZ v u)(hn:x≠"__name__":=by decide)(hd:(x==("__debug__":Str))=false:=by decide):PE X (.Name x pos) (tC v):=
 fun _ _ _ H _ I h=>qB I hg hm hv ⟨v,H,I,r,h⟩ hn hd
def t2I(ta tb:TE)(k:Int->Int->Hp->Prop):St->Hp->Prop:=fun Z H=>ta Z H fun x H1=>tb Z H1 fun y H2=>∃i j,x=.int i/\y=.int j/\k i j H2
variable{a b:Expr}{ta tb:TE}{pos:Pos}
def PC(X:Cx)(op:CmpOp)(a b:Expr)(t:TE):Prop:=
 ∀(pins:List (Addr×Obj)) (s:Shared) (Z:St) (H:Hp) (Q:VK),aH X pins Z H s->t Z H Q->
  wpAny (model X.prog X.w) X.A (eval a X.env) (fun v s₁=>wpAny (model X.prog X.w) X.A (eval b X.env) (fun u s₂=>wpAny (model X.prog X.w) X.A (compareOp op v u) (EP X pins Z Q) X.xe s₂) X.xe s₁) X.xe s
theorem dH(b:Expr){op:CmpOp}(h:op≠.In)(h2:op≠.NotIn):behindInMarks op b=false:=by
 have e1:(op==CmpOp.In)=false:=by cases op<;>first|rfl|exact xat rfl h
 have e2:(op==CmpOp.NotIn)=false:=by cases op<;>first|rfl|exact xat rfl h2
 cases b<;>simp[behindInMarks,e1,e2]
def CJ(p:Int->Int->Bool)(ta tb:TE):TE:=fun Z H Q=>t2I ta tb (fun i j H2=>Q (.bl (p i j)) H2) Z H
abbrev tLt:TE->TE->TE:=CJ fun i j=>decide (i<j)
theorem QP{op:CmpOp}{p:Int->Int->Bool}(ha:PE X a ta)(hb:PE X b tb)
  (rule:∀(i j:Int) (t u:Tok) (Q:Value->Shared->Prop) (s:Shared),Q (.bool (p i j)) s->wpAny (model X.prog X.w) X.A (compareOp op (.int i t) (.int j u)) Q X.xe s):PC X op a b (CJ p ta tb):=by
 intro pins s Z H Q I h
 refine bin ha hb I h fun v u s2 x y H2 I2 rx ry q=>?_
 obtain⟨i,j,rfl,rfl,q⟩:=q
 obtain⟨t,rfl⟩:=rx
 obtain⟨t',rfl⟩:=ry
 exact rule i j t t' _ s2 ⟨.bl _,H2,I2,rfl,q⟩
theorem QQ(ha:PE X a ta)(hb:PE X b tb):PC X .Lt a b (tLt ta tb):=QP ha hb fun _ _ _ _ _ _ h=>lt_int h
def tB(t:TE):TT:=fun Z H Q=>t Z H fun x H1=>∃c,x=.bl c/\Q c H1
theorem QR{op:CmpOp}{t:TE}(h:PC X op a b t)(h1:behindInMarks op b=false:=by first|exact dH _ (by decide) (by decide)|rfl):PT X (.Compare a [op] [b] pos) (tB t):=by
 intro pins s Z H Q I hw
 refine wpAny_isTrue_Compare1 (aX (h pins s Z H _ I hw) fun v s1 h1=>aX h1 fun u s2 h2=>aX h2 fun c s3 ⟨x,H1,I1,r1,q1⟩=>?_) h1
 obtain⟨d,rfl,q⟩:=q1
 cases r1
 exact wpAny_truthy_bool ⟨H1,I1,q⟩
theorem QS{e:Expr}{t:TE}(h:PE X e t)(he:∀whole,isTrue e X.env whole=(do let v<-whole;standAt e.pos;holding [v] (truthy v)):=by intro _;rfl):PT X e (tB t):=by
 intro pins s Z H Q I hw
 refine isTrue_plain (aX (h pins s Z H _ I hw) fun v s1 ⟨x,H1,I1,r1,q1⟩=>?_) (he _)
 obtain⟨d,rfl,q⟩:=q1
 cases r1
 exact wpAny_truthy_bool ⟨H1,I1,q⟩
variable{tA tB':TT}{rest:List Expr}
def QT(t u:TT):TT:=fun Z H Q=>t Z H fun c H1=>if c=true then u Z H1 Q else Q false H1
def tOr(t u:TT):TT:=fun Z H Q=>t Z H fun c H1=>if c=true then Q true H1 else u Z H1 Q
def QV(t:TT):TT:=fun Z H Q=>t Z H fun c H1=>Q (!c) H1
theorem QW(ha:PT X a tA):PW X (.BoolOp .And [a] pos) tA:=by
 intro wh pins s Z H Q I h
 refine isTrue_and (aX (ha pins s Z H Q I h) fun c s1 e=>?_)
 cases c with
 |true=>exact isTrue_and_nil e
 |false=>exact e
theorem QX(ha:PT X a tA):PW X (.BoolOp .Or [a] pos) tA:=by
 intro wh pins s Z H Q I h
 refine isTrue_or (aX (ha pins s Z H Q I h) fun c s1 e=>?_)
 cases c with
 |false=>exact isTrue_or_nil e
 |true=>exact e
theorem QY(ha:PT X a tA)(hb:PW X (.BoolOp .And (b::rest) pos) tB'):PW X (.BoolOp .And (a::b::rest) pos) (QT tA tB'):=by
 intro wh pins s Z H Q I h
 refine isTrue_and (aX (ha pins s Z H _ I h) fun c s1 ⟨H1,I1,q1⟩=>?_)
 cases c with
 |true=>exact hb wh pins s1 Z H1 Q I1 q1
 |false=>exact⟨H1,I1,q1⟩
theorem QZ(ha:PT X a tA)(hb:PW X (.BoolOp .Or (b::rest) pos) tB'):PW X (.BoolOp .Or (a::b::rest) pos) (tOr tA tB'):=by
 intro wh pins s Z H Q I h
 refine isTrue_or (aX (ha pins s Z H _ I h) fun c s1 ⟨H1,I1,q1⟩=>?_)
 cases c with
 |true=>exact⟨H1,I1,q1⟩
 |false=>exact hb wh pins s1 Z H1 Q I1 q1
theorem Q0(ha:PT X a tA):PT X (.UnaryOp .Not a pos) (QV tA):=by
 intro pins s Z H Q I h
 exact isTrue_not (ha pins s Z H (fun c H1=>Q (!c) H1) I h)
def Q1(ta tb:TE):TE:=fun Z H Q=>ta Z H fun x H1=>∃c,x=.bl c/\if c=true then tb Z H1 Q else Q (.bl false) H1
theorem Q2{op}{t:TE}(h:PE X a t):PE X (.BoolOp op [a] pos) t:=fun pins s Z H Q I hw=>BoolOp_one (h pins s Z H Q I hw)
theorem Q3(ha:PE X a ta)(hb:PE X (.BoolOp .And (b::rest) pos) tb):PE X (.BoolOp .And (a::b::rest) pos) (Q1 ta tb):=by
 intro pins s Z H Q I h
 refine BoolOp_and (aX (ha pins s Z H _ I h) fun v s1 ⟨x,H1,I1,r1,q1⟩=>?_)
 obtain⟨c,rfl,q1⟩:=q1
 cases r1
 refine wpAny_truthy_bool ?_
 cases c with
 |true=>exact hb pins s1 Z H1 Q I1 q1
 |false=>exact⟨.bl false,H1,I1,rfl,q1⟩
def tIf(t:TT)(ta tb:TE):TE:=fun Z H Q=>t Z H fun c H1=>if c=true then ta Z H1 Q else tb Z H1 Q
theorem Q5{c:Expr}(hc:PT X c tA)(ha:PE X a ta)(hb:PE X b tb):PE X (.IfExp c a b pos) (tIf tA ta tb):=by
 intro pins s Z H Q I h
 refine wpAny_IfExp (aX (hc pins s Z H _ I h) fun d s1 ⟨H1,I1,q1⟩=>?_)
 cases d with
 |true=>exact ha pins s1 Z H1 Q I1 q1
 |false=>exact hb pins s1 Z H1 Q I1 q1
end
end L2
namespace L2
open PySem.Spec PyProof.Rows
def bM(K:xFg)(H:Hp)(a:Addr)(xs:List V):Prop:=
 Rd H a (.lst xs)\/
  ∃(o:Obj) (its:Array Value) (n:Nat),K.lookup a=some o/\o.cls=.type "list"/\o.dict=none/\o.data=.seq its n/\its.size<=sizeLine/\bA xs its.toList
def cB(K:xFg)(H:Hp)(a:Addr)(xs:List V):Prop:=
 Rd H a (.tup xs)\/
  ∃(o:Obj) (its:Array Value) (n:Nat),K.lookup a=some o/\o.cls=.type "tuple"/\o.data=.seq its n/\its.size<=sizeLine/\bA xs its.toList/\o.dict=none
def Q6:Value->Option V
 |.none=>some .non
 |.bool b=>some (.bl b)
 |.int i _=>some (.int i)
 |.str x _=>some (.str x)
 |.bytes b _=>some (.byt b)
 |.float b _=>some (.flt b)
 |.ref a=>some (.ref a)
 |.type n=>some (.ty n)
 |_=>none
theorem aZ.abs{x:V}{u:Value}(r:aZ x u):Q6 u=some x:=by
 cases x with
 |non=>cases r;rfl
 |bl _=>cases r;rfl
 |int _=>obtain⟨t,rfl⟩:=r;rfl
 |str _=>obtain⟨t,rfl⟩:=r;rfl
 |byt _=>obtain⟨t,rfl⟩:=r;rfl
 |flt _=>obtain⟨t,rfl⟩:=r;rfl
 |ref _=>cases r;rfl
 |ty _=>cases r;rfl
theorem aZ.inj{x y:V}{u:Value}(r:aZ x u)(q:aZ y u):x=y:=xbp (r.abs.symm.trans q.abs)
theorem bA.inj:∀{xs ys:List V} {us:List Value},bA xs us->bA ys us->xs=ys
 |_,_,_,.nil,.nil=>rfl
 |_,_,_,.cons r t,.cons r' t'=>by rw[r.inj r',bA.inj t t']
section
variable{X:Cx}{pins:List (Addr×Obj)}{Z:St}{H:Hp}{s:Shared}{a:Addr}{xs ys:List V}
theorem bM.of{K:xFg}(h:H a=some (.lst xs)):bM K H a xs:=.inl (.inl h)
theorem cB.of{K:xFg}(h:H a=some (.tup xs)):cB K H a xs:=.inl (.inl h)
theorem aH.list(I:aH X pins Z H s)(h:bM X.K H a xs):∃its:List Value,bA xs its/\PlainL s.heap a its.toArray/\xs.length<=sizeLine:=by
 rcases h with h|⟨o,its,n,hk,hc,hd,hs,hz,r⟩
 ·obtain⟨z,its,n,r,e⟩:=h.ok I.hok
  exact⟨its,r,⟨_,n,e,rfl,rfl,rfl⟩,z⟩
 ·refine⟨its.toList,r,⟨o,n,I.kIn a o hk,hc,hd,by simpa using hs⟩,?_⟩
  have e:=r.length
  simp only[xb2] at e
  omega
theorem aH.tupN(I:aH X pins Z H s)(h:cB X.K H a xs):∃its:List Value,bA xs its/\jZ s.heap a its.toArray/\xs.length<=sizeLine:=by
 rcases h with h|⟨o,its,n,hk,hc,hs,hz,r,hd⟩
 ·obtain⟨z,its,r,p⟩:=h.ok I.hok
  exact⟨its,r,p,z⟩
 ·refine⟨its.toList,r,⟨o,I.kIn a o hk,hc,⟨n,by simpa using hs⟩,hd⟩,?_⟩
  have e:=r.length
  simp only[xb2] at e
  omega
theorem aH.tuple(I:aH X pins Z H s)(h:cB X.K H a xs):∃its:List Value,bA xs its/\IsTup s.heap a its.toArray/\xs.length<=sizeLine:=by
 obtain⟨its,r,p,z⟩:=I.tupN h
 exact⟨its,r,p.tup,z⟩
theorem aH.list_inj(I:aH X pins Z H s)(h:bM X.K H a xs)(h':bM X.K H a ys):xs=ys:=by
 obtain⟨its,r,⟨o,n,e,_,_,d⟩,_⟩:=I.list h
 obtain⟨its',r',⟨o',n',e',_,_,d'⟩,_⟩:=I.list h'
 rw[e] at e';cases e'
 rw[d] at d'
 injection d' with d1 _
 have:its=its':=by simpa using congrArg Array.toList d1
 subst this
 exact r.inj r'
theorem aH.tuple_inj(I:aH X pins Z H s)(h:cB X.K H a xs)(h':cB X.K H a ys):xs=ys:=by
 obtain⟨its,r,⟨o,e,_,n,d⟩,_⟩:=I.tuple h
 obtain⟨its',r',⟨o',e',_,n',d'⟩,_⟩:=I.tuple h'
 rw[e] at e';cases e'
 rw[d] at d'
 injection d' with d1 _
 have:its=its':=by simpa using congrArg Array.toList d1
 subst this
 exact r.inj r'
end
abbrev Cx.wish(X:Cx)(E:Value->Shared->Prop):Cx:={ X with xe:=E }
abbrev Cx.nox(X:Cx):Cx:=X.wish fun _ _=>False
theorem Cx.Ok.wish{X:Cx}(ok:X.Ok)(E:Value->Shared->Prop):(X.wish E).Ok:=
 ⟨ok.mod,ok.kind,ok.glob,ok.blt,ok.above,ok.inj,ok.has,ok.cab,ok.hd,ok.frames,ok.stk,ok.exf,ok.bs,ok.bsz,ok.noex,ok.exfs,ok.funs,ok.frf⟩
theorem Cx.Ok.unwish{X:Cx}{E:Value->Shared->Prop}(ok:(X.wish E).Ok):X.Ok:=
 ⟨ok.mod,ok.kind,ok.glob,ok.blt,ok.above,ok.inj,ok.has,ok.cab,ok.hd,ok.frames,ok.stk,ok.exf,ok.bs,ok.bsz,ok.noex,ok.exfs,ok.funs,ok.frf⟩
section
variable{X:Cx}{pins:List (Addr×Obj)}{Z:St}{H:Hp}{s:Shared}{E:Value->Shared->Prop}
theorem aH.wish(I:aH X pins Z H s)(E:Value->Shared->Prop):aH (X.wish E) pins Z H s:=⟨I.ok.wish E,I.os,I.bare,I.base,I.loc,I.cell,I.free,I.freeC,I.pin,I.hok,I.len⟩
theorem aH.unwish(I:aH (X.wish E) pins Z H s):aH X pins Z H s:=⟨I.ok.unwish,I.os,I.bare,I.base,I.loc,I.cell,I.free,I.freeC,I.pin,I.hok,I.len⟩
end
section
variable{X:Cx}{st:Stmt}{rest:List Stmt}{t u:TS}{e:Expr}{te:TE}{pos:Pos}
def Q7:TS:=fun D Z H=>D.nx Z H
def Q8(t u:TS):TS:=fun D Z H=>t { D with nx:=u D } Z H
theorem CK:dP X [] Q7:=fun _ _ Z H _ I h=>wpAny_execs_nil ⟨Z,H,I,h⟩
theorem lG(h1:PS X st t)(h2:dP X rest u):dP X (st::rest) (Q8 t u):=by
 intro pins s Z H D I h
 refine wpAny_execs_cons (aX (h1 pins s Z H { D with nx:=u D } I h) fun f s1 q=>?_)
 cases f with
 |next=>
  obtain⟨Z',H',I',q⟩:=q
  exact h2 pins s1 Z' H' D I' q
 |ret v=>exact q
 |brk=>exact q
 |cont=>exact q
theorem oK(h1:PS X st t):dP X [st] t:=by
 intro pins s Z H D I h
 refine wpAny_execs_cons (aX (h1 pins s Z H D I h) fun f s1 q=>?_)
 cases f with
 |next=>exact wpAny_execs_nil q
 |ret v=>exact q
 |brk=>exact q
 |cont=>exact q
theorem aH.quiet{pins:List (Addr×Obj)}{Z:St}{H:Hp}{s:Shared}(I:aH X pins Z H s):interactive X.env=false:=by simp[interactive,I.ok.kind]
def Q9(te:TE):TS:=fun D Z H=>te Z H fun _ H1=>D.nx Z H1
theorem xN(he:PE X e te)(hs:swapsWith e none pos.line X.env=pure false:=by rfl):PS X (.Expr e pos) (Q9 te):=by
 intro pins s Z H D I h
 exact wpAny_Expr_any (aX (he pins s Z H _ I h) fun v s1 ⟨x,H1,I1,r1,q1⟩=>⟨Z,H1,I1,q1⟩) I.quiet hs
def RA(te:TE):TS:=fun D Z H=>te Z H D.rt
theorem tW(he:PE X e te):PS X (.Return (some e) pos) (RA te):=by
 intro pins s Z H D I h
 exact wpAny_Return_some (aX (he pins s Z H _ I h) fun v s1 ⟨x,H1,I1,r1,q1⟩=>⟨x,Z,H1,I1,r1,q1⟩)
def RB(c:TT)(t u:TS):TS:=fun D Z H=>c Z H fun b H1=>if b=true then t D Z H1 else u D Z H1
theorem CL{c:Expr}{a b:List Stmt}{tc:TT}(hc:PT X c tc)(ha:dP X a t)(hb:dP X b u):PS X (.If c a b pos) (RB tc t u):=by
 intro pins s Z H D I h
 refine wpAny_If (aX (hc pins s Z H _ I h) fun d s1 ⟨H1,I1,q1⟩=>?_)
 cases d with
 |true=>exact ha pins s1 Z H1 D I1 q1
 |false=>exact hb pins s1 Z H1 D I1 q1
end
abbrev TG:=V->St->Hp->(St->Hp->Prop)->Prop
abbrev j0:=List V->St->Hp->(St->Hp->Prop)->Prop
def PG(X:Cx)(target:Expr)(t:TG):Prop:=
 ∀(pins:List (Addr×Obj)) (s:Shared) (Z:St) (H:Hp) (v:V) (u:Value) (Q:St->Hp->Prop),aH X pins Z H s->aZ v u->t v Z H Q->
  wpAny (model X.prog X.w) X.A (assign target X.env u) (fun _ s'=>∃Z' H',aH X pins Z' H' s'/\Q Z' H') X.xe s
def oM(X:Cx)(ts:List Expr)(t:j0):Prop:=
 ∀(pins:List (Addr×Obj)) (s:Shared) (Z:St) (H:Hp) (vs:List V) (us:List Value) (Q:St->Hp->Prop),aH X pins Z H s->bA vs us->t vs Z H Q->
  wpAny (model X.prog X.w) X.A (assignInOrder ((assignEach ts X.env).map (·.2)) us) (fun _ s'=>∃Z' H',aH X pins Z' H' s'/\Q Z' H') X.xe s
abbrev TSet:=V->V->V->Hp->(Hp->Prop)->Prop
section
variable{X:Cx}{pos:Pos}
def lH(i:Nat):TG:=fun v Z H Q=>Q (Z.set i (some v)) H
theorem CM{i:Nat}{x:Str}(hN:X.N.Nodup)(hi:X.N[i]? = some x)(hx:iT X.env.scope x)(hf:X.fn x=true\/X.env.scope.names.lookup x=some .local:=by first|exact .inl rfl|exact .inr rfl|assumption):PG X (.Name x pos) (lH i):=by
 intro pins s Z H v u Q I r h
 exact wpAny_assign_Name (tV I hN hi hx r (fun s' I'=>⟨_,H,I',h⟩) hf)
def CN:j0:=fun vs Z H Q=>vs=[]/\Q Z H
def CO(t:TG)(u:j0):j0:=fun vs Z H Q=>∃v r,vs=v::r/\t v Z H fun Z' H'=>u r Z' H' Q
theorem RC:oM X [] CN:=by
 intro pins s Z H vs us Q I r h
 obtain⟨e,h⟩:=h
 subst e
 cases r
 exact assignInOrder_nil ⟨Z,H,I,h⟩
theorem RD{e:Expr}{es:List Expr}{t:TG}{u:j0}(h1:PG X e t)(h2:oM X es u)
  (hs:(assignEach (e::es) X.env).map (·.2)=assign e X.env::(assignEach es X.env).map (·.2):=by rfl):oM X (e::es) (CO t u):=by
 intro pins s Z H vs us Q I r h
 obtain⟨v,vr,e1,h⟩:=h
 subst e1
 cases r with
 |cons r rr=>
  rw[hs]
  refine assignInOrder_cons (aX (h1 pins s Z H _ _ _ I r h) fun _ s1 ⟨σ1,H1,I1,q1⟩=>?_)
  exact h2 pins s1 σ1 H1 _ _ Q I1 rr q1
def RE(K:xFg)(n:Nat)(t:j0):TG:=fun v Z H Q=>∃a xs,v=.ref a/\cB K H a xs/\xs.length=n/\t xs Z H Q
theorem RH{es:List Expr}{k:Nat}{t:j0}{n:Nat}(hc:X.calm=true)(h:oM X es t)
  (hn:(assignEach es X.env).length=n:=by rfl) (hst:(assignEach es X.env).findIdx? (·.1)=none:=by rfl):PG X (.Tuple es k pos) (RE X.K n t):=by
 intro pins s Z H v u Q I r hw
 obtain⟨a,xs,e1,hq,hl,hw⟩:=hw
 subst e1
 cases r
 obtain⟨its,rv,ht,hz⟩:=I.tuple hq
 refine assign_Tuple_tuple (I.ok.hd hc) ht (by simp[hn,<- hl,rv.length]) hst fun h' hx=>?_
 have I1:aH X pins Z H { s with heap:=h' }:=I.kept (t':=s.toks) fun b o e=>hx b o (xbf (xaw e)) e
 exact h pins _ Z H xs _ Q I1 (by simpa using rv) hw
def gSub(to ti:TE)(t:TSet):TG:=fun v Z H Q=>to Z H fun o H1=>ti Z H1 fun i H2=>t o i v H2 fun H3=>Q Z H3
def mY(te:TE)(g:TG):TS:=fun D Z H=>te Z H fun x H1=>g x Z H1 D.nx
theorem RI{tg e:Expr}{te:TE}{g:TG}(he:PE X e te)(hg:PG X tg g)(hs:swapsWithSole [tg] e pos.line X.env=pure false:=by rfl)(hw:swappedStores [tg] e X.env=pure none:=by rfl)
  (h1:(assignEach [tg] X.env).map (·.2)=[assign tg X.env]:=by rfl):PS X (.Assign [tg] e pos) (mY te g):=by
 intro pins s Z H D I h
 refine wpAny_Assign_stores (aX (he pins s Z H _ I h) fun v s1 ⟨x,H1,I1,r1,q1⟩=>?_) hs hw
 rw[h1]
 exact aX (hg pins s1 Z H1 x v _ I1 r1 q1) fun _ s2 q=>q
theorem lI{i:Nat}{x:Str}{e:Expr}{te:TE}{pos':Pos}(hN:X.N.Nodup)(hi:X.N[i]? = some x)(hx:iT X.env.scope x)(he:PE X e te)(hs:swapsWith e (some (.Name x pos')) pos.line X.env=pure false:=by rfl)(hf:X.fn x=true\/X.env.scope.names.lookup x=some .local:=by first|exact .inl rfl|exact .inr rfl|assumption) :
  PS X (.Assign [.Name x pos'] e pos) (mY te (lH i)):=by
 intro pins s Z H D I h
 refine wpAny_Assign_Name (aX (he pins s Z H _ I h) fun v s1 ⟨y,H1,I1,r1,q1⟩=>?_) hs
 exact tV I1 hN hi hx r1 (fun s2 I2=>⟨_,H1,I2,q1⟩) hf
end
section
variable{X:Cx}{pos:Pos}
def RJ(c:TT)(tb:TS):TS:=fun D Z H=>∃W:Nat->St->Hp->Prop,(∃m,W m Z H)/\∀m Z H,W m Z H->
 c Z H fun b H1=>if b=true then ∃N:St->Hp->Prop,(∀Z' H',N Z' H'->∃m',m'<m/\W m' Z' H')/\tb { D with nx:=N,ct:=N,bk:=D.nx } Z H1 else D.nx Z H1
theorem RK{c:Expr}{body:List Stmt}{tc:TT}{tb:TS}(hp:PassesOwn (model X.prog X.w) X.A X.env X.xe)(hc:PT X c tc)(hb:dP X body tb):PS X (.While c body [] pos) (RJ tc tb):=by
 intro pins s Z H D I h
 obtain⟨W,⟨m0,w0⟩,turn⟩:=h
 refine wpAny_While (codeAny_whileLoop (fun n s'=>∃Z' H',aH X pins Z' H' s'/\W n Z' H') ?_ m0 ⟨Z,H,I,w0⟩)
 rintro n s1 ⟨σ1,H1,I1,w1⟩
 refine wpAny_passesOwn hp (aX (hc pins s1 σ1 H1 _ I1 (turn n σ1 H1 w1)) fun b s2 ⟨H2,I2,q2⟩=>?_)
 cases b with
 |true=>
  obtain⟨N,hN,q2⟩:=q2
  rw[xa5 rfl]
  refine wpAny_passesOwn hp (aX (hb pins s2 σ1 H2 _ I2 q2) fun f s3 q3=>?_)
  cases f with
  |next=>
   obtain⟨σ3,H3,I3,n3⟩:=q3
   obtain⟨m',hm,w3⟩:=hN σ3 H3 n3
   exact⟨m',hm,σ3,H3,I3,w3⟩
  |cont=>
   obtain⟨σ3,H3,I3,n3⟩:=q3
   obtain⟨m',hm,w3⟩:=hN σ3 H3 n3
   exact⟨m',hm,σ3,H3,I3,w3⟩
  |brk=>exact q3
  |ret v=>exact q3
 |false=>
  rw[xaz xa7]
  exact wpAny_execs_nil ⟨σ1,H2,I2,q2⟩
end
structure It where
 go:Nat->Hp->Prop
 yld:Nat->Hp->V->Hp->Prop
 stop:Nat->Hp->Prop
def iU(X:Cx)(pins:List (Addr×Obj))(H:Hp)(b:Addr):Prop:=
 H b=none/\b≠X.env.locals/\b∉X.fs/\(b∈X.ex\/X.s₀.heap.objs.size<=b)/\(∀x c,X.env.cells.lookup x=some c->c≠b)/\∀p∈X.pn++pins,p.1≠b
theorem aH.fpOk{X:Cx}{pins:List (Addr×Obj)}{Z:St}{H H':Hp}{s:Shared}{b:Addr}(I:aH X pins Z H s)(hb:s.heap.objs.size<=b)(hn:H' b=none):iU X pins H' b:=by
 refine⟨hn,xc3 (xau I.lt hb),I.nofs hb,.inr (xah I.sz hb),fun x c e z=>?_,fun p hp z=>?_⟩
 ·obtain⟨v,q⟩:=I.cell x c e
  exact xat (xau q.lt (by rw[z];exact hb)) (xby _)
 ·exact xat (xau (xaw (I.pin p hp).1) (by rw[z];exact hb)) (xby _)
structure oN(P:Program)(w:World)(K:xFg)(tg:Expr)(J:It)(fp:List Addr)(it:Addr)(tn:Nat->Heap->Prop):Prop where
 mem:it∈fp
 obj:∀i h,tn i h->∀b∈fp,∃o,h.get? b=some o/\∀v,o.data≠.cell v
 keep:∀i h h',tn i h->(∀b∈fp,∀o,h.get? b=some o->h'.get? b=some o)->tn i h'
 item:∀(X:Cx),X.prog=P->X.w=w->X.K=K->X.calm=true->∀(i:Nat) (pins:List (Addr×Obj)) (s:Shared) (Z:St) (H:Hp) (E:Value->Shared->Prop),aH X pins Z H s->(∀b∈fp,iU X pins H b)->tn i s.heap->J.go i H->
  wpAny (model P w) X.A (pyNext (.ref it)) (fun r s1=>∃u,r=some u/\
   wpAny (model P w) X.A (letOwnedTupleGo tg (.ref it) u) (fun _ s2=>∃x H',aH X pins Z H' s2/\aZ x u/\J.yld i H x H'/\tn (i+1) s2.heap/\∀b∈fp,H' b=none) E s1) E s
 done:∀(X:Cx),X.prog=P->X.w=w->X.K=K->X.calm=true->∀(i:Nat) (pins:List (Addr×Obj)) (s:Shared) (Z:St) (H:Hp) (E:Value->Shared->Prop),aH X pins Z H s->(∀b∈fp,iU X pins H b)->tn i s.heap->J.stop i H->
  wpAny (model P w) X.A (pyNext (.ref it)) (fun r s1=>r=none/\aH X pins Z H s1) E s
 self:∀(A:Around) (i:Nat) (s:Shared) (Q:Value->Shared->Prop) (E:Value->Shared->Prop),tn i s.heap->Q (.ref it) s->wpAny (model P w) A (pyIter (.ref it)) Q E s
abbrev TI:=St->Hp->(It->Hp->Prop)->Prop
def PIE(X:Cx)(pins:List (Addr×Obj))(Z:St)(tg:Expr)(R:It->Hp->Prop)(itv:Value)(s2:Shared):Prop:=
 ∃(it:Addr) (fp:List Addr) (tn:Nat->Heap->Prop) (J:It) (H':Hp),itv=.ref it/\aH X pins Z H' s2/\oN X.prog X.w X.K tg J fp it tn/\tn 0 s2.heap/\(∀b∈fp,iU X pins H' b)/\R J H'
def PI(X:Cx)(tg iter:Expr)(wi:TI):Prop:=
 ∀(pins:List (Addr×Obj)) (s:Shared) (Z:St) (H:Hp) (R:It->Hp->Prop),aH X pins Z H s->wi Z H R->
  wpAny (model X.prog X.w) X.A (eval iter X.env) (fun v s1=>wpAny (model X.prog X.w) X.A (pyIter v) (PIE X pins Z tg R) X.xe s1) X.xe s
theorem tX{M:Model}{A:Around}{E:Value->Shared->Prop}{s:Shared}{tg:Expr}{it:Addr}{u:Value}{o:Obj}{n:String}{vs:Array Value}{Q:Unit->Shared->Prop}(ho:s.heap.get? it=some o)(hc:o.cls=.type n)(hd:o.data=.fields vs)
  (hn:["enumerate","zip","dict_itemiterator","dict_reverseitemiterator","odict_iterator","itertools.zip_longest","itertools.pairwise"].contains n=false) (hQ:Q () s):wpAny M A (letOwnedTupleGo tg (.ref it) u) Q E s:=by
 unfold letOwnedTupleGo
 cases tg<;>first
  |exact xa4 hQ
  |(cases u<;>first
    |exact xa4 hQ
    | (refine xai (wpAny_load ho ?_)
       rw[hc,hd]
       show wpAny M A (if (["enumerate","zip","dict_itemiterator","dict_reverseitemiterator","odict_iterator","itertools.zip_longest","itertools.pairwise"].contains n&&vs[0]? == some (rawInt _))=true then _ else _) Q E s
       rw[xaz (by intro h;rw[hn,Bool.false_and] at h;cases h)]
       exact xa4 hQ))
def oO(K:xFg)(a:Addr):It:=
 ⟨fun i H=>∃xs x,bM K H a xs/\xs[i]? = some x,fun i H x H'=>H'=H/\∀xs,bM K H a xs->xs[i]? = some x,fun i H=>∃xs,bM K H a xs/\xs.length<=i⟩
def oP(K:xFg)(a:Addr):It:=
 ⟨fun i H=>∃xs x,cB K H a xs/\xs[i]? = some x,fun i H x H'=>H'=H/\∀xs,cB K H a xs->xs[i]? = some x,fun i H=>∃xs,cB K H a xs/\xs.length<=i⟩
def qC(lo:Int)(n:Nat):It:=⟨fun i _=>i<n,fun i H x H'=>H'=H/\x=.int (lo+i),fun i _=>n<=i⟩
theorem RL{P:Program}{w:World}{K:xFg}{tg:Expr}(a it:Addr):oN P w K tg (oO K a) [it] it (fun i h=>h.IsListIter it a i) where
 mem:=by simp
 obj:=fun i h st b hb=>by
  have e:b=it:=by simpa using hb
  subst e
  obtain⟨o,e,c,d⟩:=st
  exact⟨o,e,fun v z=>by rw[d] at z;cases z⟩
 keep:=fun i h h' st k=>st.at fun o e=>k it (by simp) o e
 item:=by
  intro X hP hw hK hc i pins s Z H E I hf st hg
  subst hP hw hK
  obtain⟨xs,x,hq,hx⟩:=hg
  obtain⟨its,rv,p,hz⟩:=I.list hq
  obtain⟨u,hu,ru⟩:=rv.get hx
  obtain⟨f0,f1,f2,f3,f4,f5⟩:=hf it (by simp)
  refine wpAny_pyNext_list_item st p.isList (x:=u) (by simpa using hu) fun h' st' sb=>?_
  have I1:aH X pins Z H { s with heap:=h' }:=I.turned (t':=s.toks) (fun b o hb e=>(sb.2 b hb).trans e) f0 f1 f3 f4 f5
  obtain⟨o,e,c,d⟩:=id st'
  exact⟨u,rfl,tX (s:={ s with heap:=h' }) e c d (by decide) ⟨x,H,I1,ru,⟨rfl,fun ys hy=>by rw[I.list_inj hy hq];exact hx⟩,st',fun b hb=>(hf b hb).1⟩⟩
 done:=by
  intro X hP hw hK hc i pins s Z H E I hf st hg
  subst hP hw hK
  obtain⟨xs,hq,hx⟩:=hg
  obtain⟨its,rv,p,hz⟩:=I.list hq
  obtain⟨f0,f1,f2,f3,f4,f5⟩:=hf it (by simp)
  have hl:=rv.length
  exact wpAny_pyNext_list_end (I.ok.hd hc) st p.isList (by simp;omega) fun h' eb=>⟨rfl,I.turned (t':=s.toks) (fun b o hb e=>eb b o hb e) f0 f1 f3 f4 f5⟩
 self:=fun _ _ _ _ _ st h=>wpAny_pyIter_listiter st h
theorem RN{P:Program}{w:World}{K:xFg}{tg:Expr}(a it:Addr):oN P w K tg (oP K a) [it] it (fun i h=>h.IsTupleIter it a i) where
 mem:=by simp
 obj:=fun i h st b hb=>by
  have e:b=it:=by simpa using hb
  subst e
  obtain⟨o,e,c,d⟩:=st
  exact⟨o,e,fun v z=>by rw[d] at z;cases z⟩
 keep:=fun i h h' st k=>st.at fun o e=>k it (by simp) o e
 item:=by
  intro X hP hw hK hc i pins s Z H E I hf st hg
  subst hP hw hK
  obtain⟨xs,x,hq,hx⟩:=hg
  obtain⟨its,rv,p,hz⟩:=I.tuple hq
  obtain⟨u,hu,ru⟩:=rv.get hx
  obtain⟨f0,f1,f2,f3,f4,f5⟩:=hf it (by simp)
  refine wpAny_pyNext_tuple_item st (show s.heap.IsTuple a its.toArray from p) (x:=u) (by simpa using hu) fun h' st' sb=>?_
  have I1:aH X pins Z H { s with heap:=h' }:=I.turned (t':=s.toks) (fun b o hb e=>(sb.2 b hb).trans e) f0 f1 f3 f4 f5
  obtain⟨o,e,c,d⟩:=id st'
  exact⟨u,rfl,tX (s:={ s with heap:=h' }) e c d (by decide) ⟨x,H,I1,ru,⟨rfl,fun ys hy=>by rw[I.tuple_inj hy hq];exact hx⟩,st',fun b hb=>(hf b hb).1⟩⟩
 done:=by
  intro X hP hw hK hc i pins s Z H E I hf st hg
  subst hP hw hK
  obtain⟨xs,hq,hx⟩:=hg
  obtain⟨its,rv,p,hz⟩:=I.tuple hq
  obtain⟨f0,f1,f2,f3,f4,f5⟩:=hf it (by simp)
  have hl:=rv.length
  exact wpAny_pyNext_tuple_end (I.ok.hd hc) st (show s.heap.IsTuple a its.toArray from p) (by simp;omega) fun h' eb=>⟨rfl,I.turned (t':=s.toks) (fun b o hb e=>eb b o hb e) f0 f1 f3 f4 f5⟩
 self:=fun _ _ _ _ _ st h=>wpAny_pyIter_tupleiter st h
theorem RO{P:Program}{w:World}{K:xFg}{tg:Expr}(it:Addr)(lo:Int)(n:Nat):oN P w K tg (qC lo n) [it] it (fun i h=>IsRangeIter h it (lo+(i:Nat)*1) ((n:Int)-(i:Nat)) 1) where
 mem:=by simp
 obj:=fun i h st b hb=>by
  have e:b=it:=by simpa using hb
  subst e
  exact⟨_,st,fun v z=>by
   have z':Data.fields _=Data.cell v:=z
   cases z'⟩
 keep:=fun i h h' st k=>k it (by simp) _ st
 item:=by
  intro X hP hw hK hc i pins s Z H E I hf st hg
  subst hP hw hK
  obtain⟨f0,f1,f2,f3,f4,f5⟩:=hf it (by simp)
  have W:=Walks.range (prog:=X.prog) (w:=X.w) (I.ok.hd hc) it lo 1 n
  refine W.item i s _ _ hg st fun v h' tk hv st' kk=>?_
  obtain⟨t,rfl⟩:=hv
  have I1:aH X pins Z H { s with heap:=h',toks:=tk }:=I.turned (fun b o hb e=>kk b o (by simpa using hb) e) f0 f1 f3 f4 f5
  refine⟨_,rfl,tX (s:={ s with heap:=h',toks:=tk }) (n:="range_iterator") st' rfl rfl (by decide) ⟨.int (lo+i),H,I1,⟨t,?_⟩,⟨rfl,rfl⟩,st',fun b hb=>(hf b hb).1⟩⟩
  rw[Int.mul_one]
 done:=by
  intro X hP hw hK hc i pins s Z H E I hf st hg
  subst hP hw hK
  obtain⟨f0,f1,f2,f3,f4,f5⟩:=hf it (by simp)
  exact wpAny_pyNext_range_end (I.ok.hd hc) st (by have:n<=i:=hg;omega) fun h' eb=>⟨rfl,I.turned (t':=s.toks) (fun b o hb e=>eb b o hb e) f0 f1 f3 f4 f5⟩
 self:=fun _ _ _ _ _ st h=>wpAny_pyIter_rangeiter st h
end L2
namespace L2
open PySem.Spec PyProof.Rows
section
variable{X:Cx}{tg:Expr}
def CQ(K:xFg)(tl:TE):TI:=fun Z H R=>tl Z H fun x H1=>∃a,x=.ref a/\(∃xs,bM K H1 a xs)/\R (oO K a) H1
def CS(K:xFg)(tl:TE):TI:=fun Z H R=>tl Z H fun x H1=>∃a,x=.ref a/\(∃xs,cB K H1 a xs)/\R (oP K a) H1
theorem RP{l:Expr}{tl:TE}(hl:PE X l tl):PI X tg l (CQ X.K tl):=by
 intro pins s Z H R I h
 refine aX (hl pins s Z H _ I h) fun v s1 ⟨x,H1,I1,r1,q1⟩=>?_
 obtain⟨a,e,⟨xs,hq⟩,q⟩:=q1
 subst e
 cases r1
 obtain⟨its,rv,p,hz⟩:=I1.list hq
 refine wpAny_pyIter_list p.isList ?_
 refine⟨s1.heap.objs.size,[s1.heap.objs.size],_,_,H1,rfl,I1.kept (t':=s1.toks) fun b o e=>xaj _ e,RL a _,⟨_,xa6 _ rfl,rfl,rfl⟩,fun b hb=>?_,q⟩
 have e:b=s1.heap.objs.size:=by simpa using hb
 subst e
 exact I1.fpOk (xak _) (I1.hok.fresh (xak _))
theorem RQ{l:Expr}{tl:TE}(hl:PE X l tl):PI X tg l (CS X.K tl):=by
 intro pins s Z H R I h
 refine aX (hl pins s Z H _ I h) fun v s1 ⟨x,H1,I1,r1,q1⟩=>?_
 obtain⟨a,e,⟨xs,hq⟩,q⟩:=q1
 subst e
 cases r1
 obtain⟨its,rv,p,hz⟩:=I1.tuple hq
 refine wpAny_pyIter_tuple (show s1.heap.IsTuple a its.toArray from p) ?_
 refine⟨s1.heap.objs.size,[s1.heap.objs.size],_,_,H1,rfl,I1.kept (t':=s1.toks) fun b o e=>xaj _ e,RN a _,⟨_,xa6 _ rfl,rfl,rfl⟩,fun b hb=>?_,q⟩
 have e:b=s1.heap.objs.size:=by simpa using hb
 subst e
 exact I1.fpOk (xak _) (I1.hok.fresh (xak _))
theorem CT{pins:List (Addr×Obj)}{Z:St}{H:Hp}{s:Shared}{R:It->Hp->Prop}{E:Value->Shared->Prop}{lo hi:Int}{t u v:Tok}{tk:Nat}(I:aH X pins Z H s)(h1:-(2^62)<=lo)(h2:lo<2^62)(h3:-(2^62)<=hi)(h4:hi<2^62)
  (q:R (qC lo (hi-lo).toNat) H):wpAny (model X.prog X.w) X.A (pyIter (.ref s.heap.objs.size)) (PIE X pins Z tg R) E { s with heap:=s.heap.push { cls:=.type "range",data:=.fields #[.int lo t,.int hi u,.int 1 v] },toks:=tk }:=by
 refine wpAny_pyIter_range (IsRange.new ..) (small_one h1 h2 h3 h4) ?_
 have I1:aH X pins Z H { s with heap:=s.heap.push { cls:=.type "range",data:=.fields #[.int lo t,.int hi u,.int 1 v] },toks:=tk }:=I.kept fun b o e=>xaj _ e
 refine⟨(s.heap.push { cls:=.type "range",data:=.fields #[.int lo t,.int hi u,.int 1 v] }).objs.size,[(s.heap.push { cls:=.type "range",data:=.fields #[.int lo t,.int hi u,.int 1 v] }).objs.size],_,_,H,rfl,
  I1.kept (t':=tk) fun b o e=>xaj _ e,RO _ lo (hi-lo).toNat,?_,fun b hb=>?_,q⟩
 ·have e1:lo+((0:Nat):Int)*1=lo:=by simp
  have e2:(((hi-lo).toNat:Nat):Int)-((0:Nat):Int)=Builtin.Range.rangeSize lo hi 1:=by rw[rangeSize_one];split<;>omega
  show IsRangeIter _ _ (lo+((0:Nat):Int)*1) ((((hi-lo).toNat:Nat):Int)-((0:Nat):Int)) 1
  rw[e1,e2]
  exact xa6 _ rfl
 ·have e:b=(s.heap.push { cls:=.type "range",data:=.fields #[.int lo t,.int hi u,.int 1 v] }).objs.size:=by simpa using hb
  subst e
  exact I1.fpOk (xak _) (I1.hok.fresh (xak _))
def RS(ta:TA):TI:=fun Z H R=>ta Z H fun vs H1=>∃j:Int,vs=[.int j]/\-(2^62)<=j/\j<2^62/\R (qC 0 j.toNat) H1
def RU(ta:TA):TI:=fun Z H R=>ta Z H fun vs H1=>∃i j:Int,vs=[.int i,.int j]/\(-(2^62)<=i/\i<2^62/\-(2^62)<=j/\j<2^62)/\R (qC i (j-i).toNat) H1
theorem RV{a:Expr}{ta:TA}{p pos:Pos}(hg:Gl X "range")(hm:X.mg "range"=none)(ha:PA X [a] ta)(hs:starEach [a] X.env=[(false,eval a X.env)]:=by rfl):PI X tg (.Call (.Name "range" p) [a] [] pos) (RS ta):=by
 intro pins s Z H R I h
 refine Call_ (qB I hg hm boot_range (PyProof.Rows.callWith_type1 (aX (ha pos pins s Z H _ I h) fun us s1 ⟨vs,H1,I1,r1,q1⟩=>?_) hs rfl))
 obtain⟨j,e,q1,q2,q⟩:=q1
 subst e
 cases r1 with
 |cons r rr=>
  cases rr
  obtain⟨t,rfl⟩:=r
  exact call_range_1 (CT I1 (by omega) (by omega) q1 q2 (by simpa using q))
theorem RX{a b:Expr}{ta:TA}{p pos:Pos}(hg:Gl X "range")(hm:X.mg "range"=none)(ha:PA X [a,b] ta)(hs:starEach [a,b] X.env=[(false,eval a X.env),(false,eval b X.env)]:=by rfl)(hs2:starEach [b] X.env=[(false,eval b X.env)]:=by rfl) :
  PI X tg (.Call (.Name "range" p) [a,b] [] pos) (RU ta):=by
 intro pins s Z H R I h
 refine Call_ (qB I hg hm boot_range (PyProof.Rows.callWith_type1 (aX (ha pos pins s Z H _ I h) fun us s1 ⟨vs,H1,I1,r1,q1⟩=>?_) (by rw[hs,hs2]) (by rw[hs2];rfl)))
 obtain⟨i,j,e,⟨q1,q2,q3,q4⟩,q⟩:=q1
 subst e
 cases r1 with
 |cons r rr=>
  cases rr with
  |cons r' rr=>
   cases rr
   obtain⟨t,rfl⟩:=r
   obtain⟨t',rfl⟩:=r'
   exact call_range_2 (CT I1 q1 q2 q3 q4 q)
def RY(wi:TI)(g:TG)(tb:TS):TS:=fun D Z H=>wi Z H fun J H1=>∃W:Nat->Nat->St->Hp->Prop,(∃m,W 0 m Z H1)/\∀i m Z H,W i m Z H->
 (J.stop i H/\D.nx Z H)\/(J.go i H/\∃N:St->Hp->Prop,(∀Z' H',N Z' H'->∃m',m'<m/\W (i+1) m' Z' H')/\∀x H',J.yld i H x H'->g x Z H' fun σ2 H2=>tb { D with nx:=N,ct:=N,bk:=D.nx } σ2 H2)
def qD(fp:List Addr)(h:Heap):List (Addr×Obj):=fp.filterMap fun b=>(h.get? b).map fun o=>(b,o)
theorem tY{fp:List Addr}{h:Heap}{b:Addr}{o:Obj}(hb:b∈fp)(e:h.get? b=some o):(b,o)∈qD fp h:=List.mem_filterMap.mpr ⟨b,hb,by rw[e];rfl⟩
theorem RZ{fp:List Addr}{h:Heap}{p:Addr×Obj}(hp:p∈qD fp h):p.1∈fp/\h.get? p.1=some p.2:=by
 obtain⟨b,hb,e⟩:=List.mem_filterMap.mp hp
 cases q:h.get? b with
 |none=>rw[q] at e;cases e
 |some o=>
  rw[q] at e
  have e':(b,o)=p:=xbp e
  subst e'
  exact⟨hb,q⟩
theorem aH.pinned{pins:List (Addr×Obj)}{Z:St}{H:Hp}{s:Shared}{fp:List Addr}(I:aH X pins Z H s)(hf:∀b∈fp,iU X pins H b)(ho:∀b∈fp,∃o,s.heap.get? b=some o/\∀v,o.data≠.cell v):aH X (pins++qD fp s.heap) Z H s:=
 I.pins_of fun p hp=>(xa1.mp hp).elim (fun z=>I.pin p (xbb _ z)) fun z=>by
  obtain⟨hb,e⟩:=RZ z
  obtain⟨f0,f1,f2,_⟩:=hf p.1 hb
  obtain⟨o,e',d⟩:=ho p.1 hb
  rw[e] at e';cases e'
  exact⟨e,f0,f1,f2,d⟩
theorem aH.unpinned{pins pl:List (Addr×Obj)}{Z:St}{H:Hp}{s:Shared}(I:aH X (pins++pl) Z H s):aH X pins Z H s:=I.pins_of fun p hp=>I.pin p (xbb _ (xc2 _ hp))
theorem R0{iter:Expr}{body:List Stmt}{wi:TI}{g:TG}{tb:TS}{pos:Pos}(hp:PassesOwn (model X.prog X.w) X.A X.env X.xe)(hc:X.calm=true)(hi:PI X tg iter wi)(hg:PG X tg g)(hb:dP X body tb)
  (hs:∀x,foldedSetIterable iter X.env x=pure x:=by intro _;rfl):PS X (.For tg iter body [] pos) (RY wi g tb):=by
 intro pins s Z H D I h
 refine wpAny_For (aX (hi pins s Z H _ I h) fun v s1 h1=>aX h1 fun itv s2 h2=>?_) hs
 obtain⟨it,fp,tn,J,H2,e,I2,T,st2,f2,W,⟨m0,w0⟩,turn⟩:=h2
 subst e
 have stat:∀{H':Hp},(∀b∈fp,H' b=none)->∀b∈fp,iU X pins H' b:=fun hn b hb=>⟨hn b hb,(f2 b hb).2⟩
 refine codeAny_forLoop_any (fun n s'=>∃i Z' H',aH X pins Z' H' s'/\tn i s'.heap/\(∀b∈fp,H' b=none)/\W i n Z' H') ?_ m0 ⟨0,Z,H2,I2,st2,fun b hb=>(f2 b hb).1,w0⟩
 rintro n s3 ⟨i,σ3,H3,I3,st3,fr3,w3⟩
 rcases turn i n σ3 H3 w3 with⟨stop,qn⟩|⟨go,N,hN,step⟩
 ·refine wpAny_passesOwn hp (aX (T.done X rfl rfl rfl hc i pins s3 σ3 H3 X.xe I3 (stat fr3) st3 stop) fun r s4 ⟨hr,I4⟩=>?_)
  subst hr
  exact wpAny_execs_nil ⟨σ3,H3,I4,qn⟩
 ·refine wpAny_passesOwn hp (aX (T.item X rfl rfl rfl hc i pins s3 σ3 H3 X.xe I3 (stat fr3) st3 go) fun r s4 ⟨u,hr,h4⟩=>?_)
  subst hr
  refine wpAny_passesOwn hp (aX h4 fun _ s5 ⟨x,H5,I5,r5,y5,st5,fr5⟩=>?_)
  have I5':=I5.pinned (stat fr5) (T.obj _ _ st5)
  refine wpAny_passesOwn hp (aX (hg _ s5 σ3 H5 x u _ I5' r5 (step x H5 y5)) fun _ s6 ⟨σ6,H6,I6,q6⟩=>?_)
  refine wpAny_passesOwn hp (aX (hb _ s6 σ6 H6 _ I6 q6) fun f s7 q7=>?_)
  have again:∀{σ7:St} {H7:Hp},aH X (pins++qD fp s5.heap) σ7 H7 s7->N σ7 H7->∃m,m<n/\∃i Z' H',aH X pins Z' H' s7/\tn i s7.heap/\(∀b∈fp,H' b=none)/\W i m Z' H':=fun {σ7 H7} I7 n7=>by
   obtain⟨m',hm,w7⟩:=hN σ7 H7 n7
   refine⟨m',hm,i+1,σ7,H7,I7.unpinned,T.keep _ _ _ st5 fun b hb o e=>(I7.pin (b,o) (xbb _ (xbb _ (tY hb e)))).1,fun b hb=>?_,w7⟩
   obtain⟨o,e,d⟩:=T.obj _ _ st5 b hb
   exact(I7.pin (b,o) (xbb _ (xbb _ (tY hb e)))).2.1
  cases f with
  |next=>obtain⟨σ7,H7,I7,n7⟩:=q7;exact again I7 n7
  |cont=>obtain⟨σ7,H7,I7,n7⟩:=q7;exact again I7 n7
  |brk=>obtain⟨σ7,H7,I7,q7⟩:=q7;exact⟨σ7,H7,I7.unpinned,q7⟩
  |ret v=>obtain⟨x7,σ7,H7,I7,r7,q7⟩:=q7;exact⟨x7,σ7,H7,I7.unpinned,r7,q7⟩
end
end L2
namespace L2
open PySem.Spec PyProof.Rows
abbrev R2:=V->V->Hp->VK->Prop
def bP(X:Cx)(f:Value->Value->Sem Value)(r:R2):Prop:=
 ∀(pins:List (Addr×Obj)) (s:Shared) (Z:St) (H:Hp) (x y:V) (v u:Value) (Q:VK),aH X pins Z H s->aZ x v->aZ y u->r x y H Q->
  wpAny (model X.prog X.w) X.A (f v u) (EP X pins Z Q) X.xe s
def tZ(X:Cx)(f:Value->Sem Value)(r:V->Hp->VK->Prop):Prop:=
 ∀(pins:List (Addr×Obj)) (s:Shared) (Z:St) (H:Hp) (x:V) (v:Value) (Q:VK),aH X pins Z H s->aZ x v->r x H Q->
  wpAny (model X.prog X.w) X.A (f v) (EP X pins Z Q) X.xe s
def dW(X:Cx)(f:Value)(r:List V->Hp->VK->Prop):Prop:=
 ∀(pins:List (Addr×Obj)) (s:Shared) (Z:St) (H:Hp) (xs:List V) (us:List Value) (Q:VK),aH X pins Z H s->bA xs us->r xs H Q->
  wpAny (model X.prog X.w) X.A (call f us) (EP X pins Z Q) X.xe s
def oQ(r:R2)(ta tb:TE):TE:=fun Z H Q=>ta Z H fun x H1=>tb Z H1 fun y H2=>r x y H2 Q
def tUn(r:V->Hp->VK->Prop)(ta:TE):TE:=fun Z H Q=>ta Z H fun x H1=>r x H1 Q
def rI(C:Int->Int->Prop)(g:Int->Int->V):R2:=fun x y H Q=>∃i j,x=.int i/\y=.int j/\C i j/\Q (g i j) H
def kM(g:Int->Int->V):R2:=fun x y H Q=>∃i j,x=.int i/\y=.int j/\Q (g i j) H
def rU(g:Int->V):V->Hp->VK->Prop:=fun x H Q=>∃i,x=.int i/\Q (g i) H
section
variable{X:Cx}{a b c:Expr}{ta tb tc:TE}{pos:Pos}
theorem t4(ha:PE X a ta)(hb:PE X b tb){pins:List (Addr×Obj)}{s:Shared}{Z:St}{H:Hp}{R:V->V->Hp->Prop}(I:aH X pins Z H s)
  (h:ta Z H fun x H1=>tb Z H1 fun y H2=>R x y H2) {Q:Value->Shared->Prop} {f:Value->Value->Sem Value}
  (hf:∀v u s2 x y H2,aH X pins Z H2 s2->aZ x v->aZ y u->R x y H2->wpAny (model X.prog X.w) X.A (f v u) Q X.xe s2) :
  wpAny (model X.prog X.w) X.A (eval a X.env) (fun v s₁=>wpAny (model X.prog X.w) X.A (eval b X.env) (fun u s₂=>wpAny (model X.prog X.w) X.A (f v u) Q X.xe s₂) X.xe s₁) X.xe s:=by
 refine aX (ha pins s Z H _ I h) fun v s1 ⟨x,H1,I1,r1,q1⟩=>?_
 refine aX (hb pins s1 Z H1 _ I1 q1) fun u s2 ⟨y,H2,I2,r2,q2⟩=>?_
 exact hf v u s2 x y H2 I2 r1 r2 q2
theorem xO{op:Operator}{r:R2}(ho:bP X (binaryOp op) r)(ha:PE X a ta)(hb:PE X b tb):PE X (.BinOp a op b pos) (oQ r ta tb):=by
 intro pins s Z H Q I h
 exact wpAny_BinOp (t4 ha hb I h fun v u s2 x y H2 I2 rx ry q=>ho pins s2 Z H2 x y v u Q I2 rx ry q)
theorem R3{op:UnaryOp}{r:V->Hp->VK->Prop}(ho:tZ X (unaryOp op) r)(ha:PE X a ta):PE X (.UnaryOp op a pos) (tUn r ta):=by
 intro pins s Z H Q I h
 exact UnaryOp_ (aX (ha pins s Z H _ I h) fun v s1 ⟨x,H1,I1,r1,q1⟩=>ho pins s1 Z H1 x v Q I1 r1 q1)
theorem qE{f:Value->Value->Sem Value}{C:Int->Int->Prop}{g:Int->Int->Int}
  (rule:∀(i j:Int) (t u:Tok) (s:Shared) (Q:Value->Shared->Prop) (E:Value->Shared->Prop),C i j->Q (.int (g i j) s.toks) { s with toks:=s.toks+1 }->wpAny (model X.prog X.w) X.A (f (.int i t) (.int j u)) Q E s) :
  bP X f (rI C fun i j=>.int (g i j)):=by
 intro pins s Z H x y v u Q I rx ry h
 obtain⟨i,j,rfl,rfl,hc,q⟩:=h
 obtain⟨t,rfl⟩:=rx
 obtain⟨t',rfl⟩:=ry
 exact rule i j t t' s _ _ hc ⟨.int (g i j),H,I.tok _,⟨_,rfl⟩,q⟩
theorem R4{f:Value->Value->Sem Value}{g:Int->Int->Int}
  (rule:∀(i j:Int) (t u:Tok) (s:Shared) (Q:Value->Shared->Prop) (E:Value->Shared->Prop),Q (.int (g i j) s.toks) { s with toks:=s.toks+1 }->wpAny (model X.prog X.w) X.A (f (.int i t) (.int j u)) Q E s) :
  bP X f (kM fun i j=>.int (g i j)):=by
 intro pins s Z H x y v u Q I rx ry h
 obtain⟨i,j,rfl,rfl,q⟩:=h
 obtain⟨t,rfl⟩:=rx
 obtain⟨t',rfl⟩:=ry
 exact rule i j t t' s _ _ ⟨.int (g i j),H,I.tok _,⟨_,rfl⟩,q⟩
theorem t5{f:Value->Value->Sem Value}{g:Int->Int->Bool}
  (rule:∀(i j:Int) (t u:Tok) (s:Shared) (Q:Value->Shared->Prop) (E:Value->Shared->Prop),Q (.bool (g i j)) s->wpAny (model X.prog X.w) X.A (f (.int i t) (.int j u)) Q E s) :
  bP X f (kM fun i j=>.bl (g i j)):=by
 intro pins s Z H x y v u Q I rx ry h
 obtain⟨i,j,rfl,rfl,q⟩:=h
 obtain⟨t,rfl⟩:=rx
 obtain⟨t',rfl⟩:=ry
 exact rule i j t t' s _ _ ⟨.bl (g i j),H,I,rfl,q⟩
def R5(i j:Int):Prop:=0<=j/\j<=1000000/\i.natAbs<2^64
theorem R6:bP X (binaryOp .Add) (kM fun i j=>.int (i+j)):=R4 fun _ _ _ _ _ _ _ q=>add_int q
theorem R7:bP X (binaryOp .Mod) (rI (fun _ j=>j≠0) fun i j=>.int (i.fmod j)):=qE fun _ _ _ _ _ _ _ hc q=>mod_int' hc q
theorem R8:bP X (binaryOp .Pow) (rI R5 fun i j=>.int (i^j.toNat)):=qE fun _ _ _ _ _ _ _ hc q=>pow_int_small hc.1 hc.2.1 hc.2.2 q
theorem unI{f:Value->Sem Value}{g:Int->Int}
  (rule:∀(i:Int) (t:Tok) (s:Shared) (Q:Value->Shared->Prop) (E:Value->Shared->Prop),Q (.int (g i) s.toks) { s with toks:=s.toks+1 }->wpAny (model X.prog X.w) X.A (f (.int i t)) Q E s) :
  tZ X f (rU fun i=>.int (g i)):=by
 intro pins s Z H x v Q I rx h
 obtain⟨i,rfl,q⟩:=h
 obtain⟨t,rfl⟩:=rx
 exact rule i t s _ _ ⟨.int (g i),H,I.tok _,⟨_,rfl⟩,q⟩
theorem SA:tZ X (unaryOp .USub) (rU fun i=>.int (-i)):=unI fun _ _ _ _ _ q=>neg_int q
end
section
variable{X:Cx}{a b c:Expr}{ta tb tc:TE}{pos:Pos}
theorem qF{pins:List (Addr×Obj)}{Z:St}{H:Hp}{s:Shared}{Q:VK}{k k':Bool}(I:aH X pins Z H s)(q:Q (.bl k) H)(e:k=k'):EP X pins Z Q (.bool k') s:=by
 subst e
 exact⟨.bl k,H,I,rfl,q⟩
theorem SB:bP X (compareOp .Lt) (kM fun i j=>.bl (decide (i<j))):=t5 fun _ _ _ _ _ _ _ q=>lt_int q
theorem SC:bP X (compareOp .LtE) (kM fun i j=>.bl (decide (i<=j))):=t5 fun _ _ _ _ _ _ _ q=>le_int q
theorem SD:bP X (compareOp .Gt) (kM fun i j=>.bl (decide (j<i))):=t5 fun _ _ _ _ _ _ _ q=>gt_int q
theorem SF:bP X (compareOp .GtE) (kM fun i j=>.bl (decide (j<=i))):=t5 fun _ _ _ _ _ _ _ q=>ge_int q
theorem SG:bP X (compareOp .In) (fun x y H Q=>∃i j,x=.str i/\y=.str j/\Q (.bl (!(Builtin.Str.occurrences j i 0 j.length 1).isEmpty)) H):=by
 intro pins s Z H x y v u Q I rx ry h
 obtain⟨i,j,rfl,rfl,q⟩:=h
 obtain⟨t,rfl⟩:=rx
 obtain⟨t',rfl⟩:=ry
 exact in_str (qF I q rfl)
theorem SH:bP X (compareOp .Is) (fun x y H Q=>y=.non/\Q (.bl (decide (x=.non))) H):=by
 intro pins s Z H x y v u Q I rx ry h
 obtain⟨rfl,q⟩:=h
 cases ry
 refine is_none_gen (qF I q ?_)
 cases x<;>first
  |(cases rx;rfl)
  |(obtain⟨t,rfl⟩:=rx;rfl)
theorem SI:bP X (compareOp .IsNot) (fun x y H Q=>y=.non/\Q (.bl (!decide (x=.non))) H):=by
 intro pins s Z H x y v u Q I rx ry h
 obtain⟨rfl,q⟩:=h
 cases ry
 refine isnot_none_gen (qF I q ?_)
 cases x<;>first
  |(cases rx;rfl)
  |(obtain⟨t,rfl⟩:=rx;rfl)
theorem bP.or{f:Value->Value->Sem Value}{r r':R2}(h:bP X f r)(h':bP X f r'):bP X f (fun x y H Q=>r x y H Q\/r' x y H Q):=by
 intro pins s Z H x y v u Q I rx ry q
 rcases q with q|q
 ·exact h pins s Z H x y v u Q I rx ry q
 ·exact h' pins s Z H x y v u Q I rx ry q
theorem SJ{op:CmpOp}{r:R2}(ho:bP X (compareOp op) r)(ha:PE X a ta)(hb:PE X b tb)(hm:behindInMarks op b=false):PE X (.Compare a [op] [b] pos) (oQ r ta tb):=by
 intro pins s Z H Q I h
 exact wpAny_Compare1 (t4 ha hb I h fun v u s2 x y H2 I2 rx ry q=>ho pins s2 Z H2 x y v u Q I2 rx ry q) hm
def xP(t:TE):TT:=fun Z H Q=>t Z H fun x H'=>∃k,x=.bl k/\Q k H'
theorem CU{op:CmpOp}{r:R2}(ho:bP X (compareOp op) r)(ha:PE X a ta)(hb:PE X b tb)(hm:behindInMarks op b=false):PT X (.Compare a [op] [b] pos) (xP (oQ r ta tb)):=by
 intro pins s Z H Q I h
 refine wpAny_isTrue_Compare1 (aX (ha pins s Z H _ I h) fun v s1 ⟨x,H1,I1,r1,q1⟩=>aX (hb pins s1 Z H1 _ I1 q1) fun u s2 ⟨y,H2,I2,r2,q2⟩=>
  aX (ho pins s2 Z H2 x y v u _ I2 r1 r2 q2) fun c s3 ⟨z,H3,I3,r3,k,e,q3⟩=>?_) hm
 subst e
 cases r3
 exact wpAny_truthy_bool ⟨H3,I3,q3⟩
def CV(r r':R2)(ta tb tc:TE):TE:=fun Z H Q=>ta Z H fun x H1=>tb Z H1 fun y H2=>r x y H2 fun z H3=>∃k,z=.bl k/\
 (if k=true then tc Z H3 fun w' H4=>r' y w' H4 Q else Q (.bl false) H3)
theorem SK{op op':CmpOp}{r r':R2}(ho:bP X (compareOp op) r)(ho':bP X (compareOp op') r')(ha:PE X a ta)(hb:PE X b tb)(hc:PE X c tc)
  (hm:lastMarks [op,op'] [b,c]=false:=by with_unfolding_all rfl):PT X (.Compare a [op,op'] [b,c] pos) (xP (CV r r' ta tb tc)):=by
 intro pins s Z H Q I h
 refine isTrue_chain (aX (ha pins s Z H _ I h) fun v s1 ⟨x,H1,I1,r1,q1⟩=>test_link (aX (hb pins s1 Z H1 _ I1 q1) fun u s2 ⟨y,H2,I2,r2,q2⟩=>
  aX (ho pins s2 Z H2 x y v u _ I2 r1 r2 q2) fun d s3 ⟨z,H3,I3,r3,k,e,q3⟩=>?_)) hm
 subst e
 cases r3
 refine wpAny_truthy_bool ?_
 cases k with
 |false=>
  obtain⟨k',e',q'⟩:=q3
  cases e'
  exact ite_ff ⟨H3,I3,q'⟩
 |true=>
  refine ite_tt (test_last (aX (hc pins s3 Z H3 _ I3 q3) fun w' s4 ⟨z',H4,I4,r4,q4⟩=>aX (ho' pins s4 Z H4 y z' u w' _ I4 r2 r4 q4) fun d' s5 ⟨z2,H5,I5,r5,k2,e2,q5⟩=>?_))
  subst e2
  cases r5
  exact wpAny_truthy_bool ⟨H5,I5,q5⟩
theorem t6:(sizeLine:Nat)<2^63:=by rw[sizeLine_eq];decide
theorem SL:bP X (binaryOp .Add) (fun x y H Q=>∃i j,x=.str i/\y=.str j/\i.length+j.length<=sizeLine/\Q (.str (i++j)) H):=by
 intro pins s Z H x y v u Q I rx ry h
 obtain⟨i,j,rfl,rfl,hz,q⟩:=h
 obtain⟨t,rfl⟩:=rx
 obtain⟨t',rfl⟩:=ry
 exact add_str (fun t' tk=>⟨.str (i++j),H,I.tok _,⟨_,rfl⟩,q⟩) hz
def CW(b:Expr):Prop:=∀o i,subscripted b false o i=operate [o,i] (getItem o i)
theorem SM(ha:PE X a ta)(hb:PE X b tb)(hs:CW b) :
  PE X (.Subscript a b pos) (oQ (fun x y H Q=>∃z i c,x=.str z/\y=.int i/\0<=i/\i<2^63/\i<z.length/\z.cps[i.toNat]? = some c/\Q (.str ⟨#[c]⟩) H) ta tb):=by
 intro pins s Z H Q I h
 refine Subscript_ (t4 ha hb I h fun v u s2 x y H2 I2 rx ry q=>?_)
 obtain⟨z,i,c,rfl,rfl,h0,h63,h1,hc,q⟩:=q
 obtain⟨t,rfl⟩:=rx
 obtain⟨t',rfl⟩:=ry
 have e:seqIndex? i z.length=some i.toNat:=PySem.StrLaws.seqIndex_nonneg h0 h1
 exact tail_any (typeIs_str s2 z t) slot_str_getitem.lookup (getItem_str (c:=c) (by
  have e1:decide (i < -(2^63:Int))=false:=xag (by omega)
  have e2:decide (i ≥ 2^63)=false:=xag (by omega)
  rw[e1,e2]<;>rfl) (by rw[e];exact hc) ⟨.str ⟨#[c]⟩,H2,I2.tok _,⟨_,rfl⟩,q⟩) (hs _ _)
theorem jF{x:V}{us:List Value}(r:bA [x] us):∃u,us=[u]/\aZ x u:=by
 cases r with
 |cons r1 r2=>cases r2;exact⟨_,rfl,r1⟩
theorem t7{x y:V}{us:List Value}(r:bA [x,y] us):∃u w',us=[u,w']/\aZ x u/\aZ y w':=by
 cases r with
 |cons r1 r2=>
  cases r2 with
  |cons r3 r4=>cases r4;exact⟨_,_,rfl,r1,r3⟩
theorem SN(hc:X.calm=true):dW X (.builtin "max") (fun xs H Q=>∃i j,xs=[.int i,.int j]/\Q (.int (if j>i then j else i)) H):=by
 intro pins s Z H xs us Q I r h
 obtain⟨i,j,rfl,q⟩:=h
 obtain⟨u,w',rfl,⟨t,rfl⟩,⟨t',rfl⟩⟩:=t7 r
 refine max_two_ints (I.ok.hd hc) fun h' tk k=>⟨_,H,I.kept k,?_,q⟩
 by_cases hj:j>i
 ·rw[xa5 hj,xa5 hj];exact⟨_,rfl⟩
 ·rw[xaz hj,xaz hj];exact⟨_,rfl⟩
theorem SO(hc:X.calm=true):dW X (.builtin "min") (fun xs H Q=>∃i j,xs=[.int i,.int j]/\Q (.int (if j<i then j else i)) H):=by
 intro pins s Z H xs us Q I r h
 obtain⟨i,j,rfl,q⟩:=h
 obtain⟨u,w',rfl,⟨t,rfl⟩,⟨t',rfl⟩⟩:=t7 r
 refine min_two_ints (I.ok.hd hc) fun h' tk k=>⟨_,H,I.kept k,?_,q⟩
 by_cases hj:j<i
 ·rw[xa5 hj,xa5 hj];exact⟨_,rfl⟩
 ·rw[xaz hj,xaz hj];exact⟨_,rfl⟩
theorem SQ:dW X (.type "int") (fun xs H Q=>(∃i,xs=[.int i]/\Q (.int i) H)\/∃k,xs=[.bl k]/\Q (.int (if k then 1 else 0)) H):=by
 intro pins s Z H xs us Q I r h
 rcases h with⟨i,rfl,q⟩|⟨k,rfl,q⟩
 ·obtain⟨u,rfl,t,rfl⟩:=jF r
  exact call_int_int ⟨.int i,H,I,⟨_,rfl⟩,q⟩
 ·obtain⟨u,rfl,r1⟩:=jF r
  cases r1
  exact call_int_bool ⟨.int (if k then 1 else 0),H,I.tok _,⟨_,rfl⟩,q⟩
theorem SR:dW X (.type "str") (fun xs H Q=>∃i,xs=[.int i]/\i.natAbs.log2<1920/\Q (.str (toString i)) H):=by
 intro pins s Z H xs us Q I r h
 obtain⟨i,rfl,hz,q⟩:=h
 obtain⟨u,rfl,t,rfl⟩:=jF r
 exact PySem.P.str_of_int hz ⟨.str _,H,I.tok _,⟨_,rfl⟩,q⟩
end
end L2
namespace L2
open PySem.Spec PyProof.Rows
structure mZ(h:Heap)(x dx C:Addr)(mA:Str->Option Value):Prop where
 obj:h.get? x=some (PySem.W.instObj C dx)
 ns:h.Ns1 dx mA
 ne:dx≠x
theorem SS{h:Heap}{dx:Addr}{mA:Str->Option Value}(n:h.Ns1 dx mA):∃od,h.get? dx=some od/\∀name,PySem.W.lookIn name od=some (mA name):=by
 obtain⟨o,es,ep,ho,hd,hk,_,hm⟩:=n
 refine⟨o,ho,fun name=>?_⟩
 have e:=hm name
 unfold nsFind findBy at e
 rw[<- Array.find?_toList] at e
 unfold PySem.W.lookIn
 rw[hd]
 dsimp only
 split
 ·rename_i y q
  rw[q] at e
  exact congrArg some e
 ·rename_i q
  rw[q] at e
  have a:es.toList.any (·.refKey)=false:=by
   rw[List.any_eq_false]
   intro y hy
   obtain⟨z,t,hkey⟩:=hk y (Array.mem_toList_iff.mp hy)
   simp[DictEntry.refKey,hkey]
  have a':¬es.toList.any (·.refKey)=true:=by rw[a];exact xa7
  rw[xaz a']
  exact congrArg some e
theorem mZ.look{h:Heap}{x dx C:Addr}{mA:Str->Option Value}(I:mZ h x dx C mA):∃od,PySem.W.InstAt h x (PySem.W.instObj C dx) C (some od)/\∀name,PySem.W.lookIn name od=some (mA name):=
 let⟨od,ho,hl⟩:=SS I.ns
 ⟨od,⟨I.obj,rfl,rfl,ho⟩,hl⟩
section
variable{prog:Program}{w:World}{A:Around}{E:Value->Shared->Prop}{s:Shared}{K:xFg}{x dx C f:Addr}{mA:Str->Option Value}{name:Str}{v:Value}
theorem SU{expr:Bool}{Q:Value->Shared->Prop}(X:K.In s.heap)(I:mZ s.heap x dx C mA)(hg:PySem.W.plainGet K C name=true)(hh:PySem.W.hasDictIn K C=true)
  (ha:PySem.W.findIn K (.ref C) name=some none) (hv:mA name=some v) (hv':PySem.W.handedIn v=true) (h:Q v { s with toks:=s.toks+1 }) :
  wpAny (model prog w) A (getAttr (.ref x) name expr) Q E s:=by
 obtain⟨od,J,hl⟩:=I.look
 exact PySem.W.get_value X J (PySem.W.plainGet_of hg).1 (PySem.W.findObj_own hh ha rfl (by rw[hl,hv])) hv' h
theorem SV{pl:Sem Bool}{Q:Value×List Value->Shared->Prop}(X:K.In s.heap)(I:mZ s.heap x dx C mA)(hg:PySem.W.plainGet K C name=true)
  (hf:PySem.W.findIn K (.ref C) name=some (some (.ref f))) (ht:PySem.W.isFn K (.ref f)=true) (hv:mA name=none) (h:Q (.ref f,[.ref x]) s) :
  wpAny (model prog w) A (getMethod (.ref x) name pl) Q E s:=by
 obtain⟨od,J,hl⟩:=I.look
 exact PySem.W.method_fn X J (PySem.W.plainGet_of hg).1 (PySem.W.plainGet_of hg).2 hf (beq_iff_eq.mp ht) (by show (PySem.W.lookIn name od).map (·.isSome)=some false;rw[hl,hv];rfl) h
theorem SW{ns:List Str}{Q:Unit->Shared->Prop}(X:K.In s.heap)(I:mZ s.heap x dx C mA)
  (hs:PySem.W.findIn K (.ref C) "__setattr__"=some (some (.builtin "object.__setattr__"))) (hp:PySem.W.plainOver K C=true) (ht:PySem.W.takerIn K C name=some none) (hh:PySem.W.hasDictIn K C=true)
  (hw:PySem.Within mA ns) (hsz:ns.length<=sizeLine)
  (h:∀h',mZ h' x dx C (fun y=>if y=name then some v else mA y)->Heap.SameBut dx s.heap h'->Q () { s with heap:=h',toks:=s.toks+2 }) :
  wpAny (model prog w) A (setAttr (.ref x) name v) Q E s:=by
 obtain⟨od,J,hl⟩:=I.look
 refine PySem.W.set_plain X J hs (PySem.W.osa_open (s:={ s with toks:=s.toks+1 }) (r:=none) X J hp ht fun b=>?_)
 obtain⟨cd,hc,hd'⟩:=PySem.W.any_some hh
 have hx:s.heap.get? x=some ⟨.ref C,some dx,.plain,#[]⟩:=I.obj
 refine xai (xa4 (xai (xai (wpAny_loadPart hx (xai (PySem.W.Looks.here (s:={ s with toks:=s.toks+1 }) (PySem.W.looks_clsIn X hc) ?_))))))
 rw[hd']
 refine xa4 (a:=some dx) (xai (xa4 (xai ?_)))
 refine wpAny_nsSet1 (s:={ s with toks:=s.toks+1 }) I.ns fun h' hn2 hs2=>?_
 obtain⟨oD,esD,epD,hoD,hdD,hcD⟩:=hn2.count (PySem.Within.cons name v hw)
 refine xai (wpAny_lookBehind hoD (by rw[hdD];exact pastItsLine_dict (xah hcD (by rw[xad];omega))) ?_)
 exact xa4 (h _ ⟨(hs2.2 _ (xbd I.ne)).trans I.obj,hn2,I.ne⟩ hs2)
theorem SX{R:Result->Shared->Prop}{vs:List Value}{kw:List (Str×Value)}(X:K.In s.heap)(hm:PySem.W.makesIn K C=true)
  (hi:PySem.W.findIn K (.ref C) "__init__"=some (some (.ref f))) (hf:PySem.W.typeIn K (.ref f)=some (.type "function"))
  (h : codeAny (model prog w) (A.under (.builtin "type.__call__" ⟨.ref C :: vs, kw⟩)) (.call (.ref f) ⟨.ref (s.heap.objs.size + 1) :: vs, kw⟩) (PySem.W.InitBack (s.heap.objs.size + 1) R)
   { s with heap:=(s.heap.push PySem.W.emptyDict).push (PySem.W.instObj C s.heap.objs.size) }) :
  codeAny (model prog w) A (.call (.ref C) ⟨vs,kw⟩) R s:=by
 obtain⟨hh,g,d,t,os⟩:=s
 exact PySem.W.make_core (PySem.W.makes_of X hm) (PySem.W.looks_findIn X hi) (fun self=>PySem.W.bind_fn X self hf) (.inl rfl) h
end
def fE(f:Str)(v:V):List (Str×V)->List (Str×V)
 |[]=>[(f,v)]
 |(g,x)::r=>if g=f then (g,v)::r else (g,x)::fE f v r
theorem CY(f g:Str)(v:V):∀fs:List (Str×V),(fE f v fs).lookup g=if g=f then some v else fs.lookup g
 |[]=>by
  show List.lookup g [(f,v)]=_
  by_cases h:g=f
  ·have hb:(g==f)=true:=beq_iff_eq.mpr h
   simp only[List.lookup,hb,xa5 h]
  ·have hb:(g==f)=false:=beq_eq_false_iff_ne.mpr h
   simp only[List.lookup,hb,xaz h]
 |(k,x)::r=>by
  have ih:=CY f g v r
  rw[show fE f v ((k,x)::r)=(if k=f then (k,v)::r else (k,x)::fE f v r) from rfl]
  by_cases hk:k=f
  ·rw[xa5 hk]
   by_cases h:g=k
   ·have hb:(g==k)=true:=beq_iff_eq.mpr h
    simp only[List.lookup,hb,xa5 (h.trans hk)]
   ·have hb:(g==k)=false:=beq_eq_false_iff_ne.mpr h
    simp only[List.lookup,hb,xaz (fun e:g=f=>h (e.trans hk.symm))]
  ·rw[xaz hk]
   by_cases h:g=k
   ·have hb:(g==k)=true:=beq_iff_eq.mpr h
    simp only[List.lookup,hb,xaz (fun e:g=f=>hk (h.symm.trans e))]
   ·have hb:(g==k)=false:=beq_eq_false_iff_ne.mpr h
    simp only[List.lookup,hb]
    exact ih
theorem xQ(f:Str)(v:V):∀fs:List (Str×V),f∈(fE f v fs).map (·.1)/\∀g,g∈fs.map (·.1)->g∈(fE f v fs).map (·.1)
 |[]=>⟨by simp[fE],fun g h=>by simp at h⟩
 |(k,x)::r=>by
  obtain⟨i1,i2⟩:=xQ f v r
  rw[show fE f v ((k,x)::r)=(if k=f then (k,v)::r else (k,x)::fE f v r) from rfl]
  by_cases hk:k=f
  ·rw[xa5 hk]
   subst hk
   exact⟨by simp,fun g h=>by simpa using h⟩
  ·rw[xaz hk]
   refine⟨?_,fun g h=>?_⟩
   ·rw[xbg]
    exact xae _ i1
   ·rw[xbg] at h ⊢
    rcases xal.mp h with e|e
    ·exact xal.mpr (.inl e)
    ·exact xae _ (i2 g e)
theorem CZ(f:Str)(v:V):∀fs:List (Str×V),(fE f v fs).length<=fs.length+1
 |[]=>by simp[fE]
 |(k,x)::r=>by
  have ih:=CZ f v r
  rw[show fE f v ((k,x)::r)=(if k=f then (k,v)::r else (k,x)::fE f v r) from rfl]
  by_cases hk:k=f
  ·rw[xa5 hk,xad,xad];omega
  ·rw[xaz hk,xad,xad];omega
theorem jY.some_of{v:V}{o:Option Value}(r:jY (some v) o):∃u,o=some u/\aZ v u:=by
 cases o with
 |none=>exact(show False from r).elim
 |some u=>exact⟨u,rfl,r⟩
theorem jY.none_of{o:Option Value}(r:jY none o):o=none:=by
 cases o with
 |none=>rfl
 |some u=>exact(show False from r).elim
theorem SY{v:V}{u:Value}(r:aZ v u):PySem.W.handedIn u=true:=by
 cases v with
 |non=>cases (show u=Value.none from r);rfl
 |bl b=>cases (show u=Value.bool b from r);rfl
 |int i=>obtain⟨t,e⟩:=(show ∃t,u=Value.int i t from r);cases e;rfl
 |str x=>obtain⟨t,e⟩:=(show ∃t,u=Value.str x t from r);cases e;rfl
 |byt b=>obtain⟨t,e⟩:=(show ∃t,u=Value.bytes b t from r);cases e;rfl
 |flt b=>obtain⟨t,e⟩:=(show ∃t,u=Value.float b t from r);cases e;rfl
 |ref a=>cases (show u=Value.ref a from r);rfl
 |ty n=>cases (show u=Value.type n from r);rfl
section
variable{P:Program}{w:World}{H H':Hp}{h h':Heap}{a C dx:Addr}{fs fs':List (Str×V)}
theorem xR(hok:c8 P w H h)(e:H a=some (.ins C dx fs)):∃mA,mZ h a dx C mA/\(∀f,jY (fs.lookup f) (mA f))/\PySem.Within mA (fs.map (·.1))/\fs.length<=1000/\H dx=some (.own a):=by
 obtain⟨d,z,ne,ob,mA,n,r,q⟩:=(show eK P w H h a (.ins C dx fs) from hok a _ e)
 exact⟨mA,⟨ob,n,ne⟩,r,q,z,d⟩
end
structure jG(K:xFg)(C:Addr):Prop where
 pg:PySem.W.plainGet K C Str.empty=true
 hd:PySem.W.hasDictIn K C=true
 po:PySem.W.plainOver K C=true
 sa:PySem.W.findIn K (.ref C) "__setattr__"=some (some (.builtin "object.__setattr__"))
theorem jG.get{K:xFg}{C:Addr}(c:jG K C)(f:Str):PySem.W.plainGet K C f=true:=c.pg
def kN(K:xFg)(C:Addr)(f:Str):Prop:=PySem.W.findIn K (.ref C) f=some none
theorem kN.taker{K:xFg}{C:Addr}{f:Str}(n:kN K C f):PySem.W.takerIn K C f=some none:=by
 unfold PySem.W.takerIn
 rw[show PySem.W.findIn K (.ref C) f=some none from n]
 rfl
structure lJ(K:xFg)(C:Addr)(m:Str)(f:Addr):Prop where
 at_:PySem.W.findIn K (.ref C) m=some (some (.ref f))
 fn:PySem.W.isFn K (.ref f)=true
 kp:PySem.W.keepIn K (.ref f)=true
section
variable{X:Cx}{pins:List (Addr×Obj)}{Z:St}{H:Hp}{s:Shared}{a C dx:Addr}{fs:List (Str×V)}{f:Str}{v:V}{A:Around}{E:Value->Shared->Prop}
theorem C0{b:Bool}{Q:Value->Shared->Prop}(I:aH X pins Z H s)(e:H a=some (.ins C dx fs))(c:jG X.K C)(n:kN X.K C f)(l:fs.lookup f=some v)
  (h:∀u s',aH X pins Z H s'->aZ v u->Q u s'):wpAny (model X.prog X.w) A (getAttr (.ref a) f b) Q E s:=by
 obtain⟨mA,O,r,_,_,_⟩:=xR I.hok e
 obtain⟨u,hu,ru⟩:=jY.some_of (v:=v) (o:=mA f) (by rw[<- l];exact r f)
 exact SU I.kIn O (c.get f) c.hd n hu (SY ru) (h u _ (I.tok _) ru)
theorem C1{m:Str}{g:Addr}{pl:Sem Bool}{Q:Value×List Value->Shared->Prop}(I:aH X pins Z H s)(e:H a=some (.ins C dx fs))(c:jG X.K C)(k:lJ X.K C m g)(l:fs.lookup m=none)
  (h:Q (.ref g,[.ref a]) s):wpAny (model X.prog X.w) A (getMethod (.ref a) m pl) Q E s:=by
 obtain⟨mA,O,r,_,_,_⟩:=xR I.hok e
 have hn:mA m=none:=jY.none_of (by rw[<- l];exact r m)
 exact SV I.kIn O (c.get m) k.at_ k.fn hn h
theorem C2{y:V}{u:Value}{Q:Unit->Shared->Prop}(I:aH X pins Z H s)(e:H a=some (.ins C dx fs))(c:jG X.K C)(n:kN X.K C f)(hl:fs.length<1000)(ry:aZ y u)
  (h:∀s',aH X pins Z (aU H a (.ins C dx (fE f y fs))) s'->Q () s'):wpAny (model X.prog X.w) A (setAttr (.ref a) f u) Q E s:=by
 obtain⟨mA,O,r,wi,_,ho⟩:=xR I.hok e
 have hz:(fs.map (·.1)).length<=sizeLine:=by rw[xab,sizeLine_eq];omega
 refine SW I.kIn O c.sa c.po n.taker c.hd wi hz fun h' O' sb=>h _ ?_
 have hd:∃o,h'.get? dx=some o:=let⟨o,_,_,e',_⟩:=O'.ns;⟨o,e'⟩
 refine I.write (x:=a) (e:=dx) (by rw[e];exact True.intro) (.inr ho) (fun b q hb z=>(sb.2 b hb).trans z) hd ?_
 refine⟨by rw[bF O.ne];exact ho,?_,O.ne,O'.obj,_,O'.ns,fun g=>?_,fun g hg=>?_⟩
 ·have:=CZ f y fs;omega
 ·show jY ((fE f y fs).lookup g) (if g=f then some u else mA g)
  rw[CY]
  by_cases q:g=f
  ·rw[xa5 q,xa5 q];exact ry
  ·rw[xaz q,xaz q];exact r g
 ·by_cases q:g=f
  ·rw[q];exact(xQ f y fs).1
  ·refine(xQ f y fs).2 g (wi g fun z=>hg ?_)
   show (if g=f then some u else mA g)=none
   rw[xaz q];exact z
theorem aH.made(I:aH X pins Z H s):aH X pins Z (aU (aU H s.heap.objs.size (.own (s.heap.objs.size+1))) (s.heap.objs.size+1) (.ins C s.heap.objs.size []))
  { s with heap:=(s.heap.push PySem.W.emptyDict).push (PySem.W.instObj C s.heap.objs.size) }:=by
 have e1:(s.heap.push PySem.W.emptyDict).get? s.heap.objs.size=some PySem.W.emptyDict:=xa6 s.heap rfl
 have e2:((s.heap.push PySem.W.emptyDict).push (PySem.W.instObj C s.heap.objs.size)).get? (s.heap.objs.size+1)=some (PySem.W.instObj C s.heap.objs.size):=by
  have:=xa6 (s.heap.push PySem.W.emptyDict) (o:=PySem.W.instObj C s.heap.objs.size) rfl
  rwa [xcj] at this
 have e3:(s.heap.push PySem.W.emptyDict).Ns s.heap.objs.size (fun _=>none):=⟨PySem.W.emptyDict,#[],_,e1,rfl,(fun e he=>xat he (by simp)),fun _=>rfl⟩
 have I1:=I.laid (a:=s.heap.objs.size) (o:=.own (s.heap.objs.size+1)) (h':=s.heap.push PySem.W.emptyDict) (t':=s.toks) (fun b u q=>xaj _ q) (xak _) ⟨_,e1⟩
 refine I1.laid (a:=s.heap.objs.size+1) (o:=.ins C s.heap.objs.size []) (t':=s.toks) (fun b u q=>xaj _ q) (Nat.le_of_eq (xcj _ _)) ?_
 have ne:s.heap.objs.size≠s.heap.objs.size+1:=xbf (xb5 _)
 refine⟨by rw[bF ne,bV],xbz _,ne,e2,fun _=>none,(Heap.Ns1.of_empty e3).at fun o q=>xaj _ q,fun _=>True.intro,fun y hy=>xat rfl hy⟩
theorem SZ{prog:Program}{w:World}{env:Env}{e:Expr}{f:Str}{pos:Pos}{s:Shared}{Q:Value->Shared->Prop}(hb:attributeBase e f env (eval e env)=eval e env)
  (h:wpAny (model prog w) A (eval e env) (fun o s₁=>wpAny (model prog w) A (getAttr o f true) Q E s₁) E s):wpAny (model prog w) A (eval (.Attribute e f pos) env) Q E s:=
 Attribute_any_ h (by rw[arm_eval_Attribute,hb])
end
def S0(K:xFg)(ta:TE)(f:Str):TE:=fun Z H Q=>ta Z H fun x H1=>∃a C dx fs v,x=.ref a/\H1 a=some (.ins C dx fs)/\jG K C/\kN K C f/\fs.lookup f=some v/\Q v H1
def S4(K:xFg)(ta tv:TE)(f:Str):TS:=fun D Z H=>tv Z H fun y H1=>ta Z H1 fun x H2=>∃a C dx fs,x=.ref a/\H2 a=some (.ins C dx fs)/\jG K C/\kN K C f/\fs.length<1000/\
 D.nx Z (aU H2 a (.ins C dx (fE f y fs)))
def C3(X:Cx)(op:Operator)(rd:V->V->Hp->VK->Prop):Prop:=
 ∀(pins:List (Addr×Obj)) (s:Shared) (Z:St) (H:Hp) (x y:V) (u v:Value) (Q:VK),aH X pins Z H s->aZ x u->aZ y v->rd x y H Q->wpAny (model X.prog X.w) X.A (inplaceOp op u v) (EP X pins Z Q) X.xe s
def S5(K:xFg)(ta tv:TE)(rd:V->V->Hp->VK->Prop)(f:Str):TS:=fun D Z H=>ta Z H fun x H1=>∃a C dx fs v,x=.ref a/\H1 a=some (.ins C dx fs)/\jG K C/\kN K C f/\fs.lookup f=some v/\
 tv Z H1 fun y H2=>rd v y H2 fun z H3=>∃dx' fs',H3 a=some (.ins C dx' fs')/\fs'.length<1000/\D.nx Z (aU H3 a (.ins C dx' (fE f z fs')))
section
variable{X:Cx}{o e value:Expr}{f:Str}{pos pos' tpos:Pos}{ta tv:TE}
theorem t8(he:PE X e ta)(hb:attributeBase e f X.env (eval e X.env)=eval e X.env):PE X (.Attribute e f pos) (S0 X.K ta f):=by
 intro pins s Z H Q I h
 refine SZ hb (aX (he pins s Z H _ I h) fun u s1 ⟨x,H1,I1,rx,a,C,dx,fs,v,ex,ea,c,n,l,q⟩=>?_)
 subst ex
 obtain rfl:u=Value.ref a:=rx
 exact C0 I1 ea c n l fun u' s2 I2 ru=>⟨v,H1,I2,ru,q⟩
theorem C4(ha:PE X o ta)(hv:PE X value tv)(hs:swapsWith value (some (.Attribute o f pos')) pos.line X.env=pure false):PS X (.Assign [.Attribute o f pos'] value pos) (S4 X.K ta tv f):=by
 intro pins s Z H D I h
 refine plainObj_wpAny_Assign_Attribute (aX (hv pins s Z H _ I h) fun u s1 ⟨y,H1,I1,ry,q⟩=>aX (ha pins s1 Z H1 _ I1 q) fun ov s2 ⟨x,H2,I2,rx,a,C,dx,fs,ex,ea,c,n,l,q2⟩=>?_) hs
 subst ex
 obtain rfl:ov=Value.ref a:=rx
 exact C2 I2 ea c n l ry fun s3 I3=>⟨Z,_,I3,q2⟩
theorem S6{op:Operator}{rd:V->V->Hp->VK->Prop}(ha:PE X o ta)(hv:PE X value tv)(hop:C3 X op rd):PS X (.AugAssign (.Attribute o f tpos) op value pos) (S5 X.K ta tv rd f):=by
 intro pins s Z H D I h
 refine wpAny_AugAssign_AttributeAny (aX (ha pins s Z H _ I h) fun ov s1 ⟨x,H1,I1,rx,a,C,dx,fs,v,ex,ea,c,n,l,q⟩=>?_)
 subst ex
 obtain rfl:ov=Value.ref a:=rx
 refine C0 I1 ea c n l fun u s2 I2 ru=>aX (hv pins s2 Z H1 _ I2 q) fun w3 s3 ⟨y,H2,I3,ry,q3⟩=>aX (hop pins s3 Z H2 v y u w3 _ I3 ru ry q3) fun w4 s4 ⟨z,H3,I4,rz,dx',fs',ea',l',q4⟩=>?_
 exact C2 I4 ea' c n l' rz fun s5 I5=>⟨Z,_,I5,q4⟩
def S7:V->V->Hp->VK->Prop:=fun x y H Q=>∃i j,x=.int i/\y=.int j/\Q (.int (i+j)) H
theorem S8:C3 X .Add S7:=by
 rintro pins s Z H x y u v Q I rx ry ⟨i,j,rfl,rfl,q⟩
 obtain⟨t,rfl⟩:=(show ∃t,u=Value.int i t from rx)
 obtain⟨t',rfl⟩:=(show ∃t',v=Value.int j t' from ry)
 exact PyProof.Rows.iadd_int ⟨.int (i+j),H,I.tok _,⟨_,rfl⟩,q⟩
theorem zdY{pl:Sem Bool}{m:Str}{apos:Pos}{args:List Expr}{pins:List (Addr×Obj)}{s:Shared}{Z:St}{H:Hp}{Q:Value->Shared->Prop}{te:TE}(he:PE X e te)(I:aH X pins Z H s)
  (h : te Z H fun x H1 => ∃ a C dx fs g, x = .ref a /\ H1 a = some (.ins C dx fs) /\ jG X.K C /\ lJ X.K C m g /\ fs.lookup m = none /\
   ∀s1,aH X pins Z H1 s1->wpAny (model X.prog X.w) X.A (callWith pos (.ref g) [.ref a] (backTo pos (starEach args X.env)) (backToKw pos (keywordEach [] X.env))) Q X.xe s1)
  (ht : eval (.Call (.Attribute e m apos) args [] pos) X.env = (do
   let ov<-eval e X.env
   standAt apos.atName
   let (f,first)<-holding [ov] (getMethod ov m pl)
   callWith pos f first (backTo pos (starEach args X.env)) (backToKw pos (keywordEach [] X.env)))) :
  wpAny (model X.prog X.w) X.A (eval (.Call (.Attribute e m apos) args [] pos) X.env) Q X.xe s:=by
 refine PySem.W.methodCall_KW (pl:=pl) (aX (he pins s Z H _ I h) fun u s1 ⟨x,H1,I1,rx,a,C,dx,fs,g,ex,ea,c,k,l,q⟩=>?_) ht
 subst ex
 obtain rfl:u=Value.ref a:=rx
 exact C1 I1 ea c k l (q s1 I1)
end
end L2
namespace L2
open PySem.Spec PyProof.Rows
structure cQ(k:Nat)(A:Around):Prop where
 hd:A.handled=none
 dp:A.depth+3*k+5<recursionLimit
 un:A.units+16*k+200<cLine
theorem cQ.mono{j k:Nat}{A:Around}(r:cQ k A)(h:j<=k):cQ j A:=⟨r.hd,by have:=r.dp;omega,by have:=r.un;omega⟩
theorem cQ.deeper{k:Nat}{A:Around}(r:cQ (k+1) A)(env:Env):cQ k (A.deeper env):=
 ⟨r.hd,by have:=r.dp;show A.depth+1+3*k+5<_;omega,by have:=r.un;show A.units+3+16*k+200<_;omega⟩
theorem S9{A:Around}{C:Addr}{us:List Value}{kw:List (Str×Value)}:(A.under (.builtin "type.__call__" ⟨.ref C::us,kw⟩)).depth=A.depth+1:=by
 first|rfl|simp[Around.under,Code.weight,Code.isCreation,Code.isGuard,Code.isCaller,Code.frames,Code.isFrame,guardIds]
theorem TB{A:Around}{C:Addr}{us:List Value}{kw:List (Str×Value)}:(A.under (.builtin "type.__call__" ⟨.ref C::us,kw⟩)).units=A.units+1:=by
 first|rfl|simp[Around.under,Code.cUnits,Code.frames,Code.isFrame]
theorem cQ.make{k:Nat}{A:Around}(r:cQ (k+1) A)(C:Addr)(us:List Value)(kw:List (Str×Value)):cQ k (A.under (.builtin "type.__call__" ⟨.ref C::us,kw⟩)):=
 ⟨r.hd,by have:=r.dp;rw[S9];omega,by have:=r.un;rw[TB];omega⟩
theorem cQ.depth{k:Nat}{A:Around}(r:cQ k A):A.depth<recursionLimit:=by have:=r.dp;omega
def xS:TA:=fun _ H Q=>Q [] H
def TC(ta:TE)(tr:TA):TA:=fun Z H Q=>ta Z H fun x H1=>tr Z H1 fun xs H2=>Q (x::xs) H2
section
variable{X:Cx}{e:Expr}{es:List Expr}{te:TE}{t:TA}{pos:Pos}
theorem lK:PA X [] xS:=fun _ _ _ _ H Q I h=>Calls.spliced_nil ⟨[],H,I,.nil,h⟩
theorem lL(ha:PE X e te)(hr:PA X es t)(hs:starEach (e::es) X.env=(false,eval e X.env)::starEach es X.env:=by rfl):PA X (e::es) (TC te t):=by
 intro pos pins s Z H Q I h
 rw[hs]
 show wpAny _ _ (spliced ((false,eval e X.env)::backTo pos (starEach es X.env))) _ _ s
 refine Calls.spliced_cons (aX (ha pins s Z H _ I h) fun u s1 ⟨x,H1,I1,r1,q1⟩=>?_)
 exact aX (hr pos pins s1 Z H1 _ I1 q1) fun us s2 ⟨xs,H2,I2,r2,q2⟩=>⟨x::xs,H2,I2,.cons r1 r2,q2⟩
def TD(t:TA):TE:=fun Z H Q=>t Z H fun xs H1=>xs.length<=sizeLine/\∀p,H1 p=none->Q (.ref p) (aU H1 p (.tup xs))
def TH(t:TA):TE:=fun Z H Q=>t Z H fun xs H1=>xs.length<=sizeLine/\∀p,H1 p=none->Q (.ref p) (aU H1 p (.lst xs))
theorem TJ{x1}(h:PA X es t):PE X (.Tuple es x1 pos) (TD t):=by
 intro pins s Z H Q I hq
 refine wpAny_Tuple_spliced (aX (h pos pins s Z H _ I hq) fun us s1 ⟨xs,H1,I1,r,z,q⟩=>⟨by rw[<- r.length];exact z,?_⟩)
 have hf:H1 s1.heap.objs.size=none:=I1.hok.fresh (xak _)
 refine⟨.ref s1.heap.objs.size,aU H1 s1.heap.objs.size (.tup xs),I1.laid (t':=s1.toks) (fun b u e=>xaj _ e) (xak _) ?_,rfl,q _ hf⟩
 exact⟨z,us,r,⟨_,xa6 _ rfl,rfl,⟨_,rfl⟩,rfl⟩⟩
theorem xT(h:PA X es t):PE X (.List es pos) (TH t):=by
 intro pins s Z H Q I hq
 refine wpAny_List_spliced (aX (h pos pins s Z H _ I hq) fun us s1 ⟨xs,H1,I1,r,z,q⟩=>⟨by rw[<- r.length];exact z,?_⟩)
 have hf:H1 s1.heap.objs.size=none:=I1.hok.fresh (xak _)
 refine⟨.ref s1.heap.objs.size,aU H1 s1.heap.objs.size (.lst xs),I1.laid (t':=s1.toks) (fun b u e=>xaj _ e) (xak _) ?_,rfl,q _ hf⟩
 exact⟨z,us,0,r,xa6 _ rfl⟩
end
abbrev Sp:=List V->Hp->VK->XK->Prop
abbrev eR:=List Env->Hp->Shared->XK->Value->Shared->Prop
structure m5(P:Program)(w:World)(K:xFg)(mg:Str->Option Value)(base:Heap)(A:Around)(outer:List Env)(s:Shared)(H:Hp):Prop where
 frames:A.frames=some outer
 mod:Mod K mg base
 bs:∀b o,base.get? b=some o->s.heap.get? b=some o/\H b=none
 bsz:base.objs.size<=s.heap.objs.size
 funs:s.heap.FunFrames base outer
 frf:∀b∈cG outer,H b=none
 hok:c8 P w H s.heap
 bare:AllBare s.gens
def CE(outer:List Env)(P:Program)(w:World)(H:Hp)(s:Shared)(Q:VK)(u:Value)(s':Shared):Prop:=
 ∃v H',s'.os=s.os/\AllBare s'.gens/\Un (cG outer) [] H H' s.heap s'.heap/\c8 P w H' s'.heap/\aZ v u/\Q v H'
def CR(CX:eR)(outer:List Env)(P:Program)(w:World)(H:Hp)(s:Shared)(Q:VK)(E:XK)(r:Result)(s':Shared):Prop:=
 match r with
 |.ok (.ret u)=>CE outer P w H s Q u s'
 |.ok _=>False
 |.error e=>CX outer H s E e s'
structure cN(P:Program)(w:World)(K:xFg)(mg:Str->Option Value)(base:Heap)(CX:eR)(k:Nat)(f:Addr)(fd:FuncData)(ps:List Str)(sp:Sp):Prop where
 len:∀vs H Q E,sp vs H Q E->vs.length=ps.length
 run:∀(A:Around) (outer:List Env) (s:Shared) (H:Hp) (args:Args) (us:List Value) (vs:List V) (Q:VK) (E:XK),cQ k A->m5 P w K mg base A outer s H->BindsTo s fd args (ps.zip us)->bA vs us->sp vs H Q E->
  codeAny (model P w) A (.call (.ref f) args) (CR CX outer P w H s Q E) s
theorem cN.mono{P:Program}{w:World}{K:xFg}{mg:Str->Option Value}{base:Heap}{CX:eR}{j k:Nat}{f:Addr}{fd:FuncData}{ps:List Str}{sp:Sp}(F:cN P w K mg base CX j f fd ps sp)(h:j<=k) :
  cN P w K mg base CX k f fd ps sp:=⟨F.len,fun A outer s H args us vs Q E hr=>F.run A outer s H args us vs Q E (hr.mono h)⟩
theorem cN.imp{P:Program}{w:World}{K:xFg}{mg:Str->Option Value}{base:Heap}{CX:eR}{k:Nat}{f:Addr}{fd:FuncData}{ps:List Str}{sp sp':Sp}(F:cN P w K mg base CX k f fd ps sp)
  (h:∀vs H Q E,sp' vs H Q E->sp vs H Q E):cN P w K mg base CX k f fd ps sp':=
 ⟨fun vs H Q E q=>F.len vs H Q E (h _ _ _ _ q),fun A outer s H args us vs Q E hr he hb hv hs=>F.run A outer s H args us vs Q E hr he hb hv (h _ _ _ _ hs)⟩
theorem m5.make{P:Program}{w:World}{K:xFg}{mg:Str->Option Value}{base:Heap}{A:Around}{outer:List Env}{s:Shared}{H:Hp}(e:m5 P w K mg base A outer s H)(C:Addr)(us:List Value)(kw:List (Str×Value)) :
  m5 P w K mg base (A.under (.builtin "type.__call__" ⟨.ref C::us,kw⟩)) outer s H:=⟨by first|exact e.frames|(simpa [Around.under,Code.envs,Code.isFrame,pushEnvs] using e.frames),e.mod,e.bs,e.bsz,e.funs,e.frf,e.hok,e.bare⟩
section
variable{X:Cx}{pins:List (Addr×Obj)}{Z:St}{H:Hp}{s s':Shared}
theorem aH.env0(I:aH X pins Z H s):m5 X.prog X.w X.K X.mg X.base X.A X.stack s H:=
 ⟨I.ok.frames,I.ok.mod,I.bs,xah I.ok.bsz I.sz,I.stack,I.stkFree,I.hok,I.bare⟩
theorem aH.after{Q:VK}{u:Value}(I:aH X pins Z H s)(h:CE X.stack X.prog X.w H s Q u s'):EP X pins Z Q u s':=by
 obtain⟨v,H',os,bare,un,hok,r,q⟩:=h
 obtain⟨hh,g,d,t,os'⟩:=s'
 obtain rfl:os'=s.os:=os
 exact⟨v,H',I.call (h':=hh) (g':=g) (d':=d) (t':=t) (ch:=[]) un hok bare (fun b z=>xat z (by simp)),r,q⟩
end
def C5(sp:Sp)(dvs:List V)(E:XK)(t:TA):TE:=fun Z H Q=>t Z H fun vs H1=>sp (vs++dvs) H1 Q E
def TK(C:Addr)(m:Str)(sp:Sp)(dvs:List V)(E:XK)(ta:TE)(t:TA):TE:=fun Z H Q=>ta Z H fun x H1=>∃a dx fs,x=.ref a/\H1 a=some (.ins C dx fs)/\fs.lookup m=none/\
 t Z H1 fun vs H2=>sp (x::(vs++dvs)) H2 Q E
def TL(C:Addr)(sp:Sp)(dvs:List V)(E:XK)(t:TA):TE:=fun Z H Q=>t Z H fun vs H1=>∀x dx,H1 x=none->H1 dx=none->dx≠x->
 sp (.ref x::(vs++dvs)) (aU (aU H1 dx (.own x)) x (.ins C dx [])) (fun v H2=>v=.non/\Q (.ref x) H2) E
def eS(K:xFg)(fd:FuncData)(ps:List Str)(ds:List Value):Prop:=
 ∀(s:Shared) (us:List Value),K.In s.heap->(us++ds).length=ps.length->BindsTo s fd ⟨us,[]⟩ (ps.zip (us++ds))
theorem eS.all{K:xFg}{fd:FuncData}{ps:List Str}(h:∀us:List Value,us.length=ps.length->bindArgs fd ⟨us,[]⟩=pure (ps.zip us)):eS K fd ps []:=fun s us _ hl=>by
 rw[xa8] at hl ⊢
 exact .of_eq (h us hl)
def kO(CX:eR)(X:Cx)(E:XK):Prop:=∀(pins:List (Addr×Obj)) (Z:St) (H:Hp) (s:Shared) (e:Value) (s':Shared),aH X pins Z H s->CX X.stack H s E e s'->X.xe e s'
section
variable{X:Cx}{CX:eR}{k:Nat}{f C:Addr}{fd:FuncData}{ps:List Str}{sp:Sp}{dvs:List V}{ds:List Value}{E:XK}{x m:Str}{p pos apos:Pos}{e o:Expr}{es:List Expr}{ta:TE}{t:TA}
theorem xU{pins:List (Addr×Obj)}{Z:St}{H:Hp}{s:Shared}{Q:VK}{us:List Value}{vs:List V}(F:cN X.prog X.w X.K X.mg X.base CX k f fd ps sp)(hr:cQ k X.A)(hb:eS X.K fd ps ds)(hd:bA dvs ds)(hx:kO CX X E)
  (I:aH X pins Z H s) (r:bA vs us) (h:sp (vs++dvs) H Q E):wpAny (model X.prog X.w) X.A (call (.ref f) us) (EP X pins Z Q) X.xe s:=by
 have r2:bA (vs++dvs) (us++ds):=r.append hd
 have hl:(us++ds).length=ps.length:=by rw[<- r2.length];exact F.len _ _ _ _ h
 refine wpAny_call (codeAny_mono (F.run X.A X.stack s H ⟨us,[]⟩ (us++ds) (vs++dvs) Q E hr I.env0 (hb s us I.kIn hl) r2 h) fun r s' hq=>?_)
 cases r with
 |error e=>exact hx pins Z H s e s' I hq
 |ok fl=>
  cases fl with
  |ret u=>exact I.after hq
  |next=>exact False.elim hq
  |brk=>exact False.elim hq
  |cont=>exact False.elim hq
theorem C6(F:cN X.prog X.w X.K X.mg X.base CX k f fd ps sp)(hr:cQ k X.A)(hg:Gl X x)(hm:X.mg x=some (.ref f))(hk:PySem.W.keepIn X.K (.ref f)=true)(hb:eS X.K fd ps ds)(hd:bA dvs ds)(hx:kO CX X E)
  (ha:PA X (e::es) t) (hdb:(x==("__debug__":Str))=false:=by decide) (he:starEach (e::es) X.env=(false,eval e X.env)::starEach es X.env:=by rfl) (hpl:(backTo pos (starEach es X.env)).any (·.1)=false:=by rfl) :
  PE X (.Call (.Name x p) (e::es) [] pos) (C5 sp dvs E t):=by
 intro pins s Z H Q I h
 refine wpAny_Call_Name_kw (mW I hg hm ?_ hdb)
 refine PySem.W.callWith_K (h₀:=X.base) I.ok.mod.kin hk (aX (ha pos pins s Z H _ I h) fun us s1 ⟨vs,H1,I1,r,q⟩=>⟨I1.kIn,?_⟩) he hpl
 exact xU F hr hb hd hx I1 r q
theorem TM(F:cN X.prog X.w X.K X.mg X.base CX k f fd ps sp)(hr:cQ k X.A)(hg:Gl X x)(hm:X.mg x=some (.ref f))(hk:PySem.W.keepIn X.K (.ref f)=true)(hb:eS X.K fd ps ds)(hd:bA dvs ds)(hx:kO CX X E)
  (hdb:(x==("__debug__":Str))=false:=by decide):PE X (.Call (.Name x p) [] [] pos) (C5 sp dvs E xS):=by
 intro pins s Z H Q I h
 refine wpAny_Call_Name_kw (mW I hg hm ?_ hdb)
 exact PySem.W.callWith_K0 I.kIn hk (xU (us:=[]) F hr hb hd hx I .nil h)
theorem xV{pl:Sem Bool}(he:PE X o ta)(c:jG X.K C)(hm:lJ X.K C m f)(F:cN X.prog X.w X.K X.mg X.base CX k f fd ps sp)(hr:cQ k X.A)(hb:eS X.K fd ps ds)(hd:bA dvs ds)(hx:kO CX X E)
  (ht : eval (.Call (.Attribute o m apos) [] [] pos) X.env = (do
   let ov<-eval o X.env
   standAt apos.atName
   let (f,first)<-holding [ov] (getMethod ov m pl)
   callWith pos f first (backTo pos (starEach [] X.env)) (backToKw pos (keywordEach [] X.env))):=by rfl) :
  PE X (.Call (.Attribute o m apos) [] [] pos) (TK C m sp dvs E ta xS):=by
 intro pins s Z H Q I h
 refine PySem.W.methodCall_KW (pl:=pl) (aX (he pins s Z H _ I h) fun u s1 ⟨x,H1,I1,rx,a,dx,fs,ex,ea,l,q⟩=>?_) ht
 subst ex
 obtain rfl:u=Value.ref a:=rx
 refine C1 I1 ea c hm l ?_
 exact PySem.W.callWith_K0 (first:=[.ref a]) I1.kIn hm.kp (xU (us:=[.ref a]) (vs:=[.ref a]) F hr hb hd hx I1 (.cons rfl .nil) q)
structure Mk(K:xFg)(C f:Addr):Prop where
 makes:PySem.W.makesIn K C=true
 init:PySem.W.findIn K (.ref C) "__init__"=some (some (.ref f))
 fn:PySem.W.isFn K (.ref f)=true
 kp:PySem.W.keepIn K (.ref C)=true
theorem TN{pins:List (Addr×Obj)}{Z:St}{H:Hp}{s:Shared}{Q:VK}{us:List Value}{vs:List V}(M:Mk X.K C f)(F:cN X.prog X.w X.K X.mg X.base CX k f fd ps sp)(hr:cQ (k+1) X.A)(hb:eS X.K fd ps ds)(hd:bA dvs ds)
  (hx:kO CX X E) (I:aH X pins Z H s) (r:bA vs us)
  (h:∀x dx,H x=none->H dx=none->dx≠x->sp (.ref x::(vs++dvs)) (aU (aU H dx (.own x)) x (.ins C dx [])) (fun v H2=>v=.non/\Q (.ref x) H2) E) :
  wpAny (model X.prog X.w) X.A (call (.ref C) us) (EP X pins Z Q) X.xe s:=by
 have hq:=h (s.heap.objs.size+1) s.heap.objs.size (I.hok.fresh (Nat.le_succ _)) (I.hok.fresh (xak _)) (xbf (xb5 _))
 have I2:=aH.made (C:=C) I
 have r2:bA (V.ref (s.heap.objs.size+1)::(vs++dvs)) (Value.ref (s.heap.objs.size+1)::(us++ds)):=.cons rfl (r.append hd)
 have hl:(Value.ref (s.heap.objs.size+1)::us++ds).length=ps.length:=by
  have e:=r2.length
  rw[F.len _ _ _ _ hq] at e
  exact e.symm
 refine wpAny_call (SX (f:=f) I.kIn M.makes M.init (beq_iff_eq.mp M.fn) (codeAny_mono (F.run _ X.stack _ _ ⟨Value.ref (s.heap.objs.size+1)::us,[]⟩ (Value.ref (s.heap.objs.size+1)::(us++ds)) _ _ E (hr.make C us [])
  (I2.env0.make C us []) (hb _ (Value.ref (s.heap.objs.size+1)::us) I2.kIn hl) r2 hq) fun r s' hq'=>?_))
 cases r with
 |error e=>exact hx pins Z _ _ e s' I2 hq'
 |ok fl=>
  cases fl with
  |ret u=>
   obtain⟨v,H',I3,rv,ev,q3⟩:=I2.after hq'
   subst ev
   exact⟨rv,⟨V.ref (s.heap.objs.size+1),H',I3,rfl,q3⟩⟩
  |next=>exact False.elim hq'
  |brk=>exact False.elim hq'
  |cont=>exact False.elim hq'
theorem TQ(M:Mk X.K C f)(F:cN X.prog X.w X.K X.mg X.base CX k f fd ps sp)(hr:cQ (k+1) X.A)(hg:Gl X x)(hm:X.mg x=some (.ref C))(hb:eS X.K fd ps ds)(hd:bA dvs ds)(hx:kO CX X E)
  (ha:PA X (e::es) t) (hdb:(x==("__debug__":Str))=false:=by decide) (he:starEach (e::es) X.env=(false,eval e X.env)::starEach es X.env:=by rfl) (hpl:(backTo pos (starEach es X.env)).any (·.1)=false:=by rfl) :
  PE X (.Call (.Name x p) (e::es) [] pos) (TL C sp dvs E t):=by
 intro pins s Z H Q I h
 refine wpAny_Call_Name_kw (mW I hg hm ?_ hdb)
 refine PySem.W.callWith_K (h₀:=X.base) I.ok.mod.kin M.kp (aX (ha pos pins s Z H _ I h) fun us s1 ⟨vs,H1,I1,r,q⟩=>⟨I1.kIn,?_⟩) he hpl
 exact TN M F hr hb hd hx I1 r q
end
structure gU(N P:List Str)(sc:Scope):Prop where
 kind:sc.kind=.function
 co:sc.isCoroutine=false
 gen:sc.isGenerator=false
 nd:N.Nodup
 pre:N.take P.length=P
 par:∀x∈P,sc.names.lookup x=some .local\/sc.names.lookup x=some .cell
 nofree:∀y∈sc.names,y.2≠.free
theorem C7{kindOf:Str->Option NameKind}{x:Str}:∀{binds:List (Str×Value)} {m:Str->Option Value},(∀v,(x,v)∉binds)->bindL kindOf binds m x=m x
 |[],_,_=>rfl
 |(n,v)::r,m,h=>by
  unfold bindL
  rw[C7 fun w hw=>h w (xae _ hw)]
  split
  ·have:x≠n:=by rintro rfl;exact h v xaq
   simp[this]
  ·rfl
theorem C8{kindOf:Str->Option NameKind}{x:Str}:∀{binds:List (Str×Value)} {m:Str->Option Value},(∀v,(x,v)∉binds)->bindC kindOf binds m x=m x
 |[],_,_=>rfl
 |(n,v)::r,m,h=>by
  unfold bindC
  rw[C8 fun w hw=>h w (xae _ hw)]
  split
  ·rfl
  ·have:x≠n:=by rintro rfl;exact h v xaq
   simp[this]
theorem C9{kindOf:Str->Option NameKind}{x:Str}{v:Value}:∀{P:List Str} {vs:List Value} {i:Nat} {m:Str->Option Value},P.Nodup->P[i]? = some x->vs[i]? = some v->kindOf x=some .local->
  bindL kindOf (P.zip vs) m x=some v
 |[],_,_,_,_,h,_,_=>by simp at h
 |_::_,[],_,_,_,_,h,_=>by simp at h
 |p::P,w::vs,0,m,nd,h1,h2,hk=>by
  simp at h1 h2;subst h1;subst h2
  show bindL kindOf ((p,w)::P.zip vs) m p=_
  unfold bindL
  rw[C7 fun v hv=>(xcp.mp nd).1 (List.of_mem_zip hv).1,xa5 hk]
  simp
 |p::P,w::vs,i+1,m,nd,h1,h2,hk=>by
  show bindL kindOf ((p,w)::P.zip vs) m x=_
  unfold bindL
  exact C9 (i:=i) (xcp.mp nd).2 (by simpa using h1) (by simpa using h2) hk
theorem DB{kindOf:Str->Option NameKind}{x:Str}{v:Value}:∀{P:List Str} {vs:List Value} {i:Nat} {m:Str->Option Value},P.Nodup->P[i]? = some x->vs[i]? = some v->kindOf x≠some .local->
  bindC kindOf (P.zip vs) m x=some v
 |[],_,_,_,_,h,_,_=>by simp at h
 |_::_,[],_,_,_,_,h,_=>by simp at h
 |p::P,w::vs,0,m,nd,h1,h2,hk=>by
  simp at h1 h2;subst h1;subst h2
  show bindC kindOf ((p,w)::P.zip vs) m p=_
  unfold bindC
  rw[C8 fun v hv=>(xcp.mp nd).1 (List.of_mem_zip hv).1,xaz hk]
  simp
 |p::P,w::vs,i+1,m,nd,h1,h2,hk=>by
  show bindC kindOf ((p,w)::P.zip vs) m x=_
  unfold bindC
  exact DB (i:=i) (xcp.mp nd).2 (by simpa using h1) (by simpa using h2) hk
def start(N:List Str)(vs:List V):St:=vs.map some++List.replicate (N.length-vs.length) none
def dX(CX:eR)(P:Program)(w:World)(K:xFg)(mg:Str->Option Value)(base:Heap)(N:List Str)(qual:Str)(scope:Scope)(f:Addr)(cd:Value)(A:Around)(outer:List Env)(s:Shared)(H:Hp)(E:XK):Cx where
 prog:=P
 w:=w
 K:=K
 mg:=mg
 base:=base
 A:=A.deeper (envOfC qual scope s.heap.objs.size f cd)
 N:=N
 s₀:=s
 H₀:=H
 env:=envOfC qual scope s.heap.objs.size f cd
 outer:=outer
 stack:=envOfC qual scope s.heap.objs.size f cd::outer
 ex:=[]
 calm:=true
 fn:=fun _=>true
 pn:=[]
 xe:=fun e s'=>wpAny (model P w) (A.deeper (envOfC qual scope s.heap.objs.size f cd)) (leaving (envOfC qual scope s.heap.objs.size f cd) e) (fun _ s''=>CX outer H s E e s'') (fun e' s''=>CX outer H s E e' s'') s'
theorem DC{sc:Scope}{n:Nat}{x:Str}(h:sc.names.lookup x=some .cell):∃c,(cellsFrom n sc.names []).lookup x=some c:=by
 have q:=PySem.W.cellsFrom_some sc.names n [] (.inl h)
 exact xcc.mp q
theorem TR{CX:eR}{P:Program}{w:World}{K:xFg}{mg:Str->Option Value}{base:Heap}{N ps:List Str}{qual:Str}{scope:Scope}{f:Addr}{cd:Value}{A:Around}{outer:List Env}{s s1:Shared}{H:Hp}{E:XK}{us:List Value}{vs:List V}
  (S:gU N ps scope) (hd:A.handled=none) (e0:m5 P w K mg base A outer s H) (hl:vs.length=ps.length) (r:bA vs us)
  (x:InCallC s s.heap.objs.size (bindL (envOfC qual scope s.heap.objs.size f cd).kindOf (ps.zip us) fun _=>none) (cellsFrom (s.heap.objs.size+1) scope.names []) (bindC (envOfC qual scope s.heap.objs.size f cd).kindOf (ps.zip us) fun _=>none) s1) :
  aH (dX CX P w K mg base N qual scope f cd A outer s H E) [] (start N vs) H s1:=by
 have hpl:ps.length<=N.length:=by have:=congrArg List.length S.pre;rw[xbh] at this;omega
 obtain⟨h1,tk,rfl,hk⟩:=x.done
 have noA:∀b:Addr,b∉(dX CX P w K mg base N qual scope f cd A outer s H E).ex:=fun b z=>xat (show b∈([]:List Addr) from z) (by simp)
 refine⟨⟨e0.mod,S.kind,rfl,rfl,xak _,fun y z c h1 h2=>?_,fun y hy=>?_,fun y c _ h=>?_,fun _=>hd,Around.frames_deeper e0.frames,.inr ⟨rfl,rfl⟩,fun b z=>xat z (noA b),e0.bs,e0.bsz,fun b _ _=>noA b,fun b z=>xat z (noA b),e0.funs,e0.frf⟩,
  rfl,e0.bare,Un.kept hk,⟨_,x.toInCall.ns,fun i y v h1 h2 h3=>?_⟩,fun y c h=>⟨_,x.cell y c h⟩,e0.hok.fresh (xak _),fun y c h=>?_,fun p hp=>xat (show p∈([]:List (Addr×Obj)) from hp) (by simp),e0.hok.kept hk,?_⟩
 ·exact name_of_addr x.apart (PySem.mem_of_lookup h1) (PySem.mem_of_lookup h2)
 ·have hy:scope.names.lookup y=some .cell\/scope.names.lookup y=some .free:=hy
  rcases hy with hy|hy
  ·exact DC hy
  ·exact xat rfl (S.nofree _ (PySem.mem_of_lookup hy))
 ·exact xcs (x.above y c (PySem.mem_of_lookup h))
 ·have hi:i<vs.length:=by
   unfold start at h2
   by_cases hi:i<vs.length
   ·exact hi
   ·rw[xbe (by simpa using hi)] at h2
    rw[xcf] at h2
    split at h2<;>cases h2
  have ha:vs[i]? = some v:=by
   unfold start at h2
   rw[xbn (by simpa using hi),xbl] at h2
   cases e:vs[i]? with
   |none=>rw[e] at h2;cases h2
   |some a=>rw[e] at h2;cases h2;rfl
  obtain⟨u,hu,rv⟩:=r.get ha
  have hp:ps[i]? = some y:=by
   rw[<- S.pre,List.getElem?_take_of_lt (by omega)];exact h1
  have ndP:ps.Nodup:=by rw[<- S.pre];exact S.nd.sublist (List.take_sublist _ _)
  refine⟨u,rv,?_⟩
  rcases S.par y (xbt hp) with k|k
  ·exact .inl ⟨k,C9 ndP hp hu k⟩
  ·obtain⟨c,e⟩:=DC (n:=s.heap.objs.size+1) k
   refine .inr ⟨.inl k,c,e,?_⟩
   have q:=x.cell y c e
   rw[DB ndP hp hu (by show scope.names.lookup y≠_;rw[k];decide)] at q
   exact q
 ·exact e0.hok.fresh (xcs (x.above y c (PySem.mem_of_lookup h)))
 ·unfold start
  show _=N.length
  rw[xaa,xab,xbr]
  omega
theorem TU{CX:eR}{P:Program}{w:World}{K:xFg}{mg:Str->Option Value}{base:Heap}{k:Nat}{f:Addr}{name qual:Str}{params:Arguments}{body:List Stmt}{scope:Scope}{dV kV doc pm cdv ct oc:Value}{an od:Option Addr}
  {osl:Array (Option Value)} {N ps:List Str} {sp:Sp} (lk:K.lookup f=some ⟨oc,od,.func (PySem.W.fnOf name qual params body scope dV kV doc pm an cdv ct),osl⟩) (hcd:PySem.W.codeIn K cdv qual=true) (S:gU N ps scope)
  (len:∀vs H Q E,sp vs H Q E->vs.length=ps.length)
  (hbody : ∀ (A : Around) (outer : List Env) (s : Shared) (H : Hp) (vs : List V) (Q : VK) (E : XK), cQ k (A.deeper (envOfC qual scope s.heap.objs.size f cdv)) -> sp vs H Q E ->
   ∃t,dP (dX CX P w K mg base N qual scope f cdv A outer s H E) body t/\t { nx:=fun _ H'=>Q .non H',rt:=Q } (start N vs) H) :
  cN P w K mg base CX (k+1) f (PySem.W.fnOf name qual params body scope dV kV doc pm an cdv ct) ps sp:=by
 refine⟨len,fun A outer s H args us vs Q E hr e0 hb r hsp=>?_⟩
 have hl:=len _ _ _ _ hsp
 have KX:K.In s.heap:=e0.mod.kin.keeps fun b o e=>(e0.bs b o e).1
 have lim:s.heap.NoLimit:=e0.mod.nolimit.keeps fun b o e=>(e0.bs b o e).1
 have hkind:∀y∈ps.zip us,scope.names.lookup y.1=some .local\/(scope.names.lookup y.1=some .cell/\((cellsFrom (s.heap.objs.size+1) scope.names []).lookup y.1).isSome=true):=fun⟨n,v⟩ hy=>by
  rcases S.par n (List.of_mem_zip hy).1 with q|q
  ·exact .inl q
  ·exact .inr ⟨q,PySem.W.cellsFrom_some _ _ _ (.inl q)⟩
 refine codeAny_call_function hr.depth (KX _ _ lk) rfl S.co S.gen rfl (PySem.W.codeRec_of KX hcd) (hb _ _ _ _ ?_)
 refine wpAny_newFunctionEnv_cells S.kind hkind fun env he s1 x=>?_
 subst he
 refine⟨lim.keeps x.toInCall.keep,codeAny_func ?_⟩
 obtain⟨t,ht,hq⟩:=hbody A outer s H vs Q E (hr.deeper _) hsp
 have I:aH (dX CX P w K mg base N qual scope f cdv A outer s H E) [] (start N vs) H s1:=TR S hr.hd e0 hl r x
 refine wpAny_mono (ht [] s1 (start N vs) H _ I hq) (fun fl s' hs=>?_) fun e s' hs=>hs
 have fin:∀{Z':St} {H':Hp} {v:V} {u:Value},aH (dX CX P w K mg base N qual scope f cdv A outer s H E) [] Z' H' s'->aZ v u->Q v H'->CE outer P w H s Q u s':=
  fun {Z' H' v u} J rv q=>⟨v,H',J.os,J.bare,J.base,J.hok,rv,q⟩
 cases fl with
 |ret u=>
  obtain⟨v,Z',H',J,rv,q⟩:=hs
  exact fin J rv q
 |next=>
  obtain⟨Z',H',J,q⟩:=hs
  exact fin (v:=V.non) (u:=Value.none) J rfl q
 |brk=>
  obtain⟨_,_,_,q⟩:=hs
  exact False.elim q
 |cont=>
  obtain⟨_,_,_,q⟩:=hs
  exact False.elim q
end L2
namespace L2
open PySem.Spec PyProof.Rows
section
variable{X:Cx}{x:Str}{p pos:Pos}{e:Expr}{es:List Expr}{t:TA}{id T:String}{r:List V->Hp->VK->Prop}
def tCB(r:List V->Hp->VK->Prop)(t:TA):TE:=fun Z H Q=>t Z H fun vs H1=>r vs H1 Q
theorem xW(hc:dW X (.builtin id) r)(hg:Gl X x)(hm:X.mg x=none)(hv:bootBuiltins x=some (.builtin id))(ha:PA X (e::es) t)(hn:x≠"__name__":=by decide)(hdb:(x==("__debug__":Str))=false:=by decide)
  (he:starEach (e::es) X.env=(false,eval e X.env)::starEach es X.env:=by rfl) (hpl:(backTo pos (starEach es X.env)).any (·.1)=false:=by rfl):PE X (.Call (.Name x p) (e::es) [] pos) (tCB r t):=by
 intro pins s Z H Q I h
 refine wpAny_Call_Name_kw (qB I hg hm hv ?_ hn hdb)
 exact PyProof.Rows.callWith_builtin1 (aX (ha pos pins s Z H _ I h) fun us s1 ⟨vs,H1,I1,r1,q1⟩=>hc pins s1 Z H1 vs us Q I1 r1 q1) he hpl
theorem xX(hc:dW X (.type T) r)(hg:Gl X x)(hm:X.mg x=none)(hv:bootBuiltins x=some (.type T))(ha:PA X (e::es) t)(hn:x≠"__name__":=by decide)(hdb:(x==("__debug__":Str))=false:=by decide)
  (he:starEach (e::es) X.env=(false,eval e X.env)::starEach es X.env:=by rfl) (hpl:(backTo pos (starEach es X.env)).any (·.1)=false:=by rfl):PE X (.Call (.Name x p) (e::es) [] pos) (tCB r t):=by
 intro pins s Z H Q I h
 refine wpAny_Call_Name_kw (qB I hg hm hv ?_ hn hdb)
 exact PyProof.Rows.callWith_type1 (aX (ha pos pins s Z H _ I h) fun us s1 ⟨vs,H1,I1,r1,q1⟩=>hc pins s1 Z H1 vs us Q I1 r1 q1) he hpl
end
end L2
namespace HT
open PyProof.Rows
section
variable{prog:Program}{w:World}{A:Around}{E:Value->Shared->Prop}{s:Shared}
theorem cat_tup{t b:Addr}{vs ws:List Value}{Q:Value->Shared->Prop}(ht:IsTup s.heap t vs.toArray)(hb:IsTup s.heap b ws.toArray)(hv:vs≠[])
  (h1:ws=[]->Q (.ref t) s) (h2:ws≠[]->Q (.ref s.heap.objs.size) { s with heap:=s.heap.push { cls:=.type "tuple",data:=.seq (vs++ws).toArray } })
  (hsz:vs.length+ws.length<=sizeLine):wpAny (model prog w) A (binaryOp .Add (.ref t) (.ref b)) Q E s:=by
 obtain⟨⟨cls,dd,data,sl⟩,ho,hc,n,hd⟩:=id ht
 obtain⟨⟨cls2,dd2,data2,sl2⟩,ho2,hc2,n2,hd2⟩:=id hb
 simp only at hc hd hc2 hd2
 subst hc hd hc2 hd2
 have e:vs.toArray++ws.toArray=(vs++ws).toArray:=by simp
 by_cases hw:ws=[]
 ·exact concat_meets ⟨_,ho,rfl⟩ ⟨_,ho2,rfl⟩ noFill_tuple_add seq_tuple_add PySem.F.slot_tuple_add PySem.F.entry_tuple_add (PySem.F.args_tuple_add_2 _ _)
   (tuple_addW1 t b vs.toArray ws.toArray n n2 dd dd2 sl sl2 (by simpa using hv) (by simp[hw])) ⟨ho,ho2,h1 hw⟩
 ·refine concat_meets ⟨_,ho,rfl⟩ ⟨_,ho2,rfl⟩ noFill_tuple_add seq_tuple_add PySem.F.slot_tuple_add PySem.F.entry_tuple_add (PySem.F.args_tuple_add_2 _ _)
   (tuple_addW2 t b vs.toArray ws.toArray n n2 dd dd2 sl sl2 (by simpa using hv) (by simpa using hw) (by rw[xao,xao];exact hsz)) ⟨ho,ho2,?_⟩
  rw[e]
  exact h2 hw
def sIx(n d:Nat):Option Int->Nat
 |none=>d
 |some v=>if v<0 then (v+(n:Int)).toNat else min v.toNat n
theorem sIx_none(n d:Nat):sIx n d none=d:=rfl
theorem sIx_nat(n d k:Nat):sIx n d (some (k:Int))=min k n:=by
 show (if (k:Int)<0 then ((k:Int)+(n:Int)).toNat else min (k:Int).toNat n)=min k n
 rw[xaz (by omega),xbm]
theorem sIx_le(n d:Nat)(hd:d<=n)(o:Option Int):sIx n d o<=n:=by
 cases o with
 |none=>exact hd
 |some v=>
  show (if v<0 then (v+(n:Int)).toNat else min v.toNat n)<=n
  by_cases hv:v<0
  ·rw[xa5 hv];omega
  ·rw[xaz hv];exact Nat.min_le_right _ _
theorem DH(v:Int)(n d:Nat):(if v<0 then max (v+(n:Int)) 0 else min v (n:Int))=((sIx n d (some v):Nat):Int):=by
 show (if v<0 then max (v+(n:Int)) 0 else min v (n:Int))=(((if v<0 then (v+(n:Int)).toNat else min v.toNat n):Nat):Int)
 by_cases hv:v<0
 ·simp only[xa5 hv];omega
 ·simp only[xaz hv];omega
theorem TV(lo hi:Option Int)(n:Nat):Builtin.Slice.sliceAdjust lo hi 1 (n:Int)=(((sIx n 0 lo:Nat):Int),((sIx n n hi:Nat):Int)):=by
 have h1:¬((1:Int)<0):=by omega
 unfold Builtin.Slice.sliceAdjust
 simp only[h1,if_false]
 refine Prod.ext ?_ ?_
 ·cases lo with
  |none=>rfl
  |some v=>exact DH v n 0
 ·cases hi with
  |none=>rfl
  |some v=>exact DH v n n
theorem TW(i j:Nat):Builtin.Slice.slicePlaces (i:Int) (j:Int) 1=j-i:=by
 unfold Builtin.Slice.slicePlaces
 have h1:(1:Int)>0:=by omega
 simp only[h1,if_true,Int.ediv_one]
 split<;>omega
theorem DJ{v:Value}{o:Option Int}{Q:Option Int->Shared->Prop}(p:IsPart v o)(h:Q o s):wpAny (model prog w) A (Builtin.Slice.slicePartIndex v) Q E s:=by
 cases p with
 |none=>exact slicePart_none h
 |int i t=>exact slicePart_int h
theorem TX{sl:Addr}{vl vu:Value}{lo hi:Option Int}{n:Nat}{Q:Int×Int×Nat->Shared->Prop}(hs:s.heap.IsSliceOf sl vl vu .none)(pl:IsPart vl lo)(pu:IsPart vu hi)
  (h:Q (((sIx n 0 lo:Nat):Int),1,sIx n n hi-sIx n 0 lo) s):wpAny (model prog w) A (Builtin.Slice.sliceApplied (.ref sl) (pure (n:Int))) Q E s:=by
 obtain⟨os,hos,hcs,hds⟩:=id hs
 unfold Builtin.Slice.sliceApplied Builtin.Slice.sliceFields
 refine xai (xai (wpAny_field hos hds (x:=vl) rfl (xai (wpAny_field hos hds (x:=vu) rfl (xai (wpAny_field hos hds (x:=.none) rfl (xa4 ?_)))))))
 refine xai (slicePart_none ?_)
 show wpAny _ _ (if ((1:Int)==0)=true then _ else _) _ _ s
 rw[xaz (by decide)]
 refine xai (DJ pl (xai (DJ pu (xai (xa4 ?_)))))
 show wpAny _ _ (match Builtin.Slice.sliceAdjust lo hi 1 (n:Int) with|(lo,hi)=>pure (lo,(1:Int),Builtin.Slice.slicePlaces lo hi 1)) _ _ s
 rw[TV lo hi n]
 show wpAny _ _ (pure (((sIx n 0 lo:Nat):Int),(1:Int),Builtin.Slice.slicePlaces ((sIx n 0 lo:Nat):Int) ((sIx n n hi:Nat):Int) 1)) _ _ s
 rw[TW]
 exact xa4 h
theorem TY(xs:Array Value)(i k:Nat):((List.range k).filterMap fun (m:Nat)=>xs[((i:Int)+(m:Int)*1).toNat]?).toArray=((xs.toList.drop i).take k).toArray:=by
 have e:(fun (m:Nat)=>xs[((i:Int)+(m:Int)*1).toNat]?)=fun m=>xs[i+m]?:=by
  funext m
  have:((i:Int)+(m:Int)*1).toNat=i+m:=by omega
  rw[this]
 rw[e]
 have:=pick_run xs i k
 rw[List.filterMap_map] at this
 have e2:((fun x=>xs[x]?) ∘ fun x=>i+x)=fun m=>xs[i+m]?:=rfl
 rw[e2] at this
 rw[this]
theorem getItem_tuple_cut{t sl:Addr}{items:Array Value}{vl vu:Value}{lo hi:Option Int}{Q:Value->Shared->Prop}(ht:IsTup s.heap t items)(hs:s.heap.IsSliceOf sl vl vu .none)(pl:IsPart vl lo)(pu:IsPart vu hi)
  (hw:¬(sIx items.size 0 lo=0/\sIx items.size items.size hi=items.size))
  (h:Q (.ref s.heap.objs.size) { s with heap:=s.heap.push { cls:=.type "tuple",data:=.seq ((items.toList.drop (sIx items.size 0 lo)).take (sIx items.size items.size hi-sIx items.size 0 lo)).toArray } })
  (hsz:items.size<=sizeLine):wpAny (model prog w) A (getItem (.ref t) (.ref sl)) Q E s:=by
 have htake:sizeOk (.seq ((items.toList.drop (sIx items.size 0 lo)).take (sIx items.size items.size hi-sIx items.size 0 lo)).toArray):=by
  show ((items.toList.drop (sIx items.size 0 lo)).take (sIx items.size items.size hi-sIx items.size 0 lo)).toArray.size<=sizeLine
  rw[xao,xbh,xbu,xb2]
  omega
 have hj:sIx items.size items.size hi<=items.size:=sIx_le _ _ (xak _) hi
 obtain⟨os,hos,hcs,hds⟩:=id hs
 have hTs:s.TypeIs (.ref sl) "slice":=⟨os,hos,hcs⟩
 unfold getItem
 try with_reducible refine wpAny_holding ?_
 first|refine xai (xa4 ?_)|skip
 refine xai (wpAny_sequenceKey ht.typeIs (by decide) ?_)
 refine xai (wpAny_callSpecial?_slot (name:=Str.ofString "__getitem__") ht.typeIs PyProof.Rows.slot_tuple_getitem
  (wpAny_call_entry PyProof.Rows.slot_tuple_getitem ht.typeIs entry_tuple_getitem ?_ (args_tuple_getitem _ _)))
 show wpAny _ _ (Builtin.Tuple.tupleItemsOf (.ref t) >>= _) _ _ s
 refine xai (tupleItemsOf_ ht ?_)
 refine xai (wpAny_typeOf hTs ?_)
 rw[xa5 (by decide)]
 refine xai (TX hs pl pu ?_)
 have hno:¬((((sIx items.size 0 lo:Nat):Int)==0&&(1:Int)==1&&(sIx items.size items.size hi-sIx items.size 0 lo)==items.size)=true):=by
  intro q
  rw[xap,xap] at q
  have q1:((sIx items.size 0 lo:Nat):Int)=0:=eq_of_beq q.1.1
  have q2:sIx items.size items.size hi-sIx items.size 0 lo=items.size:=eq_of_beq q.2
  exact hw ⟨by omega,by omega⟩
 show wpAny _ _ (if (((sIx items.size 0 lo:Nat):Int)==0&&(1:Int)==1&&(sIx items.size items.size hi-sIx items.size 0 lo)==items.size)=true then _ else _) _ _ s
 rw[xaz hno,TY]
 first
  |exact xai (m:=Builtin.Tuple.tupleExact _) (wpAny_newObj_type (xa4 ⟨_,rfl,xa4 h⟩) htake)
  |exact xai (m:=Builtin.Tuple.tupleExact _) (wpAny_newObj_type (xai (xa4 (xa4 ⟨_,rfl,xa4 h⟩))) htake)
  |exact xai (xai (m:=Builtin.Tuple.tupleExact _) (wpAny_newObj_type (xa4 (xa4 ⟨_,rfl,xa4 h⟩)) htake))
  |exact xai (xai (m:=Builtin.Tuple.tupleExact _) (wpAny_newObj_type (xa4 ⟨_,rfl,xa4 h⟩) htake))
end
end HT
namespace L2
open PySem.Spec PyProof.Rows
abbrev TO:=St->Hp->(Option Int->Hp->Prop)->Prop
def PO(X:Cx)(e:Option Expr)(t:TO):Prop:=
 ∀(pins:List (Addr×Obj)) (s:Shared) (Z:St) (H:Hp) (Q:Option Int->Hp->Prop),aH X pins Z H s->t Z H Q->
  wpAny (model X.prog X.w) X.A (evalPart e X.env) (fun u s'=>∃o H',aH X pins Z H' s'/\IsPart u o/\Q o H') X.xe s
def TZ:TO:=fun _ H Q=>Q none H
def T0(t:TE):TO:=fun Z H Q=>t Z H fun x H1=>∃i,x=.int i/\Q (some i) H1
section
variable{X:Cx}{e:Expr}{te:TE}{lo hi:Option Expr}{tl th:TO}{pos p2:Pos}
theorem T1:PO X none TZ:=by
 intro pins s Z H Q I h
 rw[evalPart_none]
 exact xa4 ⟨none,H,I,.none,h⟩
theorem T2(h:PE X e te):PO X (some e) (T0 te):=by
 intro pins s Z H Q I hw
 rw[evalPart_some]
 refine aX (h pins s Z H _ I hw) fun u s1 ⟨x,H1,I1,r1,q1⟩=>?_
 obtain⟨i,rfl,q⟩:=q1
 obtain⟨t,rfl⟩:=r1
 exact⟨some i,H1,I1,.int i t,q⟩
def lM(X:Cx)(r:V->Option Int->Option Int->Hp->VK->Prop):Prop:=
 ∀(pins:List (Addr×Obj)) (s:Shared) (Z:St) (H:Hp) (x:V) (v vl vu:Value) (lo hi:Option Int) (sl:Addr) (Q:VK),aH X pins Z H s->aZ x v->s.heap.IsSliceOf sl vl vu .none->IsPart vl lo->IsPart vu hi->r x lo hi H Q->
  ∃T id,typeLookup (.type T) "__getitem__"=pure (some (.builtin id))/\s.TypeIs v T/\wpAny (model X.prog X.w) X.A (getItem v (.ref sl)) (EP X pins Z Q) X.xe s
theorem lM.or{r r':V->Option Int->Option Int->Hp->VK->Prop}(h:lM X r)(h':lM X r'):lM X (fun x lo hi H Q=>r x lo hi H Q\/r' x lo hi H Q):=by
 intro pins s Z H x v vl vu lo hi sl Q I rx hs pl pu q
 rcases q with q|q
 ·exact h pins s Z H x v vl vu lo hi sl Q I rx hs pl pu q
 ·exact h' pins s Z H x v vl vu lo hi sl Q I rx hs pl pu q
def tSl(r:V->Option Int->Option Int->Hp->VK->Prop)(te:TE)(tl th:TO):TE:=fun Z H Q=>te Z H fun x H1=>tl Z H1 fun l H2=>th Z H2 fun u H3=>r x l u H3 Q
theorem xY{r:V->Option Int->Option Int->Hp->VK->Prop}(hr:lM X r)(he:PE X e te)(hl:PO X lo tl)(hu:PO X hi th):PE X (.Subscript e (.Slice lo hi none p2) pos) (tSl r te tl th):=by
 intro pins s Z H Q I h
 refine Subscript_ (aX (he pins s Z H _ I h) fun v s1 ⟨x,H1,I1,r1,q1⟩=>?_)
 refine wpAny_Slice (aX (hl pins s1 Z H1 _ I1 q1) fun vl s2 ⟨l,H2,I2,pl,q2⟩=>aX (hu pins s2 Z H2 _ I2 q2) fun vu s3 ⟨u,H3,I3,pu,q3⟩=>?_)
 rw[evalPart_none]
 refine xa4 ?_
 have I4:aH X pins Z H3 { s3 with heap:=s3.heap.push { cls:=.type "slice",data:=.fields #[vl,vu,.none] } }:=I3.kept (t':=s3.toks) fun b ob q=>xaj _ q
 obtain⟨T,id,hT,ht,hg⟩:=hr pins { s3 with heap:=s3.heap.push { cls:=.type "slice",data:=.fields #[vl,vu,.none] } } Z H3 x v vl vu l u s3.heap.objs.size Q I4 r1 (Heap.IsSliceOf.new ..) pl pu q3
 show wpAny (model X.prog X.w) X.A (subscriptTail e (.Slice lo hi none p2) v (.ref s3.heap.objs.size)) (EP X pins Z Q) X.xe { s3 with heap:=s3.heap.push { cls:=.type "slice",data:=.fields #[vl,vu,.none] } }
 exact tail_any (ops:=[.ref s3.heap.objs.size,v]) ht hT hg (by with_unfolding_all rfl)
def jH(xs:List V)(lo hi:Option Int):List V:=(xs.drop (HT.sIx xs.length 0 lo)).take (HT.sIx xs.length xs.length hi-HT.sIx xs.length 0 lo)
theorem DK(xs:List V)(lo hi:Option Int):(jH xs lo hi).length<=xs.length:=by
 unfold jH
 rw[xbh,xbu]
 omega
def T5(K:xFg):V->Option Int->Option Int->Hp->VK->Prop:=fun x lo hi H Q=>∃a xs,x=.ref a/\cB K H a xs/\
 ¬(HT.sIx xs.length 0 lo=0/\HT.sIx xs.length xs.length hi=xs.length)/\∀p,H p=none->Q (.ref p) (aU H p (.tup (jH xs lo hi)))
theorem T6:lM X (T5 X.K):=by
 intro pins s Z H x v vl vu lo hi sl Q I rx hs pl pu h
 obtain⟨a,xs,rfl,hx,hw,q⟩:=h
 cases rx
 obtain⟨its,r,ht,hz⟩:=I.tuple hx
 have hlen:its.toArray.size=xs.length:=by rw[xao];exact r.length.symm
 refine⟨"tuple",_,PyProof.Rows.slot_tuple_getitem.lookup,ht.typeIs,?_⟩
 refine HT.getItem_tuple_cut ht hs pl pu (by rw[hlen];exact hw) ?_ (by rw[hlen];exact hz)
 rw[hlen]
 refine⟨.ref s.heap.objs.size,_,I.laid (t':=s.toks) (o:=.tup (jH xs lo hi)) (fun b ob q=>xaj _ q) (xak _) ?_,rfl,q _ (I.hok.fresh (xak _))⟩
 exact⟨xah (DK xs lo hi) hz,_,(r.drop (HT.sIx xs.length 0 lo)).take (HT.sIx xs.length xs.length hi-HT.sIx xs.length 0 lo),jZ.new _ _⟩
def DM(K:xFg):R2:=fun x y H Q=>∃a b xs ys,x=.ref a/\y=.ref b/\cB K H a xs/\cB K H b ys/\xs≠[]/\xs.length+ys.length<=sizeLine/\
 (ys=[]->Q (.ref a) H)/\(ys≠[]->∀p,H p=none->Q (.ref p) (aU H p (.tup (xs++ys))))
theorem bA.nil_iff{xs:List V}{us:List Value}(r:bA xs us):us=[]↔xs=[]:=by
 cases r with
 |nil=>simp
 |cons _ _=>simp
theorem T7:bP X (binaryOp .Add) (DM X.K):=by
 intro pins s Z H x y v u Q I rx ry h
 obtain⟨a,b,xs,ys,rfl,rfl,ha,hb,hx,hz,q1,q2⟩:=h
 cases rx
 cases ry
 obtain⟨its,r1,p1,_⟩:=I.tuple ha
 obtain⟨its2,r2,p2,_⟩:=I.tuple hb
 refine HT.cat_tup p1 p2 (fun z=>hx (r1.nil_iff.mp z)) (fun z=>⟨.ref a,H,I,rfl,q1 (r2.nil_iff.mp z)⟩) (fun z=>?_) (by rw[<- r1.length,<- r2.length];exact hz)
 refine⟨.ref s.heap.objs.size,_,I.laid (t':=s.toks) (o:=.tup (xs++ys)) (fun b ob q=>xaj _ q) (xak _) ?_,rfl,q2 (fun w=>z (r2.nil_iff.mpr w)) _ (I.hok.fresh (xak _))⟩
 exact⟨by rw[xaa];exact hz,_,r1.append r2,jZ.new _ _⟩
end
end L2
namespace L2
open PySem.Spec PyProof.Rows
def j1(n:Nat)(i:Int):Option Nat:=if 0<=i then (if i<n then some i.toNat else none) else if -(n:Int)<=i then some (i+n).toNat else none
def eU{α:Type}(xs:List α)(i:Int):Option α:=(j1 xs.length i).bind fun j=>xs[j]?
theorem T8{n:Nat}{i:Int}{j:Nat}(h:j1 n i=some j):seqIndex? i n=some j/\j<n/\-(n:Int)<=i/\i<n:=by
 unfold j1 at h
 by_cases h0:0<=i
 ·rw[xa5 h0] at h
  by_cases h1:i<n
  ·rw[xa5 h1] at h
   have e:i.toNat=j:=xbp h
   exact⟨by rw[seqIndex_of h0 h1,e],by omega,by omega,h1⟩
  ·rw[xaz h1] at h;cases h
 ·rw[xaz h0] at h
  by_cases h1:-(n:Int)<=i
  ·rw[xa5 h1] at h
   have e:(i+n).toNat=j:=xbp h
   exact⟨by rw[seqIndex_neg (by omega) h1,e],by omega,h1,by omega⟩
  ·rw[xaz h1] at h;cases h
theorem DN{α:Type}{xs:List α}{i:Int}{v:α}(h:eU xs i=some v):∃j,seqIndex? i xs.length=some j/\xs[j]? = some v/\j<xs.length/\-(xs.length:Int)<=i/\i<xs.length:=by
 unfold eU at h
 cases e:j1 xs.length i with
 |none=>rw[e] at h;cases h
 |some j=>
  rw[e] at h
  obtain⟨h1,h2,h3,h4⟩:=T8 e
  exact⟨j,h1,h,h2,h3,h4⟩
theorem T9{α:Type}{xs:List α}{j:Nat}{v:α}(h:xs[j]? = some v):eU xs (j:Int)=some v:=by
 have hj:j<xs.length:=(xan.mp h).1
 have e:j1 xs.length (j:Int)=some j:=by
  unfold j1
  rw[xa5 (by omega),xa5 (by omega)];simp
 unfold eU;rw[e];exact h
def DP(b:Expr):Prop:=∀o i,subscripted b false o i=operate [o,i] (getItem o i)
def m6(X:Cx)(r:R2):Prop:=
 ∀(value slice:Expr) (pins:List (Addr×Obj)) (s:Shared) (Z:St) (H:Hp) (x y:V) (v u:Value) (Q:VK),aH X pins Z H s->aZ x v->aZ y u->r x y H Q->
  subscripted slice false v u=operate [v,u] (getItem v u)->wpAny (model X.prog X.w) X.A (subscriptTail value slice v u) (EP X pins Z Q) X.xe s
def MtR(X:Cx)(id:String)(r:V->List V->Hp->VK->Prop):Prop:=
 ∀(pins:List (Addr×Obj)) (s:Shared) (Z:St) (H:Hp) (x:V) (xs:List V) (v:Value) (us:List Value) (Q:VK),aH X pins Z H s->aZ x v->bA xs us->r x xs H Q->
  wpAny (model X.prog X.w) X.A (call (.builtin id) (v::us)) (EP X pins Z Q) X.xe s
section
variable{X:Cx}{a b:Expr}{ta tb:TE}{pos:Pos}
theorem m6.or{r r':R2}(h:m6 X r)(h':m6 X r'):m6 X (fun x y H Q=>r x y H Q\/r' x y H Q):=by
 intro value slice pins s Z H x y v u Q I rx ry q hs
 rcases q with q|q
 ·exact h value slice pins s Z H x y v u Q I rx ry q hs
 ·exact h' value slice pins s Z H x y v u Q I rx ry q hs
theorem DQ{r:R2}(hr:m6 X r)(ha:PE X a ta)(hb:PE X b tb)(hs:DP b):PE X (.Subscript a b pos) (oQ r ta tb):=by
 intro pins s Z H Q I h
 exact Subscript_ (t4 ha hb I h fun v u s2 x y H2 I2 rx ry q=>hr a b pins s2 Z H2 x y v u Q I2 rx ry q (hs _ _))
def DU(K:xFg):R2:=fun x y H Q=>∃p xs i v,x=.ref p/\y=.int i/\bM K H p xs/\eU xs i=some v/\Q v H
def DV(K:xFg):R2:=fun x y H Q=>∃p xs i v,x=.ref p/\y=.int i/\cB K H p xs/\eU xs i=some v/\Q v H
def rIxS:R2:=fun x y H Q=>∃z i c,x=.str z/\y=.int i/\z.length<=sizeLine/\eU z.cps.toList i=some c/\Q (.str ⟨#[c]⟩) H
theorem DX:m6 X (DU X.K):=by
 intro value slice pins s Z H x y v u Q I rx ry h hs
 obtain⟨p,xs,i,z,rfl,rfl,hq,he,q⟩:=h
 cases rx
 obtain⟨t,rfl⟩:=ry
 obtain⟨its,r,pl,hz⟩:=I.list hq
 obtain⟨j,h1,h2,h3,h4,h5⟩:=DN he
 obtain⟨w,ew,rw'⟩:=r.get h2
 have hl:=r.length
 have hn:=t6
 have fin:EP X pins Z Q w s:=⟨z,H,I,rw',q⟩
 by_cases h0:0<=i
 ·have hj:i.toNat=j:=by
   rw[seqIndex_of h0 h5] at h1
   exact xbp h1
  exact item_listR pl.isList h0 (by omega) (by rw[hj];simpa using ew) fin hs
 ·have hj:(i+(its.toArray.size:Int)).toNat=j:=by
   rw[seqIndex_neg (by omega) h4] at h1
   rw[xao,<- hl]
   exact xbp h1
  exact subscriptTail_builtinR (x:=w) pl.isList.typeIs slot_list_getitem.lookup
   (wpAny_getItem_list_neg (Q:=fun r s'=>r=w/\EP X pins Z Q r s') pl.isList (by omega) (by rw[xao]<;>omega) (by omega) (by rw[hj];simpa using ew) ⟨rfl,fin⟩) hs
theorem UB:m6 X (DV X.K):=by
 intro value slice pins s Z H x y v u Q I rx ry h hs
 obtain⟨p,xs,i,z,rfl,rfl,hq,he,q⟩:=h
 cases rx
 obtain⟨t,rfl⟩:=ry
 obtain⟨its,r,pl,hz⟩:=I.tuple hq
 obtain⟨j,h1,h2,h3,h4,h5⟩:=DN he
 obtain⟨w,ew,rw'⟩:=r.get h2
 have hl:=r.length
 have hn:=t6
 have fin:EP X pins Z Q w s:=⟨z,H,I,rw',q⟩
 exact subscriptTail_builtinR (x:=w) pl.typeIs slot_tuple_getitem.lookup
  (getItem_tuple (j:=j) (Q:=fun r s'=>r=w/\EP X pins Z Q r s') pl (by omega) (by omega) (by rw[xao,<- hl];exact h1) (by simpa using ew) ⟨rfl,fin⟩) hs
theorem UC(lo hi:Option Int)(n:Nat):(sliceBounds lo hi none n).1=((HT.sIx n 0 lo:Nat):Int)/\(sliceBounds lo hi none n).2.1=((HT.sIx n n hi:Nat):Int)/\(sliceBounds lo hi none n).2.2=1:=by
 refine⟨?_,?_,rfl⟩
 ·cases lo with
  |none=>simp[sliceBounds,HT.sIx]
  |some i=>
   simp only[sliceBounds,HT.sIx,Option.getD_none,show (1:Int)>0 by decide,if_true]
   by_cases h:i<0
   ·simp only[h,if_true]<;>omega
   ·simp only[h,if_false]<;>omega
 ·cases hi with
  |none=>simp[sliceBounds,HT.sIx]
  |some i=>
   simp only[sliceBounds,HT.sIx,Option.getD_none,show (1:Int)>0 by decide,if_true]
   by_cases h:i<0
   ·simp only[h,if_true]<;>omega
   ·simp only[h,if_false]<;>omega
theorem UD(its:List Value)(lo hi:Option Int):slicePick its.toArray lo hi none=((its.drop (HT.sIx its.length 0 lo)).take (HT.sIx its.length its.length hi-HT.sIx its.length 0 lo)).toArray:=by
 obtain⟨h1,h2,h3⟩:=UC lo hi its.toArray.size
 unfold slicePick
 rw[h1,h2,h3]
 simp only[sliceRange_one,pick_run,xao]<;>rfl
def UE(K:xFg):V->Option Int->Option Int->Hp->VK->Prop:=fun x lo hi H Q=>∃a xs,x=.ref a/\bM K H a xs/\∀p,H p=none->Q (.ref p) (aU H p (.lst (jH xs lo hi)))
theorem DY:lM X (UE X.K):=by
 intro pins s Z H x v vl vu lo hi sl Q I rx hs pl pu h
 obtain⟨a,xs,rfl,hx,q⟩:=h
 cases rx
 obtain⟨its,r,ht,hz⟩:=I.list hx
 have hlen:=r.length
 refine⟨"list",_,slot_list_getitem.lookup,ht.isList.typeIs,?_⟩
 refine wpAny_getItem_list_slice ht.isList hs pl pu .none (by simp) ?_ (by rw[xao]<;>omega)
 rw[UD,<- hlen]
 refine⟨.ref s.heap.objs.size,_,I.laid (t':=s.toks) (o:=.lst (jH xs lo hi)) (fun b ob q=>xaj _ q) (xak _) ?_,rfl,q _ (I.hok.fresh (xak _))⟩
 exact⟨xah (DK xs lo hi) hz,_,0,(r.drop (HT.sIx xs.length 0 lo)).take (HT.sIx xs.length xs.length hi-HT.sIx xs.length 0 lo),xa6 _ rfl⟩
def m7:V->Bool
 |.non=>true
 |.bl _=>true
 |.int _=>true
 |.str _=>true
 |_=>false
def qG:V->V->Bool
 |.non,.non=>true
 |.bl a,.bl b=>a==b
 |.bl a,.int b=>(if a then 1 else 0)==b
 |.int a,.bl b=>a==(if b then 1 else 0)
 |.int a,.int b=>a==b
 |.str a,.str b=>a==b
 |_,_=>false
theorem UF{A:Around}{s:Shared}{y x:V}{u v:Value}(ry:aZ y u)(rx:aZ x v)(fy:m7 y=true)(fx:m7 x=true):SeqAt.EqAt A s u v (qG y x):=by
 cases y with
 |non=>
  cases ry
  cases x with
  |non=>cases rx;exact SeqAt.EqAt.same _
  |bl b=>cases rx;exact SeqAt.EqAt.none_bool b
  |int b=>obtain⟨t,rfl⟩:=rx;exact SeqAt.EqAt.none_int b t
  |str b=>obtain⟨t,rfl⟩:=rx;exact SeqAt.EqAt.none_str b t
  |_=>exact xat (show false=true from fx) xa7
 |bl a=>
  cases ry
  cases x with
  |non=>cases rx;exact SeqAt.EqAt.bool_none a
  |bl b=>cases rx;exact SeqAt.EqAt.bool_bool a b
  |int b=>obtain⟨t,rfl⟩:=rx;exact SeqAt.EqAt.bool_int a b t
  |str b=>obtain⟨t,rfl⟩:=rx;exact SeqAt.EqAt.bool_str a b t
  |_=>exact xat (show false=true from fx) xa7
 |int a=>
  obtain⟨t',rfl⟩:=ry
  cases x with
  |non=>cases rx;exact SeqAt.EqAt.int_none a t'
  |bl b=>cases rx;exact SeqAt.EqAt.int_bool a t' b
  |int b=>obtain⟨t,rfl⟩:=rx;exact SeqAt.EqAt.int_int a t' b t
  |str b=>obtain⟨t,rfl⟩:=rx;exact SeqAt.EqAt.int_str a t' b t
  |_=>exact xat (show false=true from fx) xa7
 |str a=>
  obtain⟨t',rfl⟩:=ry
  cases x with
  |non=>cases rx;exact SeqAt.EqAt.str_none a t'
  |bl b=>cases rx;exact SeqAt.EqAt.str_bool a t' b
  |int b=>obtain⟨t,rfl⟩:=rx;exact SeqAt.EqAt.str_int a t' b t
  |str b=>obtain⟨t,rfl⟩:=rx;exact SeqAt.EqAt.str_str a t' b t
  |_=>exact xat (show false=true from fx) xa7
 |_=>exact xat (show false=true from fy) xa7
theorem UG:bP X (compareOp .NotIn) (fun x y H Q=>∃i j,x=.str i/\y=.str j/\Q (.bl (!(!(Builtin.Str.occurrences j i 0 j.length 1).isEmpty))) H):=by
 intro pins s Z H x y v u Q I rx ry h
 obtain⟨i,j,rfl,rfl,q⟩:=h
 obtain⟨t,rfl⟩:=rx
 obtain⟨t',rfl⟩:=ry
 exact notIn_str ⟨.bl _,H,I,rfl,q⟩
theorem DZ:dW X (.builtin "len") (fun xs H Q=>∃p ys,xs=[.ref p]/\(bM X.K H p ys\/cB X.K H p ys)/\Q (.int ys.length) H):=by
 intro pins s Z H xs us Q I r h
 obtain⟨p,ys,rfl,hq,q⟩:=h
 obtain⟨u,rfl,rx⟩:=jF r
 cases rx
 have hn:=t6
 rcases hq with hq|hq
 ·obtain⟨its,r',pl,hz⟩:=I.list hq
  have hlen:=r'.length
  exact Calls.call_len_list pl.isList (by simp only[xao]<;>omega) ⟨.int ys.length,H,I.tok _,⟨s.toks+1,by rw[xao,hlen]⟩,q⟩
 ·obtain⟨its,r',pl,hz⟩:=I.tuple hq
  have hlen:=r'.length
  exact len_tuple pl (by simp only[xao]<;>omega) ⟨.int ys.length,H,I.tok _,⟨s.toks+1,by rw[xao,hlen]⟩,q⟩
theorem UH:dW X (.builtin "len") (fun xs H Q=>∃z,xs=[.str z]/\z.length<=sizeLine/\Q (.int z.length) H):=by
 intro pins s Z H xs us Q I r h
 obtain⟨z,rfl,hz,q⟩:=h
 obtain⟨u,rfl,t,rfl⟩:=jF r
 have hn:=t6
 exact len_str (by omega) ⟨.int z.length,H,I.tok _,⟨_,rfl⟩,q⟩
theorem dW.or{f:Value}{r r':List V->Hp->VK->Prop}(h:dW X f r)(h':dW X f r'):dW X f (fun xs H Q=>r xs H Q\/r' xs H Q):=by
 intro pins s Z H xs us Q I rs q
 rcases q with q|q
 ·exact h pins s Z H xs us Q I rs q
 ·exact h' pins s Z H xs us Q I rs q
theorem UI:dW X (.type "list") (fun xs H Q=>∃p ys,xs=[.ref p]/\(bM X.K H p ys\/cB X.K H p ys)/\∀l,H l=none->Q (.ref l) (aU H l (.lst ys))):=by
 intro pins s Z H xs us Q I r h
 obtain⟨p,ys,rfl,hq,q⟩:=h
 obtain⟨u,rfl,rx⟩:=jF r
 cases rx
 have fin:∀(its:List Value),bA ys its->ys.length<=sizeLine->∀(h':Heap) (c':Nat),(∀b o',s.heap.get? b=some o'->h'.get? b=some o')->
   h'.get? s.heap.objs.size=some { cls:=.type "list",dict:=none,data:=.seq its.toArray c',slots:=#[] }->EP X pins Z Q (.ref s.heap.objs.size) { s with heap:=h' }:=fun its r' hz h' c' kp e=>
  ⟨.ref s.heap.objs.size,_,I.laid (t':=s.toks) kp (xak _) (show eK X.prog X.w _ h' _ (.lst ys) from ⟨hz,its,c',r',e⟩),rfl,q _ (I.hok.fresh (xak _))⟩
 rcases hq with hq|hq
 ·obtain⟨its,r',pl,hz⟩:=I.list hq
  have hlen:=r'.length
  obtain⟨o,ho,hc,n,hd⟩:=pl.isList
  exact call_list_seq p (.inl rfl) ho hc hd (fun h' c' kp e=>fin its r' hz h' c' kp e) (by simp only[xao]<;>omega)
 ·obtain⟨its,r',pl,hz⟩:=I.tuple hq
  have hlen:=r'.length
  obtain⟨o,ho,hc,n,hd⟩:=pl
  exact call_list_seq p (.inr rfl) ho hc hd (fun h' c' kp e=>fin its r' hz h' c' kp e) (by simp only[xao]<;>omega)
theorem UJ:dW X (.type "tuple") (fun xs H Q=>∃p ys,xs=[.ref p]/\((bM X.K H p ys/\∀l,H l=none->Q (.ref l) (aU H l (.tup ys)))\/(cB X.K H p ys/\Q (.ref p) H))):=by
 intro pins s Z H xs us Q I r h
 obtain⟨p,ys,rfl,h⟩:=h
 obtain⟨u,rfl,rx⟩:=jF r
 cases rx
 rcases h with⟨hq,q⟩|⟨hq,q⟩
 ·obtain⟨its,r',pl,hz⟩:=I.list hq
  have hlen:=r'.length
  refine call_tuple_list pl.isList (fun h' kp=>?_) (by simp only[xao]<;>omega)
  have I1:aH X pins Z H { s with heap:=h' }:=I.kept (t':=s.toks) kp
  have I2:aH X pins Z (aU H h'.objs.size (.tup ys)) { s with heap:=h'.push { cls:=.type "tuple",data:=.seq its.toArray } }:=
   I1.laid (t':=s.toks) (fun b o e=>xaj _ e) (xak _) (show eK X.prog X.w _ _ _ (.tup ys) from ⟨hz,its,r',jZ.new _ _⟩)
  exact⟨.ref h'.objs.size,_,I2,rfl,q _ (I1.hok.fresh (xak _))⟩
 ·obtain⟨its,r',pl,hz⟩:=I.tuple hq
  exact call_tuple_same pl ⟨.ref p,H,I,rfl,q⟩
def tyV(K:xFg)(T:String)(x:V)(H:Hp):Prop:=match x with
 |.str _=>T="str"
 |.int _=>T="int"
 |.ref p=>(T="list"/\∃xs,bM K H p xs)\/(T="tuple"/\∃xs,cB K H p xs)\/
   (T="dict"/\((∃kvs,H p=some (.dK kvs))\/∃kvs,H p=some (.dT kvs)))\/(T="set"/\∃S n,H p=some (.set S n))
 |_=>False
theorem UK{pins:List (Addr×Obj)}{Z:St}{H:Hp}{s:Shared}{T:String}{x:V}{v:Value}(I:aH X pins Z H s)(r:aZ x v)(ty:tyV X.K T x H) :
  s.TypeIs v T/\∀a,v=.ref a->∃ob,s.heap.get? a=some ob/\ob.dict=none:=by
 cases x with
 |str z=>
  obtain⟨t,rfl⟩:=r
  cases (show T="str" from ty)
  exact⟨typeIs_str s z t,fun _ e=>nomatch e⟩
 |int i=>
  obtain⟨t,rfl⟩:=r
  cases (show T="int" from ty)
  exact⟨typeIs_int s i t,fun _ e=>nomatch e⟩
 |ref p=>
  cases r
  rcases ty with⟨rfl,xs,hq⟩|⟨rfl,xs,hq⟩|⟨rfl,hk⟩|⟨rfl,S,n,hk⟩
  ·obtain⟨its,_,pl,_⟩:=I.list hq
   refine⟨pl.isList.typeIs,fun a e=>?_⟩
   cases e
   obtain⟨o,n,e,c,hd,_⟩:=pl
   exact⟨o,e,hd⟩
  ·obtain⟨its,_,⟨o,e1,hc,_,hd⟩,_⟩:=I.tupN hq
   refine⟨⟨o,e1,hc⟩,fun a e=>?_⟩
   cases e
   exact⟨o,e1,hd⟩
  ·have z:∃o,s.heap.get? p=some o/\o.ExactDict:=by
    rcases hk with⟨kvs,hk⟩|⟨kvs,hk⟩
    ·obtain⟨_,_,_,_,o,_,_,e,ex,_⟩:=I.hok p _ hk
     exact⟨o,e,ex⟩
    ·obtain⟨_,_,_,_,o,_,_,e,ex,_⟩:=I.hok p _ hk
     exact⟨o,e,ex⟩
   obtain⟨o,e,ex⟩:=z
   refine⟨⟨o,e,ex.1⟩,fun a e2=>?_⟩
   cases e2
   exact⟨o,e,ex.2.1⟩
  ·obtain⟨o,_,_,_,e,ex,_⟩:=I.hok p _ hk
   refine⟨⟨o,e,ex.1⟩,fun a e2=>?_⟩
   cases e2
   exact⟨o,e,ex.2.1⟩
 |_=>exact False.elim ty
def tBM(K:xFg)(T:String)(r:V->List V->Hp->VK->Prop)(to:TE)(t:TA):TE:=fun Z H Q=>to Z H fun x H1=>tyV K T x H1/\t Z H1 fun xs H2=>r x xs H2 Q
variable{o e:Expr}{es:List Expr}{to:TE}{t:TA}{name:Str}{apos cpos:Pos}{T id:String}{r:V->List V->Hp->VK->Prop}
theorem qH(pa:PlainAttrs T)(slot:Slot T name id)(hty:typeOf (.builtin id)=pure (.type "method_descriptor"))(hm:MtR X id r)(ho:PE X o to)(ha:PA X (e::es) t)
  (hbase:attributeBase o name X.env (eval o X.env)=eval o X.env:=by rfl)
  (hfew : ((backTo cpos (starEach (e :: es) X.env)).all (fun x => !x.1) && (backToKw cpos (keywordEach [] X.env)).all (fun x => x.1.isSome)
   && decide ((e::es).length+([]:List Keyword).length+(if ([]:List Keyword).isEmpty then 0 else 1)<30))=true:=by rfl)
  (hline:(apos.endLine==cpos.line)=true:=by rfl) (hs:starEach (e::es) X.env=(false,eval e X.env)::starEach es X.env:=by rfl) (hplain:(backTo cpos (starEach es X.env)).any (·.1)=false:=by rfl) :
  PE X (.Call (.Attribute o name apos) (e::es) [] cpos) (tBM X.K T r to t):=by
 intro pins s Z H Q I h
 refine wpAny_Call_method_late hbase hfew hline rfl (aX (ho pins s Z H _ I h) fun v s1 ⟨x,H1,I1,r1,ty,q1⟩=>?_)
 obtain⟨h1,h2⟩:=UK I1 r1 ty
 refine⟨T,id,pa,slot,hty,h1,h2,?_⟩
 have hA:=ha cpos pins s1 Z H1 _ I1 q1
 rw[hs] at hA ⊢
 refine Calls.callWith_builtin (by show (false||(backTo cpos (starEach es X.env)).any (·.1))=false;rw[hplain]<;>rfl) (Calls.evalArgs_plain ?_)
 exact aX hA fun us s2 ⟨vs,H2,I2,r2,q2⟩=>hm pins s2 Z H2 x vs v us Q I2 r1 r2 q2
end
end L2
namespace L2
open PySem.Spec PyProof.Rows
def t9(X:Cx)(id:String)(r:V->List V->Hp->VK->Prop):Prop:=
 ∀(pins:List (Addr×Obj)) (s:Shared) (Z:St) (H:Hp) (x:V) (xs:List V) (v:Value) (us:List Value) (Q:VK),aH X pins Z H s->aZ x v->bA xs us->r x xs H Q->
  wpAny (model X.prog X.w) X.A (call (.builtin id) (v::us)) (EP X pins Z Q) X.xe s
theorem bA.one:∀{x:V} {us:List Value},bA [x] us->∃u,us=[u]/\aZ x u
 |_,_,.cons r .nil=>⟨_,rfl,r⟩
theorem bA.rep{xs:List V}{us:List Value}(h:bA xs us):∀k:Nat,bA (List.replicate k xs).flatten (List.replicate k us).flatten
 |0=>.nil
 |k+1=>by
  rw[xba,xba,xbw,xbw]
  exact bA.append h (bA.rep h k)
theorem xZ(its:List Value):∀(k:Nat) (acc:List Value),
  List.foldl (fun x1 x2=>x1++x2) acc.toArray (List.replicate k its.toArray)=(acc++(List.replicate k its).flatten).toArray
 |0,acc=>by simp
 |k+1,acc=>by
  have e:acc.toArray++its.toArray=(acc++its).toArray:=by simp
  have e2:(acc++its)++(List.replicate k its).flatten=acc++(List.replicate (k+1) its).flatten:=by
   rw[xba,xbw,xar]
  rw[<- e2,<- xZ its k (acc++its),<- e,xba,List.foldl_cons]
section
variable{X:Cx}{pins:List (Addr×Obj)}{Z:St}{H:Hp}{s:Shared}{l b:Addr}{xs ys zs:List V}
theorem aH.lset{its its':List Value}{n:Nat}{f:Array Value->Array Value}{t':Nat}(I:aH X pins Z H s)(hH:H l=some (.lst xs))
  (e:s.heap.get? l=some { cls:=.type "list",data:=.seq its.toArray n }) (hf:f its.toArray=its'.toArray) (hv:bA ys its') (hz:ys.length<=sizeLine) :
  aH X pins Z (aU H l (.lst ys)) { s with heap:=s.heap.update l (Obj.mapSeq f),toks:=t' }:=by
 have q:=PySem.IsL.update e f
 rw[hf] at q
 refine I.write (x:=l) (e:=l) (by rw[hH];exact trivial) (.inl rfl) (fun b' u hb hu=>(xbv s.heap (Obj.mapSeq f) (xbd hb)).trans hu) ⟨_,q⟩ ?_
 exact⟨hz,its',_,hv,q⟩
theorem aH.lnew{its:List Value}{t':Nat}(I:aH X pins Z H s)(hv:bA ys its)(hz:ys.length<=sizeLine) :
  aH X pins Z (aU H s.heap.objs.size (.lst ys)) { s with heap:=s.heap.push { cls:=.type "list",data:=.seq its.toArray },toks:=t' }:=
 I.laid (fun _ _ q=>xaj _ q) (xak _) ⟨hz,its,0,hv,xa6 _ rfl⟩
theorem aH.fresh(I:aH X pins Z H s):H s.heap.objs.size=none:=I.hok.fresh (xak _)
theorem aH.lstM(I:aH X pins Z H s)(hH:H l=some (.lst xs)):xs.length<=sizeLine/\∃(its:List Value) (n:Nat),bA xs its/\xs.length=its.length/\s.heap.get? l=some { cls:=.type "list",data:=.seq its.toArray n }:=by
 obtain⟨z,its,n,r,e⟩:=I.hok l _ hH
 exact⟨z,its,n,r,r.length,e⟩
theorem UM{n:Nat}(h:n<=sizeLine):Builtin.List.listTooLong n=false:=by
 unfold Builtin.List.listTooLong
 exact xag (by omega)
end
section
variable{X:Cx}
def UN:V->List V->Hp->VK->Prop:=fun x vs H Q=>∃l xs y,x=.ref l/\vs=[y]/\H l=some (.lst xs)/\xs.length<sizeLine/\Q .non (aU H l (.lst (xs++[y])))
theorem D2:t9 X "list.append" UN:=by
 intro pins s Z H x vs v us Q I rx rv h
 obtain⟨l,xs,y,rfl,rfl,hH,hz,q⟩:=h
 cases rx
 obtain⟨u,rfl,ru⟩:=rv.one
 obtain⟨z,its,n,r,hl,e⟩:=I.lstM hH
 refine call_meets F.slot_list_append ⟨_,e,rfl⟩ F.entry_list_append (F.args_list_append_2 _ _) (PySem.list_append l its.toArray n u (by rw[xao];omega)) ⟨e,?_⟩
 refine⟨.non,_,I.lset (its':=its++[u]) hH e (by simp) (r.append (.cons ru .nil)) ?_,rfl,q⟩
 rw[xaa,List.length_singleton]
 omega
def UO:R2:=fun x y H Q=>∃l k xs,x=.ref l/\y=.int k/\H l=some (.lst xs)/\-(2^63)<=k/\k<2^63/\xs.length*k.toNat<=sizeLine/\
 ∀p,H p=none->Q (.ref p) (aU H p (.lst (List.replicate k.toNat xs).flatten))
theorem oR{α:Type}(xs:List α)(k:Nat):(List.replicate k xs).flatten.length=k*xs.length:=by
 induction k with
 |zero=>simp
 |succ k ih=>rw[xba,xbw,xaa,ih,Nat.succ_mul,Nat.add_comm]
theorem UP:bP X (binaryOp .Mult) UO:=by
 intro pins s Z H x y v u Q I rx ry h
 obtain⟨l,k,xs,rfl,rfl,hH,h1,h2,hz,q⟩:=h
 cases rx
 obtain⟨t,rfl⟩:=ry
 obtain⟨z,its,n,r,hl,e⟩:=I.lstM hH
 have hlen:its.toArray.size*k.toNat<=sizeLine:=by rw[xao,<- hl];exact hz
 have hcap:¬its.toArray.size*k.toNat>(2^63-1)/8:=by
  have:(sizeLine:Nat)<=(2^63-1)/8:=by decide
  omega
 have hfit:¬(!Builtin.List.listFitsIndex k)=true:=by
  rw[fitsIndex_both h1 h2]
  exact xa7
 have hlong:¬Builtin.List.listTooLong (its.toArray.size*k.toNat)=true:=by
  rw[UM hlen]
  exact xa7
 have hnew:List.foldl (fun x1 x2=>x1++x2) #[] (List.replicate (if its.toArray.isEmpty=true then 0 else k.toNat) its.toArray)=(List.replicate k.toNat its).flatten.toArray:=by
  have f0:∀m:Nat,List.foldl (fun x1 x2=>x1++x2) #[] (List.replicate m its.toArray)=(List.replicate m its).flatten.toArray:=fun m=>by
   have:=xZ its m []
   rw[xbq] at this
   exact this
  rw[f0]
  cases its with
  |nil=>simp
  |cons a r'=>rw[xaz (by simp)]
 refine wpAny_binaryOp_repeat_ref (T:="list") (U:="int") (by decide) ⟨_,e,rfl⟩ (fun s'=>typeIs_int s' k t) noFill_list_mul F.fills_int_mul F.slot_int_rmul repeat_list F.slot_int_index.lookup
  (call_meets F.slot_int_rmul (typeIs_int s k t) F.entry_int_rmul (F.args_int_rmul_2 _ _) (int___rmul___int_list k t l its.toArray n)
   ⟨e,rfl,⟨_,e,rfl⟩,call_meets F.slot_list_mul ⟨_,e,rfl⟩ F.entry_list_mul (F.args_list_mul_2 _ _) (AutoListH.list___mul___list_int_3 l its.toArray n k t hfit hcap hlong) ⟨e,?_⟩⟩)
 rw[hnew]
 exact⟨.ref _,_,I.lnew (t':=s.toks) (r.rep k.toNat) (by rw[oR,Nat.mul_comm];exact hz),rfl,q _ I.fresh⟩
end
end L2
namespace Att
open PySem.W PySem.Calls PyProof.Rows
theorem UQ{P:Params}{h:Heap}:∀(ns:List Int) (vs:List Value),WellAll P h vs (ns.map WData.int)->IntsAre vs ns:=by
 intro ns
 induction ns with
 |nil=>
  intro vs w
  rw[xck] at w
  cases w
  exact .nil
 |cons n ns ih=>
  intro vs w
  rw[xbg] at w
  cases w with
  |cons a b=>
   cases a
   exact .cons _ _ (ih _ b)
theorem UR{l:OpenLaw}{n:Nat}(hn:l.most=some n){P:Params}{h:Heap}{args:List WData}{vals:List Value}
  (hpre:l.row.toRowW.claim.pre args=true) (hwl:WellAll P h vals args) :
  ∃a vs ns,vals=[Value.ref a]/\args=[WData.list (ns.map WData.int)]/\h.get? a=some { cls:=.type "list",data:=.seq vs.toArray }/\IntsAre vs ns/\ns.length<=n:=by
 have hsh:WShape.hasAll [] args [.list .int]=true:=(pre_splitW hpre).1
 have hc:l.pre.holds [] { args:=args }=true:=(pre_splitW hpre).2
 obtain⟨d,r,rfl,h1,h2⟩:=hasAllW_cons hsh
 obtain rfl:=hasAllW_nil h2
 obtain⟨xs,rfl,h3⟩:=hasW_list h1
 obtain⟨ns,rfl⟩:=items_int h3
 have hlen:ns.length<=n:=by
  unfold OpenLaw.pre at hc
  have h4:(WTm.not (.lt (.lit (.int (n:Int))) (.len (.arg 0)))).holds [] { args:=[.list (ns.map .int)] }=true:=by
   have h4:=(holds_andW hc).1
   rw[hn] at h4
   exact h4
  have h5:=condW_of h4 (w_not (w_lt w_lit (w_len_list (w_arg rfl))))
  rw[xab] at h5
  refine Nat.le_of_not_lt fun q=>?_
  have q':(n:Int)<((ns.length:Nat):Int):=by omega
  first
   |(rw[xaf q'] at h5;exact xat h5 (by decide))
   |(simp at h5;omega)
 cases hwl with
 |cons w1 w2=>
  cases w2
  cases w1 with
  |list ho hall=>exact⟨_,_,ns,rfl,rfl,ho,UQ ns _ hall,hlen⟩
theorem US(l:OpenLaw)(args:List WData):l.row.toRowW.claim.post args (.bool true) args=true:=
 postW_of (r:=l.row.toRowW) (X:=(true==true))
  (show WShape.has [] (.bool true) .bool=true by first|rfl|decide|simp[WShape.has,WShape.arms,WShape.armsAll])
  (show (WTm.eq .res (.lit (.bool true))).value [] { args:=args,res:=some (.bool true),after:=args }=some (.bool (true==true)) from w_eq_bool (w_res rfl) w_lit) rfl
theorem attach_call{l:OpenLaw}{n:Nat}{q:Program}{loose:List Str}{XP:(Str->Option Value)->Heap->Prop}{YP:World->Heap->Prop}{d:DefRec}
  (hn:l.most=some n) (hdf:d.params.defaults=[])
  (call : ∀ (w : World) (s₀ s₁ : Shared) (mg mb : Str -> Option Value) (fa : Addr) (o : Obj) (pm cd doc : Value) (a : Addr) (vs : List Value) (ns : List Int),
   Ground q loose [] XP w s₀ mg mb s₁.heap->YP w s₁.heap->
   s₁.heap.get? fa=some o->o.data=.func (docDef d.name d.params d.body d.scope pm cd doc)->s₁.heap.CodeRec cd d.name->mg d.name=some (.ref fa)->
   s₁.heap.get? a=some { cls:=.type "list",data:=.seq vs.toArray }->IntsAre vs ns->ns.length<=n->s₁.gens=#[]->
   codeAny (model l.prog w) callerA (.call (.ref fa) ⟨[.ref a],[]⟩) (fun r s'=>r=.ok (.ret (.bool true))/\OldK s₁.heap s'.heap/\s'.os=s₁.os/\AllBare s'.gens) s₁) :
  WalkO q loose XP YP l.row.toRowW d [] (fun f vs=>PySem.call f vs):=by
 intro w s₀ s₁ mg mb G Y fa o pm cd doc dV kV ho hd hcd hD hmg hg args vals as hpre hlay hrd hwl hlo
 obtain rfl:dV=.none:=Dflts.none hD hdf
 obtain rfl:kV=.none:=Dflts.noKw hD
 obtain⟨a,vs,ns,rfl,rfl,hobj,hints,hlen⟩:=UR hn hpre hwl
 refine enter_call (codeAny_mono (call w s₀ s₁ mg mb fa o pm cd doc a vs ns G Y ho (fd_plain hd) hcd hmg hobj hints hlen hg) fun r s' hq=>?_)
 obtain⟨rfl,h2,h3,h4⟩:=hq
 exact⟨.inl ⟨.bool true,.bool true,[],rfl,fun _=>rfl,.bool true,US l _,fun _=>⟨List.Pairwise.nil,fun _ hm=>(nomatch hm)⟩⟩,h2,h3,h4⟩
end Att
namespace L2
open PySem.Spec PyProof.Rows
theorem D3:∀{vs:List Value} {ns:List Int},IntsAre vs ns->bA (ns.map V.int) vs
 |_,_,.nil=>.nil
 |_,_,.cons n t h=>.cons ⟨t,rfl⟩ (D3 h)
def x0(H:Hp):Prop:=∀b,H b=none\/∃o xs,H b=some (.frz o (.lst xs))
theorem UT{P:Program}{w:World}{K:xFg}{mg mb:Str->Option Value}{CX:eR}{k:Nat}{fa a:Addr}{fd:FuncData}{x:Str}{sp:Sp}{s₁:Shared}{vs:List Value}{ns:List Int}
  (KX:K.In s₁.heap) (hns:s₁.heap.Ns mainGlobals mg) (hb:s₁.heap.Ns builtinsNs mb) (hbb:∀x:Str,x≠"__name__"->mb x=bootBuiltins x) (hlim:s₁.heap.NoLimit) (hg:s₁.gens=#[])
  (ha:s₁.heap.get? a=some { cls:=.type "list",data:=.seq vs.toArray }) (hi:IntsAre vs ns) (hl:ns.length<=sizeLine) (hr:cQ k callerA)
  (F:∀base:Heap,K.In base->base.Ns mainGlobals mg->cN P w K mg base CX k fa fd [x] sp) (hbind:∀(s:Shared) (u:Value),BindsTo s fd ⟨[u],[]⟩ [(x,u)])
  (hsp:∀H:Hp,x0 H->bM K H a (ns.map V.int)->sp [.ref a] H (fun v _=>v=.bl true) fun _ _ _=>False)
  (hCX:∀H e s',CX [] H s₁ (fun _ _ _=>False) e s'->False) :
  codeAny (model P w) callerA (.call (.ref fa) ⟨[.ref a],[]⟩) (fun r s'=>r=.ok (.ret (.bool true))/\OldK s₁.heap s'.heap/\s'.os=s₁.os/\AllBare s'.gens) s₁:=by
 have rv:=D3 hi
 have lenV:=hi.length
 have core:∀H:Hp,x0 H->bM K H a (ns.map V.int)->c8 P w H s₁.heap->(∀b,H b≠none->b=a)->(H a≠none->K.lookup a=none)->
   codeAny (model P w) callerA (.call (.ref fa) ⟨[.ref a],[]⟩) (fun r s'=>r=.ok (.ret (.bool true))/\OldK s₁.heap s'.heap/\s'.os=s₁.os/\AllBare s'.gens) s₁:=by
  intro H hO hS hok hA hK
  have base_of:∀{b:Addr} {o:Obj},s₁.heap.get? b=some o->H b=none->(kL s₁.heap H).get? b=some o:=fun e n=>QC e n
  have noA:∀{b:Addr} {o:Obj} {es:Array DictEntry} {ep:Nat},s₁.heap.get? b=some o->o.data=.dict es ep->H b=none:=fun {b o es ep} e d=>by
   cases q:H b with
   |none=>rfl
   |some u=>
    have e':b=a:=hA b (by rw[q];simp)
    subst e'
    rw[ha] at e;cases e
    have d':Data.seq vs.toArray _=Data.dict es ep:=d
    cases d'
  have nsK:∀{b:Addr} {m:Str->Option Value},s₁.heap.Ns b m->(kL s₁.heap H).Ns b m:=fun {b m} ⟨o,es,ep,e,d,r⟩=>⟨o,es,ep,base_of e (noA e d),d,r⟩
  have hKb:K.In (kL s₁.heap H):=fun b o e=>base_of (KX b o e) (by
   cases q:H b with
   |none=>rfl
   |some u=>
    have e':b=a:=hA b (by rw[q];simp)
    subst e'
    rw[hK (by rw[q];simp)] at e;cases e)
  have hM:Mod K mg (kL s₁.heap H):=⟨hKb,nsK hns,⟨mb,nsK hb,hbb⟩,let⟨mc,h1,h2⟩:=hlim;⟨mc,nsK h1,h2⟩⟩
  have e0:m5 P w K mg (kL s₁.heap H) callerA [] s₁ H:=⟨rfl,hM,fun b o e=>QD e,Nat.le_of_eq (QB _ _),trivial,fun b hb=>xat (show b∈([]:List Addr) from hb) (by simp),hok,.of_eq hg⟩
  refine codeAny_mono ((F _ hKb (nsK hns)).run callerA [] s₁ H ⟨[.ref a],[]⟩ [.ref a] [.ref a] _ _ hr e0 (hbind s₁ (.ref a)) (.cons rfl .nil) (hsp H hO hS)) fun r s' h=>?_
  cases r with
  |error e=>exact(hCX H e s' h).elim
  |ok fl=>
   cases fl with
   |next=>exact False.elim h
   |brk=>exact False.elim h
   |cont=>exact False.elim h
   |ret u=>
    obtain⟨v,H',os,bare,un,hok',r',q⟩:=h
    have q':v=.bl true:=q
    subst q'
    obtain rfl:u=Value.bool true:=r'
    refine⟨rfl,OldK.of_keep fun b o e=>?_,os,bare⟩
    cases q:H b with
    |none=>exact un.keep b o e q (by intro z;exact xat (show b∈([]:List Addr) from z) (by simp)) (by simp)
    |some u=>
     rcases hO b with z|⟨ob,xs,z⟩
     ·rw[q] at z;cases z
     ·have z2:=un.frzs b ob _ z
      obtain⟨e1,_⟩:=hok b _ z
      obtain⟨e2,_⟩:=hok' b _ z2
      rw[e] at e1;cases e1
      exact e2
 cases hk:K.lookup a with
 |some o=>
  have e:=KX a o hk
  rw[ha] at e
  cases e
  refine core (fun _=>none) (fun _=>.inl rfl) (.inr ⟨_,vs.toArray,_,hk,rfl,rfl,rfl,by rw[xao,lenV];exact hl,by simpa using rv⟩) (fun b u z=>by have z':(none:Option HO)=some u:=z;cases z') (fun b z=>xat rfl z) fun z=>xat rfl z
 |none=>
  refine core (fun b=>if b=a then some (.frz { cls:=.type "list",data:=.seq vs.toArray } (.lst (ns.map V.int))) else none) (fun b=>?_) (.inl (.inr ⟨{ cls:=.type "list",data:=.seq vs.toArray },xa5 rfl⟩)) (fun b u z=>?_) (fun b z=>?_) fun _=>hk
  ·by_cases hb:b=a
   ·exact .inr ⟨_,_,xa5 hb⟩
   ·exact .inl (xaz hb)
  ·by_cases hb:b=a
   ·have z':=(xa5 hb).symm.trans z
    cases z'
    subst hb
    exact⟨ha,by rw[xab];exact hl,vs,_,rv,ha⟩
   ·have z':=(xaz hb).symm.trans z
    cases z'
  ·by_cases hb:b=a
   ·exact hb
   ·exact xat (xaz hb) z
end L2
namespace L2
open PySem.Spec PyProof.Rows
theorem walk_of{l:PySem.W.OpenLaw}{n k:Nat}{q:Program}{loose:List Str}{XP:(Str->Option Value)->Heap->Prop}{YP:World->Heap->Prop}{d:DefRec}{K:Params->xFg}{CX:World->eR}{sp:World->Sp}{x:Str}
  (hn:l.most=some n) (hn2:n<=sizeLine) (hdf:d.params.defaults=[]) (hr:cQ k callerA)
  (hY:∀(w:World) (h:Heap),YP w h->(K w.params).In h)
  (F : ∀ (w : World) (mg : Str -> Option Value) (fa : Addr) (h : Heap), (K w.params).In h -> h.Ns mainGlobals mg -> mg d.name = some (.ref fa) ->
   ∃fd:FuncData,(∀(s:Shared) (u:Value),BindsTo s fd ⟨[u],[]⟩ [(x,u)])/\
    ∀base:Heap,(K w.params).In base->base.Ns mainGlobals mg->cN l.prog w (K w.params) mg base (CX w) k fa fd [x] (sp w))
  (hsp:∀(w:World) (H:Hp) (a:Addr) (ns:List Int),ns.length<=n->x0 H->bM (K w.params) H a (ns.map V.int)->sp w [.ref a] H (fun v _=>v=.bl true) fun _ _ _=>False)
  (hCX:∀(w:World) (H:Hp) (s:Shared) (e:Value) (s':Shared),CX w [] H s (fun _ _ _=>False) e s'->False) :
  PySem.W.WalkO q loose XP YP l.row.toRowW d [] (fun f vs=>PySem.call f vs):=by
 refine Att.attach_call hn hdf fun w s₀ s₁ mg mb fa o pm cd doc a vs ns G Y ho hd hcd hmg hobj hints hlen hg=>?_
 have KX:=hY w _ Y
 obtain⟨fd,hb,hF⟩:=F w mg fa _ KX G.T.g hmg
 exact UT KX G.T.g G.T.b G.T.builtins G.T.nolimit hg hobj hints (xah hlen hn2) hr hF hb (fun H hO hS=>hsp w H a ns hlen hO hS) fun H e s'=>hCX w H s₁ e s'
end L2
namespace L2
open PySem.Spec PyProof.Rows
def kP(s:Stmt)(j:Nat):Stmt:=match s with
 |.ClassDef _ _ _ body _ _ _ _ _ _ _=>body.getD j (.Pass ⟨0,0,0,0⟩)
 |_=>.Pass ⟨0,0,0,0⟩
def j2(s:Stmt):Arguments:=match s with
 |.FunctionDef _ a _ _ _ _ _ _ _ _=>a
 |_=>{ posonlyargs:=[],args:=[],vararg:=none,kwonlyargs:=[],kw_defaults:=[],kwarg:=none,defaults:=[] }
def fX(s:Stmt):List Stmt:=match s with
 |.FunctionDef _ _ b _ _ _ _ _ _ _=>b
 |_=>[]
def cF(s:Stmt):Scope:=match s with
 |.FunctionDef _ _ _ _ _ _ sc _ _ _=>sc
 |_=>{ kind:=.function,names:=[],isGenerator:=false,isCoroutine:=false }
abbrev E0:XK:=fun _ _ _=>False
structure gE(K:xFg)(x qual:Str)(st:Stmt)(f:Addr)(fd:FuncData):Prop where
 ex:∃(oc:Value) (od:Option Addr) (kV doc pm:Value) (an:Option Addr) (cdv ct:Value) (osl:Array (Option Value)),
  fd=PySem.W.fnOf x qual (j2 st) (fX st) (cF st) .none kV doc pm an cdv ct/\K.lookup f=some ⟨oc,od,.func fd,osl⟩/\PySem.W.codeIn K cdv qual=true
 kp:PySem.W.keepIn K (.ref f)=true
section
variable{P:Program}{w:World}{K:xFg}{mg:Str->Option Value}{base:Heap}
theorem gE.binds{x qual:Str}{st:Stmt}{f:Addr}{fd:FuncData}{ps:List Str}(F:gE K x qual st f fd)
  (h:∀(kV doc pm:Value) (an:Option Addr) (cdv ct:Value) (us:List Value),us.length=ps.length->bindArgs (PySem.W.fnOf x qual (j2 st) (fX st) (cF st) .none kV doc pm an cdv ct) ⟨us,[]⟩=pure (ps.zip us)):eS K fd ps []:=by
 obtain⟨oc,od,kV,doc,pm,an,cdv,ct,osl,rfl,lk,hcd⟩:=F.ex
 exact .all (h kV doc pm an cdv ct)
theorem x4{x qual:Str}{st:Stmt}{f:Addr}{oc:Value}{od an:Option Addr}{osl:Array (Option Value)}{kV doc pm cdv ct:Value}(l:K.lookup f=some ⟨oc,od,.func (PySem.W.fnOf x qual (j2 st) (fX st) (cF st) .none kV doc pm an cdv ct),osl⟩)
  (c:PySem.W.codeIn K cdv qual=true) (k:PySem.W.keepIn K (.ref f)=true):gE K x qual st f (PySem.W.fnOf x qual (j2 st) (fX st) (cF st) .none kV doc pm an cdv ct):=⟨⟨oc,od,kV,doc,pm,an,cdv,ct,osl,rfl,l,c⟩,k⟩
end
theorem UU{n:Nat}(h:n<=1000):n<sizeLine:=xci h (by decide)
section
variable{X:Cx}
theorem pv(i:Nat){x:Str}{pos:Pos}(hN:X.N[i]? = some x:=by rfl)(hv:iS X.env.scope x:=by first|exact Or.inl rfl|exact Or.inr (Or.inl rfl)|exact Or.inr (Or.inr rfl))(hd:(x==("__debug__":Str))=false:=by decide)
  (hcd:(x==("__classdict__":Str))=false:=by decide):PE X (.Name x pos) (CI i):=QH hN hv hd hcd
end
theorem x5{A B:Prop}(h:B):if false=true then A else B:=by
 rw[xaz xa7]
 exact h
theorem x6{A B:Prop}(h:A):if true=true then A else B:=by
 rw[xa5 rfl]
 exact h
def aM(H H':Hp):Prop:=∀b o,H b=some o->H' b=some o
theorem aM.refl(H:Hp):aM H H:=fun _ _ h=>h
theorem aM.trans{H H1 H2:Hp}(a:aM H H1)(b:aM H1 H2):aM H H2:=fun c o h=>b c o (a c o h)
theorem aM.free{H H':Hp}(e:aM H H'){l:Addr}(h:H' l=Option.none):H l=Option.none:=by
 cases q:H l with
 |none=>rfl
 |some o=>
  rw[e l o q] at h
  cases h
theorem aM.seq{K:xFg}{H H':Hp}{a:Addr}{xs:List V}(e:aM H H')(h:bM K H a xs):bM K H' a xs:=by
 rcases h with (h|⟨o,h⟩)|h
 ·exact .inl (.inl (e _ _ h))
 ·exact .inl (.inr ⟨o,e _ _ h⟩)
 ·exact .inr h
end L2
end
namespace L2
open PySem.Spec PyProof.Rows
theorem D4{α β:Type}(g:β->α->β):∀{l:List α} {f:α->β->Sem (ForInStep β)} (c:β),(∀x∈l,∀c,f x c=pure (.yield (g c x)))->forIn l c f=pure (l.foldl g c)
 |[],_,_,_=>rfl
 |x::l,f,c,h=>by
  rw[xcq,h x xaq c,pure_bind]
  exact D4 g (g c x) fun y hy=>h y (xae _ hy)
def jI(env:Env)(cs:List (Str×Addr))(x:Str×NameKind):List (Str×Addr):=
 if (x.2==NameKind.free)=true then (x.1,(env.cells.lookup x.1).getD 0)::cs else cs
def oS(env:Env)(names:List (Str×NameKind)):List (Str×Addr):=names.foldl (jI env) []
theorem D5{env:Env}{scope:Scope}(h:∀x∈scope.names,x.2=.free->∃c,env.cells.lookup x.1=some c):closureFor scope env=pure (oS env scope.names):=by
 simp only[closureFor]
 rw[D4 (jI env) [] (fun x hx c=>by
  obtain⟨n,k⟩:=x
  by_cases hk:k=.free
  ·obtain⟨a,e⟩:=h (n,k) hx hk
   have e':env.cells.lookup n=some a:=e
   subst hk
   simp[jI,cellOf,e']
  ·have hb:(k==NameKind.free)=false:=by simpa using hk
   simp[jI,hb])]
 rfl
theorem x8{env:Env}:∀(l:List (Str×NameKind)) (acc:List (Str×Addr)),(∀x∈l,x.2=.free->∃c,env.cells.lookup x.1=some c)->(∀y c,acc.lookup y=some c->env.cells.lookup y=some c)->
  ∀y c,(l.foldl (jI env) acc).lookup y=some c->env.cells.lookup y=some c
 |[],acc,_,ha,y,c,e=>ha y c e
 |x::l,acc,h,ha,y,c,e=>by
  refine x8 l (jI env acc x) (fun z hz=>h z (xae _ hz)) (fun z d q=>?_) y c e
  unfold jI at q
  split at q
  ·rename_i hk
   obtain⟨a,ea⟩:=h x xaq (by simpa using hk)
   rw[xca] at q
   cases hz:z==x.1 with
   |true=>
    rw[hz] at q
    rw[ea] at q
    have:z=x.1:=by simpa using hz
    rw[this,ea];simpa using q
   |false=>rw[hz] at q;exact ha z d q
  ·exact ha z d q
theorem x9{env:Env}:∀(l:List (Str×NameKind)) (acc:List (Str×Addr)) (y:Str),((∃c,acc.lookup y=some c)\/(y,NameKind.free)∈l)->∃c,(l.foldl (jI env) acc).lookup y=some c
 |[],acc,y,h=>by
  rcases h with h|h
  ·exact h
  ·exact xat h (by simp)
 |x::l,acc,y,h=>by
  refine x9 l (jI env acc x) y ?_
  rcases h with⟨c,h⟩|h
  ·left
   unfold jI
   split
   ·rw[xca]
    cases hz:y==x.1 with
    |true=>exact⟨_,rfl⟩
    |false=>exact⟨c,h⟩
   ·exact⟨c,h⟩
  ·rcases xal.mp h with e|h
   ·left
    subst e
    unfold jI
    rw[xa5 (by rfl),xca]
    simp
   ·exact .inr h
theorem m9{scope:Scope}{env:Env}:∀{names:List (Str×NameKind)} {x:Str} {k:NameKind},
  (names.map fun (n,k)=>if (k==NameKind.free&&env.scope.kind==.function&&env.kindOf n==some .cell) then (n,NameKind.cell) else (n,k)).lookup x=some k->
  names.lookup x=some k\/(k=.cell/\names.lookup x=some .free)
 |[],_,_,h=>by simp at h
 |(n,k')::r,x,k,h=>by
  change List.lookup x ((if (k'==NameKind.free&&env.scope.kind==.function&&env.kindOf n==some .cell)=true then (n,NameKind.cell) else (n,k'))::_)=some k at h
  by_cases hc:(k'==NameKind.free&&env.scope.kind==.function&&env.kindOf n==some .cell)=true
  ·rw[xa5 hc,xca] at h
   rw[xca]
   cases hx:x==n with
   |true=>
    rw[hx] at h
    have hk:k'=.free:=by
     simp only[xap,beq_iff_eq] at hc
     exact hc.1.1
    subst hk
    have h':NameKind.cell=k:=by simpa using h
    exact .inr ⟨h'.symm,rfl⟩
   |false=>rw[hx] at h;exact m9 (scope:=scope) h
  ·rw[xaz hc,xca] at h
   rw[xca]
   cases hx:x==n with
   |true=>rw[hx] at h;exact .inl h
   |false=>rw[hx] at h;exact m9 (scope:=scope) h
def yA(k:Nat)(NY N:List Str)(sc:Scope):Bool:=
 NY.length==k+N.length&&((NY.drop k).zip N).all fun p=>(sc.names.lookup p.1).isNone||(p.1==p.2&&sc.names.lookup p.1 != some .local)
structure LC(X:Cx)(k:Nat)(scope:Scope)(NY:List Str):Prop where
 cells:∀y∈scope.names,y.2≠.cell
 kind:scope.kind=.function
 names:∀y∈scope.names,y.2=.local->scope.names.lookup y.1=some .local
 free:∀y∈scope.names,y.2=.free->X.env.kindOf y.1=some .cell\/X.env.kindOf y.1=some .free
 ny:yA k NY X.N scope=true
 nd:NY.Nodup
def D6(k:Nat)(N:List Str)(sc0 scope:Scope)(NY:List Str):Bool:=
 (scope.names.all fun y=>y.2 != .cell)&&(scope.kind==.function)&&(scope.names.all fun y=>y.2 != .local||scope.names.lookup y.1==some .local) &&
 (scope.names.all fun y=>y.2 != .free||sc0.names.lookup y.1==some .cell||sc0.names.lookup y.1==some .free)&&yA k NY N scope&&decide NY.Nodup
theorem LC.of{X:Cx}{k:Nat}{N NY:List Str}{sc0 scope:Scope}(hN:X.N=N)(hs:X.env.scope=sc0)(h:D6 k N sc0 scope NY=true):LC X k scope NY:=by
 unfold D6 at h
 simp only[xap,xa2,xb1,bne_iff_ne,beq_iff_eq,ne_eq] at h
 obtain⟨⟨⟨⟨⟨h1,h2⟩,h3⟩,h4⟩,h5⟩,h6⟩:=h
 refine⟨h1,h2,fun y hy e=>?_,fun y hy e=>?_,by rw[hN];exact h5,xas h6⟩
 ·rcases h3 y hy with z|z
  ·exact xat e z
  ·exact z
 ·show X.env.scope.names.lookup y.1=_\/X.env.scope.names.lookup y.1=_
  rw[hs]
  rcases h4 y hy with (z|z)|z
  ·exact xat e z
  ·exact .inl z
  ·exact .inr z
def cO(X:Cx)(scope:Scope)(NY:List Str)(s₀:Shared)(H₀:Hp)(C:Addr)(ex:List Addr):Cx:=
 { X with N:=NY,s₀:=s₀,H₀:=H₀,env:=compEnvC scope (oS X.env scope.names) C X.env,outer:=X.stack,ex:=ex,fn:=fun _=>false,pn:=[],xe:=fun _ _=>False }
def kQ(X:Cx)(cs:List Expr)(t:TT):Prop:=
 ∀(pins:List (Addr×Obj)) (s:Shared) (Z:St) (H:Hp) (Q:Bool->Hp->Prop),aH X pins Z H s->t Z H Q->
  wpAny (model X.prog X.w) X.A (forIn cs true fun c r=>if r=true then do let ok<-isTrue c X.env (eval c X.env);pure (ForInStep.yield ok) else pure (ForInStep.yield r)) (TP X pins Z Q) X.xe s
def UV:TT:=fun _ H Q=>Q true H
theorem UW{X:Cx}:kQ X [] UV:=fun _ _ _ H _ I h=>wpAny_tests_nil ⟨H,I,h⟩
def yB(Z σ2:St):Prop:=σ2.length=Z.length/\∀(j:Nat) (v:V),Z[j]? = some (some v)->σ2[j]? = some (some v)
def uA(k:Nat)(wi:TI)(g:TG)(tc:TT)(te:TE):TE:=fun Z H Q=>wi Z H fun J H1=>∃W:Nat->Nat->List V->Hp->Prop,(∃m,W 0 m [] H1)/\∀i m ys H,W i m ys H->ys.length<sizeLine/\
 ((J.stop i H /\ ∀ D, H D = none -> Q (.ref D) (aU H D (.lst ys))) \/
  (J.go i H/\∃N:List V->Hp->Prop,(∀ys' H',N ys' H'->∃m',m'<m/\W (i+1) m' ys' H')/\
    ∀v H',J.yld i H v H'->g v (List.replicate k none++Z) H' fun σ2 H2=>yB (List.replicate k none++Z) σ2/\
      tc σ2 H2 fun b H3=>if b=true then te σ2 H3 fun y H4=>N (ys++[y]) H4 else N ys H3))
theorem yC{α:Type}{t:Sem α}{Q Q':α->Shared->Prop}{M:Model}{A:Around}{E:Value->Shared->Prop}{s:Shared}(h:wpAny M A t Q (fun _ _=>False) s)(hQ:∀a s,Q a s->Q' a s):wpAny M A t Q' E s:=
 wpAny_mono h hQ fun _ _ z=>False.elim z
section
variable{prog:Program}{w:World}{A:Around}{R:Result->Shared->Prop}{s:Shared}
theorem UX{elt tg iter:Expr}{ifs:List Expr}{scope:Scope}{pos:Pos}{it acc:Value}{env:Env}(W:Nat->Shared->Prop)
  (turn : ∀ n s, W n s -> ∀ E', wpAny (model prog w) A (pyNext it) (fun r s1 => match r with
   |none=>R (.ok .next) s1
   |some v=>wpAny (model prog w) A (letOwnedTupleGo tg it v) (fun _ s2=>wpAny (model prog w) A (assign tg env v) (fun _ s3=>
     wpAny (model prog w) A (forIn ifs true fun c r=>if r=true then do let ok<-isTrue c env (eval c env);pure (ForInStep.yield ok) else pure (ForInStep.yield r)) (fun ok s4=>
      if ok=true then wpAny (model prog w) A (eval elt env) (fun x s5=>wpAny (model prog w) A (call (.builtin "list.append") [acc,x]) (fun _ s6=>∃m,m<n/\W m s6) E' s5) E' s4
      else ∃m,m<n/\W m s4) E' s3) E' s2) E' s1) E' s)
  (n:Nat) (h:W n s):codeAny (model prog w) A (.compLoop (.ListComp elt [⟨tg,iter,ifs,0⟩] scope pos) 0 it acc env) R s:=by
 refine codeAny_loop rfl W (fun n s hW=>?_) n h
 show wpAny _ A ((compTurn (.ListComp elt [⟨tg,iter,ifs,0⟩] scope pos) 0 it acc env).onRaise (fun x=>do noteFrame x env;theTreesLotGoes x)) _ _ s
 refine wpAny_noted ?_
 rw[compTurn_list]
 refine xai (wpAny_standAt (xai (aX (turn n s hW _) fun r s1 h1=>?_)))
 cases r with
 |none=>exact xa4 h1
 |some v=>
  refine xai (aX h1 fun _ s2 h2=>xai (aX h2 fun _ s3 h3=>xai (aX h3 fun ok s4 h4=>?_)))
  cases ok with
  |false=>exact xa4 ⟨rfl,h4⟩
  |true=>exact xai (xai (aX h4 fun x s5 h5=>xai (aX h5 fun _ s6 h6=>xa4 (xa4 ⟨rfl,h6⟩))))
end
section
variable{X:Cx}{pins:List (Addr×Obj)}{Z:St}{H2:Hp}{s2:Shared}{scope:Scope}{NY:List Str}{k:Nat}{C D:Addr}{fp:List Addr}
theorem UY(I2:aH X pins Z H2 s2)(lc:LC X k scope NY)(hf:∀b∈fp,iU X pins H2 b)(hfl:∀b∈fp,b<s2.heap.objs.size)(hC:s2.heap.objs.size<=C):(cO X scope NY s2 H2 C fp).Ok:=by
 have hfree:∀x∈scope.names,x.2=.free->∃c,X.env.cells.lookup x.1=some c:=fun x hx e=>I2.ok.has x.1 (lc.free x hx e)
 have sub:∀x c,(oS X.env scope.names).lookup x=some c->X.env.cells.lookup x=some c:=x8 scope.names [] hfree (fun y c e=>by simp at e)
 refine⟨I2.ok.mod,?_,I2.ok.glob,I2.ok.blt,hC,fun x y c e1 e2=>I2.ok.inj x y c (sub x c e1) (sub y c e2),fun x hx=>?_,fun x c z=>xat z (by show ¬(false=true);decide),I2.ok.hd,I2.ok.frames,.inl rfl,fun b hb=>⟨xbf (xau (hfl b hb) hC),fun x c e=>(hf b hb).2.2.2.2.1 x c (sub x c e)⟩,
  I2.bs,xah I2.ok.bsz I2.sz,fun b o e hb=>?_,fun b hb z=>?_,I2.stack,I2.stkFree⟩
 ·show (relabel scope X.env).kind=.function
  exact lc.kind
 ·have hx:(relabel scope X.env).names.lookup x=some .cell\/(relabel scope X.env).names.lookup x=some .free:=hx
  have key:scope.names.lookup x=some .free:=by
   rcases hx with hx|hx
   ·rcases m9 (scope:=scope) hx with z|⟨_,z⟩
    ·exact xat rfl (lc.cells _ (PySem.mem_of_lookup z))
    ·exact z
   ·rcases m9 (scope:=scope) hx with z|⟨_,z⟩
    ·exact z
    ·exact z
  exact x9 scope.names [] x (.inr (PySem.mem_of_lookup key))
 ·have q:b∈X.ex\/X.s₀.heap.objs.size<=b:=(hf b hb).2.2.2.1
  rcases q with q|q
  ·exact I2.ok.noex b o e q
  ·exact xat (xau (xaw e) (xah I2.ok.bsz q)) (xby _)
 ·rcases xal.mp (I2.stkSub b z) with e|e
  ·exact(hf b hb).2.1 e
  ·exact(hf b hb).2.2.1 e
theorem UZ{h1:Heap}{tk:Nat}{m:Str->Option Value}{oD:Obj}(I2:aH X pins Z H2 s2)(lc:LC X k scope NY)(hf:∀b∈fp,iU X pins H2 b)(hfl:∀b∈fp,b<s2.heap.objs.size)(hC:s2.heap.objs.size<=C)(hD:s2.heap.objs.size<=D)(hDC:D≠C)
  (old:∀b o,s2.heap.get? b=some o->h1.get? b=some o) (hn:h1.Ns C m) (ho:h1.get? D=some oD) (hoD:∀v,oD.data≠.cell v) :
  aH (cO X scope NY s2 H2 C fp) [(D,oD)] (List.replicate k none++Z) H2 { s2 with heap:=h1,toks:=tk }:=by
 have hfree:∀x∈scope.names,x.2=.free->∃c,X.env.cells.lookup x.1=some c:=fun x hx e=>I2.ok.has x.1 (lc.free x hx e)
 have sub:∀x c,(oS X.env scope.names).lookup x=some c->X.env.cells.lookup x=some c:=x8 scope.names [] hfree (fun y c e=>by simp at e)
 have hny:=lc.ny
 unfold yA at hny
 simp only[xap,beq_iff_eq,xa2,xb1,bne_iff_ne,ne_eq] at hny
 obtain⟨hlen,hz⟩:=hny
 refine⟨UY I2 lc hf hfl hC,rfl,I2.bare,Un.kept old,⟨m,hn,fun i x v e1 e2 e3=>?_⟩,fun x c e=>?_,I2.hok.fresh hC,fun x c e=>I2.freeC x c (sub x c e),fun p hp=>?_,I2.hok.kept old,?_⟩
 ·have e1:NY[i]? = some x:=e1
  have hik:k<=i:=by
   refine Nat.le_of_not_lt fun z=>?_
   rw[xbn (by simpa using z),xcf,xa5 z] at e2
   cases e2
  rw[xbe (by simpa using hik),xbr] at e2
  have hi2:i-k<X.N.length:=by
   rw[<- I2.len];exact(xan.mp e2).1
  obtain⟨y,ey⟩:∃y,X.N[i-k]? = some y:=⟨_,xax hi2⟩
  have em:(x,y)∈(NY.drop k).zip X.N:=by
   refine xbt (i:=i-k) ?_
   rw[List.getElem?_zip_eq_some]
   refine⟨?_,ey⟩
   rw[List.getElem?_drop,show k+(i-k)=i by omega];exact e1
  have e3:iS (relabel scope X.env) x:=e3
  have kf:scope.names.lookup x=some .free:=by
   have kk:∃q,scope.names.lookup x=some q:=by
    rcases e3 with z|z|z<;>rcases m9 (scope:=scope) z with z|⟨_,z⟩<;>exact⟨_,z⟩
   have zz:=hz (x,y) em
   have nl:scope.names.lookup x≠some .local:=by
    rcases zz with zz|zz
    ·obtain⟨q,hq⟩:=kk
     have zz:(scope.names.lookup x).isNone=true:=zz
     rw[hq] at zz;cases zz
    ·exact zz.2
   rcases e3 with z|z|z<;>rcases m9 (scope:=scope) z with z|⟨_,z⟩
   ·exact xat z nl
   ·exact z
   ·exact xat rfl (lc.cells _ (PySem.mem_of_lookup z))
   ·exact z
   ·exact z
   ·exact z
  have exy:x=y:=by
   rcases hz (x,y) em with zz|zz
   ·have zz:(scope.names.lookup x).isNone=true:=zz
    rw[kf] at zz;cases zz
   ·exact zz.1
  subst exy
  obtain⟨mX,hnX,hlX⟩:=I2.loc
  have hk:=lc.free (x,.free) (PySem.mem_of_lookup kf) rfl
  have hk:X.env.kindOf x=some .cell\/X.env.kindOf x=some .free:=hk
  obtain⟨u,ru,lu⟩:=hlX (i-k) x v ey e2 (.inr hk)
  refine⟨u,ru,?_⟩
  rcases lu with⟨z,_⟩|⟨_,c,hc,hcell⟩
  ·rcases hk with q|q<;>rw[q] at z<;>cases z
  ·obtain⟨c',hc'⟩:=x9 (env:=X.env) scope.names [] x (.inr (PySem.mem_of_lookup kf))
   have:c'=c:=by
    have q:=sub x c' hc'
    rw[hc] at q;exact(xbp q).symm
   subst this
   refine .inr ⟨?_,c',hc',hcell.keeps old⟩
   show (relabel scope X.env).names.lookup x=some .cell\/(relabel scope X.env).names.lookup x=some .free
   rcases e3 with z|z
   ·rcases m9 (scope:=scope) z with z|⟨z,_⟩
    ·rw[kf] at z;cases z
    ·cases z
   ·exact z
 ·obtain⟨v,z⟩:=I2.cell x c (sub x c e)
  exact⟨v,z.keeps old⟩
 ·have e:p=(D,oD):=by simpa [cO] using hp
  subst e
  refine⟨ho,I2.hok.fresh hD,hDC,fun z=>?_,hoD⟩
  have z:D∈cG X.stack:=z
  rcases xal.mp (I2.stkSub D z) with q|q
  ·exact xat (xau I2.lt hD) (by rw[q];exact xby _)
  ·exact I2.nofs hD q
 ·show (List.replicate k none++Z).length=NY.length
  rw[hlen,xaa,xbr,I2.len]
theorem U0{H4:Hp}{s4:Shared}{Z':St}{ys:List V}{us:List Value}(I2:aH X pins Z H2 s2)(hf:∀b∈fp,iU X pins H2 b)(hC:s2.heap.objs.size<=C)(hD:s2.heap.objs.size<=D)
  (I4:aH (cO X scope NY s2 H2 C fp) [(D,LCg.lst us)] Z' H4 s4) (rv:bA ys us) (hz:ys.length<=sizeLine):aH X pins Z (aU H4 D (.lst ys)) s4:=by
 obtain⟨pD,nD,neD,nfD,dD⟩:=I4.pin (D,LCg.lst us) (by simp)
 have u0:Un (cG X.stack) fp H2 H4 s2.heap s4.heap:=I4.base
 have neb:∀b o,s2.heap.get? b=some o->b≠D:=fun b o e=>xbf (xau (xaw e) hD)
 have hok:c8 X.prog X.w (aU H4 D (.lst ys)) s4.heap:=fun b u e=>by
  by_cases hb:b=D
  ·subst hb
   rw[bV] at e;cases e
   exact⟨hz,us,us.length,rv,pD⟩
  ·rw[bF hb] at e
   exact(I4.hok b u e).stay (fun _ _ _ q=>q) (fun c q=>by rw[bF (cU q nD)];exact q) fun c xs q=>by rw[bF (cU q nD)];exact q
 refine I2.call' (ch:=fp) I4.os ⟨u0.keep,u0.slot,fun b o e n hx=>?_,u0.there,fun b xs q=>?_,fun b o u q=>?_,fun b ps q=>?_⟩ hok I4.bare fun b hb=>⟨(hf b hb).2.2.2.1,(hf b hb).2.1,(hf b hb).2.2.2.2.1,(hf b hb).2.2.2.2.2⟩
 ·rw[bF (neb b o e)];exact u0.free b o e n hx
 ·have z:=u0.tups b xs q
  rw[bF (cU z nD)];exact z
 ·have z:=u0.frzs b o u q
  rw[bF (cU z nD)];exact z
 ·obtain⟨more,z⟩:=u0.tbls b ps q
  exact⟨more,by rw[bF (cU z nD)];exact z⟩
end
theorem D7{X:Cx}{tg elt iter:Expr}{ifs:List Expr}{scope:Scope}{pos:Pos}{NY:List Str}{k:Nat}{g:TG}{tc:TT}{te:TE}(hc:X.calm=true)(lc:LC X k scope NY)
  (hb:∀(s₀:Shared) (H₀:Hp) (C:Addr) (ex:List Addr),NY.Nodup->PG (cO X scope NY s₀ H₀ C ex) tg g/\kQ (cO X scope NY s₀ H₀ C ex) ifs tc/\PE (cO X scope NY s₀ H₀ C ex) elt te)
  {pins:List (Addr×Obj)} {Z:St} {H2:Hp} {s2:Shared} {it:Addr} {fp:List Addr} {tn:Nat->Heap->Prop} {J:It} {RR:Value->Addr->Result->Shared->Prop} {E:Value->Shared->Prop} {Fin:List V->Hp->Prop}
  (I2:aH X pins Z H2 s2) (T:oN X.prog X.w X.K tg J fp it tn) (st2:tn 0 s2.heap) (f2:∀b∈fp,iU X pins H2 b) {W:Nat->Nat->List V->Hp->Prop} {m0:Nat} (w0:W 0 m0 [] H2)
  (turn : ∀ i m ys H, W i m ys H -> ys.length < sizeLine /\ ((J.stop i H /\ Fin ys H) \/ (J.go i H /\ ∃ N : List V -> Hp -> Prop, (∀ ys' H', N ys' H' -> ∃ m', m' < m /\ W (i + 1) m' ys' H') /\
   ∀v H',J.yld i H v H'->g v (List.replicate k none++Z) H' fun σ2 H2=>yB (List.replicate k none++Z) σ2/\tc σ2 H2 fun b H3=>if b=true then te σ2 H3 fun y H4=>N (ys++[y]) H4 else N ys H3)))
  (fin:∀(C D:Addr) (H4:Hp) (s4:Shared) (ys:List V) (m:Str->Option Value),s2.heap.objs.size<=C->H4 D=none->H4 C=none->D≠C->s4.heap.Ns C m->aH X pins Z (aU H4 D (.lst ys)) s4->Fin ys H4->RR (.ref D) C (.ok .next) s4) :
  wpAny (model X.prog X.w) X.A (newList []) (fun acc s3=>wpAny (model X.prog X.w) X.A (newFunctionEnv scope X.env.globals (oS X.env scope.names) [] X.env.qual none .none (some X.env)) (fun cenv s4=>
   codeAny (model X.prog X.w) X.A (.compStart (.ListComp elt [⟨tg,iter,ifs,0⟩] scope pos) 0 (.ref it) acc { cenv with scope:=relabel scope X.env }) (RR acc cenv.locals) s4) E s3) E s2:=by
 refine wpAny_newObj_type (wpAny_newFunctionEnv lc.cells (by intro y hy;simp at hy) (fun h1 hns1 hsb1=>?_) lc.kind)
 dsimp only at hns1 hsb1 ⊢
 generalize hG:s2.heap.push { cls:=.type "list",dict:=none,data:=.seq ([]:List Value).toArray }=G at hns1 hsb1 ⊢
 have hC:G.objs.size=s2.heap.objs.size+1:=by rw[<- hG,xcj]
 have hCle:s2.heap.objs.size<=G.objs.size:=by omega
 have hDC:s2.heap.objs.size≠G.objs.size:=by omega
 have hfl:∀b∈fp,b<s2.heap.objs.size:=fun b hb=>by obtain⟨o,e,_⟩:=T.obj 0 _ st2 b hb;exact xaw e
 have old:∀b o,s2.heap.get? b=some o->h1.get? b=some o:=fun b o e=>by
  have lt:=xaw e
  refine hsb1.extBut b o (xbf (xau lt hCle)) (xaj _ ?_)
  rw[<- hG];exact xaj _ e
 have hacc:h1.get? s2.heap.objs.size=some (LCg.lst []):=by
  refine hsb1.extBut _ _ hDC (xaj _ ?_)
  rw[<- hG];exact xa6 _ rfl
 have dl:∀(us:List Value) v,(LCg.lst us).data≠.cell v:=fun us v z=>by
  have z':Data.seq us.toArray us.length=Data.cell v:=z
  cases z'
 have I3:=UZ (h1:=h1) (tk:=s2.toks+([]:List (Str×Value)).length) I2 lc f2 hfl hCle (xak _) hDC old hns1 hacc (dl [])
 have fpY:∀{us:List Value} {H':Hp},(∀b∈fp,H' b=none)->∀b∈fp,iU (cO X scope NY s2 H2 G.objs.size fp) [(s2.heap.objs.size,LCg.lst us)] H' b:=fun {us H'} hn b hb=>by
  have lt:=hfl b hb
  have okY:=I3.ok
  refine⟨hn b hb,(okY.exf b hb).1,okY.exfs b hb,.inl hb,(okY.exf b hb).2,fun p hp=>?_⟩
  have e:p=(s2.heap.objs.size,LCg.lst us):=by simpa [cO] using hp
  subst e
  exact xc3 lt
 obtain⟨hg,ht,he⟩:=hb s2 H2 G.objs.size fp lc.nd
 have loop:∀s3:Shared,s3={ s2 with heap:=h1,toks:=s2.toks+([]:List (Str×Value)).length }->
   codeAny (model X.prog X.w) X.A (.compLoop (.ListComp elt [⟨tg,iter,ifs,0⟩] scope pos) 0 (.ref it) (.ref s2.heap.objs.size) (compEnvC scope (oS X.env scope.names) G.objs.size X.env)) (RR (.ref s2.heap.objs.size) G.objs.size) s3:=by
  rintro s3 rfl
  refine UX (fun n s'=>∃i H' ys us,aH (cO X scope NY s2 H2 G.objs.size fp) [(s2.heap.objs.size,LCg.lst us)] (List.replicate k none++Z) H' s'/\bA ys us/\tn i s'.heap/\(∀b∈fp,H' b=none)/\W i n ys H') ?_ m0
   ⟨0,H2,[],[],I3,.nil,T.keep _ _ _ st2 fun b _ o e=>old b o e,fun b hb=>(f2 b hb).1,w0⟩
  rintro n s3 ⟨i,H3,ys,us,I3,rv,st3,fr3,w3⟩ E'
  obtain⟨hsz,hturn⟩:=turn i n ys H3 w3
  rcases hturn with⟨stop,qn⟩|⟨go,N,hN,step⟩
  ·refine aX (T.done (cO X scope NY s2 H2 G.objs.size fp) rfl rfl rfl hc i _ s3 _ H3 E' I3 (fpY fr3) st3 stop) fun r s4 ⟨hr,I4⟩=>?_
   subst hr
   obtain⟨m4,hn4,_⟩:=I4.loc
   exact fin _ _ H3 s4 ys m4 hCle (I4.pin (s2.heap.objs.size,LCg.lst us) (by simp)).2.1 I4.free hDC hn4 (U0 I2 f2 hCle (xak _) I4 rv (xcs hsz)) qn
  ·refine aX (T.item (cO X scope NY s2 H2 G.objs.size fp) rfl rfl rfl hc i _ s3 _ H3 E' I3 (fpY fr3) st3 go) fun r s4 ⟨u,hr,h4⟩=>?_
   subst hr
   refine aX h4 fun _ s5 ⟨x,H5,I5,r5,y5,st5,fr5⟩=>?_
   have I5':=I5.pinned (fpY fr5) (T.obj _ _ st5)
   refine yC (hg _ s5 _ H5 x u _ I5' r5 (step x H5 y5)) fun _ s6 ⟨σ6,H6,I6,sub6,q6⟩=>?_
   have keep:∀{σ7:St} {H7:Hp} {s7:Shared},aH (cO X scope NY s2 H2 G.objs.size fp) ([(s2.heap.objs.size,LCg.lst us)]++qD fp s5.heap) σ7 H7 s7->tn (i+1) s7.heap/\(∀b∈fp,H7 b=none):=fun {σ7 H7 s7} I7=>by
    refine⟨T.keep _ _ _ st5 fun b hb o e=>(I7.pin (b,o) (xbb _ (xbb _ (tY hb e)))).1,fun b hb=>?_⟩
    obtain⟨o,e,d⟩:=T.obj _ _ st5 b hb
    exact(I7.pin (b,o) (xbb _ (xbb _ (tY hb e)))).2.1
   refine yC (ht _ s6 σ6 H6 _ I6 q6) fun ok s7 ⟨H7,I7,q7⟩=>?_
   cases ok with
   |false=>
    rw[xaz xa7] at q7 ⊢
    obtain⟨m',hm,w7⟩:=hN _ _ q7
    obtain⟨k1,k2⟩:=keep I7
    exact⟨m',hm,i+1,H7,ys,us,(I7.weak (by rw[I7.len,I5.len]) sub6.2).unpinned,rv,k1,k2,w7⟩
   |true=>
    rw[xa5 rfl] at q7 ⊢
    refine yC (he _ s7 σ6 H7 _ I7 q7) fun y s8 ⟨v,H8,I8,r8,q8⟩=>?_
    obtain⟨m',hm,w8⟩:=hN _ _ q8
    obtain⟨k1,k2⟩:=keep I8
    obtain⟨pD,nD,neD,nfD,dD⟩:=I8.pin (s2.heap.objs.size,LCg.lst us) (by simp)
    have hul:us.toArray.size<=sizeLine:=by rw[xao,<- rv.length];exact xcs hsz
    refine append_at pD (fun h9 sb9 hD9=>?_) hul
    have I8':aH (cO X scope NY s2 H2 G.objs.size fp) [] (List.replicate k none++Z) H8 s8:=(I8.weak (by rw[I8.len,I5.len]) sub6.2).pins_of fun p hp=>xat hp (by simp)
    have hDfp:s2.heap.objs.size∉fp:=fun z=>xby _ (hfl _ z)
    have I9:aH (cO X scope NY s2 H2 G.objs.size fp) [] (List.replicate k none++Z) H8 { s8 with heap:=h9 }:=
     I8'.turned (t':=s8.toks) (it:=s2.heap.objs.size) (fun b o hb e=>(sb9.2 b hb).trans e) nD neD (.inr (xak _)) (fun x c e z=>by
      obtain⟨v',o',e1,e2⟩:=I8.cell x c e
      rw[z,pD] at e1
      have e1':LCg.lst us=o':=xbp e1
      rw[<- e1'] at e2
      exact dl us v' e2) (fun p hp=>xat hp (by simp[cO]))
    refine⟨m',hm,i+1,H8,ys++[v],us++[y],I9.pins_of fun p hp=>?_,rv.append (.cons r8 .nil),T.keep _ _ _ k1 fun b hb o e=>(sb9.2 b fun z=>hDfp (z▸hb)).trans e,k2,w8⟩
    have e:p=(s2.heap.objs.size,LCg.lst (us++[y])):=by simpa using hp
    subst e
    exact⟨hD9.trans (congrArg some (LCg.lst_snoc us y)),nD,neD,nfD,dl _⟩
 exact codeAny_compStart_list (loop _ rfl) (T.self _ 0 _ _ _ (T.keep _ _ _ st2 fun b _ o e=>old b o e) (loop _ rfl))
section
variable{X:Cx}{tg elt iter:Expr}{ifs:List Expr}{scope:Scope}{pos:Pos}{NY:List Str}{k:Nat}{wi:TI}{g:TG}{tc:TT}{te:TE}
theorem U1(hc:X.calm=true)(lc:LC X k scope NY)(hi:PI X tg iter wi)
  (hb:∀(s₀:Shared) (H₀:Hp) (C:Addr) (ex:List Addr),NY.Nodup->PG (cO X scope NY s₀ H₀ C ex) tg g/\kQ (cO X scope NY s₀ H₀ C ex) ifs tc/\PE (cO X scope NY s₀ H₀ C ex) elt te)
  (hs:∀x,foldedSetIterable iter X.env x=pure x:=by intro _;rfl):PE X (.ListComp elt [⟨tg,iter,ifs,0⟩] scope pos) (uA k wi g tc te):=by
 intro pins s Z H Q I h
 rw[eval_ListComp]
 refine wpAny_comprehension_free (use:=none) rfl hs (D5 fun x hx e=>I.ok.has x.1 (lc.free x hx e)) lc.kind lc.names (aX (hi pins s Z H _ I h) fun v s1 h1=>aX h1 fun itv s2 h2=>?_)
 obtain⟨it,fp,tn,J,H2,e,I2,T,st2,f2,W,⟨m0,w0⟩,turn⟩:=h2
 subst e
 refine D7 (RR:=fun acc C=>compPost (model X.prog X.w) X.A X.xe none (EP X pins Z Q) acc C) hc lc hb I2 T st2 f2 w0 turn fun C D H4 s4 ys m hC nD nC hDC hn I4 q=>?_
 refine⟨m,hn,fun h' sb=>?_⟩
 have hCn:aU H4 D (.lst ys) C=none:=by rw[bF (xbd hDC)];exact nC
 obtain⟨f0,f1,f2',f3,f4,f5⟩:=I2.fpOk (H':=aU H4 D (.lst ys)) hC hCn
 exact⟨.ref D,_,I4.turned (t':=s4.toks) (fun b o hb e=>(sb.2 b hb).trans e) f0 f1 f3 f4 f5,rfl,q D nD⟩
theorem U2{i:Nat}{y:Str}{py spos:Pos}(hc:X.calm=true)(hN:X.N.Nodup)(hi':X.N[i]? = some y)(hy:X.env.kindOf y=some .local)(lc:LC X k scope NY)(hi:PI X tg iter wi)
  (hb:∀(s₀:Shared) (H₀:Hp) (C:Addr) (ex:List Addr),NY.Nodup->PG (cO X scope NY s₀ H₀ C ex) tg g/\kQ (cO X scope NY s₀ H₀ C ex) ifs tc/\PE (cO X scope NY s₀ H₀ C ex) elt te)
  (hsw:swapsWith (.ListComp elt [⟨tg,iter,ifs,0⟩] scope pos) (some (.Name y py)) spos.line X.env=pure true:=by rfl)
  (hs:∀x,foldedSetIterable iter X.env x=pure x:=by intro _;rfl):PS X (.Assign [.Name y py] (.ListComp elt [⟨tg,iter,ifs,0⟩] scope pos) spos) (mY (uA k wi g tc te) (lH i)):=by
 intro pins s Z H D0 I h
 rw[exec_Assign_Name_used _ _ _ _ hsw]
 refine xai (wpAny_standAt (xai ?_))
 show wpAny _ X.A (do let _<-comprehension (.ListComp elt [⟨tg,iter,ifs,0⟩] scope pos) scope X.env _ (newList []) false (eval iter X.env) (some (assign (.Name y py) X.env))) _ _ s
 refine xai (aX (wpAny_comprehension_free (use:=some (assign (.Name y py) X.env)) (Q:=fun _ s'=>SP X pins D0 .next s') rfl hs (D5 fun x hx e=>I.ok.has x.1 (lc.free x hx e)) lc.kind lc.names
  (aX (hi pins s Z H _ I h) fun v s1 h1=>aX h1 fun itv s2 h2=>?_)) fun _ s' q=>xa4 (xa4 q))
 obtain⟨it,fp,tn,J,H2,e,I2,T,st2,f2,W,⟨m0,w0⟩,turn⟩:=h2
 subst e
 refine D7 (RR:=fun acc C=>compPost (model X.prog X.w) X.A X.xe (some (assign (.Name y py) X.env)) (fun _ s'=>SP X pins D0 .next s') acc C) hc lc hb I2 T st2 f2 w0 turn fun C D H4 s4 ys m hC nD nC hDC hn I4 q=>?_
 have hCn:aU H4 D (.lst ys) C=none:=by rw[bF (xbd hDC)];exact nC
 obtain⟨f0,f1,f2',f3,f4,f5⟩:=I2.fpOk (H':=aU H4 D (.lst ys)) hC hCn
 obtain⟨oC,es,ep,eC,dC,rC⟩:=id hn
 have I5:aH X (pins++[(C,oC)]) Z (aU H4 D (.lst ys)) s4:=I4.pins_of fun p hp=>by
  rcases xa1.mp hp with z|z
  ·exact I4.pin p (xbb _ z)
  ·have e:p=(C,oC):=by simpa using z
   subst e
   exact⟨eC,hCn,f1,f2',fun v z=>by rw[show (C,oC).2.data=oC.data from rfl,dC] at z;cases z⟩
 show wpAny _ X.A (assign (.Name y py) X.env (.ref D)) _ _ _
 refine wpAny_assign_Name (tV (v:=.ref D) I5 hN hi' (.inl hy) rfl (fun s5 I6=>?_) (.inr hy))
 refine⟨m,⟨oC,es,ep,(I6.pin (C,oC) (by simp)).1,dC,rC⟩,fun h' sb=>?_⟩
 exact⟨_,_,I6.unpinned.turned (t':=s5.toks) (fun b o hb e=>(sb.2 b hb).trans e) f0 f1 f3 f4 f5,q D nD⟩
end
end L2
namespace L2
open PySem.Spec PyProof.Rows
theorem U3{n k:Nat}(hk:0<k)(h:n<2^k):n.log2<k:=by
 rcases Nat.eq_zero_or_pos n with h0|hp
 ·rw[h0];simpa using hk
 ·exact(Nat.log2_lt (xc3 hp)).mpr h
section
variable{X:Cx}
theorem U4:bP X (compareOp .Is) (fun x y H Q=>∃a b,x=.bl a/\y=.bl b/\Q (.bl (a==b)) H):=by
 intro pins s Z H x y v u Q I rx ry h
 obtain⟨a,b,rfl,rfl,q⟩:=h
 cases rx
 cases ry
 exact is_bool (qF I q rfl)
theorem U5:bP X (compareOp .IsNot) (fun x y H Q=>∃a b,x=.bl a/\y=.bl b/\Q (.bl (a != b)) H):=by
 intro pins s Z H x y v u Q I rx ry h
 obtain⟨a,b,rfl,rfl,q⟩:=h
 cases rx
 cases ry
 exact isnot_bool (qF I q rfl)
def U6(K:xFg)(n:Nat)(t:j0):TG:=fun v Z H Q=>∃a xs,v=.ref a/\bM K H a xs/\xs.length=n/\t xs Z H Q
theorem U7{es:List Expr}{k:Nat}{t:j0}{n:Nat}{pos:Pos}(hc:X.calm=true)(h:oM X es t)
  (hn:(assignEach es X.env).length=n:=by rfl) (hst:(assignEach es X.env).findIdx? (·.1)=none:=by rfl):PG X (.Tuple es k pos) (U6 X.K n t):=by
 intro pins s Z H v u Q I r hw
 obtain⟨a,xs,e1,hq,hl,hw⟩:=hw
 subst e1
 cases r
 obtain⟨its,rv,pl,hz⟩:=I.list hq
 have hsz:(assignEach es X.env).length=its.toArray.size:=by simp[hn,<- hl,rv.length]
 rw[assign_Tuple]
 refine xai (wpAny_standAt ?_)
 unfold unpack
 rw[hsz,hst]
 refine xai (wpAny_holding (PySem.W.kun_itemsOf (I.ok.hd hc) pl.isList fun h' hx=>?_))
 have I1:aH X pins Z H { s with heap:=h' }:=I.kept (t':=s.toks) fun b o e=>hx b o (xbf (xaw e)) e
 exact h pins _ Z H xs _ Q I1 (by simpa using rv) hw
end
end L2
namespace L2
open PySem.Spec PyProof.Rows
theorem U8{H:Hp}{p:Addr}(h:H p=none)(o:HO):aM H (aU H p o):=fun b u q=>by rw[bF (cU q h)];exact q
theorem aM.tup{K:xFg}{H H':Hp}{a:Addr}{xs:List V}(e:aM H H')(h:cB K H a xs):cB K H' a xs:=by
 rcases h with (h|⟨o,h⟩)|h
 ·exact .inl (.inl (e _ _ h))
 ·exact .inl (.inr ⟨o,e _ _ h⟩)
 ·exact .inr h
theorem U9{n:Nat}(h:n<=1000):n<=sizeLine:=xcs (UU h)
section
variable{K:xFg}{a:Addr}{xs:List V}{H:Hp}
theorem lgo(h:bM K H a xs):(oO K a).stop xs.length H/\∀i,i<xs.length->(oO K a).go i H/\∀v H',(oO K a).yld i H v H'->H'=H/\xs[i]? = some v:=
 ⟨⟨xs,h,xak _⟩,fun i hi=>⟨⟨xs,xs[i],h,by simp[hi]⟩,fun v H' y=>⟨y.1,y.2 xs h⟩⟩⟩
theorem tgo(h:cB K H a xs):(oP K a).stop xs.length H/\∀i,i<xs.length->(oP K a).go i H/\∀v H',(oP K a).yld i H v H'->H'=H/\xs[i]? = some v:=
 ⟨⟨xs,h,xak _⟩,fun i hi=>⟨⟨xs,xs[i],h,by simp[hi]⟩,fun v H' y=>⟨y.1,y.2 xs h⟩⟩⟩
end
end L2
namespace L2
open PySem.Spec PyProof.Rows
structure iV(B:Heap)(l:List Env)(x:Addr)(cls:Value)(dct:Option Addr)(fl:Value)(h:Heap):Prop where
 stays:B.StaysIn h
 new:B.get? x=none
 frames:h.FunFrames B l
 obj:∃ox vs T oT ts,h.get? x=some ox/\ox.cls=cls/\ox.dict=dct/\ox.data=.fields vs/\vs[1]? = some (.ref T)/\B.get? T=none/\T≠x/\h.get? T=some oT/\oT.data=.fields ts/\ts[3]? = some fl
theorem VA(o:Obj)(f:Array Value->Array Value):(o.mapFields f).dict=o.dict:=by
 obtain⟨c,d,dt,sl⟩:=o;cases dt<;>rfl
section
variable{M:Model}{A:Around}{E:Value->Shared->Prop}{s:Shared}{B:Heap}{env:Env}{outer:List Env}{L x:Addr}{Q:Unit->Shared->Prop}
theorem nA{h:Heap}{y:Addr}{oy:Obj}{ws:Array Value}(ey:h.get? y=some oy)(dy:oy.data=.fields ws){b:Addr}{o:Obj}(eb:h.get? b=some o)(nf:∀us,o.data≠.fields us):b≠y:=fun z=>by
 rw[z,ey] at eb
 have z':oy=o:=xbp eb
 rw[<- z'] at nf
 exact nf ws dy
theorem EA{ox:Obj}{vs:Array Value}{head:Value}{hadNext:Bool}(hfr:A.frames=some (env::outer))(hl:s.heap.FunFrames B (env::outer))(hf:env.frame=some L)
  (ex:s.heap.get? x=some ox) (hB:B.StaysIn s.heap) (nx:B.get? x=none) (dx:ox.data=.fields vs) (sz:1<vs.size)
  (k:∀h',iV B (env::outer) x ox.cls ox.dict (rawInt L) h'->s.heap.UpToSlots h'->Q () { s with heap:=h' }) :
  wpAny M A (do let a<-frameOf env;let pl<-entryPlaceOf L hadNext;let b<-EntryCells.newEntry head a .none (rawInt L) .none pl;setField (.ref x) 1 b) Q E s:=by
 have nfr:x∉(env::outer).filterMap (·.frame):=fun hm=>by
  obtain⟨_,o,ho,nf⟩:=hl.mem hm
  exact nA ex dx ho nf rfl
 refine xai (wpAny_frameOf_fun hfr hl hf fun g1 so=>xai (wpAny_entryPlaceOf fun pl hpl=>?_))
 unfold EntryCells.newEntry newFields
 refine xai (wpAny_newObj_type ?_ (hpl.sizeOk5 _ _ _ _ _))
 have ex1:g1.get? x=some ox:=(so.2.1 x nfr).trans ex
 have B1:B.StaysIn g1:=fun b o eb=>(so.2.1 b fun hm=>by rw[(hl.mem hm).1] at eb;cases eb).trans (hB b o eb)
 generalize eo:({ cls:=.type "traceback",dict:=none,data:=.fields ([head,.ref L,.none,rawInt L,.none]++(if pl.isEmpty then List.replicate 6 Value.none else pl)).toArray }:Obj)=ob
 have ex2:=xaj (h:=g1) ob ex1
 refine wpAny_setField ex2 dx sz (k _ ?_ ?_)
 ·have Tx:g1.objs.size≠x:=xc3 (xaw ex1)
  have d3:=Obj.data_mapFields dx (·.setIfInBounds 1 (Value.ref g1.objs.size))
  have e3:=Heap.get?_update_self (Obj.mapFields (·.setIfInBounds 1 (Value.ref g1.objs.size))) ex2 (Obj.isFreed_of_fields d3)
  have freeOb:ob.isFreed=false:=by rw[<- eo];rfl
  have T3:=(xbv (g1.push ob) (Obj.mapFields (·.setIfInBounds 1 (Value.ref g1.objs.size))) (xbd Tx)).trans (xa6 g1 freeOb)
  refine⟨fun b o eb=>?_,nx,hl.of_keeps fun b o eb nf=>?_,_,_,g1.objs.size,ob,_,e3,Obj.cls_mapFields _ _,VA _ _,d3,by simp[sz],B1.fresh,Tx,T3,by rw[<- eo],?_⟩
  ·rw[xbv _ _ (fun z=>by rw[<- z,nx] at eb;cases eb)]
   exact xaj _ (B1 b o eb)
  ·obtain⟨sl,q⟩:=so.2.2 b o eb
   refine⟨{ o with slots:=sl },?_,rfl⟩
   rw[xbv _ _ (xbd (nA ex dx eb nf))]
   exact xaj _ q
  ·rcases hpl with rfl|⟨_,_,_,_,_,_,_,rfl⟩<;>simp
 ·intro b o eb nf
  obtain⟨sl,q⟩:=so.2.2 b o eb
  refine⟨sl,?_⟩
  rw[xbv _ _ (xbd (nA ex dx eb nf))]
  exact xaj _ q
theorem VB{ox:Obj}{vs:Array Value}(hfr:A.frames=some (env::outer))(hl:s.heap.FunFrames B (env::outer))(hf:env.frame=some L)
  (ex:s.heap.get? x=some ox) (hB:B.StaysIn s.heap) (nx:B.get? x=none) (dx:ox.data=.fields vs) (v1:vs[1]? = some .none)
  (k:∀h',iV B (env::outer) x ox.cls ox.dict (rawInt L) h'->s.heap.UpToSlots h'->Q () { s with heap:=h' }):wpAny M A (noteFrame (.ref x) env) Q E s:=by
 unfold noteFrame
 simp only[hf]
 refine xai (wpAny_field ex dx v1 ?_)
 rw[xaz (show ¬((Value.none != Value.none)=true) by decide)]
 exact EA hfr hl hf ex hB nx dx (xb4.mp v1).1 k
theorem EB{cls:Value}{dct:Option Addr}(hfr:A.frames=some (env::outer))(hf:env.frame=some L)(F:iV B (env::outer) x cls dct .none s.heap)
  (k:∀h',iV B (env::outer) x cls dct (rawInt L) h'->s.heap.UpToSlots h'->Q () { s with heap:=h' }):wpAny M A (noteFrame (.ref x) env) Q E s:=by
 obtain⟨ox,vs,T,oT,ts,ex,hc,hd,dx,v1,nT,Tx,eT,dT,t3⟩:=F.obj
 subst hc hd
 unfold noteFrame
 simp only[hf]
 refine xai (wpAny_field ex dx v1 ?_)
 rw[xa5 (show (Value.ref T != Value.none)=true by simp)]
 refine xai (wpAny_field eT dT t3 ?_)
 rw[xaz (show ¬((Value.none==rawInt L)=true) by simp[rawInt])]
 refine xai (wpAny_setField eT dT (xb4.mp t3).1 ?_)
 have oth:∀b,b≠T->(s.heap.update T (Obj.mapFields (·.setIfInBounds 3 Value.none))).get? b=s.heap.get? b:=fun b hb=>xbv _ _ (xbd hb)
 have up:s.heap.UpToSlots (s.heap.update T (Obj.mapFields (·.setIfInBounds 3 Value.none))):=fun b o eb nf=>⟨o.slots,(oth b (nA eT dT eb nf)).trans eb⟩
 refine EA hfr (F.frames.of_keeps fun b o eb nf=>⟨o,(oth b (nA eT dT eb nf)).trans eb,rfl⟩) hf ((oth x (xbd Tx)).trans ex) (fun b o eb=>(oth b fun z=>by rw[z,nT] at eb;cases eb).trans (F.stays b o eb)) F.new dx
  (xb4.mp v1).1 fun h' f u=>k h' f (up.trans u)
theorem uB{l:List Env}{cls fl:Value}{dct:Option Addr}(F:iV B l x cls dct fl s.heap)
  (k:∀h',iV B l x cls dct .none h'->s.heap.UpToSlots h'->Q () { s with heap:=h' }):wpAny M A (setFlight (.ref x) none) Q E s:=by
 obtain⟨ox,vs,T,oT,ts,ex,hc,hd,dx,v1,nT,Tx,eT,dT,t3⟩:=F.obj
 have sz:3<ts.size:=(xb4.mp t3).1
 unfold setFlight
 refine xai (wpAny_field ex dx v1 ?_)
 rw[xa5 (show (Value.ref T != Value.none)=true by simp)]
 have oth:∀b,b≠T->(s.heap.update T (Obj.mapFields (·.setIfInBounds 3 ((none:Option Addr).elim Value.none fun f=>rawInt f)))).get? b=s.heap.get? b:=fun b hb=>xbv _ _ (xbd hb)
 refine wpAny_setField eT dT sz (k _ ⟨fun b o eb=>(oth b fun z=>by rw[z,nT] at eb;cases eb).trans (F.stays b o eb),F.new,F.frames.of_keeps fun b o eb nf=>⟨o,(oth b (nA eT dT eb nf)).trans eb,rfl⟩,
  ox,vs,T,_,_,(oth x (xbd Tx)).trans ex,hc,hd,dx,v1,nT,Tx,Heap.get?_update_self _ eT (Obj.isFreed_of_fields (Obj.data_mapFields dT _)),Obj.data_mapFields dT _,by simp[sz]⟩
  fun b o eb nf=>⟨o.slots,(oth b (nA eT dT eb nf)).trans eb⟩)
theorem iV.out{cls:Value}{dct:Option Addr}{fl:Value}{h:Heap}(F:iV B (env::outer) x cls dct fl h):iV B outer x cls dct fl h:=⟨F.stays,F.new,F.frames.2.2,F.obj⟩
end
end L2
namespace L2
open PySem.Spec PyProof.Rows
theorem eK.there{P:Program}{w:World}{H:Hp}{h:Heap}{a:Addr}{o:HO}(x:eK P w H h a o):∃ob,h.get? a=some ob:=by
 cases o with
 |lst xs=>obtain⟨_,_,_,_,e⟩:=x;exact⟨_,e⟩
 |tup xs=>obtain⟨_,_,_,ob,e,_⟩:=x;exact⟨ob,e⟩
 |dK kvs=>obtain⟨_,_,_,_,o,_,_,e,_⟩:=x;exact⟨o,e⟩
 |dT kvs=>obtain⟨_,_,_,_,o,_,_,e,_⟩:=x;exact⟨o,e⟩
 |set S n=>obtain⟨o,_,_,_,e,_⟩:=x;exact⟨o,e⟩
 |ins C dx fs=>obtain⟨_,_,_,e,_⟩:=x;exact⟨_,e⟩
 |own y=>exact x
 |xd fs=>obtain⟨_,⟨o,_,_,e,_⟩,_⟩:=x;exact⟨o,e⟩
 |rng lo hi=>obtain⟨_,_,_,e⟩:=x;exact⟨_,e⟩
 |frz ob u=>obtain⟨e,_⟩:=x;exact⟨_,e⟩
 |tbl ps=>exact⟨_,(show h.get? a=some _ from x)⟩
 |met f y=>exact⟨_,(show h.get? a=some _ from x)⟩
 |ext φ=>exact x.2.1
structure InB(B:Heap)(fs:List Addr)(h0:Heap)(H':Hp)(h':Heap):Prop where
 old:∀b o,h0.get? b=some o->b∉fs->∀o',h'.get? b=some o'->B.get? b=some o'
 trk:∀b u,H' b=some u->∀o',h'.get? b=some o'->B.get? b=some o'
def bW(P:Program)(w:World):eR:=fun outer H s E e s'=>∃(x C:Addr) (dct:Option Addr) (H':Hp) (B:Heap),e=.ref x/\s'.os=s.os/\AllBare s'.gens/\Un (cG outer) [] H H' s.heap s'.heap/\c8 P w H' s'.heap/\
 iV B outer x (.ref C) dct .none s'.heap/\InB B (cG outer) s.heap H' s'.heap/\H' x=none/\E (.ref C) dct H'
section
variable{X:Cx}{pins:List (Addr×Obj)}{Z:St}{H H':Hp}{s s':Shared}{x C:Addr}{B:Heap}{E:XK}{dct:Option Addr}{M:Model}{EE:Value->Shared->Prop}
theorem ED{env:Env}{outer:List Env}{L:Addr}(hf:env.frame=some L):cG (env::outer)=L::cG outer:=by
 unfold cG;rw[xcn,hf]
theorem VC{h':Heap}{args:List Value}{tk:Nat}(I:aH X pins Z H s)(hst:X.stack=X.env::X.outer)(hf:X.env.frame=some X.env.locals)(hex:X.ex=[])(m:Heap.MadeExcOf s.heap h' x (.ref C) args)(hE:E (.ref C) none H) :
  wpAny M X.A (leaving X.env (.ref x)) (fun _ s2=>bW X.prog X.w X.outer X.H₀ X.s₀ E (.ref x) s2) EE { s with heap:=h',toks:=tk }:=by
 have stk:=I.stack
 have hfr:X.A.frames=some (X.env::X.outer):=by rw[<- hst];exact I.ok.frames
 rw[hst] at stk
 have fc:cG (X.env::X.outer)=X.env.locals::X.fs:=ED hf
 have hin:∀env∈(X.env::X.outer),∀b,env.frame=some b->b∈cG (X.env::X.outer):=fun env he b hb=>List.mem_filterMap.mpr ⟨env,he,hb⟩
 generalize eB:PySem.W.hideAll s.heap (cG (X.env::X.outer))=B
 have inB:∀b o,s.heap.get? b=some o->b∉cG (X.env::X.outer)->B.get? b=some o:=fun b o e n=>by rw[<- eB];exact PySem.W.hideAll_get _ e n
 have ofB:∀b o,B.get? b=some o->s.heap.get? b=some o:=fun b o e=>by rw[<- eB] at e;exact PySem.W.of_hideAll _ e
 have fl0:s.heap.FunFrames B (X.env::X.outer):=by rw[<- eB];exact PySem.W.funFrames_hide stk hin
 have nx:B.get? x=none:=by
  cases q:B.get? x with
  |none=>rfl
  |some o=>have:=ofB x o q;rw[m.new] at this;cases this
 obtain⟨t,et,_,_⟩:=m.there
 have tfree:∀b u,H b=some u->b∉cG (X.env::X.outer):=fun b u e hb=>by
  have:=I.stkFree b (by rw[hst];exact hb)
  rw[e] at this;cases this
 have hHx:H x=none:=by
  cases q:H x with
  |none=>rfl
  |some u=>
   obtain⟨ob,e⟩:=(I.hok x u q).there
   rw[m.new] at e;cases e
 unfold leaving
 refine xai (VB (s:={ s with heap:=h',toks:=tk }) hfr (fl0.of_keeps fun b o e _=>⟨o,m.keeps b o e,rfl⟩) hf et (fun b o e=>m.keeps b o (ofB b o e)) nx rfl rfl fun h1 F1 u1=>uB F1 fun h2 F2 u2=>?_)
 have up:s.heap.UpToSlots h2:=(Heap.UpToSlots.of_keeps m.keeps).trans (u1.trans u2)
 have keep2:∀b o,s.heap.get? b=some o->b∉cG (X.env::X.outer)->h2.get? b=some o:=fun b o e n=>F2.stays b o (inB b o e n)
 have below:∀b o,X.s₀.heap.get? b=some o->b∉X.fs->b∉cG (X.env::X.outer):=fun b o e nb hb=>by
  rw[fc] at hb
  rcases xal.mp hb with z|z
  ·exact xat (xau (xaw e) I.ok.above) (by rw[z];exact xby _)
  ·exact nb z
 have noex:∀b,b∉X.ex:=fun b z=>by rw[hex] at z;cases z
 have slot2:∀b o,s.heap.get? b=some o->b∈X.fs->∃sl,h2.get? b=some { o with slots:=sl }:=fun b o e hb=>by
  obtain⟨_,o1,e1,nf⟩:=stk.mem (b:=b) (by show b∈cG (X.env::X.outer);rw[fc];exact xae _ hb)
  rw[e] at e1;cases e1
  exact up b o e nf
 refine⟨x,C,none,H,B,rfl,I.os,I.bare,⟨fun b o e n hb _=>keep2 b o (I.base.keep b o e n hb (noex b)) (below b o e hb),fun b o e n hb _=>?_,fun b o e n _=>I.base.free b o e n (noex b),fun b o e _=>?_,I.base.tups,I.base.frzs,I.base.tbls⟩,
  fun b u e=>(I.hok b u e).stay (fun c v hc q=>keep2 c v q ?_) (fun _ q=>q) fun _ _ q=>q,F2.out,⟨fun b o e nb o' e'=>?_,fun b u e o' e'=>?_⟩,hHx,hE⟩
 ·obtain⟨sl,e1⟩:=I.base.slot b o e n hb (noex b)
  obtain⟨sl2,e2⟩:=slot2 b _ e1 hb
  exact⟨sl2,e2⟩
 ·obtain⟨o1,e1⟩:=I.base.there b o e (noex b)
  by_cases hb:b∈X.fs
  ·obtain⟨sl2,e2⟩:=slot2 b _ e1 hb
   exact⟨_,e2⟩
  ·exact⟨o1,keep2 b o1 e1 (below b o e hb)⟩
 ·rcases hc with z|z
  ·rw[z];exact tfree b u e
  ·exact tfree c _ z
 ·obtain⟨o1,e1⟩:=I.base.there b o e (noex b)
  have q:=inB b o1 e1 (below b o e nb)
  rw[F2.stays b o1 q] at e'
  cases e';exact q
 ·obtain⟨o1,e1⟩:=(I.hok b u e).there
  have q:=inB b o1 e1 (tfree b u e)
  rw[F2.stays b o1 q] at e'
  cases e';exact q
theorem VD{e:Value}(I:aH X pins Z H s)(hst:X.stack=X.env::X.outer)(hf:X.env.frame=some X.env.locals)(hex:X.ex=[])(h:bW X.prog X.w X.stack H s E e s') :
  wpAny M X.A (leaving X.env e) (fun _ s2=>bW X.prog X.w X.outer X.H₀ X.s₀ E e s2) EE s':=by
 obtain⟨x,C,dct,H',B,rfl,ho,hg,un,hok,F,ib,nx,hE⟩:=h
 have stk:=I.stack
 have hfr:X.A.frames=some (X.env::X.outer):=by rw[<- hst];exact I.ok.frames
 rw[hst] at stk F ib un
 have fc:cG (X.env::X.outer)=X.env.locals::X.fs:=ED hf
 unfold leaving
 refine xai (EB hfr hf F fun h1 F1 u1=>uB F1 fun h2 F2 u2=>?_)
 have up:s'.heap.UpToSlots h2:=u1.trans u2
 have below:∀b o,X.s₀.heap.get? b=some o->b∉X.fs->b∉cG (X.env::X.outer):=fun b o e nb hb=>by
  rw[fc] at hb
  rcases xal.mp hb with z|z
  ·exact xat (xau (xaw e) I.ok.above) (by rw[z];exact xby _)
  ·exact nb z
 have inFs:∀b,b∈X.fs->b∈cG (X.env::X.outer):=fun b hb=>by rw[fc];exact xae _ hb
 have noex:∀b,b∉X.ex:=fun b z=>by rw[hex] at z;cases z
 have no0:∀b:Addr,b∉([]:List Addr):=fun b=>by simp
 have slot2:∀b o,s.heap.get? b=some o->H b=none->b∈X.fs->∃sl,h2.get? b=some { o with slots:=sl }:=fun b o e n hb=>by
  obtain⟨_,o1,e1,nf⟩:=stk.mem (b:=b) (inFs b hb)
  rw[e] at e1;cases e1
  obtain⟨sl,e2⟩:=un.slot b o e n (inFs b hb) (no0 b)
  obtain⟨sl2,e3⟩:=up b _ e2 nf
  exact⟨sl2,e3⟩
 have free1:∀b o,X.s₀.heap.get? b=some o->X.H₀ b=none->H b=none:=fun b o e n=>I.base.free b o e n (noex b)
 refine⟨x,C,dct,H',B,rfl,ho.trans I.os,hg,⟨fun b o e n hb _=>?_,fun b o e n hb _=>?_,fun b o e n _=>?_,fun b o e _=>?_,fun b xs q=>un.tups b xs (I.base.tups b xs q),fun b o u q=>un.frzs b o u (I.base.frzs b o u q),fun b ps q=>?_⟩,
  fun b u e=>(hok b u e).stay (fun c v hc q=>F2.stays c v ?_) (fun _ q=>q) fun _ _ q=>q,F2.out,⟨fun b o e nb o' e'=>?_,fun b u e o' e'=>?_⟩,nx,hE⟩
 ·have e1:=I.base.keep b o e n hb (noex b)
  have e2:=un.keep b o e1 (free1 b o e n) (below b o e hb) (no0 b)
  exact F2.stays b o (ib.old b o e1 (below b o e hb) o e2)
 ·obtain⟨sl,e1⟩:=I.base.slot b o e n hb (noex b)
  obtain⟨sl2,e2⟩:=slot2 b _ e1 (free1 b o e n) hb
  exact⟨sl2,e2⟩
 ·obtain⟨o1,e1⟩:=I.base.there b o e (noex b)
  exact un.free b o1 e1 (free1 b o e n) (no0 b)
 ·obtain⟨o1,e1⟩:=I.base.there b o e (noex b)
  obtain⟨o2,e2⟩:=un.there b o1 e1 (no0 b)
  by_cases hb:b∈X.fs
  ·have n:H b=none:=I.stkFree b (by rw[hst];exact inFs b hb)
   obtain⟨sl2,e3⟩:=slot2 b _ e1 n hb
   exact⟨_,e3⟩
  ·exact⟨o2,F2.stays b o2 (ib.old b o1 e1 (below b o e hb) o2 e2)⟩
 ·obtain⟨m1,e1⟩:=I.base.tbls b ps q
  obtain⟨m2,e2⟩:=un.tbls b _ e1
  exact⟨m1++m2,by rw[e2,Array.append_assoc]⟩
 ·rcases hc with z|z
  ·subst z;exact ib.trk c u e v q
  ·exact ib.trk c _ z v q
 ·obtain⟨o1,e1⟩:=I.base.there b o e (noex b)
  obtain⟨o2,e2⟩:=un.there b o1 e1 (no0 b)
  have q:=ib.old b o1 e1 (below b o e nb) o2 e2
  rw[F2.stays b o2 q] at e'
  cases e';exact q
 ·obtain⟨o1,e1⟩:=(hok b u e).there
  have q:=ib.trk b u e o1 e1
  rw[F2.stays b o1 q] at e'
  cases e';exact q
def j3(x C:Addr)(dct:Option Addr):HO:=.ext fun h=>∃o,h.get? x=some o/\o.cls=.ref C/\o.dict=dct/\PySem.W.notCls o=true
theorem EG{h3:Heap}{tk:Nat}(I:aH X pins Z H s)(ho:s'.os=s.os)(hg:AllBare s'.gens)(un:Un (cG X.stack) [] H H' s.heap s'.heap)(hok:c8 X.prog X.w H' s'.heap)(F:iV B X.stack x (.ref C) dct .none h3)
  (ib:InB B (cG X.stack) s.heap H' s'.heap) (up:s'.heap.UpToSlots h3) (nx:H' x=none):aH X pins Z (aU H' x (j3 x C dct)) { s' with heap:=h3,toks:=tk }:=by
 have stk:=I.stack
 have no0:∀b:Addr,b∉([]:List Addr):=fun b=>by simp
 have nex:∀b o,s.heap.get? b=some o->b∉cG X.stack->b≠x:=fun b o e nb z=>by
  obtain⟨o2,e2⟩:=un.there b o e (no0 b)
  have q:=ib.old b o e nb o2 e2
  rw[z,F.new] at q;cases q
 have nfx:∀b,b∈cG X.stack->b≠x:=fun b hb z=>by
  obtain⟨_,o1,e1,nf⟩:=F.frames.mem (b:=b) hb
  obtain⟨ox,vs,T,oT,ts,ex,_,_,dx,_⟩:=F.obj
  rw[z,ex] at e1;cases e1
  exact nf vs dx
 have ne:∀b o,s.heap.get? b=some o->b≠x:=fun b o e=>by
  by_cases hb:b∈cG X.stack
  ·exact nfx b hb
  ·exact nex b o e hb
 have hok3:c8 X.prog X.w (aU H' x (j3 x C dct)) h3:=fun b u e=>by
  by_cases hb:b=x
  ·subst hb
   rw[bV] at e;cases e
   obtain⟨ox,vs,T,oT,ts,ex,hc,hd,dx,_⟩:=F.obj
   have nc:PySem.W.notCls ox=true:=by unfold PySem.W.notCls;rw[dx]
   exact⟨⟨ox,ex,hc,hd,nc⟩,⟨ox,ex⟩,fun h1 h2 ⟨o,q,r⟩ k=>⟨o,k o q,r⟩⟩
  ·rw[bF hb] at e
   refine(hok b u e).stay (fun c v hc q=>F.stays c v ?_) (fun c q=>by rw[bF (cU q nx)];exact q) fun c xs q=>by rw[bF (cU q nx)];exact q
   rcases hc with z|z
   ·subst z;exact ib.trk c u e v q
   ·exact ib.trk c _ z v q
 have U:Un (cG X.stack) [] H (aU H' x (j3 x C dct)) s.heap h3:=by
  refine⟨fun b o e n hb _=>?_,fun b o e n hb _=>?_,fun b o e n _=>?_,fun b o e _=>?_,fun b xs q=>?_,fun b o u q=>?_,fun b ps q=>?_⟩
  ·exact F.stays b o (ib.old b o e hb o (un.keep b o e n hb (no0 b)))
  ·obtain⟨sl,e1⟩:=un.slot b o e n hb (no0 b)
   obtain⟨_,o1,e2,nf⟩:=stk.mem (b:=b) hb
   rw[e] at e2;cases e2
   obtain⟨sl2,e3⟩:=up b _ e1 nf
   exact⟨sl2,e3⟩
  ·rw[bF (ne b o e)];exact un.free b o e n (no0 b)
  ·obtain⟨o2,e2⟩:=un.there b o e (no0 b)
   by_cases hb:b∈cG X.stack
   ·have n:H b=none:=I.stkFree b hb
    obtain⟨sl,e1⟩:=un.slot b o e n hb (no0 b)
    obtain⟨_,o1,e3,nf⟩:=stk.mem (b:=b) hb
    rw[e] at e3;cases e3
    obtain⟨sl2,e4⟩:=up b _ e1 nf
    exact⟨_,e4⟩
   ·exact⟨o2,F.stays b o2 (ib.old b o e hb o2 e2)⟩
  ·have z:=un.tups b xs q
   rw[bF (cU z nx)];exact z
  ·have z:=un.frzs b o u q
   rw[bF (cU z nx)];exact z
  ·obtain⟨more,z⟩:=un.tbls b ps q
   exact⟨more,by rw[bF (cU z nx)];exact z⟩
 have J:=I.call (g':=s'.gens) (t':=tk) (d':=s'.drawn) (ch:=[]) U hok3 hg (fun b z=>xat z (no0 b))
 obtain⟨hh,g,d,t,os⟩:=s'
 have e:os=s.os:=ho
 subst e
 exact J
end
end L2
namespace L2
open PySem.Spec PyProof.Rows PySem.W
section
variable{prog:Program}{w:World}{A:Around}{E:Value->Shared->Prop}{s:Shared}{K:Frag}{x D:Addr}{ox:Obj}{od:Option Obj}{name:Str}{tk:Tok}
theorem VE{M:Model}{nameV:Value}{Q:Unit->Shared->Prop}(X:K.In s.heap)(I:InstAt s.heap x ox D od)(hb:mroIn K D (.type "BaseException")=some true)(hq:Q () s) :
  wpAny M A (checkBuiltinCall "BaseException.__getattribute__" ⟨[.ref x,nameV],[]⟩) Q E s:=by
 have hk:builtinKind "BaseException.__getattribute__"=some .slot:=by decide +kernel
 have hsp:splitId "BaseException.__getattribute__"=some ("BaseException","__getattribute__"):=by decide +kernel
 have ha:=F.args_bexc_ga (.ref x) nameV
 obtain⟨hh,g,d,t,os⟩:=s
 have L0:Looks M hh (isInstance (.ref x) (.type "BaseException")) true:=(I.type (M:=M)).andThen (looks_mroIn X hb)
 simp only[checkBuiltinCall,hk,hsp]
 refine xai (L0.at ?_)
 repeat (any_goals (first|assumption|wp_step))
theorem VF{R:Result->Shared->Prop}{g a:Value}(X:K.In s.heap)(I:InstAt s.heap x ox D od)(hb:mroIn K D (.type "BaseException")=some true)(hf:findObj K D od name=some (.bind g a))
  (h:wpAny (model prog w) A.in1 (call g [a,.ref x,.ref D]) (fun v s'=>R (.ok (.ret v)) s') (fun e s'=>R (.error e) s') s) :
  codeAny (model prog w) A (.call (.builtin "BaseException.__getattribute__") ⟨[.ref x,.str name tk],[]⟩) R s:=by
 refine codeAny_call_builtin F.attr_ValueError.ga.plain F.entry_bexc_ga (VE X I hb ?_)
 obtain⟨hh,gg,d,t,os⟩:=s
 have L0:=I.type (M:=model prog w)
 have L1:=looks_find (M:=model prog w) X I hf
 unfold Builtin.«object.__getattribute__»
 refine xai (wpAny_of_eq (a:=(Value.ref x,[Value.str name tk])) rfl ?_)
 refine xai (wpAny_of_eq (a:=name) rfl ?_)
 refine xai (L0.at (xai (L1.at ?_)))
 show wpAny _ _ (do ret (<- holding [a] (call g [a,Value.ref x,Value.ref D]))) _ _ _
 exact xai (wpAny_holding (wpAny_mono h (fun v s' q=>xa4 q) fun e s' q=>q))
theorem VG{a g:Value}(hc:(clsIn K D).isSome=true)(ha:findIn K (.ref D) name=some (some a))(hg:specialIn K a "__get__"=some (some g))(ht:takesIn K a=some true):findObj K D od name=some (.bind g a):=by
 obtain⟨cd,hc⟩:=xcc.mp hc
 unfold findObj
 rw[hc,Option.bind_some,ha,Option.bind_some]
 simp[hg,ht]
structure nB(K:Frag)(D:Addr):Prop where
 cls:(clsIn K D).isSome=true
 ga:findIn K (.ref D) "__getattribute__"=some (some (.builtin "BaseException.__getattribute__"))
 gh:findIn K (.ref D) "__getattr__"=some none
 base:mroIn K D (.type "BaseException")=some true
 obj:mroIn K D (.type "object")=some true
 ca:findIn K (.ref D) "__class__"=some (some (.builtin "object.__class__"))
 cg:specialIn K (.builtin "object.__class__") "__get__"=some (some (.builtin "getset_descriptor.__get__"))
 ct:takesIn K (.builtin "object.__class__")=some true
theorem VH{Q:Option Value->Shared->Prop}(c:nB K D)(X:K.In s.heap)(I:InstAt s.heap x ox D od)(h:Q (some (.ref D)) { s with toks:=s.toks+1 }) :
  wpAny (model prog w) A (getAttr? (.ref x) "__class__") Q E s:=by
 obtain⟨hh,gg,d,t,os⟩:=s
 have L0:=I.type (M:=model prog w)
 have L1:=looks_findIn (M:=model prog w) X c.ga
 have L2:=looks_findIn (M:=model prog w) X c.gh
 have hf:findObj K D od "__class__"=some (.bind (.builtin "getset_descriptor.__get__") (.builtin "object.__class__")):=VG c.cls c.ca c.cg c.ct
 have hx1:(onTheHeap (Value.ref D)&&Value.builtin "BaseException.__getattribute__"==Value.builtin "object.__getattribute__")=false:=by
  rw[show (Value.builtin "BaseException.__getattribute__"==Value.builtin "object.__getattribute__")=false by decide +kernel];rfl
 unfold getAttr? getAttrBy? getAttrBy
 refine xai (wpAny_mkText (xai (wpAny_attempt (wpAny_holding (xai (L0.at (xai (L1.at ?_))))))))
 dsimp only
 rw[hx1,xaz xa7]
 unfold getAttrByItsOwn
 refine xai ?_
 show wpAny _ _ (typeLookup (.ref D) "__getattr__") _ _ _
 refine L2.at ?_
 refine xai (wpAny_attempt (wpAny_holding ?_))
 show wpAny _ _ (boundAndCalled (.builtin "BaseException.__getattribute__") (.ref x) (.str "__class__" t)) _ _ _
 unfold boundAndCalled
 refine xai (wpAny_of_eq (F.attr_ValueError.ga.bind (.ref x)) ?_)
 refine wpAny_call (VF X I c.base hf ?_)
 refine wpAny_call (class_get X I c.obj ?_)
 exact handed_on rfl (xa4 h)
theorem VI(c:nB K D):KitX K (.ref x) (.ref D) (fun h=>∃ox od,InstAt h x ox D od) where
 ty:=fun _ _ _ ⟨_,_,I⟩=>I.type
 it:=fun _ _ X _=>by
  obtain⟨cdD,hcD⟩:=xcc.mp c.cls
  unfold clsIn at hcD
  split at hcD
  ·rename_i c' d' cd' sl' ho
   intro A' Q' E' s' k q
   unfold isType loadHead
   exact xai (wpAny_loadPart (k _ _ (X _ _ ho)) (xa4 q))
  ·cases hcD
 ne:=fun h tp dd its n sl X htp=>by
  obtain⟨cdD,hcD⟩:=xcc.mp c.cls
  refine Bool.eq_false_iff.mpr fun q=>?_
  have e:D=tp:=Value.ref.inj (beq_iff_eq.mp q)
  subst e
  unfold clsIn at hcD
  split at hcD
  ·rename_i c' d' cd' sl' ho
   have z:=(X _ _ ho).symm.trans htp
   cases z
  ·cases hcD
 ca:=fun X ⟨_,_,I⟩ k=>VH c X I k
end
end L2
namespace L2
open PySem.Spec PyProof.Rows
section
variable{P:Program}{w:World}{K:xFg}{mg:Str->Option Value}{base:Heap}
theorem gE.okX{CX:eR}{x qual:Str}{st:Stmt}{f:Addr}{fd:FuncData}{N ps:List Str}{k:Nat}{sp:Sp}(F:gE K x qual st f fd)(S:gU N ps (cF st))(len:∀vs H Q E,sp vs H Q E->vs.length=ps.length)
  (hbody : ∀ (cdv : Value) (A : Around) (outer : List Env) (s : Shared) (H : Hp) (vs : List V) (Q : VK) (E : XK), cQ k (A.deeper (envOfC qual (cF st) s.heap.objs.size f cdv)) -> sp vs H Q E ->
   ∃t,dP (dX CX P w K mg base N qual (cF st) f cdv A outer s H E) (fX st) t/\t { nx:=fun _ H'=>Q .non H',rt:=Q } (start N vs) H):cN P w K mg base CX (k+1) f fd ps sp:=by
 obtain⟨oc,od,kV,doc,pm,an,cdv,ct,osl,rfl,lk,hcd⟩:=F.ex
 exact TU lk hcd S len fun A outer s H vs Q E hr hsp=>hbody cdv A outer s H vs Q E hr hsp
theorem uC{N:List Str}{qual:Str}{scope:Scope}{f:Addr}{cdv:Value}{A:Around}{outer:List Env}{s:Shared}{H:Hp}{E:XK}:kO (bW P w) (dX (bW P w) P w K mg base N qual scope f cdv A outer s H E) E:=
 fun pins Z H1 s1 e s' I h=>VD (X:=dX (bW P w) P w K mg base N qual scope f cdv A outer s H E) I rfl rfl rfl h
theorem EH{X:Cx}:kO (bW P w) X E0:=fun _ _ _ _ _ _ _ h=>by
 obtain⟨_,_,_,_,_,_,_,_,_,_,_,_,_,z⟩:=h
 exact z.elim
end
theorem VJ{K:xFg}{h:Heap}{C:Addr}{bmB:List Value}{newId:String}(X:K.In h)(q:PySem.W.excIn K C bmB newId=true) :
  ∃bm N nm qn bs hdct sn sub ab col dd k0 k1 k2 k3 k5 mN,h.get? C=some (excClassObj nm qn C N bs bm hdct sn sub ab col dd k0 k1 k2 k3 k5 newId)/\h.Ns N mN/\mN "__init__"=none/\OwnTail h bmB bm:=by
 unfold PySem.W.excIn at q
 split at q
 ·rename_i dd cd sl lk
  split at q
  ·rename_i C' bm k0 k1 k2 k3 nn k5 hm hs
   simp only[xap,beq_iff_eq,xb8] at q
   obtain⟨⟨⟨⟨⟨rfl,rfl⟩,hdel⟩,ht⟩,hok⟩,hni⟩:=q
   obtain⟨nm,bs,mro,ns,qn,hd,sn,sub,ab,col,del⟩:=cd
   dsimp only at hm hdel hok hni
   subst hm hdel
   obtain rfl:sl=#[k0,k1,k2,k3,some (.builtin nn),k5]:=by
    obtain⟨l⟩:=sl
    simp only at hs
    rw[hs]
   exact⟨bm,ns,nm,qn,bs,hd,sn,sub,ab,col,dd,k0,k1,k2,k3,k5,_,X _ _ lk,.of_isNs (PySem.W.isNs_of_in X hok),PySem.W.nsMap_none_of_in X hok hni,PySem.W.tail_of_in X ht⟩
  ·cases q
 ·cases q
def VL(C:Addr)(ta:TA)(E:XK):TS:=fun _ Z H=>ta Z H fun vs H1=>vs.length<=sizeLine/\E (.ref C) none H1
section
variable{P:Program}{w:World}{K:xFg}{mg:Str->Option Value}{base:Heap}{N:List Str}{qual:Str}{scope:Scope}{f:Addr}{cdv:Value}{A:Around}{outer:List Env}{s0:Shared}{H0:Hp}{E:XK}
theorem EI{x:Str}{C:Addr}{e0:Expr}{rest:List Expr}{np cpos pos:Pos}{ta:TA}(q:PySem.W.excIn K C [.type "ValueError",.type "Exception",.type "BaseException",.type "object"] "ValueError.__new__"=true)
  (hg:Gl (dX (bW P w) P w K mg base N qual scope f cdv A outer s0 H0 E) x) (hm:mg x=some (.ref C)) (ha:PA (dX (bW P w) P w K mg base N qual scope f cdv A outer s0 H0 E) (e0::rest) ta)
  (hdb:(x==("__debug__":Str))=false:=by decide)
  (he:starEach (e0::rest) (envOfC qual scope s0.heap.objs.size f cdv)=(false,eval e0 (envOfC qual scope s0.heap.objs.size f cdv))::starEach rest (envOfC qual scope s0.heap.objs.size f cdv):=by rfl)
  (hpl:(backTo cpos (starEach rest (envOfC qual scope s0.heap.objs.size f cdv))).any (·.1)=false:=by rfl) :
  PS (dX (bW P w) P w K mg base N qual scope f cdv A outer s0 H0 E) (.Raise (some (.Call (.Name x np) (e0::rest) [] cpos)) none pos) (VL C ta E):=by
 intro pins s Z H D I h
 obtain⟨bm,Nn,nm,qn,bs,hdct,sn,sub,ab,col,dd,k0,k1,k2,k3,k5,mN,hC,hN,hni,T⟩:=VJ I.mod.kin q
 refine wpAny_Raise_call_subT (C:=C) (nm:=nm) (q:=qn) (N:=Nn) (bs:=bs) (bm:=bm) (hdct:=hdct) (sn:=sn) (sub:=sub) (ab:=ab) (col:=col) (dd:=dd) (k0:=k0) (k1:=k1) (k2:=k2) (k3:=k3) (k5:=k5)
  PySem.F.excBase_ValueError (mN:=mN) (T.hasType PySem.F.excBase_ValueError.hasBase) (I.ok.hd rfl) (by
   show (backTo cpos (starEach (e0::rest) (envOfC qual scope s0.heap.objs.size f cdv))).any (·.1)=false
   rw[he];show (false||(backTo cpos (starEach rest (envOfC qual scope s0.heap.objs.size f cdv))).any (·.1))=false;rw[hpl];rfl) hni (mW I hg hm ⟨rfl,?_⟩ hdb)
 have ha':=ha cpos pins s Z H _ I h
 show wpAny _ _ (evalArgs (.ref C) true (backTo cpos (starEach (e0::rest) (envOfC qual scope s0.heap.objs.size f cdv))) []) _ _ _
 change wpAny _ _ (spliced (backTo cpos (starEach (e0::rest) (envOfC qual scope s0.heap.objs.size f cdv)))) _ _ _ at ha'
 rw[he] at ha' ⊢
 refine Calls.evalArgs_plain (aX ha' fun us s2 ⟨vs,H1,I1,r,hz,hE⟩=>?_)
 have hl:us.length<=sizeLine:=by rw[<- r.length];exact hz
 exact⟨rfl,hl,I1.bk _ _ hC,hN.keeps I1.bk,T.keeps I1.bk,fun h' e m=>VC (tk:=s2.toks) I1 rfl rfl rfl m hE⟩
end
end L2
namespace L2
open PySem.Spec PyProof.Rows
abbrev uD:=St->Hp->VK->XK->Prop
abbrev lN:=iB->XK->St->Hp->Prop
def XP(X:Cx)(CX:eR)(pins:List (Addr×Obj))(Z:St)(E:XK)(e:Value)(s':Shared):Prop:=∃s1 H1,aH X pins Z H1 s1/\CX X.stack H1 s1 E e s'
def PEX(X:Cx)(CX:eR)(e:Expr)(t:uD):Prop:=
 ∀(pins:List (Addr×Obj)) (s:Shared) (Z:St) (H:Hp) (Q:VK) (E:XK),aH X pins Z H s->t Z H Q E->wpAny (model X.prog X.w) X.A (eval e X.env) (EP X pins Z Q) (XP X CX pins Z E) s
def nE(X:Cx)(CX:eR)(st:Stmt)(t:lN):Prop:=
 ∀(pins:List (Addr×Obj)) (s:Shared) (Z:St) (H:Hp) (D:iB) (E:XK),aH X pins Z H s->t D E Z H->wpAny (model X.prog X.w) X.A (exec st X.env) (SP X pins D) (XP X CX pins Z E) s
def yD(X:Cx)(CX:eR)(st:List Stmt)(t:lN):Prop:=
 ∀(pins:List (Addr×Obj)) (s:Shared) (Z:St) (H:Hp) (D:iB) (E:XK),aH X pins Z H s->t D E Z H->wpAny (model X.prog X.w) X.A (execs st X.env) (SP X pins D) (XP X CX pins Z E) s
section
variable{X:Cx}{CX:eR}{k:Nat}{f:Addr}{fd:FuncData}{ps:List Str}{sp:Sp}{dvs:List V}{ds:List Value}{x:Str}{p pos:Pos}{e:Expr}{es:List Expr}{t:TA}
def EK(sp:Sp)(dvs:List V)(t:TA):uD:=fun Z H Q E=>t Z H fun vs H1=>sp (vs++dvs) H1 Q E
theorem VM(F:cN X.prog X.w X.K X.mg X.base CX k f fd ps sp)(hr:cQ k X.A)(hg:Gl X x)(hm:X.mg x=some (.ref f))(hk:PySem.W.keepIn X.K (.ref f)=true)(hb:eS X.K fd ps ds)(hd:bA dvs ds)
  (ha:PA X.nox (e::es) t) (hdb:(x==("__debug__":Str))=false:=by decide) (he:starEach (e::es) X.env=(false,eval e X.env)::starEach es X.env:=by rfl) (hpl:(backTo pos (starEach es X.env)).any (·.1)=false:=by rfl) :
  PEX X CX (.Call (.Name x p) (e::es) [] pos) (EK sp dvs t):=by
 intro pins s Z H Q E I h
 refine wpAny_Call_Name_kw (mW I hg hm ?_ hdb)
 refine PySem.W.callWith_K (h₀:=X.base) I.ok.mod.kin hk (wpAny_mono (ha pos pins s Z H _ (I.wish _) h) (fun us s1 ⟨vs,H1,I1',r,q⟩=>?_) fun _ _ z=>False.elim z) he hpl
 have I1:aH X pins Z H1 s1:=I1'.unwish
 refine⟨I1.kIn,?_⟩
 have r2:bA (vs++dvs) (us++ds):=r.append hd
 have hl:(us++ds).length=ps.length:=by rw[<- r2.length];exact F.len _ _ _ _ q
 refine wpAny_call (codeAny_mono (F.run X.A X.stack s1 H1 ⟨us,[]⟩ (us++ds) (vs++dvs) Q E hr I1.env0 (hb s1 us I1.kIn hl) r2 q) fun r s' hq=>?_)
 cases r with
 |error e=>exact⟨s1,H1,I1,hq⟩
 |ok fl=>
  cases fl with
  |ret u=>exact I1.after hq
  |next=>exact False.elim hq
  |brk=>exact False.elim hq
  |cont=>exact False.elim hq
def VN(t:uD):lN:=fun D E Z H=>t Z H (fun _ H1=>D.nx Z H1) E
theorem VO{te:uD}(he:PEX X CX e te)(hs:swapsWith e none pos.line X.env=pure false:=by rfl):nE X CX (.Expr e pos) (VN te):=by
 intro pins s Z H D E I h
 exact wpAny_Expr_any (aX (he pins s Z H _ E I h) fun v s1 ⟨y,H1,I1,r1,q1⟩=>⟨Z,H1,I1,q1⟩) I.quiet hs
theorem VP{st:Stmt}{ts:lN}(h1:nE X CX st ts):yD X CX [st] ts:=by
 intro pins s Z H D E I h
 refine wpAny_execs_cons (aX (h1 pins s Z H D E I h) fun fl s1 q=>?_)
 cases fl with
 |next=>exact wpAny_execs_nil q
 |ret v=>exact q
 |brk=>exact q
 |cont=>exact q
end
theorem aH.gone{X:Cx}{pins:List (Addr×Obj)}{Z:St}{H:Hp}{s:Shared}{h':Heap}{m:Str->Option Value}{n:Str}{v:Option Value}{i:Nat}{tk:Nat}(I:aH X pins Z H s)(hN:X.N.Nodup)(hi:X.N[i]? = some n)
  (hm:∀(j:Nat) (y:Str) (v:V),X.N[j]? = some y->Z[j]? = some (some v)->iS X.env.scope y->∃u,aZ v u/\CH X.env s.heap m y u) (hn:h'.Ns X.env.locals (fun y=>if y=n then v else m y)) (hs:Heap.SameBut X.env.locals s.heap h') :
  aH X pins (Z.set i none) H { s with heap:=h',toks:=tk }:=by
 have neL:∀b o,X.s₀.heap.get? b=some o->b≠X.env.locals:=fun b o e=>xbf (xau (xaw e) I.ok.above)
 have hiZ:i<Z.length:=by rw[I.len];exact(xan.mp hi).1
 refine⟨I.ok,I.os,I.bare,⟨fun b o e nn hb hx=>(hs.2 b (neL b o e)).trans (I.base.keep b o e nn hb hx),fun b o e nn hb hx=>?_,I.base.free,fun b o e hx=>?_,I.base.tups,I.base.frzs,I.base.tbls⟩,⟨_,hn,fun j y v' e1 e2 e3=>?_⟩,fun y c e=>?_,I.free,I.freeC,fun p hp=>?_,fun b ob e=>?_,by simpa using I.len⟩
 ·obtain⟨sl,e1⟩:=I.base.slot b o e nn hb hx
  exact⟨sl,(hs.2 b (neL b o e)).trans e1⟩
 ·obtain⟨o',e1⟩:=I.base.there b o e hx
  exact⟨o',(hs.2 b (neL b o e)).trans e1⟩
 ·have hj:j≠i:=fun z=>by rw[z,xa0 hiZ] at e2;cases e2
  rw[xam (xbd hj)] at e2
  obtain⟨u,r,l⟩:=hm j y v' e1 e2 e3
  refine⟨u,r,?_⟩
  rcases l with⟨k,e⟩|⟨k,c,e,z⟩
  ·have ny:y≠n:=fun z=>hj (xL hN e1 (z▸hi))
   exact .inl ⟨k,by simp[ny,e]⟩
  ·exact .inr ⟨k,c,e,z.sameBut hs (I.cne y c e)⟩
 ·obtain⟨w',z⟩:=I.cell y c e
  exact⟨w',z.sameBut hs (I.cne y c e)⟩
 ·obtain⟨e,nn,ne,nf,d⟩:=I.pin p hp
  exact⟨(hs.2 p.1 ne).trans e,nn,ne,nf,d⟩
 ·refine(I.hok b ob e).stay (fun c w' hc q=>(hs.2 c ?_).trans q) (fun _ q=>q) fun _ _ q=>q
  rintro rfl
  rcases hc with z|z
  ·rw[<- z,I.free] at e;cases e
  ·rw[I.free] at z;cases z
def hdl(X:Cx)(x:Addr):Cx:={ X with A:=X.A.mark (some (.ref x)),calm:=false,xe:=fun _ _=>False }
section
variable{X:Cx}{pins:List (Addr×Obj)}{Z:St}{H:Hp}{s:Shared}{x:Addr}
theorem aH.hdl(I:aH X pins Z H s)(x:Addr):aH (hdl X x) pins Z H s:=
 ⟨⟨I.ok.mod,I.ok.kind,I.ok.glob,I.ok.blt,I.ok.above,I.ok.inj,I.ok.has,I.ok.cab,fun z=>xat z (by show ¬(false=true);decide),I.ok.frames,I.ok.stk,I.ok.exf,I.ok.bs,I.ok.bsz,I.ok.noex,I.ok.exfs,I.ok.funs,I.ok.frf⟩,I.os,I.bare,I.base,I.loc,I.cell,I.free,I.freeC,I.pin,I.hok,I.len⟩
theorem aH.unhdl(I:aH (L2.hdl X x) pins Z H s)(ok:X.Ok):aH X pins Z H s:=⟨ok,I.os,I.bare,I.base,I.loc,I.cell,I.free,I.freeC,I.pin,I.hok,I.len⟩
end
def VQ(K:xFg)(Dc:Addr)(i:Nat)(tb:lN)(th:TS):TS:=fun D Z H=>∃E:XK,tb D E Z H/\∀(C:Addr) (dct:Option Addr) (H':Hp) (x:Addr),E (.ref C) dct H'->H' x=none->
 PySem.W.exmOne K (.ref C) (.ref Dc)=some true/\th { nx:=fun Z' H''=>D.nx (Z'.set i none) H'',rt:=fun _ _=>False } (Z.set i (some (.ref x))) (aU H' x (j3 x C dct))
theorem VR{X:Cx}{body:List Stmt}{c n:Str}{np hpos pos:Pos}{b0:Stmt}{suite:List Stmt}{tb:lN}{th:TS}{i:Nat}{Dc:Addr}(hst:X.stack=X.env::X.outer)(hf:X.env.frame=some X.env.locals)
  (hN:X.N.Nodup) (hi:X.N[i]? = some n) (hn:X.env.scope.names.lookup n=some .local) (hg:Gl X c) (hm:X.mg c=some (.ref Dc)) (hb:yD X (bW X.prog X.w) body tb) (hh:∀x,dP (hdl X x) (b0::suite) th)
  (hdb:(c==("__debug__":Str))=false:=by decide):PS X (.Try body [.ExceptHandler (some (.Name c np)) (some n) (b0::suite) hpos] [] [] pos) (VQ X.K Dc i tb th):=by
 intro pins s Z H D I h
 obtain⟨Ex,hbody,hhand⟩:=h
 refine wpAny_Try_except (wpAny_mono (hb pins s Z H D Ex I hbody) (fun fl s1 q=>?_) (fun e s1 q=>?_))
 ·cases fl with
  |next=>exact wpAny_execs_nil q
  |ret v=>exact q
  |brk=>exact q
  |cont=>exact q
 obtain⟨s2,H2,I2,x,C,dct,H',B,rfl,ho,hg',un,hok,F,ib,nx,hE⟩:=q
 obtain⟨hx,hth⟩:=hhand C dct H' x hE nx
 have hfr:X.A.frames=some (X.env::X.outer):=by rw[<- hst];exact I.ok.frames
 have F':iV B (X.env::X.outer) x (.ref C) dct .none s1.heap:=by rw[<- hst];exact F
 refine EB hfr hf F' fun h1 F1 u1=>uB F1 fun h2 F2 u2=>?_
 have I3:=EG (tk:=s1.toks) I2 ho hg' un hok (hst▸F2) ib (u1.trans u2) nx
 refine wpAny_handleBy_cons (codeAny_handlers_test ?_) (by intro z;cases z)
 refine mW (X:=hdl X x) (I3.hdl x) hg hm ?_ hdb
 obtain⟨ox,vs,T,oT,ts,ex,hcl,_⟩:=F2.obj
 have LT:PySem.W.Looks (model X.prog X.w) h2 (typeOf (.ref x)) (.ref C):=hcl▸(PySem.W.Looks.ld ex).andThen .now
 refine(PySem.W.exm_one (M:=model X.prog X.w) I3.kIn LT hx) _ _ _ _ (fun _ _ e=>e) ?_
 refine codeAny_handlers_suite_as ?_
 refine uB F2 fun h3 F3 u3=>?_
 have I4:=EG (tk:=s1.toks) I2 ho hg' un hok (hst▸F3) ib (u1.trans (u2.trans u3)) nx
 refine tV (X:=hdl X x) (v:=.ref x) (I4.hdl x) hN hi (.inl hn) rfl (fun s5 I5=>?_) (.inr hn)
 refine wpAny_mono (hh x pins s5 _ _ _ I5 hth) (fun fl s6 q6=>?_) fun _ _ z=>False.elim z
 cases fl with
 |ret v=>obtain⟨_,_,_,_,_,z⟩:=q6;exact False.elim z
 |brk=>obtain⟨_,_,_,z⟩:=q6;exact False.elim z
 |cont=>obtain⟨_,_,_,z⟩:=q6;exact False.elim z
 |next=>
  obtain⟨σ6,H6,I6,q⟩:=q6
  have I7:aH X pins σ6 H6 s6:=I6.unhdl I.ok
  obtain⟨m,hnm,hl⟩:=I7.loc
  have hp:(X.env.scope.kind==.class||(X.env.scope.kind==.module&&X.env.locals != X.env.globals))=false:=by rw[I.ok.kind];rfl
  exact wpAny_nameGoes_keeps hn hnm hp fun h' v hn' hs'=>⟨_,H6,I7.gone hN hi hl hn' hs',q⟩
theorem VS{X:Cx}:dW X (.builtin "isinstance") (fun xs H Q=>∃(a C:Addr) (c:V) (cv:Value) (b:Bool),xs=[.ref a,c]/\H a=some (j3 a C none)/\((∃D,c=.ref D/\cv=.ref D)\/∃T,c=.ty T/\cv=.type T)/\nB X.K C/\PySem.W.kitOne X.K (.ref C) cv=some b/\Q (.bl b) H):=by
 intro pins s Z H xs us Q I r h
 obtain⟨a,C,c,cv,b,rfl,ha,hc,ec,hk,q⟩:=h
 obtain⟨u,w',rfl,ru,rw'⟩:=t7 r
 obtain rfl:u=Value.ref a:=ru
 have e:w'=cv:=by
  rcases hc with⟨D,rfl,rfl⟩|⟨T,rfl,rfl⟩
  ·exact rw'
  ·exact rw'
 subst e
 obtain⟨⟨o,e1,e2,e3,e4⟩,_,_⟩:=I.hok a _ ha
 have hI:PySem.W.InstAt s.heap a o C none:=⟨e1,e2,e4,by rw[e3];trivial⟩
 exact PySem.W.kia_one (VI ec) I.kIn ⟨o,none,hI⟩ hk (fun z=>nomatch z) fun tk=>⟨.bl b,H,I.tok tk,rfl,q⟩
end L2
namespace L2
open PySem.Spec PyProof.Rows
section
variable{X:Cx}
theorem VT(bs:List Bool):(List.range bs.length).all (fun i=>bs.getD i false)=bs.all id:=by
 rw[xcr]
 simp only[xa2,xb9,id]
 constructor
 ·intro h b hb
  obtain⟨i,hi,rfl⟩:=List.mem_iff_getElem.mp hb
  have q:=h i hi
  simpa [List.getD,hi] using q
 ·intro h i hi
  have q:=h _ (xcd hi)
  simpa [List.getD,hi] using q
theorem VU{bs:List Bool}{its:List Value}(r:bA (bs.map V.bl) its){i:Nat}{v:Value}(h:its.toArray[i]? = some v):v=.bool (bs.getD i false):=by
 have hl:=r.length
 rw[xab] at hl
 have hi:i<bs.length:=by
  rw[hl]
  have:its[i]? = some v:=by simpa using h
  exact(xan.mp this).1
 obtain⟨u,hu,ru⟩:=r.get (i:=i) (x:=.bl bs[i]) (by simp[hi])
 have e:its[i]? = some v:=by simpa using h
 rw[hu] at e
 cases e
 rw[show v=.bool bs[i] from ru]
 simp[List.getD,hi]
theorem VV(hc:X.calm=true):dW X (.builtin "all") (fun xs H Q=>∃(p:Addr) (bs:List Bool),xs=[.ref p]/\bM X.K H p (bs.map V.bl)/\Q (.bl (bs.all id)) H):=by
 intro pins s Z H xs us Q I r h
 obtain⟨p,bs,rfl,hq,q⟩:=h
 obtain⟨u,rfl,e⟩:=jF r
 cases e
 obtain⟨its,rv,pl,hz⟩:=I.list hq
 have hl:its.toArray.size=bs.length:=by rw[xao,<- rv.length,xab]
 have hlt:p<s.heap.objs.size:=by obtain⟨o,e,_⟩:=pl.isList;exact xaw e
 refine call_all_walk (wpAny_pyIter_list pl.isList ⟨_,_,_,_,_,_,fun i=>bs.getD i false,rfl,Walks.list (A:=X.A.in1) (I.ok.hd hc) s.heap.objs.size p (xbf hlt) its.toArray,⟨⟨_,xa6 _ rfl,rfl,rfl⟩,pl.isList.push _⟩,fun i v s' Q' E' hv hQ=>?_,fun h' tk k=>?_⟩)
 ·rw[VU rv hv];exact wpAny_truthy_bool hQ
 ·refine⟨.bl (bs.all id),H,I.kept fun b o e=>k b o (fun z=>xbf (xaw e) (by simpa using z)) (xaj _ e),?_,q⟩
  rw[hl,VT];rfl
end
end L2
namespace SetT
open PySem.SetTable
def iter(t:SetTable):Nat->Probe->Probe
 |0,p=>p
 |k+1,p=>iter t k (t.advance p)
def start(mask i perturb:Nat):Probe:={ j:=i,more:=runEnd mask i-i,i,perturb,dummy:=none }
end SetT
namespace TxtA
open PySem.StrLaws PySem.Builtin.Str
def flat(y:List Nat):List (List Nat)->List Nat
 |[]=>[]
 |[r]=>r
 |r::r'::rs=>r++y++flat y (r'::rs)
def eA(w:Nat):Nat->List (List Nat)->List Nat
 |_,[]=>[]
 |_,[_]=>[]
 |n,r::r'::rs=>(n+r.length)::eA w (n+r.length+w) (r'::rs)
def jJ(l y:List Nat)(i:Nat):Prop:=(l.drop i).take y.length=y
theorem qI{l t:List Nat}{c i:Nat}(h:jJ l (c::t) i):l[i]? = some c:=by
 unfold jJ at h
 have:((l.drop i).take (c::t).length)[0]? = some c:=by rw[h];rfl
 rw[List.getElem?_take,xa5 (by simp)] at this
 rw[List.getElem?_drop] at this
 simpa using this
theorem VW(x y:Str)(hy:y.cps.toList≠[])(i:Nat):At x y x.length i↔jJ x.cps.toList y.cps.toList i:=by
 have ly:y.length=y.cps.toList.length:=by simp[Str.length]
 have lx:x.length=x.cps.toList.length:=by simp[Str.length]
 unfold At jJ
 rw[subAt_eq,ly,lx]
 constructor
 ·rintro⟨_,h⟩;exact eq_of_beq h
 ·intro h
  refine⟨?_,by rw[h];simp⟩
  have e:=congrArg List.length h
  rw[xbh,xbu] at e
  have:y.cps.toList.length≠0:=by simpa using hy
  omega
theorem uE(x y:Str)(lim:Nat):∀(l:List Nat) (st:Array Nat×Nat),(∀i∈l,¬(st.2<=i/\At x y x.length i))->(forIn l st (occBody x y x.length lim)).run=st
 |[],st,_=>rfl
 |a::l,st,h=>by
  rw[xcq]
  unfold occBody
  have c:¬(((st.fst.size<lim/\st.snd<=a)/\a+y.length<=x.length)/\subAt x y a=true):=fun q=>h a (xaq ..) ⟨q.1.1.2,q.1.2,q.2⟩
  rw[xaz c]
  exact uE x y lim l st fun i hi=>h i (xae _ hi)
theorem VX(x y:Str)(lim:Nat){a:Nat}{l:List Nat}{st:Array Nat×Nat}(hs:st.1.size<lim)(hf:st.2<=a)(h:At x y x.length a) :
  (forIn (a::l) st (occBody x y x.length lim)).run=(forIn l (st.1.push a,a+y.length) (occBody x y x.length lim)).run:=by
 rw[xcq]
 have c:((st.fst.size<lim/\st.snd<=a)/\a+y.length<=x.length)/\subAt x y a=true:=⟨⟨⟨hs,hf⟩,h.1⟩,h.2⟩
 show (occBody x y x.length lim a st >>= _).run=_
 unfold occBody
 rw[xa5 c]
 rfl
theorem EL(x y:Str)(lim:Nat)(l l':List Nat)(st:Array Nat×Nat):(forIn (l++l') st (occBody x y x.length lim)).run=(forIn l' (forIn l st (occBody x y x.length lim)).run (occBody x y x.length lim)).run:=by
 induction l generalizing st with
 |nil=>rfl
 |cons a l ih=>
  rw[xcm,xcq,xcq]
  unfold occBody
  split
  ·exact ih _
  ·exact ih _
theorem uF(w:Nat):∀(rows:List (List Nat)) (n k:Nat),k∈eA w n rows->n<=k
 |[],_,_,h=>by simp[eA] at h
 |[_],_,_,h=>by simp[eA] at h
 |r::r'::rs,n,k,h=>by
  rw[eA,xal] at h
  rcases h with rfl|h
  ·omega
  ·have:=uF w (r'::rs) _ _ h;omega
theorem VY{l:List Nat}{pre r post:List Nat}{i c:Nat}(hl:l=pre++(r++post))(h1:pre.length<=i)(h2:i<pre.length+r.length)(h:l[i]? = some c):c∈r:=by
 rw[hl,xbe h1,xbn (by omega)] at h
 exact xbt h
def oU(c:Nat)(t r:List Nat):Prop:=∀i,i<r.length->∀p,(p=[]\/p.head? = some c)->¬jJ (r++p) (c::t) i
theorem VZ{c:Nat}{t r:List Nat}(h:c∉r):oU c t r:=fun i hi p _ q=>by
 have:=qI q
 rw[xbn hi] at this
 exact h (xbt this)
theorem EM{pre l y:List Nat}{i:Nat}(h:pre.length<=i):jJ (pre++l) y i↔jJ l y (i-pre.length):=by
 unfold jJ
 rw[List.drop_append,xct h,xbq]
theorem EN{c:Nat}{t:List Nat}(hc:c∉t):∀(rows:List (List Nat)),(∀r∈rows,oU c t r)->∀(pre:List Nat) (i:Nat),pre.length<=i->(jJ (pre++flat (c::t) rows) (c::t) i↔i∈eA (t.length+1) pre.length rows)
 |[],_,pre,i,hi=>by
  constructor
  ·intro h
   have:=qI h
   rw[flat,xa8,xbx hi] at this
   cases this
  ·intro h;simp[eA] at h
 |[r],hr,pre,i,hi=>by
  constructor
  ·intro h
   rw[flat,EM hi] at h
   by_cases hl:i-pre.length<r.length
   ·exact xat (by rw[xa8];exact h) (hr r (by simp) _ hl [] (.inl rfl))
   ·have:=qI h
    rw[xbx (by omega)] at this
    cases this
  ·intro h;simp[eA] at h
 |r::r'::rs,hr,pre,i,hi=>by
  have e:pre++flat (c::t) (r::r'::rs)=pre++(r++((c::t)++flat (c::t) (r'::rs))):=by rw[flat,xar]
  have e2:pre++flat (c::t) (r::r'::rs)=(pre++r++(c::t))++flat (c::t) (r'::rs):=by rw[e];simp[xar]
  rw[eA,xal]
  by_cases h1:i<pre.length+r.length
  ·constructor
   ·intro h
    rw[e,EM hi] at h
    exact xat h (hr r (by simp) _ (by omega) _ (.inr rfl))
   ·rintro(h|h)
    ·omega
    ·have:=uF _ _ _ _ h;omega
  ·by_cases h2:i=pre.length+r.length
   ·constructor
    ·intro _;exact .inl h2
    ·intro _
     unfold jJ
     rw[e,h2,<- xar,List.drop_left' (by simp),List.take_left' rfl]
   ·by_cases h3:i<pre.length+r.length+(t.length+1)
    ·constructor
     ·intro h
      have e3:pre++flat (c::t) (r::r'::rs)=(pre++r++[c])++(t++flat (c::t) (r'::rs)):=by rw[e];simp[xar]
      exact xat (VY e3 (by simp;omega) (by simp;omega) (qI h)) hc
     ·rintro(h|h)
      ·omega
      ·have:=uF _ _ _ _ h;omega
    ·have ih:=EN hc (r'::rs) (fun q hq=>hr q (xae _ hq)) (pre++r++(c::t)) i (by simp;omega)
     rw[e2,ih,show (pre++r++(c::t)).length=pre.length+r.length+(t.length+1) by simp;omega]
     constructor
     ·exact .inr
     ·rintro(h|h)
      ·omega
      ·exact h
theorem V0{x y:Str}{c:Nat}{t:List Nat}(hy:y.cps.toList=c::t)(hc:c∉t)(lim:Nat):∀(rows:List (List Nat)),rows≠[]->(∀r∈rows,oU c t r)->∀(pre:List Nat),x.cps.toList=pre++flat (c::t) rows->∀(st:Array Nat) (free:Nat),free<=pre.length->st.size+rows.length<=lim->
  (forIn (List.range' pre.length ((flat (c::t) rows).length+1)) (st,free) (occBody x y x.length lim)).run.1.toList=st.toList++eA (t.length+1) pre.length rows:=by
 have ly:y.length=t.length+1:=by rw[show y.length=y.cps.toList.length by simp[Str.length],hy];rfl
 have ati:∀{rows:List (List Nat)} {pre:List Nat} (hx:x.cps.toList=pre++flat (c::t) rows) (hr:∀r∈rows,oU c t r) {i:Nat},pre.length<=i->(At x y x.length i↔i∈eA (t.length+1) pre.length rows):=fun {rows pre} hx hr {i} hi=>by
  rw[VW x y (by rw[hy];simp),hx,hy];exact EN hc _ hr _ i hi
 intro rows
 induction rows with
 |nil=>intro h;exact xat rfl h
 |cons r rs ih=>
  intro _ hr pre hx st free hf hs
  cases rs with
  |nil=>
   rw[uE x y lim _ _ fun i hi q=>?_]
   ·simp[eA]
   ·have:=(ati hx hr (by simp[List.mem_range'] at hi;omega)).mp q.2
    simp[eA] at this
  |cons r' rs=>
   have lf:(flat (c::t) (r::r'::rs)).length+1=r.length+(1+(t.length+((flat (c::t) (r'::rs)).length+1))):=by rw[flat];simp;omega
   have sp:List.range' pre.length ((flat (c::t) (r::r'::rs)).length+1)=List.range' pre.length r.length++((pre.length+r.length)::(List.range' (pre.length+r.length+1) t.length++List.range' (pre.length+r.length+(t.length+1)) ((flat (c::t) (r'::rs)).length+1))):=by
    rw[lf,<- List.range'_append_1,Nat.add_comm 1,List.range'_succ,<- List.range'_append_1,show pre.length+r.length+1+t.length=pre.length+r.length+(t.length+1) by omega]
   have e2:x.cps.toList=(pre++r++(c::t))++flat (c::t) (r'::rs):=by rw[hx,flat];simp[xar]
   have lp:(pre++r++(c::t)).length=pre.length+r.length+(t.length+1):=by simp;omega
   rw[sp,EL,uE x y lim (List.range' pre.length r.length) (st,free) fun i hi q=>?_]
   ·rw[VX x y lim (by show st.size<lim;simp at hs;omega) (by show free<=_;omega) ((ati hx hr (by omega)).mpr (by rw[eA];exact xaq ..)),EL,uE x y lim (List.range' (pre.length+r.length+1) t.length) _ fun i hi q=>?_]
    ·have:=ih (by simp) (fun q hq=>hr q (xae _ hq)) (pre++r++(c::t)) e2 (st.push (pre.length+r.length)) (pre.length+r.length+y.length) (by rw[lp,ly];omega) (by simp at hs ⊢;omega)
     rw[lp] at this
     rw[this,eA]
     simp
    ·have h1:=q.1
     simp[List.mem_range'] at hi
     have h2:pre.length+r.length+y.length<=i:=h1
     rw[ly] at h2
     omega
   ·simp[List.mem_range'] at hi
    have:=(ati hx hr (by omega)).mp q.2
    rw[eA,xal] at this
    rcases this with h|h
    ·omega
    ·have:=uF _ _ _ _ h;omega
def aE(l:List Nat):Str:=⟨l.toArray⟩
theorem EO{x:Str}{y:List Nat}:∀(rows:List (List Nat)),rows≠[]->∀(pre:List Nat),x.cps.toList=pre++flat y rows->partsFrom x y.length pre.length (eA y.length pre.length rows)=rows.map aE
 |[],h,_,_=>xat rfl h
 |[r],_,pre,hx=>by
  rw[eA,partsFrom,xbg,xck]
  congr 1
  apply Str.ext'
  apply xcz.mp
  rw[strSub_toList,hx,flat,List.drop_left]
  have lx:x.length=pre.length+r.length:=by rw[show x.length=x.cps.toList.length by simp[Str.length],hx,flat];simp
  rw[lx,show pre.length+r.length-pre.length=r.length by omega,xc0]
  rfl
 |r::r'::rs,_,pre,hx=>by
  have e2:x.cps.toList=(pre++r++y)++flat y (r'::rs):=by rw[hx,flat];simp[xar]
  have ih:=EO (r'::rs) (by simp) (pre++r++y) e2
  rw[show (pre++r++y).length=pre.length+r.length+y.length by simp;omega] at ih
  rw[eA,partsFrom,ih,show List.map aE (r::r'::rs)=aE r::List.map aE (r'::rs) from rfl]
  congr 1
  apply Str.ext'
  apply xcz.mp
  rw[strSub_toList,hx,flat,List.drop_left,xar,show pre.length+r.length-pre.length=r.length by omega,List.take_left' rfl]
  rfl
theorem EQ(c:Nat)(t:List Nat):∀rows:List (List Nat),rows.length<=(flat (c::t) rows).length+1
 |[]=>by simp
 |[r]=>by simp
 |r::r'::rs=>by
  have:=EQ c t (r'::rs)
  rw[flat]
  simp at this ⊢
  omega
theorem V1{w n:Nat}:∀{rows:List (List Nat)},rows≠[]->eA w n rows=[]->∃r,rows=[r]
 |[],h,_=>xat rfl h
 |[r],_,_=>⟨r,rfl⟩
 |r::r'::rs,_,h=>by rw[eA] at h;cases h
theorem ES{c:Nat}{t:List Nat}{rows:List (List Nat)}(hc:c∉t)(hk:∀k∈c::t,k<256)(hne:rows≠[])(hr:∀r∈rows,oU c t r):Txt.split (aE (flat (c::t) rows)) (aE (c::t))=rows.map aE:=by
 have xl:(aE (flat (c::t) rows)).cps.toList=[]++flat (c::t) rows:=by simp[aE]
 have yl:(aE (c::t)).cps.toList=c::t:=by simp[aE]
 have lx:(aE (flat (c::t) rows)).length=(flat (c::t) rows).length:=by simp[aE,Str.length]
 have ly:(aE (c::t)).length=(c::t).length:=by simp[aE,Str.length]
 have occ:occurrences (aE (flat (c::t) rows)) (aE (c::t)) 0 (aE (flat (c::t) rows)).length ((aE (flat (c::t) rows)).length+1)=eA (t.length+1) 0 rows:=by
  rw[occ_eq]
  have:=V0 (x:=aE (flat (c::t) rows)) (y:=aE (c::t)) yl hc ((aE (flat (c::t) rows)).length+1) rows hne hr [] xl #[] 0 (xak _) (by rw[lx];simpa using EQ c t rows)
  rw[show (aE (flat (c::t) rows)).length+1-0=(flat (c::t) rows).length+1 by rw[lx];omega]
  simpa using this
 have one:∀r,rows=[r]->[aE (flat (c::t) rows)]=rows.map aE:=fun r e=>by rw[e];rfl
 have ky:PySem.Builtin.Str.strKind (aE (c::t))=1:=by
  unfold PySem.Builtin.Str.strKind
  rw[xa5]
  simpa [aE] using hk
 have kx:1<=PySem.Builtin.Str.strKind (aE (flat (c::t) rows)):=by
  unfold PySem.Builtin.Str.strKind
  split
  ·exact xak _
  ·split<;>decide
 unfold Txt.split
 split
 ·rename_i h
  simp only[xb1,decide_eq_true_eq] at h
  rcases h with h|h
  ·match rows,hne with
   |[r],_=>exact one r rfl
   |r::r'::rs,_=>
    rw[lx,ly] at h
    rw[flat] at h
    simp at h
    omega
  ·omega
 ·split
  ·rename_i h
   rw[occ] at h
   obtain⟨r,e⟩:=V1 hne (by simpa using h)
   exact one r e
  ·rw[occ,partsBetween_eq,ly]
   have:=EO (x:=aE (flat (c::t) rows)) (y:=c::t) rows hne [] xl
   simpa using this
theorem V2{c:Nat}{t:List Nat}{rows:List (List Nat)}(hc:c∉t)(hk:∀k∈c::t,k<256)(hne:rows≠[])(hr:∀r∈rows,c∉r):Txt.split (aE (flat (c::t) rows)) (aE (c::t))=rows.map aE:=
 ES hc hk hne fun r h=>VZ (hr r h)
theorem yE(y:List Nat):∀rows:List (List Nat),Str.join (aE y) (rows.map aE)=aE (flat y rows)
 |[]=>rfl
 |[r]=>rfl
 |r::r'::rs=>by
  have ih:=yE y (r'::rs)
  show aE r++aE y++Str.join (aE y) ((r'::rs).map aE)=_
  rw[ih,flat]
  apply Str.ext'
  simp[aE,Str.cps_append]
end TxtA
namespace TxtA
open PySem.StrLaws PySem.Builtin.Str PySem.NumText
def eD(n:Nat):List Nat:=(Nat.toDigits 10 n).map Char.toNat
theorem ofS(n:Nat):Str.ofString (toString ((n:Nat):Int))=aE (eD n):=Str.ext' (xcz.mp (by rw[PySem.W.KIN.signs_num];simp[aE,eD]))
theorem V4(n:Nat):digitsVal (eD n)=n:=PySem.W.KIN.val_back n
theorem V5(n:Nat):AllDigits (eD n):=by
 intro c hc
 obtain⟨ch,hch,e⟩:=xay.mp hc
 have r:=PyProof.Rows.digit_range (Nat.isDigit_of_mem_toDigits (by decide) (by decide) hch)
 rw[<- e]
 exact r
theorem V6(n:Nat):eD n≠[]:=fun e=>by
 have h3:Nat.toDigits 10 n=[]:=List.map_eq_nil_iff.mp e
 exact xat h3 Nat.toDigits_ne_nil
theorem yF{n k:Nat}(h0:0<k)(h:n<10^k):(eD n).length<=k:=by
 unfold eD
 rw[xab]
 exact(Nat.length_toDigits_le_iff (by decide) h0).mpr h
theorem V7{n:Nat}(h:n<10^70):intText? (aE (eD n))=some (n:Int):=by
 have l:(aE (eD n)).length=(eD n).length:=by simp[aE,Str.length]
 have e:(aE (eD n)).cps.toList=eD n:=by simp[aE]
 have:=intText_digits (x:=aE (eD n)) (by rw[e];exact V5 n) (by rw[e];exact V6 n) (by rw[l];exact xah (yF (by decide) h) (by decide))
 rw[e,V4] at this
 exact this
end TxtA
namespace DL
open L2
inductive D where
 |non|bl (b:Bool)|int (i:Int)|str (x:Str)|ty (n:String)|cls (c:Str)
 |tup (xs:List D)|lst (xs:List D)|dct (ks:List Key) (vs:List D)|exc (c:Str) (as:List D)
instance:Inhabited D:=⟨.non⟩
inductive R (α:Type) where
 |ok (a:α)|err (e:D)|bad
def R.bind{α β:Type}:R α->(α->R β)->R β
 |.ok a,k=>k a
 |.err e,_=>.err e
 |.bad,_=>.bad
theorem R.ok_bind{α β:Type}(a:α)(k:α->R β):(R.ok a).bind k=k a:=rfl
def RW{α:Type}(r:R α)(Q:α->Prop)(E:D->Prop):Prop:=match r with
 |.ok a=>Q a
 |.err e=>E e
 |.bad=>False
theorem RW.mono{α:Type}{r:R α}{Q Q':α->Prop}{E E':D->Prop}(h:RW r Q E)(hq:∀a,r=.ok a->Q a->Q' a)(he:∀e,E e->E' e):RW r Q' E':=by
 cases r with
 |ok a=>exact hq a rfl h
 |err e=>exact he e h
 |bad=>exact h
theorem RW.of_bind{α β:Type}{r:R α}{k:α->R β}{Q:β->Prop}{E:D->Prop}(h:RW (r.bind k) Q E):RW r (fun a=>RW (k a) Q E) E:=by
 cases r with
 |ok a=>exact h
 |err e=>exact h
 |bad=>exact h
def lO:List Str:=["ChalkError","NoPlace","Same","NoFloor","Endless","NoDeed","NoText","NoName","TooMany","NoChange","NoFrame","NoValue","Unlike","NoRatio","NoBow","NoRow"]
def cR(c d:Str):Option Bool:=bif lO.contains c&&lO.contains d then some (c==d||d=="ChalkError") else none
structure fF(K:xFg)(mg:Str->Option Value)(c:Str)(C:Addr):Prop where
 here:mg c=some (.ref C)
 exc:nB K C
 isi:∀d Dd b,cR c d=some b->mg d=some (.ref Dd)->PySem.W.kitOne K (.ref C) (.ref Dd)=some b
 val:PySem.W.kitOne K (.ref C) (.type "ValueError")=some true
 ctc:∀d Dd,cR c d=some true->mg d=some (.ref Dd)->PySem.W.exmOne K (.ref C) (.ref Dd)=some true
def qJ(G:Hp)(dct:Option Addr)(vs:List V):Prop:=(dct=none/\vs=[])\/∃dx v,dct=some dx/\vs=[v]/\G dx=some (.xd [("at",v)])
mutual
def Rep(K:xFg)(mg:Str->Option Value)(G:Hp):D->V->Prop
 |.non,v=>v=.non
 |.bl b,v=>v=.bl b
 |.int i,v=>v=.int i
 |.str x,v=>v=.str x
 |.ty n,v=>v=.ty n
 |.cls c,v=>∃C,v=.ref C/\mg c=some (.ref C)
 |.tup ds,v=>∃a vs,v=.ref a/\cB K G a vs/\Reps K mg G ds vs
 |.lst ds,v=>∃a vs,v=.ref a/\bM K G a vs/\Reps K mg G ds vs
 |.dct ks ds,v=>∃a vs,v=.ref a/\Rd G a (.dK (ks.zip vs))/\ks.length=vs.length/\Reps K mg G ds vs
 |.exc c as,v=>∃x C dct vs,v=.ref x/\G x=some (j3 x C dct)/\fF K mg c C/\qJ G dct vs/\Reps K mg G as vs
def Reps(K:xFg)(mg:Str->Option Value)(G:Hp):List D->List V->Prop
 |[],vs=>vs=[]
 |d::ds,vs=>∃v r,vs=v::r/\Rep K mg G d v/\Reps K mg G ds r
end
def ET(K:xFg)(mg:Str->Option Value)(G:Hp)(e:D)(C:Addr)(dct:Option Addr):Prop:=∃c as vs,e=.exc c as/\fF K mg c C/\qJ G dct vs/\Reps K mg G as vs
section
variable{K:xFg}{mg:Str->Option Value}{G G' H H':Hp}
theorem aM.sqT{a:Addr}{xs:List V}(e:aM G G')(h:cB K G a xs):cB K G' a xs:=e.tup h
theorem aM.rd{a:Addr}{u:HO}(e:aM G G')(h:Rd G a u):Rd G' a u:=by
 rcases h with h|⟨o,h⟩
 ·exact .inl (e _ _ h)
 ·exact .inr ⟨o,e _ _ h⟩
theorem qJ.mono{dct:Option Addr}{vs:List V}(e:aM G G')(h:qJ G dct vs):qJ G' dct vs:=by
 rcases h with h|⟨dx,v,h1,h2,h3⟩
 ·exact .inl h
 ·exact .inr ⟨dx,v,h1,h2,e _ _ h3⟩
mutual
theorem Rep.mono(e:aM G G'):∀{d:D} {v:V},Rep K mg G d v->Rep K mg G' d v
 |.non,_,h=>h
 |.bl _,_,h=>h
 |.int _,_,h=>h
 |.str _,_,h=>h
 |.ty _,_,h=>h
 |.cls _,_,h=>h
 |.tup _,_,⟨a,vs,h1,h2,h3⟩=>⟨a,vs,h1,aM.sqT e h2,Reps.mono e h3⟩
 |.lst _,_,⟨a,vs,h1,h2,h3⟩=>⟨a,vs,h1,e.seq h2,Reps.mono e h3⟩
 |.dct _ _,_,⟨a,vs,h1,h2,h3,h4⟩=>⟨a,vs,h1,aM.rd e h2,h3,Reps.mono e h4⟩
 |.exc _ _,_,⟨x,C,dct,vs,h1,h2,h3,h4,h5⟩=>⟨x,C,dct,vs,h1,e _ _ h2,h3,h4.mono e,Reps.mono e h5⟩
theorem Reps.mono(e:aM G G'):∀{ds:List D} {vs:List V},Reps K mg G ds vs->Reps K mg G' ds vs
 |[],_,h=>h
 |_::_,_,⟨v,r,h1,h2,h3⟩=>⟨v,r,h1,Rep.mono e h2,Reps.mono e h3⟩
end
theorem Reps.length:∀{ds:List D} {vs:List V},Reps K mg G ds vs->ds.length=vs.length
 |[],_,h=>by cases h;rfl
 |_::_,_,⟨v,r,h1,_,h3⟩=>by cases h1;rw[xad,xad,Reps.length h3]
theorem Reps.nil:Reps K mg G [] []:=rfl
theorem Reps.cons{d:D}{v:V}{ds:List D}{vs:List V}(h:Rep K mg G d v)(t:Reps K mg G ds vs):Reps K mg G (d::ds) (v::vs):=⟨v,vs,rfl,h,t⟩
theorem Reps.append:∀{ds es:List D} {vs ws:List V},Reps K mg G ds vs->Reps K mg G es ws->Reps K mg G (ds++es) (vs++ws)
 |[],_,_,_,h,t=>by cases h;exact t
 |_::_,_,_,_,⟨v,r,h1,h2,h3⟩,t=>by cases h1;exact⟨v,r++_,rfl,h2,h3.append t⟩
theorem Reps.get:∀{ds:List D} {vs:List V} {i:Nat} {d:D},Reps K mg G ds vs->ds[i]? = some d->∃v,vs[i]? = some v/\Rep K mg G d v
 |[],_,_,_,_,e=>by simp at e
 |_::_,_,0,_,⟨v,r,h1,h2,_⟩,e=>by simp at e;subst e;subst h1;exact⟨v,rfl,h2⟩
 |_::ds,_,i+1,d,⟨v,r,h1,_,h3⟩,e=>by
  subst h1
  obtain⟨w,e1,e2⟩:=Reps.get (i:=i) (d:=d) h3 (by simpa using e)
  exact⟨w,by simpa using e1,e2⟩
theorem Reps.drop:∀{ds:List D} {vs:List V} (n:Nat),Reps K mg G ds vs->Reps K mg G (ds.drop n) (vs.drop n)
 |_,_,0,h=>h
 |[],_,_+1,h=>by cases h;exact rfl
 |_::_,_,n+1,⟨_,_,h1,_,h3⟩=>by subst h1;exact h3.drop n
theorem Reps.take:∀{ds:List D} {vs:List V} (n:Nat),Reps K mg G ds vs->Reps K mg G (ds.take n) (vs.take n)
 |_,_,0,h=>by simp only[List.take_zero];exact rfl
 |[],_,_+1,h=>by cases h;exact rfl
 |_::_,_,n+1,⟨v,_,h1,h2,h3⟩=>by subst h1;exact⟨v,_,rfl,h2,h3.take n⟩
theorem Reps.ints(ns:List Int):Reps K mg G (ns.map D.int) (ns.map V.int):=by
 induction ns with
 |nil=>exact rfl
 |cons n r ih=>exact⟨_,_,rfl,rfl,ih⟩
theorem Reps.of_ints:∀{ns:List Int} {vs:List V},Reps K mg G (ns.map D.int) vs->vs=ns.map V.int
 |[],_,h=>h
 |_::_,_,⟨_,_,h1,h2,h3⟩=>by subst h1;cases h2;rw[Reps.of_ints h3];rfl
theorem Reps.of_bools:∀{bs:List Bool} {vs:List V},Reps K mg G (bs.map D.bl) vs->vs=bs.map V.bl
 |[],_,h=>h
 |_::_,_,⟨_,_,h1,h2,h3⟩=>by subst h1;cases h2;rw[Reps.of_bools h3];rfl
theorem Reps.at{ds:List D}{vs:List V}{i:Int}{d:D}(h:Reps K mg G ds vs)(e:eU ds i=some d):∃v,eU vs i=some v/\Rep K mg G d v:=by
 unfold eU at e ⊢
 rw[h.length] at e
 cases q:j1 vs.length i with
 |none=>rw[q] at e;cases e
 |some j=>rw[q] at e;exact h.get e
structure Step(G H G' H':Hp):Prop where
 g:aM G G'
 h:aM H H'
 e:aM G' H'
 c:∀a o,H a=some o->G a=none->G' a=none
theorem Step.refl(e:aM G H):Step G H G H:=⟨aM.refl _,aM.refl _,e,fun _ _ _ h=>h⟩
theorem Step.trans{G1 H1:Hp}(a:Step G H G1 H1)(b:Step G1 H1 G' H'):Step G H G' H':=
 ⟨a.g.trans b.g,a.h.trans b.h,b.e,fun x o p q=>b.c x o (a.h x o p) (a.c x o p q)⟩
theorem same_upd{p:Addr}{o:HO}(h:H p=none):aM H (aU H p o):=U8 h o
theorem Step.pub{p:Addr}{o:HO}(e:aM G H)(h:H p=none):Step G H (aU G p o) (aU H p o):=by
 refine⟨same_upd (e.free h),same_upd h,fun b u q=>?_,fun a u p1 q1=>?_⟩
 ·by_cases hb:b=p
  ·subst hb;rw[bV] at q ⊢;exact q
  ·rw[bF hb] at q ⊢;exact e b u q
 ·have hb:a≠p:=cU p1 h
  rw[bF hb];exact q1
theorem Step.hid{p:Addr}{o:HO}(e:aM G H)(h:H p=none):Step G H G (aU H p o):=
 ⟨aM.refl _,same_upd h,e.trans (same_upd h),fun _ _ _ q=>q⟩
theorem Step.heap(e:aM G H)(h:aM H H'):Step G H G H':=⟨aM.refl _,h,e.trans h,fun _ _ _ q=>q⟩
end
abbrev DSt:=List (Option D)
structure bZ(K:xFg)(mg:Str->Option Value)(Zd:DSt)(Z:St)(G H:Hp):Prop where
 ext:aM G H
 len:Zd.length=Z.length
 val:∀(i:Nat) (d:D),Zd[i]? = some (some d)->∃v,Z[i]? = some (some v)/\Rep K mg G d v
section
variable{K:xFg}{mg:Str->Option Value}{G G' H H':Hp}{Zd:DSt}{Z:St}
theorem bZ.step(o:bZ K mg Zd Z G H)(s:Step G H G' H'):bZ K mg Zd Z G' H':=
 ⟨s.e,o.len,fun i d q=>let⟨v,h1,h2⟩:=o.val i d q;⟨v,h1,h2.mono s.g⟩⟩
theorem bZ.set{i:Nat}{d:D}{v:V}(o:bZ K mg Zd Z G H)(h:Rep K mg G d v):bZ K mg (Zd.set i (some d)) (Z.set i (some v)) G H:=by
 refine⟨o.ext,by simp[o.len],fun j e q=>?_⟩
 by_cases hj:j=i
 ·subst hj
  have hl:j<Zd.length:=by have:=(xan.mp q).1;simpa using this
  rw[xa0 hl] at q
  cases q
  exact⟨v,by rw[xa0 (by rw[<- o.len];exact hl)],h⟩
 ·rw[xam (xbd hj)] at q ⊢
  exact o.val j e q
theorem bZ.cons{x:Option D}{y:Option V}(o:bZ K mg Zd Z G H)(h:∀d,x=some d->∃v,y=some v/\Rep K mg G d v):bZ K mg (x::Zd) (y::Z) G H:=by
 refine⟨o.ext,by simp[o.len],fun j e q=>?_⟩
 cases j with
 |zero=>
  have q':x=some e:=by simpa using q
  obtain⟨v,h1,h2⟩:=h e q'
  exact⟨v,by simp[h1],h2⟩
 |succ j=>exact o.val j e (by simpa using q)
theorem bZ.nones(o:bZ K mg Zd Z G H):∀k:Nat,bZ K mg (List.replicate k none++Zd) (List.replicate k none++Z) G H
 |0=>o
 |k+1=>(bZ.nones o k).cons (x:=none) (y:=none) (fun d e=>by cases e)
end
section
variable(K:xFg)(mg:Str->Option Value)(E:XK)
def aQ(Q:VK)(G H:Hp)(d:D):Prop:=∀v G' H',Step G H G' H'->Rep K mg G' d v->Q v H'
def kR(Q:Bool->Hp->Prop)(G H:Hp)(b:Bool):Prop:=∀G' H',Step G H G' H'->Q b H'
def qK(Q:List V->Hp->Prop)(G H:Hp)(ds:List D):Prop:=∀vs G' H',Step G H G' H'->Reps K mg G' ds vs->Q vs H'
def gF(Q:VK)(G H:Hp)(ds:List D):Prop:=∀a vs G' H',Step G H G' H'->H a=none->H' a=some (.lst vs)->G' a=none->Reps K mg G' ds vs->Q (.ref a) H'
def bH(G H:Hp)(e:D):Prop:=∀G' H' C dct,Step G H G' H'->ET K mg G' e C dct->E (.ref C) dct H'
def tE(f:DSt->R D):TE:=fun Z H Q=>∃G Zd,bZ K mg Zd Z G H/\RW (f Zd) (aQ K mg Q G H) (bH K mg E G H)
def tT(f:DSt->R Bool):TT:=fun Z H Q=>∃G Zd,bZ K mg Zd Z G H/\RW (f Zd) (kR Q G H) (bH K mg E G H)
def yG(f:DSt->R (List D)):TA:=fun Z H Q=>∃G Zd,bZ K mg Zd Z G H/\RW (f Zd) (qK K mg Q G H) (bH K mg E G H)
def qL(f:DSt->R (List D)):TE:=fun Z H Q=>∃G Zd,bZ K mg Zd Z G H/\RW (f Zd) (gF K mg Q G H) (bH K mg E G H)
end
def DE(X:Cx)(E:XK)(e:Expr)(f:DSt->R D):Prop:=PE X e (tE X.K X.mg E f)
def DT(X:Cx)(E:XK)(e:Expr)(f:DSt->R Bool):Prop:=PT X e (tT X.K X.mg E f)
def DW(X:Cx)(E:XK)(e:Expr)(f:DSt->R Bool):Prop:=PW X e (tT X.K X.mg E f)
def DA(X:Cx)(E:XK)(es:List Expr)(f:DSt->R (List D)):Prop:=PA X es (yG X.K X.mg E f)
def DF(X:Cx)(E:XK)(e:Expr)(f:DSt->R (List D)):Prop:=PE X e (qL X.K X.mg E f)
section
variable{X:Cx}{E:XK}{K:xFg}{mg:Str->Option Value}{G G1 H H1:Hp}
theorem PE.mono'{e:Expr}{t t':TE}(h:PE X e t)(m:∀Z H Q,t' Z H Q->t Z H Q):PE X e t':=fun pins s Z H Q I q=>h pins s Z H Q I (m Z H Q q)
theorem PT.mono'{e:Expr}{t t':TT}(h:PT X e t)(m:∀Z H Q,t' Z H Q->t Z H Q):PT X e t':=fun pins s Z H Q I q=>h pins s Z H Q I (m Z H Q q)
theorem PW.mono'{e:Expr}{t t':TT}(h:PW X e t)(m:∀Z H Q,t' Z H Q->t Z H Q):PW X e t':=fun wh pins s Z H Q I q=>h wh pins s Z H Q I (m Z H Q q)
theorem PA.mono'{es:List Expr}{t t':TA}(h:PA X es t)(m:∀Z H Q,t' Z H Q->t Z H Q):PA X es t':=fun pos pins s Z H Q I q=>h pos pins s Z H Q I (m Z H Q q)
theorem PS.mono'{st:Stmt}{t t':TS}(h:PS X st t)(m:∀D Z H,t' D Z H->t D Z H):PS X st t':=fun pins s Z H D I q=>h pins s Z H D I (m D Z H q)
theorem dP.mono'{st:List Stmt}{t t':TS}(h:dP X st t)(m:∀D Z H,t' D Z H->t D Z H):dP X st t':=fun pins s Z H D I q=>h pins s Z H D I (m D Z H q)
theorem aQ.step{Q:VK}{d:D}(h:aQ K mg Q G H d)(s:Step G H G1 H1):aQ K mg Q G1 H1 d:=fun v G' H' s' r=>h v G' H' (s.trans s') r
theorem bH.step{e:D}(h:bH K mg E G H e)(s:Step G H G1 H1):bH K mg E G1 H1 e:=fun G' H' C dct s' r=>h G' H' C dct (s.trans s') r
theorem kR.step{Q:Bool->Hp->Prop}{b:Bool}(h:kR Q G H b)(s:Step G H G1 H1):kR Q G1 H1 b:=fun G' H' s'=>h G' H' (s.trans s')
theorem gF.step{Q:VK}{ds:List D}(h:gF K mg Q G H ds)(s:Step G H G1 H1):gF K mg Q G1 H1 ds:=fun a vs G' H' s' n e g r=>h a vs G' H' (s.trans s') (s.h.free n) e g r
theorem aQ.now{Q:VK}{d:D}{v:V}(h:aQ K mg Q G H d)(e:aM G H)(r:Rep K mg G d v):Q v H:=h v G H (.refl e) r
theorem DF.de{e:Expr}{f:DSt->R (List D)}(h:DF X E e f):DE X E e (fun Z=>(f Z).bind fun ds=>.ok (.lst ds)):=by
 refine PE.mono' h fun Z H Q ⟨G,Zd,ok,q⟩=>⟨G,Zd,ok,q.of_bind.mono (fun ds _ q=>?_) fun _ z=>z⟩
 intro a vs G' H' s n e g r
 have q':aQ X.K X.mg Q G H (.lst ds):=q
 have sg:aM G' (aU G' a (.lst vs)):=same_upd g
 refine q' (.ref a) (aU G' a (.lst vs)) H' ⟨s.g.trans sg,s.h,fun b u p=>?_,fun b u p1 p2=>?_⟩ ⟨a,vs,rfl,bM.of bV,r.mono sg⟩
 ·by_cases hb:b=a
  ·subst hb;rw[bV] at p;cases p;exact e
  ·rw[bF hb] at p;exact s.e b u p
 ·have hb:b≠a:=cU p1 n
  rw[bF hb];exact s.c b u p1 p2
def aB(i:Nat):DSt->R D:=fun Z=>match Z[i]? with
 |some (some d)=>.ok d
 |_=>.bad
theorem eF(i:Nat){x:Str}{pos:Pos}(hN:X.N[i]? = some x:=by rfl)(hv:iS X.env.scope x:=by first|exact Or.inl rfl|exact Or.inr (Or.inl rfl)|exact Or.inr (Or.inr rfl))(hd:(x==("__debug__":Str))=false:=by decide)
  (hcd:(x==("__classdict__":Str))=false:=by decide):DE X E (.Name x pos) (aB i):=by
 refine PE.mono' (pv i hN hv hd hcd) fun Z H Q ⟨G,Zd,ok,q⟩=>?_
 unfold aB at q
 split at q
 ·rename_i d e
  obtain⟨v,h1,h2⟩:=ok.val i d e
  exact⟨v,h1,aQ.now q ok.ext h2⟩
 ·exact q.elim
def eC(d:D):DSt->R D:=fun _=>.ok d
theorem cV{i j pos}:DE X E (.Constant (.int i) j pos) (eC (.int i)):=PE.mono' xM fun _ _ _ ⟨_,_,ok,q⟩=>aQ.now q ok.ext rfl
theorem kS{b j pos}:DE X E (.Constant (.bool b) j pos) (eC (.bl b)):=PE.mono' QI fun _ _ _ ⟨_,_,ok,q⟩=>aQ.now q ok.ext rfl
theorem yH{j pos}:DE X E (.Constant .none j pos) (eC .non):=PE.mono' QJ fun _ _ _ ⟨_,_,ok,q⟩=>aQ.now q ok.ext rfl
theorem eV{x j pos}:DE X E (.Constant (.str x) j pos) (eC (.str x)):=PE.mono' QK fun _ _ _ ⟨_,_,ok,q⟩=>aQ.now q ok.ext rfl
theorem EU{x:Str}{d:D}{v:V}{u:Value}{pos:Pos}(hm:X.mg x=some u)(r:aZ v u)(rp:∀G,Rep X.K X.mg G d v)(hg:Gl X x:=by rfl)(hd:(x==("__debug__":Str))=false:=by decide):DE X E (.Name x pos) (eC d):=
 PE.mono' (QL hg hm r hd) fun _ _ _ ⟨_,_,ok,q⟩=>aQ.now q ok.ext (rp _)
theorem EV{x:Str}{C:Addr}{pos:Pos}(hm:X.mg x=some (.ref C))(hg:Gl X x:=by rfl)(hd:(x==("__debug__":Str))=false:=by decide):DE X E (.Name x pos) (eC (.cls x)):=
 EU hm (v:=.ref C) rfl (fun _=>⟨C,rfl,hm⟩) hg hd
theorem oV{x:Str}{n:String}{pos:Pos}(hm:X.mg x=none)(hv:bootBuiltins x=some (.type n):=by rfl)(hg:Gl X x:=by rfl)(hn:x≠"__name__":=by decide)(hd:(x==("__debug__":Str))=false:=by decide):DE X E (.Name x pos) (eC (.ty n)):=
 PE.mono' (QM hg hm hv (v:=.ty n) rfl hn hd) fun _ _ _ ⟨_,_,ok,q⟩=>aQ.now q ok.ext rfl
def fL(K:xFg)(mg:Str->Option Value)(r:R2)(g:D->D->R D):Prop:=
 ∀(G H:Hp) (a b:D) (x y:V) (Q:VK),aM G H->Rep K mg G a x->Rep K mg G b y->RW (g a b) (aQ K mg Q G H) (fun _=>False)->r x y H Q
def aC(g:D->D->R D)(fa fb:DSt->R D):DSt->R D:=fun Z=>(fa Z).bind fun x=>(fb Z).bind fun y=>g x y
theorem gG{f:DSt->R D}{α:Type}{k:D->R α}{Z:St}{H:Hp}{Q:VK}{P:Hp->Hp->α->Prop}{G:Hp}{Zd:DSt}
  (ok:bZ K mg Zd Z G H) (q:RW ((f Zd).bind k) (P G H) (bH K mg E G H))
  (h:∀d v G' H',Step G H G' H'->bZ K mg Zd Z G' H'->Rep K mg G' d v->RW (k d) (P G H) (bH K mg E G' H')->Q v H'):tE K mg E f Z H Q:=
 ⟨G,Zd,ok,q.of_bind.mono (fun d _ q v G' H' s r=>h d v G' H' s (ok.step s) r (q.mono (fun _ _ z=>z) fun e z=>z.step s)) fun _ z=>z⟩
theorem yI{α:Type}{r:R α}{Q:α->Prop}{E':D->Prop}(hr:∀e,r≠.err e)(h:RW r Q E'):RW r Q (fun _=>False):=by
 cases r with
 |ok a=>exact h
 |err e=>exact xat rfl (hr e)
 |bad=>exact h
def fM(g:D->D->R D):Prop:=∀a b e,g a b≠.err e
theorem qM{r:R2}{g:D->D->R D}(hd:fL X.K X.mg r g)(hn:fM g){fa fb:DSt->R D}{Z:St}{H:Hp}{Q:VK}(h:tE X.K X.mg E (aC g fa fb) Z H Q):oQ r (tE X.K X.mg E fa) (tE X.K X.mg E fb) Z H Q:=by
 obtain⟨G,Zd,ok,q⟩:=h
 refine gG (P:=aQ X.K X.mg Q) ok q fun a x G1 H1 s1 ok1 r1 q1=>?_
 refine gG (P:=fun _ _=>aQ X.K X.mg Q G H) ok1 q1 fun b y G2 H2 s2 ok2 r2 q2=>?_
 exact hd G2 H2 a b x y Q ok2.ext (r1.mono s2.g) r2 (yI (hn a b) (q2.mono (fun _ _ z=>z.step (s1.trans s2)) fun _ z=>z))
variable{a b c:Expr}{fa fb fc:DSt->R D}{pos:Pos}
theorem kT{op:Operator}{r:R2}{g:D->D->R D}(ho:bP X (binaryOp op) r)(hd:fL X.K X.mg r g)(hn:fM g)(ha:DE X E a fa)(hb:DE X E b fb):DE X E (.BinOp a op b pos) (aC g fa fb):=
 PE.mono' (xO ho ha hb) fun _ _ _ h=>qM hd hn h
theorem V8{op:CmpOp}{r:R2}{g:D->D->R D}(ho:bP X (compareOp op) r)(hd:fL X.K X.mg r g)(hn:fM g)(ha:DE X E a fa)(hb:DE X E b fb)(hm:behindInMarks op b=false:=by first|exact dH _ (by decide) (by decide)|rfl):DE X E (.Compare a [op] [b] pos) (aC g fa fb):=
 PE.mono' (SJ ho ha hb hm) fun _ _ _ h=>qM hd hn h
def fG:D->R Bool
 |.bl b=>.ok b
 |_=>.bad
def aK(f:DSt->R D):DSt->R Bool:=fun Z=>(f Z).bind fG
theorem yJ{t:TE}{f:DSt->R D}(h:∀Z H Q,tE X.K X.mg E f Z H Q->t Z H Q){Z:St}{H:Hp}{Q:Bool->Hp->Prop}(q:tT X.K X.mg E (aK f) Z H Q):xP t Z H Q:=by
 obtain⟨G,Zd,ok,q⟩:=q
 refine h Z H _ ⟨G,Zd,ok,q.of_bind.mono (fun d _ q v G' H' s r=>?_) fun _ z=>z⟩
 cases d with
 |bl k=>cases r;exact⟨k,rfl,(show kR Q G H k from q) G' H' s⟩
 |_=>exact(show False from q).elim
theorem V9{op:CmpOp}{r:R2}{g:D->D->R D}(ho:bP X (compareOp op) r)(hd:fL X.K X.mg r g)(hn:fM g)(ha:DE X E a fa)(hb:DE X E b fb)(hm:behindInMarks op b=false:=by first|exact dH _ (by decide) (by decide)|rfl):DT X E (.Compare a [op] [b] pos) (aK (aC g fa fb)):=
 PT.mono' (CU ho ha hb hm) fun _ _ _ q=>yJ (fun _ _ _ h=>qM hd hn h) q
def qN(g g':D->D->R D)(fa fb fc:DSt->R D):DSt->R D:=fun Z=>(fa Z).bind fun x=>(fb Z).bind fun y=>(g x y).bind fun z=>(fG z).bind fun k=>bif k then (fc Z).bind fun w=>g' y w else .ok (.bl false)
theorem WA{r r':R2}{g g':D->D->R D}(hd:fL X.K X.mg r g)(hn:fM g)(hd':fL X.K X.mg r' g')(hn':fM g'){Z:St}{H:Hp}{Q:VK}(h:tE X.K X.mg E (qN g g' fa fb fc) Z H Q) :
  CV r r' (tE X.K X.mg E fa) (tE X.K X.mg E fb) (tE X.K X.mg E fc) Z H Q:=by
 obtain⟨G,Zd,ok,q⟩:=h
 refine gG (P:=aQ X.K X.mg Q) ok q fun a x G1 H1 s1 ok1 r1 q1=>?_
 refine gG (P:=fun _ _=>aQ X.K X.mg Q G H) ok1 q1 fun b y G2 H2 s2 ok2 r2 q2=>?_
 refine hd G2 H2 a b x y _ ok2.ext (r1.mono s2.g) r2 ?_
 have s12:=s1.trans s2
 cases ez:g a b with
 |bad=>rw[ez] at q2;exact q2.elim
 |err e=>exact xat ez (hn a b e)
 |ok z=>
  rw[ez] at q2
  intro v G3 H3 s3 r3
  cases z with
  |bl k=>
   cases r3
   have ok3:=ok2.step s3
   have s13:=s12.trans s3
   refine⟨k,rfl,?_⟩
   cases k with
   |false=>
    rw[xaz xa7]
    have q3:aQ X.K X.mg Q G H (.bl false):=q2
    exact q3 _ G3 H3 s13 rfl
   |true=>
    rw[xa5 rfl]
    have q3:RW ((fc Zd).bind fun w=>g' b w) (aQ X.K X.mg Q G H) (bH X.K X.mg E G2 H2):=q2
    refine gG (k:=fun w=>g' b w) (P:=fun _ _=>aQ X.K X.mg Q G H) ok3 (q3.mono (fun _ _ z=>z) fun _ z=>z.step s3) fun c w G4 H4 s4 ok4 r4 q4=>?_
    exact hd' G4 H4 b c y w Q ok4.ext (r2.mono (s3.g.trans s4.g)) r4 (yI (hn' b c) (q4.mono (fun _ _ z=>z.step (s13.trans s4)) fun _ z=>z))
  |_=>exact(show False from q2).elim
theorem WB{op op':CmpOp}{r r':R2}{g g':D->D->R D}(ho:bP X (compareOp op) r)(hd:fL X.K X.mg r g)(hn:fM g)(ho':bP X (compareOp op') r')(hd':fL X.K X.mg r' g')(hn':fM g')(ha:DE X E a fa)(hb:DE X E b fb)(hc:DE X E c fc)
  (hm:lastMarks [op,op'] [b,c]=false:=by with_unfolding_all rfl):DT X E (.Compare a [op,op'] [b,c] pos) (aK (qN g g' fa fb fc)):=
 PT.mono' (SK ho ho' ha hb hc hm) fun _ _ _ q=>yJ (fun _ _ _ h=>WA hd hn hd' hn' h) q
theorem fY{e:Expr}{f:DSt->R D}(h:DE X E e f)(he:∀whole,isTrue e X.env whole=(do let v<-whole;standAt e.pos;holding [v] (truthy v)):=by intro _;rfl):DT X E e (aK f):=
 PT.mono' (QS h he) fun Z H Q q=>yJ (t:=tE X.K X.mg E f) (fun _ _ _ h=>h) q
theorem DW.dt{e:Expr}{f:DSt->R Bool}(h:DW X E e f):DT X E e f:=h _
variable{rest:List Expr}{ga gb:DSt->R Bool}
def gH(fa fb:DSt->R Bool):DSt->R Bool:=fun Z=>(fa Z).bind fun k=>bif k then fb Z else .ok false
def dY(fa fb:DSt->R Bool):DSt->R Bool:=fun Z=>(fa Z).bind fun k=>bif k then .ok true else fb Z
def dI(fa:DSt->R Bool):DSt->R Bool:=fun Z=>(fa Z).bind fun k=>.ok (!k)
theorem yK{f:DSt->R Bool}{α:Type}{k:Bool->R α}{Z:St}{H:Hp}{Q:Bool->Hp->Prop}{P:α->Prop}{G:Hp}{Zd:DSt}
  (ok:bZ K mg Zd Z G H) (q:RW ((f Zd).bind k) P (bH K mg E G H))
  (h:∀b G' H',Step G H G' H'->bZ K mg Zd Z G' H'->RW (k b) P (bH K mg E G' H')->Q b H'):tT K mg E f Z H Q:=
 ⟨G,Zd,ok,q.of_bind.mono (fun d _ q G' H' s=>h d G' H' s (ok.step s) (q.mono (fun _ _ z=>z) fun e z=>z.step s)) fun _ z=>z⟩
theorem qO(ha:DT X E a ga):DW X E (.BoolOp .And [a] pos) ga:=QW ha
theorem nF(ha:DT X E a ga):DW X E (.BoolOp .Or [a] pos) ga:=QX ha
theorem nG(ha:DT X E a ga)(hb:DW X E (.BoolOp .And (b::rest) pos) gb):DW X E (.BoolOp .And (a::b::rest) pos) (gH ga gb):=by
 refine PW.mono' (QY ha hb) fun Z H Q ⟨G,Zd,ok,q⟩=>?_
 refine yK ok q fun k G' H' s ok' q'=>?_
 cases k with
 |true=>rw[xa5 rfl];exact⟨G',Zd,ok',q'.mono (fun _ _ z=>z.step s) fun _ z=>z⟩
 |false=>rw[xaz xa7];exact(show kR Q G H false from q') G' H' s
theorem iW(ha:DT X E a ga)(hb:DW X E (.BoolOp .Or (b::rest) pos) gb):DW X E (.BoolOp .Or (a::b::rest) pos) (dY ga gb):=by
 refine PW.mono' (QZ ha hb) fun Z H Q ⟨G,Zd,ok,q⟩=>?_
 refine yK ok q fun k G' H' s ok' q'=>?_
 cases k with
 |true=>rw[xa5 rfl];exact(show kR Q G H true from q') G' H' s
 |false=>rw[xaz xa7];exact⟨G',Zd,ok',q'.mono (fun _ _ z=>z.step s) fun _ z=>z⟩
theorem fN(ha:DT X E a ga):DT X E (.UnaryOp .Not a pos) (dI ga):=by
 refine PT.mono' (Q0 ha) fun Z H Q ⟨G,Zd,ok,q⟩=>?_
 exact yK ok q fun k G' H' s _ q'=>(show kR Q G H (!k) from q') G' H' s
def lP(fa fb:DSt->R D):DSt->R D:=fun Z=>(fa Z).bind fun x=>(fG x).bind fun k=>bif k then fb Z else .ok (.bl false)
def vOr(fa fb:DSt->R D):DSt->R D:=fun Z=>(fa Z).bind fun x=>(fG x).bind fun k=>bif k then .ok (.bl true) else fb Z
def WD(fa:DSt->R D):DSt->R D:=fun Z=>(fa Z).bind fun x=>(fG x).bind fun k=>.ok (.bl !k)
theorem yL{op}{f:DSt->R D}(h:DE X E a f):DE X E (.BoolOp op [a] pos) f:=Q2 h
theorem qP(ha:DE X E a fa)(hb:DE X E (.BoolOp .And (b::rest) pos) fb):DE X E (.BoolOp .And (a::b::rest) pos) (lP fa fb):=by
 refine PE.mono' (Q3 ha hb) fun Z H Q ⟨G,Zd,ok,q⟩=>?_
 refine gG (P:=aQ X.K X.mg Q) ok q fun d v G' H' s ok' r q'=>?_
 cases d with
 |bl k=>
  cases r
  refine⟨k,rfl,?_⟩
  cases k with
  |true=>rw[xa5 rfl];exact⟨G',Zd,ok',q'.mono (fun _ _ z=>z.step s) fun _ z=>z⟩
  |false=>rw[xaz xa7];exact(show aQ X.K X.mg Q G H (.bl false) from q') _ G' H' s rfl
 |_=>exact(show False from q').elim
def eIf(c:DSt->R Bool)(fa fb:DSt->R D):DSt->R D:=fun Z=>(c Z).bind fun k=>bif k then fa Z else fb Z
def UnD(K:xFg)(mg:Str->Option Value)(r:V->Hp->VK->Prop)(g:D->R D):Prop:=
 ∀(G H:Hp) (a:D) (x:V) (Q:VK),aM G H->Rep K mg G a x->RW (g a) (aQ K mg Q G H) (fun _=>False)->r x H Q
def gJ(g:D->R D)(fa:DSt->R D):DSt->R D:=fun Z=>(fa Z).bind g
theorem WG{op:UnaryOp}{r:V->Hp->VK->Prop}{g:D->R D}(ho:tZ X (unaryOp op) r)(hd:UnD X.K X.mg r g)(hn:∀a e,g a≠.err e)(ha:DE X E a fa):DE X E (.UnaryOp op a pos) (gJ g fa):=by
 refine PE.mono' (R3 ho ha) fun Z H Q ⟨G,Zd,ok,q⟩=>?_
 refine gG (P:=aQ X.K X.mg Q) ok q fun d v G' H' s ok' r q'=>?_
 exact hd G' H' d v Q ok'.ext r (yI (hn d) (q'.mono (fun _ _ z=>z.step s) fun _ z=>z))
def aD:DSt->R (List D):=fun _=>.ok []
def aA(fa:DSt->R D)(fs:DSt->R (List D)):DSt->R (List D):=fun Z=>(fa Z).bind fun x=>(fs Z).bind fun xs=>.ok (x::xs)
variable{es:List Expr}{fs:DSt->R (List D)}
theorem bJ:DA X E [] aD:=PA.mono' lK fun Z H Q ⟨G,Zd,ok,q⟩=>(show qK X.K X.mg Q G H [] from q) [] G H (.refl ok.ext) Reps.nil
theorem bB(ha:DE X E a fa)(hr:DA X E es fs)(hs:starEach (a::es) X.env=(false,eval a X.env)::starEach es X.env:=by rfl):DA X E (a::es) (aA fa fs):=by
 refine PA.mono' (lL ha hr hs) fun Z H Q ⟨G,Zd,ok,q⟩=>?_
 refine gG (P:=qK X.K X.mg Q) ok q fun d v G' H' s ok' r q'=>?_
 refine⟨G',Zd,ok',q'.of_bind.mono (fun ds _ z vs G2 H2 s2 r2=>?_) fun _ z=>z⟩
 exact(show qK X.K X.mg Q G H (d::ds) from z) _ G2 H2 (s.trans s2) (Reps.cons (r.mono s2.g) r2)
def j4(n:Nat):Bool:=decide (n<=1000)
theorem yM{n:Nat}(h:j4 n=true):n<=sizeLine:=U9 (xas h)
def bQ(fs:DSt->R (List D)):DSt->R D:=fun Z=>(fs Z).bind fun ds=>bif j4 ds.length then .ok (.tup ds) else .bad
theorem EW{α:Type}{k:List D->R α}{Z:St}{H:Hp}{Q:List V->Hp->Prop}{P:α->Prop}{G:Hp}{Zd:DSt}
  (ok:bZ K mg Zd Z G H) (q:RW ((fs Zd).bind k) P (bH K mg E G H))
  (h:∀ds vs G' H',Step G H G' H'->bZ K mg Zd Z G' H'->Reps K mg G' ds vs->RW (k ds) P (bH K mg E G' H')->Q vs H'):yG K mg E fs Z H Q:=
 ⟨G,Zd,ok,q.of_bind.mono (fun ds _ q vs G' H' s r=>h ds vs G' H' s (ok.step s) r (q.mono (fun _ _ z=>z) fun e z=>z.step s)) fun _ z=>z⟩
theorem jK{x1}(h:DA X E es fs):DE X E (.Tuple es x1 pos) (bQ fs):=by
 refine PE.mono' (TJ h) fun Z H Q ⟨G,Zd,ok,q⟩=>?_
 refine EW (P:=aQ X.K X.mg Q G H) ok q fun ds vs G' H' s ok' r q'=>?_
 cases hf:j4 ds.length with
 |false=>rw[hf] at q';exact(show False from q').elim
 |true=>
  rw[hf] at q'
  have q2:aQ X.K X.mg Q G H (.tup ds):=q'
  refine⟨by rw[<- r.length];exact yM hf,fun p hp=>?_⟩
  have s2:Step G' H' (aU G' p (.tup vs)) (aU H' p (.tup vs)):=.pub ok'.ext hp
  exact q2 _ _ _ (s.trans s2) ⟨p,vs,rfl,cB.of bV,r.mono s2.g⟩
def aP(fs:DSt->R (List D)):DSt->R (List D):=fun Z=>(fs Z).bind fun ds=>bif j4 ds.length then .ok ds else .bad
theorem qQ(h:DA X E es fs):DF X E (.List es pos) (aP fs):=by
 refine PE.mono' (xT h) fun Z H Q ⟨G,Zd,ok,q⟩=>?_
 refine EW (P:=gF X.K X.mg Q G H) ok q fun ds vs G' H' s ok' r q'=>?_
 cases hf:j4 ds.length with
 |false=>rw[hf] at q';exact(show False from q').elim
 |true=>
  rw[hf] at q'
  have q2:gF X.K X.mg Q G H ds:=q'
  refine⟨by rw[<- r.length];exact yM hf,fun p hp=>?_⟩
  exact q2 p vs G' _ (s.trans (.hid ok'.ext hp)) (s.h.free hp) bV (ok'.ext.free hp) r
def aF:D->D->R D
 |.tup xs,.int i=>match eU xs i with
  |some d=>.ok d
  |none=>.bad
 |.lst xs,.int i=>match eU xs i with
  |some d=>.ok d
  |none=>.bad
 |_,_=>.bad
theorem WH:fM aF:=by
 intro a b e h
 cases a<;>cases b<;>simp only[aF] at h<;>first|exact xat h (by simp)|(split at h<;>cases h)
theorem WI:fL K mg (fun x y H Q=>DU K x y H Q\/DV K x y H Q) aF:=by
 intro G H a b x y Q e ra rb q
 cases b with
 |int i=>
  cases rb
  cases a with
  |lst xs=>
   obtain⟨p,vs,rfl,h1,h2⟩:=ra
   cases ed:eU xs i with
   |none=>simp only[aF,ed] at q;exact q.elim
   |some d=>
    simp only[aF,ed] at q
    obtain⟨v,h3,h4⟩:=h2.at ed
    exact .inl ⟨p,vs,i,v,rfl,rfl,e.seq h1,h3,aQ.now q e h4⟩
  |tup xs=>
   obtain⟨p,vs,rfl,h1,h2⟩:=ra
   cases ed:eU xs i with
   |none=>simp only[aF,ed] at q;exact q.elim
   |some d=>
    simp only[aF,ed] at q
    obtain⟨v,h3,h4⟩:=h2.at ed
    exact .inr ⟨p,vs,i,v,rfl,rfl,aM.sqT e h1,h3,aQ.now q e h4⟩
  |_=>exact(show False from q).elim
 |_=>cases a<;>exact(show False from q).elim
theorem qR(ha:DE X E a fa)(hb:DE X E b fb)(hs:DP b:=by intro _ _;rfl):DE X E (.Subscript a b pos) (aC aF fa fb):=
 PE.mono' (DQ (DX.or UB) ha hb hs) fun _ _ _ h=>qM WI WH h
end
def nH(K:xFg)(mg:Str->Option Value)(m:List D->R D):Sp:=fun vs H Q E=>∃G ds,aM G H/\Reps K mg G ds vs/\RW (m ds) (aQ K mg Q G H) (bH K mg E G H)
structure aT(P:Program)(w:World)(K:xFg)(mg:Str->Option Value)(base:Heap)(k:Nat)(x:Str)(m:List D->R D):Prop where
 ex:∃(f:Addr) (fd:FuncData) (ps:List Str),cN P w K mg base (bW P w) k f fd ps (nH K mg m)/\mg x=some (.ref f)/\PySem.W.keepIn K (.ref f)=true/\eS K fd ps []
theorem aT.mono{P:Program}{w:World}{K:xFg}{mg:Str->Option Value}{base:Heap}{j k:Nat}{x:Str}{m:List D->R D}(F:aT P w K mg base j x m)(h:j<=k):aT P w K mg base k x m:=by
 obtain⟨f,fd,ps,h1,h2⟩:=F.ex
 exact⟨f,fd,ps,h1.mono h,h2⟩
structure XC(X:Cx)(E:XK)(k:Nat):Prop where
 calm:X.calm=true
 room:cQ k X.A
 pass:kO (bW X.prog X.w) X E
def aR(m:List D->R D)(fs:DSt->R (List D)):DSt->R D:=fun Z=>(fs Z).bind m
def iC(K:xFg)(mg:Str->Option Value)(r:List V->Hp->VK->Prop)(g:List D->R D):Prop:=
 ∀(G H:Hp) (ds:List D) (vs:List V) (Q:VK),aM G H->Reps K mg G ds vs->RW (g ds) (aQ K mg Q G H) (fun _=>False)->r vs H Q
def R.noerr{α:Type}:R α->R α
 |.ok a=>.ok a
 |_=>.bad
def aJ(g:List D->R D)(fs:DSt->R (List D)):DSt->R D:=fun Z=>(fs Z).bind fun ds=>(g ds).noerr
theorem lQ{α:Type}{r:R α}{Q:α->Prop}{E':D->Prop}(h:RW r.noerr Q E'):∃a,r=.ok a/\Q a:=by
 cases r with
 |ok a=>exact⟨a,rfl,h⟩
 |err e=>exact(show False from h).elim
 |bad=>exact(show False from h).elim
section
variable{X:Cx}{E:XK}{k:Nat}{x:Str}{m:List D->R D}{p pos:Pos}{e:Expr}{es:List Expr}{fs:DSt->R (List D)}
theorem fO(C:XC X E k)(F:aT X.prog X.w X.K X.mg X.base k x m)(ha:DA X E (e::es) fs)(hg:Gl X x:=by rfl)(hdb:(x==("__debug__":Str))=false:=by decide)
  (he:starEach (e::es) X.env=(false,eval e X.env)::starEach es X.env:=by rfl) (hpl:(backTo pos (starEach es X.env)).any (·.1)=false:=by rfl):DE X E (.Call (.Name x p) (e::es) [] pos) (aR m fs):=by
 obtain⟨f,fd,ps,h1,h2,h3,h4⟩:=F.ex
 refine PE.mono' (C6 h1 C.room hg h2 h3 h4 .nil C.pass ha hdb he hpl) fun Z H Q ⟨G,Zd,ok,q⟩=>?_
 refine⟨G,Zd,ok,q.of_bind.mono (fun ds hds z vs G' H' s r=>?_) fun _ z=>z⟩
 show nH X.K X.mg m (vs++[]) H' Q E
 rw[xa8]
 exact⟨G',ds,s.e,r,z.mono (fun _ _ z=>z.step s) fun _ z=>z.step s⟩
theorem uG(C:XC X E k)(F:aT X.prog X.w X.K X.mg X.base k x m)(hg:Gl X x:=by rfl)(hdb:(x==("__debug__":Str))=false:=by decide):DE X E (.Call (.Name x p) [] [] pos) (aR m aD):=by
 obtain⟨f,fd,ps,h1,h2,h3,h4⟩:=F.ex
 refine PE.mono' (TM h1 C.room hg h2 h3 h4 .nil C.pass hdb) fun Z H Q ⟨G,Zd,ok,q⟩=>?_
 exact⟨G,[],ok.ext,Reps.nil,q⟩
theorem qS{id:String}{r:List V->Hp->VK->Prop}{g:List D->R D}(hc:dW X (.builtin id) r)(hd:iC X.K X.mg r g)(hm:X.mg x=none)(hv:bootBuiltins x=some (.builtin id))(ha:DA X E (e::es) fs)(hg:Gl X x:=by rfl)(hn:x≠"__name__":=by decide)(hdb:(x==("__debug__":Str))=false:=by decide)
  (he:starEach (e::es) X.env=(false,eval e X.env)::starEach es X.env:=by rfl) (hpl:(backTo pos (starEach es X.env)).any (·.1)=false:=by rfl):DE X E (.Call (.Name x p) (e::es) [] pos) (aJ g fs):=by
 refine PE.mono' (xW hc hg hm hv ha hn hdb he hpl) fun Z H Q ⟨G,Zd,ok,q⟩=>?_
 refine⟨G,Zd,ok,q.of_bind.mono (fun ds _ z vs G' H' s r=>?_) fun _ z=>z⟩
 obtain⟨d,e1,z⟩:=lQ z
 exact hd G' H' ds vs Q s.e r (by rw[e1];exact z.step s)
theorem uH{T:String}{r:List V->Hp->VK->Prop}{g:List D->R D}(hc:dW X (.type T) r)(hd:iC X.K X.mg r g)(hm:X.mg x=none)(ha:DA X E (e::es) fs)(hv:bootBuiltins x=some (.type T):=by rfl)(hg:Gl X x:=by rfl)(hn:x≠"__name__":=by decide)(hdb:(x==("__debug__":Str))=false:=by decide)
  (he:starEach (e::es) X.env=(false,eval e X.env)::starEach es X.env:=by rfl) (hpl:(backTo pos (starEach es X.env)).any (·.1)=false:=by rfl):DE X E (.Call (.Name x p) (e::es) [] pos) (aJ g fs):=by
 refine PE.mono' (xX hc hg hm hv ha hn hdb he hpl) fun Z H Q ⟨G,Zd,ok,q⟩=>?_
 refine⟨G,Zd,ok,q.of_bind.mono (fun ds _ z vs G' H' s r=>?_) fun _ z=>z⟩
 obtain⟨d,e1,z⟩:=lQ z
 exact hd G' H' ds vs Q s.e r (by rw[e1];exact z.step s)
end
def setAll{α:Type}:List (Option α)->List Nat->List α->List (Option α)
 |Z,k::ks,v::vs=>setAll (Z.set k (some v)) ks vs
 |Z,_,_=>Z
theorem EY{α:Type}:∀(ks:List Nat) (Z:List (Option α)) (vs:List α),(setAll Z ks vs).length=Z.length
 |[],_,_=>by unfold setAll;rfl
 |_::_,_,[]=>by unfold setAll;rfl
 |_::ks,Z,_::vs=>by unfold setAll;rw[EY ks];simp
theorem EZ{α:Type}{j:Nat}:∀(ks:List Nat) (Z:List (Option α)) (vs:List α),j∉ks->(setAll Z ks vs)[j]? = Z[j]?
 |[],_,_,_=>by unfold setAll;rfl
 |_::_,_,[],_=>by unfold setAll;rfl
 |k::ks,Z,_::vs,h=>by
  unfold setAll
  rw[EZ ks _ vs fun z=>h (xae _ z),xam (fun z=>h (by rw[<- z];exact xaq))]
def tG(K:xFg)(mg:Str->Option Value)(ks:List Nat)(gp:D->R (List D)):TG:=fun v Z H Q=>∃G d,aM G H/\Rep K mg G d v/\RW (gp d) (fun us=>∀ws,Reps K mg G us ws->Q (setAll Z ks ws) H) (fun _=>False)
def DG(X:Cx)(tg:Expr)(ks:List Nat)(gp:D->R (List D)):Prop:=PG X tg (tG X.K X.mg ks gp)
def bX:D->R (List D):=fun d=>.ok [d]
def eG(n:Nat):D->R (List D)
 |.tup ds=>bif ds.length==n then .ok ds else .bad
 |.lst ds=>bif ds.length==n then .ok ds else .bad
 |_=>.bad
section
variable{X:Cx}{pos:Pos}
theorem PG.mono'{tg:Expr}{t t':TG}(h:PG X tg t)(m:∀v Z H Q,t' v Z H Q->t v Z H Q):PG X tg t':=fun pins s Z H v u Q I r q=>h pins s Z H v u Q I r (m v Z H Q q)
theorem PG.or{tg:Expr}{t t':TG}(h:PG X tg t)(h':PG X tg t'):PG X tg (fun v Z H Q=>t v Z H Q\/t' v Z H Q):=fun pins s Z H v u Q I r q=>by
 rcases q with q|q
 ·exact h pins s Z H v u Q I r q
 ·exact h' pins s Z H v u Q I r q
theorem E1(i:Nat){x:Str}(hN:X.N.Nodup)(hi:X.N[i]? = some x:=by rfl)(hx:iT X.env.scope x:=by first|exact Or.inl rfl|exact Or.inr rfl)(hf:X.fn x=true\/X.env.scope.names.lookup x=some .local:=by first|exact .inl rfl|exact .inr rfl|assumption):DG X (.Name x pos) [i] bX:=
 PG.mono' (CM hN hi hx hf) fun v Z H Q ⟨G,d,e,r,q⟩=>by
  have q':=(show ∀ws,Reps X.K X.mg G [d] ws->Q (setAll Z [i] ws) H from q) [v] (Reps.cons r Reps.nil)
  exact q'
def yN:List Nat->j0
 |[]=>CN
 |i::r=>CO (lH i) (yN r)
theorem yO:∀(ks:List Nat) (vs:List V) (Z:St) (H:Hp) (Q:St->Hp->Prop),vs.length=ks.length->Q (setAll Z ks vs) H->yN ks vs Z H Q
 |[],[],_,_,_,_,q=>⟨rfl,q⟩
 |i::r,v::vs,Z,H,Q,hl,q=>⟨v,vs,rfl,yO r vs _ H Q (by simpa using hl) q⟩
theorem WJ{es:List Expr}{k:Nat}(ks:List Nat)(n:Nat)(hc:X.calm=true)(h:oM X es (yN ks))(hk:ks.length=n:=by rfl)
  (hn:(assignEach es X.env).length=n:=by rfl) (hst:(assignEach es X.env).findIdx? (·.1)=none:=by rfl):DG X (.Tuple es k pos) ks (eG n):=by
 refine PG.mono' (PG.or (RH hc h hn hst) (U7 hc h hn hst)) fun v Z H Q ⟨G,d,e,r,q⟩=>?_
 cases d with
 |tup ds=>
  obtain⟨a,vs,rfl,h1,h2⟩:=r
  by_cases hd:ds.length=n
  ·have q':∀ws,Reps X.K X.mg G ds ws->Q (setAll Z ks ws) H:=by
    simp only[eG,hd,beq_self_eq_true,cond_true] at q;exact q
   exact .inl ⟨a,vs,rfl,aM.sqT e h1,by rw[<- h2.length];exact hd,yO ks vs Z H Q (by rw[<- h2.length,hd,hk]) (q' vs h2)⟩
  ·have:(ds.length==n)=false:=by simpa using hd
   simp only[eG,this,cond_false] at q;exact q.elim
 |lst ds=>
  obtain⟨a,vs,rfl,h1,h2⟩:=r
  by_cases hd:ds.length=n
  ·have q':∀ws,Reps X.K X.mg G ds ws->Q (setAll Z ks ws) H:=by
    simp only[eG,hd,beq_self_eq_true,cond_true] at q;exact q
   exact .inr ⟨a,vs,rfl,e.seq h1,by rw[<- h2.length];exact hd,yO ks vs Z H Q (by rw[<- h2.length,hd,hk]) (q' vs h2)⟩
  ·have:(ds.length==n)=false:=by simpa using hd
   simp only[eG,this,cond_false] at q;exact q.elim
 |_=>exact(show False from q).elim
end
theorem bZ.setAll{K:xFg}{mg:Str->Option Value}{G H:Hp}:∀{ks:List Nat} {us:List D} {ws:List V} {Zd:DSt} {Z:St},bZ K mg Zd Z G H->Reps K mg G us ws->bZ K mg (setAll Zd ks us) (setAll Z ks ws) G H
 |[],_,_,_,_,o,_=>by unfold DL.setAll;exact o
 |_::_,[],_,_,_,o,h=>by cases h;unfold DL.setAll;exact o
 |k::ks,_::_,_,_,_,o,⟨v,r,h1,h2,h3⟩=>by subst h1;unfold DL.setAll;exact bZ.setAll (o.set h2) h3
structure iD(K:xFg)(mg:Str->Option Value)(J:It)(G:Hp)(ds:List D):Prop where
 stop:∀H,aM G H->J.stop ds.length H
 turn:∀(H:Hp) (i:Nat) (d:D),aM G H->ds[i]? = some d->J.go i H/\∀x H',J.yld i H x H'->∀G1,aM G G1->aM G1 H->∃G2,Step G1 H G2 H'/\Rep K mg G2 d x
def tI(K:xFg)(mg:Str->Option Value)(E:XK)(f:DSt->R (List D)):TI:=fun Z H R=>∃G Zd,bZ K mg Zd Z G H/\RW (f Zd) (fun ds=>∀J G' H',Step G H G' H'->iD K mg J G' ds->R J H') (bH K mg E G H)
def DI(X:Cx)(E:XK)(tg iter:Expr)(f:DSt->R (List D)):Prop:=PI X tg iter (tI X.K X.mg E f)
section
variable{X:Cx}{E:XK}{tg:Expr}
theorem PI.mono'{iter:Expr}{t t':TI}(h:PI X tg iter t)(m:∀Z H R,t' Z H R->t Z H R):PI X tg iter t':=fun pins s Z H R I q=>h pins s Z H R I (m Z H R q)
theorem iD.list{K:xFg}{mg:Str->Option Value}{G:Hp}{a:Addr}{vs:List V}{ds:List D}(h:bM K G a vs)(r:Reps K mg G ds vs):iD K mg (oO K a) G ds:=by
 refine⟨fun H e=>by rw[r.length];exact(lgo (e.seq h)).1,fun H i d e hd=>?_⟩
 have hi:i<vs.length:=by rw[<- r.length];exact(xan.mp hd).1
 obtain⟨g1,g2⟩:=(lgo (e.seq h)).2 i hi
 refine⟨g1,fun x H' y G1 e1 e2=>?_⟩
 obtain⟨rfl,hx⟩:=g2 x H' y
 obtain⟨v,h1,h2⟩:=r.get hd
 rw[hx] at h1;cases h1
 exact⟨G1,.refl e2,h2.mono e1⟩
theorem iD.tup{K:xFg}{mg:Str->Option Value}{G:Hp}{a:Addr}{vs:List V}{ds:List D}(h:cB K G a vs)(r:Reps K mg G ds vs):iD K mg (oP K a) G ds:=by
 refine⟨fun H e=>by rw[r.length];exact(tgo (aM.sqT e h)).1,fun H i d e hd=>?_⟩
 have hi:i<vs.length:=by rw[<- r.length];exact(xan.mp hd).1
 obtain⟨g1,g2⟩:=(tgo (aM.sqT e h)).2 i hi
 refine⟨g1,fun x H' y G1 e1 e2=>?_⟩
 obtain⟨rfl,hx⟩:=g2 x H' y
 obtain⟨v,h1,h2⟩:=r.get hd
 rw[hx] at h1;cases h1
 exact⟨G1,.refl e2,h2.mono e1⟩
def cH(lo:Int)(n:Nat):List D:=(List.range n).map fun (i:Nat)=>D.int (lo+(i:Int))
theorem iD.rng{K:xFg}{mg:Str->Option Value}{G:Hp}(lo:Int)(n:Nat):iD K mg (qC lo n) G (cH lo n):=by
 have hl:(cH lo n).length=n:=by simp[cH]
 refine⟨fun H e=>by rw[hl];exact xak _,fun H i d e hd=>?_⟩
 have hi:i<n:=by have:=(xan.mp hd).1;omega
 refine⟨hi,fun x H' y G1 e1 e2=>?_⟩
 obtain⟨rfl,rfl⟩:=y
 have:d=.int (lo+(i:Int)):=by simp[cH,hi] at hd;exact hd.symm
 subst this
 exact⟨G1,.refl e2,rfl⟩
def E2:D->R (List D)
 |.tup ds=>.ok ds
 |.lst ds=>.ok ds
 |_=>.bad
def dJ(f:DSt->R D):DSt->R (List D):=fun Z=>(f Z).bind E2
theorem WK{l:Expr}{f:DSt->R D}(hl:DE X E l f):DI X E tg l (dJ f):=by
 have hL:PI X tg l (CQ X.K (tE X.K X.mg E f)):=RP hl
 have hT:PI X tg l (CS X.K (tE X.K X.mg E f)):=RQ hl
 intro pins s Z H R I ⟨G,Zd,ok,q⟩
 cases hf:f Zd with
 |bad=>unfold dJ at q;rw[hf] at q;exact(show False from q).elim
 |err e=>
  unfold dJ at q;rw[hf] at q
  refine hL pins s Z H R I ⟨G,Zd,ok,?_⟩
  rw[hf];exact q
 |ok d=>
  unfold dJ at q;rw[hf] at q
  cases d with
  |lst ds=>
   have q':∀J G' H',Step G H G' H'->iD X.K X.mg J G' ds->R J H':=q
   refine hL pins s Z H R I ⟨G,Zd,ok,?_⟩
   rw[hf]
   rintro v G' H' st ⟨a,vs,rfl,h1,h2⟩
   exact⟨a,rfl,⟨vs,st.e.seq h1⟩,q' _ G' H' st (.list h1 h2)⟩
  |tup ds=>
   have q':∀J G' H',Step G H G' H'->iD X.K X.mg J G' ds->R J H':=q
   refine hT pins s Z H R I ⟨G,Zd,ok,?_⟩
   rw[hf]
   rintro v G' H' st ⟨a,vs,rfl,h1,h2⟩
   exact⟨a,rfl,⟨vs,aM.sqT st.e h1⟩,q' _ G' H' st (.tup h1 h2)⟩
  |_=>exact(show False from q).elim
def fZ(i:Int):Bool:=Nat.blt i.natAbs 1073741824
theorem yP{i:Int}(h:fZ i=true):-(2^30)<=i/\i<2^30:=by
 unfold fZ at h
 rw[Nat.blt_eq] at h
 omega
def eX:List D->R (List D)
 |[.int j]=>bif fZ j then .ok (cH 0 j.toNat) else .bad
 |_=>.bad
def nI:List D->R (List D)
 |[.int i,.int j]=>bif fZ i&&fZ j then .ok (cH i (j-i).toNat) else .bad
 |_=>.bad
def fP(g:List D->R (List D))(fs:DSt->R (List D)):DSt->R (List D):=fun Z=>(fs Z).bind g
variable{fs:DSt->R (List D)}{a b c:Expr}{p pos:Pos}
theorem WL(hm:X.mg "range"=none)(ha:DA X E [a] fs)(hg:Gl X "range":=by rfl)(hs:starEach [a] X.env=[(false,eval a X.env)]:=by rfl):DI X E tg (.Call (.Name "range" p) [a] [] pos) (fP eX fs):=by
 refine PI.mono' (RV hg hm ha hs) fun Z H R ⟨G,Zd,ok,q⟩=>?_
 refine⟨G,Zd,ok,q.of_bind.mono (fun ds _ z vs G' H' s r=>?_) fun _ z=>z⟩
 match ds,z,r with
 |[.int j],z,r=>
  obtain rfl:=Reps.of_ints (ns:=[j]) r
  cases hj:fZ j with
  |false=>simp only[eX,hj,cond_false] at z;exact z.elim
  |true=>
   simp only[eX,hj,cond_true] at z
   have:=yP hj
   exact⟨j,rfl,by omega,by omega,z _ G' H' s (.rng 0 _)⟩
theorem WM(hm:X.mg "range"=none)(ha:DA X E [a,b] fs)(hg:Gl X "range":=by rfl)(hs:starEach [a,b] X.env=[(false,eval a X.env),(false,eval b X.env)]:=by rfl)(hs2:starEach [b] X.env=[(false,eval b X.env)]:=by rfl) :
  DI X E tg (.Call (.Name "range" p) [a,b] [] pos) (fP nI fs):=by
 refine PI.mono' (RX hg hm ha hs hs2) fun Z H R ⟨G,Zd,ok,q⟩=>?_
 refine⟨G,Zd,ok,q.of_bind.mono (fun ds _ z vs G' H' s r=>?_) fun _ z=>z⟩
 match ds,z,r with
 |[.int i,.int j],z,r=>
  obtain rfl:=Reps.of_ints (ns:=[i,j]) r
  cases hj:(fZ i&&fZ j) with
  |false=>simp only[nI,hj,cond_false] at z;exact z.elim
  |true=>
   simp only[nI,hj,cond_true] at z
   rw[xap] at hj
   have h1:=yP hj.1
   have h2:=yP hj.2
   exact⟨i,j,rfl,⟨by omega,by omega,by omega,by omega⟩,z _ G' H' s (.rng i _)⟩
end
def iE(ks:List Nat)(gp:D->R (List D))(c:DSt->R Bool)(e:DSt->R D)(Z:DSt):List D->R (List D)
 |[]=>.ok []
 |d::ds=>(gp d).bind fun us=>(c (setAll Z ks us)).bind fun k=>bif k then (e (setAll Z ks us)).bind fun y=>(iE ks gp c e Z ds).bind fun ys=>.ok (y::ys) else iE ks gp c e Z ds
def most(n:Nat):Bool:=decide (n<sizeLine)
def dN(k:Nat)(ks:List Nat)(fi:DSt->R (List D))(gp:D->R (List D))(c:DSt->R Bool)(e:DSt->R D):DSt->R (List D):=fun Z=>(fi Z).bind fun ds=>bif most ds.length then (iE ks gp c e (List.replicate k none++Z) ds).noerr else .bad
def c9:DSt->R Bool:=fun _=>.ok true
def uI(X:Cx)(E:XK)(cs:List Expr)(f:DSt->R Bool):Prop:=kQ X cs (tT X.K X.mg E f)
theorem kQ.mono'{X:Cx}{cs:List Expr}{t t':TT}(h:kQ X cs t)(m:∀Z H Q,t' Z H Q->t Z H Q):kQ X cs t':=fun pins s Z H Q I q=>h pins s Z H Q I (m Z H Q q)
theorem lR{X:Cx}{E:XK}:uI X E [] c9:=kQ.mono' UW fun Z H Q ⟨G,Zd,ok,q⟩=>(show kR Q G H true from q) G H (.refl ok.ext)
theorem RW.ok_of{α:Type}{r:R α}{a:α}{Q:α->Prop}{E:D->Prop}(e:r=.ok a)(h:Q a):RW r Q E:=by rw[e];exact h
theorem uJ{α β:Type}{r:R α}{k:α->R β}{b:β}(h:r.bind k=.ok b):∃a,r=.ok a/\k a=.ok b:=by
 cases r with
 |ok a=>exact⟨a,rfl,h⟩
 |err e=>cases h
 |bad=>cases h
section
variable{X:Cx}{E:XK}{tg elt iter:Expr}{ifs:List Expr}{scope:Scope}{pos:Pos}{NY:List Str}{k:Nat}{ks:List Nat}{fi:DSt->R (List D)}{gp:D->R (List D)}{fc:DSt->R Bool}{fe:DSt->R D}
theorem WN{k:Nat}{ks:List Nat}{Z:St}(h:ks.all (fun i=>decide (i<k))=true)(ws:List V):yB (List.replicate k none++Z) (setAll (List.replicate k none++Z) ks ws):=by
 refine⟨EY _ _ _,fun j v e=>?_⟩
 rw[EZ _ _ _ fun hj=>?_]
 ·exact e
 ·have hk:j<k:=xas (xa2.mp h j hj)
  rw[xbn (by simpa using hk),xcf,xa5 hk] at e
  cases e
theorem E3{te:TE}{tc:TT}(hk:ks.all (fun i=>decide (i<k))=true){Z:St}{H:Hp}{Q:VK}
  (h:qL X.K X.mg E (dN k ks fi gp fc fe) Z H Q):uA k (tI X.K X.mg E fi) (tG X.K X.mg ks gp) (tT X.K X.mg E0 fc) (tE X.K X.mg E0 fe) Z H Q:=by
 obtain⟨G,Zd,ok,q⟩:=h
 refine⟨G,Zd,ok,q.of_bind.mono (fun ds _ z J G1 H1 s1 it=>?_) fun _ z=>z⟩
 cases hm:most ds.length with
 |false=>rw[hm] at z;exact(show False from z).elim
 |true=>
  rw[hm] at z
  obtain⟨tot,ht,z⟩:=lQ (show RW (iE ks gp fc fe (List.replicate k none++Zd) ds).noerr _ _ from z)
  have hlt:ds.length<sizeLine:=xas hm
  have ok1:=ok.step s1
  refine⟨fun i m ys H'=>m=ds.length-i/\i<=ds.length/\∃G' yd rest,Step G1 H1 G' H'/\Reps X.K X.mg G' yd ys/\yd.length<=i/\iE ks gp fc fe (List.replicate k none++Zd) (ds.drop i)=.ok rest/\tot=yd++rest,
   ⟨ds.length,by simp,xbz _,G1,[],tot,.refl ok1.ext,Reps.nil,xbz _,ht,rfl⟩,?_⟩
  rintro i m ys H' ⟨rfl,hi,G',yd,rest,s,r,hyl,hr,rfl⟩
  refine⟨by rw[<- r.length];omega,?_⟩
  by_cases hlt2:i<ds.length
  ·right
   obtain⟨d,hd⟩:∃d,ds[i]? = some d:=⟨ds[i],by simp[hlt2]⟩
   obtain⟨g1,g2⟩:=it.turn H' i d (s.g.trans s.e) hd
   have hdrop:ds.drop i=d::ds.drop (i+1):=by
    rw[List.drop_eq_getElem_cons hlt2]
    congr 1
    exact xbp ((xax hlt2).symm.trans hd)
   rw[hdrop] at hr
   refine⟨g1,fun ys' H''=>∃G' yd rest,Step G1 H1 G' H''/\Reps X.K X.mg G' yd ys'/\yd.length<=i+1/\iE ks gp fc fe (List.replicate k none++Zd) (ds.drop (i+1))=.ok rest/\_=yd++rest,fun ys' H'' h=>⟨ds.length-(i+1),by omega,rfl,hlt2,h⟩,fun v H'' hy=>?_⟩
   obtain⟨G2,s2,rv⟩:=g2 v H'' hy G' s.g s.e
   unfold iE at hr
   obtain⟨us,e1,hr⟩:=uJ hr
   obtain⟨kk,e2,hr⟩:=uJ hr
   have s12:=s.trans s2
   have okN:bZ X.K X.mg (List.replicate k none++Zd) (List.replicate k none++Z) G2 H'':=(ok1.step s12).nones k
   refine⟨G2,d,s2.e,rv,RW.ok_of e1 fun ws rws=>⟨WN hk ws,?_⟩⟩
   have okS:=okN.setAll (ks:=ks) rws
   refine⟨G2,_,okS,RW.ok_of e2 fun G3 H3 s3=>?_⟩
   cases kk with
   |false=>
    rw[xaz xa7]
    exact⟨G3,yd,rest,s12.trans s3,r.mono (s2.g.trans s3.g),by omega,hr,rfl⟩
   |true=>
    rw[xa5 rfl]
    obtain⟨y,e3,hr⟩:=uJ (show (fe (setAll (List.replicate k none++Zd) ks us)).bind _=_ from hr)
    obtain⟨ys2,e4,hr⟩:=uJ hr
    cases hr
    refine⟨G3,_,okS.step s3,RW.ok_of e3 fun w G4 H4 s4 r4=>?_⟩
    exact⟨G4,yd++[y],ys2,(s12.trans s3).trans s4,(r.mono ((s2.g.trans s3.g).trans s4.g)).append (Reps.cons r4 Reps.nil),by simp;omega,e4,by simp⟩
  ·left
   have hi2:i=ds.length:=by omega
   subst hi2
   refine⟨it.stop H' (s.g.trans s.e),fun Dd hD=>?_⟩
   rw[List.drop_length] at hr
   have hre:rest=[]:=by unfold iE at hr;cases hr;rfl
   subst hre
   rw[xa8] at z
   have st:=(s1.trans s)
   exact z Dd ys G' _ (st.trans (.hid st.e hD)) (st.h.free hD) bV (st.e.free hD) r
theorem oW(C:X.calm=true)(lc:LC X k scope NY)(hk:ks.all (fun i=>decide (i<k))=true)(hi:DI X E tg iter fi)
  (hb:∀(s₀:Shared) (H₀:Hp) (C:Addr) (ex:List Addr),NY.Nodup->DG (cO X scope NY s₀ H₀ C ex) tg ks gp/\uI (cO X scope NY s₀ H₀ C ex) E0 ifs fc/\DE (cO X scope NY s₀ H₀ C ex) E0 elt fe)
  (hs:∀x,foldedSetIterable iter X.env x=pure x:=by intro _;rfl):DF X E (.ListComp elt [⟨tg,iter,ifs,0⟩] scope pos) (dN k ks fi gp fc fe):=
 PE.mono' (U1 (g:=tG X.K X.mg ks gp) (tc:=tT X.K X.mg E0 fc) (te:=tE X.K X.mg E0 fe) C lc hi (fun s0 H0 Ca ex nd=>hb s0 H0 Ca ex nd) hs) fun _ _ _ h=>E3 (te:=tE X.K X.mg E0 fe) (tc:=tT X.K X.mg E0 fc) hk h
end
end DL
namespace DL
open L2
mutual
def imm:D->Bool
 |.lst _=>false
 |.dct _ _=>false
 |.tup ds=>imms ds
 |.exc _ as=>imms as
 |.non=>true
 |.bl _=>true
 |.int _=>true
 |.str _=>true
 |.ty _=>true
 |.cls _=>true
def imms:List D->Bool
 |[]=>true
 |d::ds=>imm d&&imms ds
end
def qT(G G':Hp):Prop:=∀a o,G a=some o->(∀xs,o≠.lst xs)->G' a=some o
section
variable{K:xFg}{mg:Str->Option Value}{G G' H H' H0:Hp}
theorem qT.sqT{a:Addr}{xs:List V}(e:qT G G')(h:cB K G a xs):cB K G' a xs:=by
 rcases h with (h|⟨o,h⟩)|h
 ·exact .inl (.inl (e _ _ h fun xs z=>by cases z))
 ·exact .inl (.inr ⟨o,e _ _ h fun xs z=>by cases z⟩)
 ·exact .inr h
mutual
theorem Rep.imm(e:qT G G'):∀{d:D} {v:V},imm d=true->Rep K mg G d v->Rep K mg G' d v
 |.non,_,_,h=>h
 |.bl _,_,_,h=>h
 |.int _,_,_,h=>h
 |.str _,_,_,h=>h
 |.ty _,_,_,h=>h
 |.cls _,_,_,h=>h
 |.tup _,_,i,⟨a,vs,h1,h2,h3⟩=>⟨a,vs,h1,e.sqT h2,Reps.imm e (by unfold DL.imm at i;exact i) h3⟩
 |.lst _,_,i,_=>by unfold DL.imm at i;cases i
 |.dct _ _,_,i,_=>by unfold DL.imm at i;cases i
 |.exc _ _,_,i,⟨x,C,dct,vs,h1,h2,h3,h4,h5⟩=>⟨x,C,dct,vs,h1,e _ _ h2 fun xs z=>(by unfold j3 at z;cases z),h3,by
   rcases h4 with h|⟨dx,v,q1,q2,q3⟩
   ·exact .inl h
   ·exact .inr ⟨dx,v,q1,q2,e _ _ q3 fun xs z=>by cases z⟩,Reps.imm e (by unfold DL.imm at i;exact i) h5⟩
theorem Reps.imm(e:qT G G'):∀{ds:List D} {vs:List V},imms ds=true->Reps K mg G ds vs->Reps K mg G' ds vs
 |[],_,_,h=>h
 |_::_,_,i,⟨v,r,h1,h2,h3⟩=>by
  unfold imms at i
  rw[xap] at i
  exact⟨v,r,h1,Rep.imm e i.1 h2,Reps.imm e i.2 h3⟩
end
end
structure Ok(K:xFg)(mg:Str->Option Value)(H0:Hp)(own:List Nat)(Zd:DSt)(Z:St)(G H:Hp):Prop where
 ext:aM G H
 len:Zd.length=Z.length
 val:∀(i:Nat) (d:D),i∉own->Zd[i]? = some (some d)->∃v,Z[i]? = some (some v)/\Rep K mg G d v
 mine:∀(i:Nat) (d:D),i∈own->Zd[i]? = some (some d)->∃a ds vs,Z[i]? = some (some (.ref a))/\d=.lst ds/\H a=some (.lst vs)/\G a=none/\H0 a=none/\Reps K mg G ds vs
 dj:∀(i j:Nat) (a:Addr) (d d':D),i∈own->j∈own->Zd[i]? = some (some d)->Zd[j]? = some (some d')->Z[i]? = some (some (.ref a))->Z[j]? = some (some (.ref a))->i=j
def iX(own:List Nat):Nat->DSt->DSt
 |_,[]=>[]
 |i,d::ds=>(bif own.contains i then none else d)::iX own (i+1) ds
def mask(own:List Nat)(Z:DSt):DSt:=iX own 0 Z
theorem E4{own:List Nat}:∀(Z:DSt) (k i:Nat) (d:D),(iX own k Z)[i]? = some (some d)->k+i∉own/\Z[i]? = some (some d)
 |[],_,_,_,h=>by unfold iX at h;simp at h
 |x::Z,k,0,d,h=>by
  unfold iX at h
  simp only[List.getElem?_cons_zero,Option.some.injEq] at h
  cases hc:own.contains k with
  |true=>rw[hc] at h;cases h
  |false=>
   rw[hc] at h
   have h':x=some d:=h
   subst h'
   exact⟨by simpa using hc,rfl⟩
 |x::Z,k,i+1,d,h=>by
  unfold iX at h
  have:=E4 Z (k+1) i d (by simpa using h)
  rw[show k+(i+1)=k+1+i by omega]
  exact⟨this.1,by simpa using this.2⟩
theorem E5{own:List Nat}:∀(Z:DSt) (k:Nat),(iX own k Z).length=Z.length
 |[],_=>rfl
 |_::Z,k=>by unfold iX;simp[E5 Z]
def uK(own:List Nat)(Zd:DSt)(Z:St)(b:Addr):Prop:=∃i d,i∈own/\Zd[i]? = some (some d)/\Z[i]? = some (some (.ref b))
open Classical in
noncomputable def iY(own:List Nat)(Zd:DSt)(Z:St)(G H:Hp):Hp:=fun b=>if uK own Zd Z b then H b else G b
open Classical in
noncomputable def lT(own:List Nat)(Zd:DSt)(Z:St)(G:Hp):Hp:=fun b=>if uK own Zd Z b then none else G b
section
variable{K:xFg}{mg:Str->Option Value}{G G' G0 H H' H0:Hp}{own:List Nat}{Zd:DSt}{Z:St}
theorem Ok.masked(o:Ok K mg H0 own Zd Z G H):bZ K mg (mask own Zd) Z G H:=
 ⟨o.ext, by unfold mask; rw [E5]; exact o.len, fun i d h => by
  have:=E4 Zd 0 i d h
  rw[xcl] at this
  exact o.val i d this.1 this.2⟩
theorem Ok.zero(o:bZ K mg Zd Z G H):Ok K mg H0 [] Zd Z G H:=
 ⟨o.ext,o.len,fun i d _ h=>o.val i d h,fun i d h=>xat h (by simp),fun i j a d d' h=>xat h (by simp)⟩
theorem Ok.step(o:Ok K mg H0 own Zd Z G H)(s:Step G H G' H'):Ok K mg H0 own Zd Z G' H':=
 ⟨s.e, o.len, fun i d hi h => let ⟨v, h1, h2⟩ := o.val i d hi h; ⟨v, h1, h2.mono s.g⟩, fun i d hi h => by
  obtain⟨a,ds,vs,h1,h2,h3,h4,h5,h6⟩:=o.mine i d hi h
  exact⟨a,ds,vs,h1,h2,s.h _ _ h3,s.c _ _ h3 h4,h5,h6.mono s.g⟩,o.dj⟩
theorem Ok.notOwn(o:Ok K mg H0 own Zd Z G H){b:Addr}{u:HO}(h:G b=some u):¬uK own Zd Z b:=by
 rintro⟨i,d,h1,h2,h3⟩
 obtain⟨a,ds,vs,q1,q2,q3,q4,_⟩:=o.mine i d h1 h2
 rw[q1] at h3
 cases h3
 rw[q4] at h;cases h
theorem Ok.ownLst(o:Ok K mg H0 own Zd Z G H){b:Addr}(h:uK own Zd Z b):(∃vs,H b=some (.lst vs))/\G b=none/\H0 b=none:=by
 obtain⟨i,d,h1,h2,h3⟩:=h
 obtain⟨a,ds,vs,q1,q2,q3,q4,q5,_⟩:=o.mine i d h1 h2
 rw[q1] at h3
 cases h3
 exact⟨⟨vs,q3⟩,q4,q5⟩
theorem Ok.pub(o:Ok K mg H0 own Zd Z G H):bZ K mg Zd Z (iY own Zd Z G H) H/\aM G (iY own Zd Z G H):=by
 have sg:aM G (iY own Zd Z G H):=fun b u h=>by unfold iY;rw[xaz (o.notOwn h)];exact h
 refine⟨⟨fun b u h=>?_,o.len,fun i d h=>?_⟩,sg⟩
 ·unfold iY at h
  split at h
  ·exact h
  ·exact o.ext b u h
 ·by_cases hi:i∈own
  ·obtain⟨a,ds,vs,q1,rfl,q3,q4,q5,q6⟩:=o.mine i d hi h
   refine⟨_,q1,a,vs,rfl,bM.of ?_,q6.mono sg⟩
   unfold iY
   rw[xa5 ⟨i,_,hi,h,q1⟩];exact q3
  ·obtain⟨v,h1,h2⟩:=o.val i d hi h
   exact⟨v,h1,h2.mono sg⟩
theorem Ok.pubStep(o:Ok K mg H0 own Zd Z G H)(s0:Step G0 H0 G H):Step G0 H0 (iY own Zd Z G H) H:=by
 refine⟨s0.g.trans o.pub.2,s0.h,o.pub.1.ext,fun b u h1 h2=>?_⟩
 unfold iY
 rw[xaz fun z=>by rw[(o.ownLst z).2.2] at h1;cases h1]
 exact s0.c b u h1 h2
theorem Ok.drop(o:Ok K mg H0 own Zd Z G H)(s:aM H H'):Ok K mg H0 own Zd Z G H':=
 o.step (.heap o.ext s)
theorem Ok.hide(o:Ok K mg H0 own Zd Z G H)(s:Step (iY own Zd Z G H) H G' H'):Step G H (lT own Zd Z G') H'/\qT G' (lT own Zd Z G'):=by
 refine⟨⟨fun b u h=>?_,s.h,fun b u h=>?_,fun b u h1 h2=>?_⟩,fun b u h1 h2=>?_⟩
 ·unfold lT
  rw[xaz (o.notOwn h)]
  exact s.g b u (o.pub.2 b u h)
 ·unfold lT at h
  split at h
  ·cases h
  ·exact s.e b u h
 ·unfold lT
  split
  ·rfl
  ·rename_i n
   refine s.c b u h1 ?_
   unfold iY
   rw[xaz n];exact h2
 ·unfold lT
  rw[xaz fun z=>?_]
  ·exact h1
  ·obtain⟨⟨vs,q⟩,_⟩:=o.ownLst z
   have:iY own Zd Z G H b=some (.lst vs):=by unfold iY;rw[xa5 z];exact q
   have:=s.g b _ this
   rw[h1] at this;cases this
   exact h2 vs rfl
theorem qU{α:Type}{l:List (Option α)}{i:Nat}{x d:α}(h:(l.set i (some x))[i]? = some (some d)):d=x/\i<l.length:=by
 have hl:i<l.length:=by have:=(xan.mp h).1;simpa using this
 rw[xa0 hl] at h
 cases h
 exact⟨rfl,hl⟩
theorem Ok.set{i:Nat}{d:D}{v:V}(o:Ok K mg H0 own Zd Z G H)(hi:i∉own)(h:Rep K mg G d v):Ok K mg H0 own (Zd.set i (some d)) (Z.set i (some v)) G H:=by
 have ne:∀{j:Nat},j∈own->j≠i:=fun hj z=>hi (z▸hj)
 refine⟨o.ext,by simp[o.len],fun j e hj q=>?_,fun j e hj q=>?_,fun j k a d1 d2 h1 h2 h3 h4 h5 h6=>?_⟩
 ·by_cases hji:j=i
  ·subst hji
   obtain⟨rfl,hl⟩:=qU q
   exact⟨v,by rw[xa0 (by rw[<- o.len];exact hl)],h⟩
  ·rw[xam (xbd hji)] at q ⊢
   exact o.val j e hj q
 ·rw[xam (xbd (ne hj))] at q ⊢
  exact o.mine j e hj q
 ·rw[xam (xbd (ne h1))] at h3 h5
  rw[xam (xbd (ne h2))] at h4 h6
  exact o.dj j k a d1 d2 h1 h2 h3 h4 h5 h6
theorem Ok.setAll:∀{ks:List Nat} {us:List D} {ws:List V} {Zd:DSt} {Z:St},Ok K mg H0 own Zd Z G H->(∀k∈ks,k∉own)->Reps K mg G us ws->Ok K mg H0 own (DL.setAll Zd ks us) (DL.setAll Z ks ws) G H
 |[],_,_,_,_,o,_,_=>by unfold DL.setAll;exact o
 |_::_,[],_,_,_,o,_,h=>by cases h;unfold DL.setAll;exact o
 |k::ks,_::_,_,_,_,o,hk,⟨v,r,h1,h2,h3⟩=>by
  subst h1;unfold DL.setAll
  exact Ok.setAll (o.set (hk k xaq) h2) (fun j hj=>hk j (xae _ hj)) h3
theorem Ok.new{i:Nat}{ds:List D}{vs:List V}{a:Addr}{own':List Nat}(o:Ok K mg H0 own Zd Z G H)(s:Step G H G' H')(n:H a=none)(e:H' a=some (.lst vs))(g:G' a=none)(n0:H0 a=none)(r:Reps K mg G' ds vs)
  (hown:∀j,j∈own'↔j=i\/j∈own):Ok K mg H0 own' (Zd.set i (some (.lst ds))) (Z.set i (some (.ref a))) G' H':=by
 have o':=o.step s
 have away:∀{j:Nat} {d:D},j∈own->j≠i->Zd[j]? = some (some d)->Z[j]? = some (some (.ref a))->False:=fun {j d} hj _ hd hs=>by
  obtain⟨b,_,_,q1,_,q3,_⟩:=o.mine j d hj hd
  rw[q1] at hs;cases hs
  rw[n] at q3;cases q3
 refine⟨o'.ext,by simp[o.len],fun j d hj q=>?_,fun j d hj q=>?_,fun j k b d1 d2 h1 h2 h3 h4 h5 h6=>?_⟩
 ·have hji:j≠i:=fun z=>hj ((hown j).mpr (.inl z))
  rw[xam (xbd hji)] at q ⊢
  exact o'.val j d (fun z=>hj ((hown j).mpr (.inr z))) q
 ·by_cases hji:j=i
  ·subst hji
   obtain⟨rfl,hl⟩:=qU q
   exact⟨a,ds,vs,by rw[xa0 (by rw[<- o.len];exact hl)],rfl,e,g,n0,r⟩
  ·rw[xam (xbd hji)] at q ⊢
   exact o'.mine j d (((hown j).mp hj).resolve_left hji) q
 ·by_cases hji:j=i
  ·by_cases hki:k=i
   ·rw[hji,hki]
   ·subst hji
    obtain⟨rfl,hl⟩:=qU h3
    rw[xa0 (by rw[<- o.len];exact hl)] at h5
    cases h5
    rw[xam (xbd hki)] at h4 h6
    exact(away (((hown k).mp h2).resolve_left hki) hki h4 h6).elim
  ·by_cases hki:k=i
   ·subst hki
    obtain⟨rfl,hl⟩:=qU h4
    rw[xa0 (by rw[<- o.len];exact hl)] at h6
    cases h6
    rw[xam (xbd hji)] at h3 h5
    exact(away (((hown j).mp h1).resolve_left hji) hji h3 h5).elim
   ·rw[xam (xbd hji)] at h3 h5
    rw[xam (xbd hki)] at h4 h6
    exact o.dj j k b d1 d2 (((hown j).mp h1).resolve_left hji) (((hown k).mp h2).resolve_left hki) h3 h4 h5 h6
theorem Ok.write{i:Nat}{d:D}{ds:List D}{vs:List V}{a:Addr}(o:Ok K mg H0 own Zd Z G H)(hi:i∈own)(hd:Zd[i]? = some (some d))(ha:Z[i]? = some (some (.ref a)))(r:Reps K mg G ds vs) :
  Ok K mg H0 own (Zd.set i (some (.lst ds))) Z G (aU H a (.lst vs)):=by
 obtain⟨b,ds0,vs0,q1,q2,q3,q4,q5,q6⟩:=o.mine i d hi hd
 rw[ha] at q1;cases q1
 have hl:i<Zd.length:=(xan.mp hd).1
 refine⟨fun b u h=>?_,by simp[o.len],fun j e hj q=>?_,fun j e hj q=>?_,fun j k b d1 d2 h1 h2 h3 h4 h5 h6=>?_⟩
 ·rw[bF (cU h q4)];exact o.ext b u h
 ·have hji:j≠i:=fun z=>hj (z▸hi)
  rw[xam (xbd hji)] at q
  exact o.val j e hj q
 ·by_cases hji:j=i
  ·subst hji
   obtain⟨rfl,_⟩:=qU q
   exact⟨a,ds,vs,ha,rfl,bV,q4,q5,r⟩
  ·rw[xam (xbd hji)] at q
   obtain⟨c,es,ws,p1,p2,p3,p4⟩:=o.mine j e hj q
   have hc:c≠a:=fun z=>by subst z;exact hji (o.dj j i c e d hj hi q hd p1 ha)
   exact⟨c,es,ws,p1,p2,by rw[bF hc];exact p3,p4⟩
 ·have back:∀{j:Nat} {e:D},(Zd.set i (some (.lst ds)))[j]? = some (some e)->∃e',Zd[j]? = some (some e'):=fun {j e} q=>by
   by_cases hji:j=i
   ·exact⟨d,hji▸hd⟩
   ·rw[xam (xbd hji)] at q;exact⟨e,q⟩
  obtain⟨e1,h3⟩:=back h3
  obtain⟨e2,h4⟩:=back h4
  exact o.dj j k b e1 e2 h1 h2 h3 h4 h5 h6
theorem Step.write{a:Addr}{o u:HO}(s0:Step G0 H0 G H)(n:H0 a=none)(g:G a=none):Step G0 H0 G (aU H a u):=
 ⟨s0.g,fun b v h=>by rw[bF (cU h n)];exact s0.h b v h,fun b v h=>by rw[bF (cU h g)];exact s0.e b v h,s0.c⟩
theorem Ok.release{i:Nat}{own':List Nat}(o:Ok K mg H0 own Zd Z G H)(s0:Step G0 H0 G H)(hi:i∈own)(hown:∀j,j∈own'↔j≠i/\j∈own):∃G',Ok K mg H0 own' Zd Z G' H/\Step G0 H0 G' H/\aM G G':=by
 by_cases hb:∃d,Zd[i]? = some (some d)
 ·obtain⟨d,hd⟩:=hb
  obtain⟨a,ds,vs,q1,rfl,q3,q4,q5,q6⟩:=o.mine i d hi hd
  have sg:aM G (aU G a (.lst vs)):=same_upd q4
  have eh:aM (aU G a (.lst vs)) H:=fun b u h=>by
   by_cases hb:b=a
   ·subst hb;rw[bV] at h;cases h;exact q3
   ·rw[bF hb] at h;exact o.ext b u h
  refine⟨aU G a (.lst vs),⟨eh,o.len,fun j e hj q=>?_,fun j e hj q=>?_,fun j k b d1 d2 h1 h2 h3 h4 h5 h6=>?_⟩,⟨s0.g.trans sg,s0.h,eh,fun b u h1 h2=>?_⟩,sg⟩
  ·by_cases hji:j=i
   ·subst hji
    rw[hd] at q;cases q
    exact⟨_,q1,a,vs,rfl,bM.of bV,q6.mono sg⟩
   ·obtain⟨v,h1,h2⟩:=o.val j e (fun z=>hj ((hown j).mpr ⟨hji,z⟩)) q
    exact⟨v,h1,h2.mono sg⟩
  ·obtain⟨hji,hj'⟩:=(hown j).mp hj
   obtain⟨c,es,ws,p1,p2,p3,p4,p5,p6⟩:=o.mine j e hj' q
   have hc:c≠a:=fun z=>by subst z;exact hji (o.dj j i c e _ hj' hi q hd p1 q1)
   exact⟨c,es,ws,p1,p2,p3,by rw[bF hc];exact p4,p5,p6.mono sg⟩
  ·exact o.dj j k b d1 d2 ((hown j).mp h1).2 ((hown k).mp h2).2 h3 h4 h5 h6
  ·rw[bF (cU h1 q5)];exact s0.c b u h1 h2
 ·refine⟨G,⟨o.ext,o.len,fun j e hj q=>?_,fun j e hj q=>o.mine j e ((hown j).mp hj).2 q,fun j k b d1 d2 h1 h2=>o.dj j k b d1 d2 ((hown j).mp h1).2 ((hown k).mp h2).2⟩,s0,aM.refl _⟩
  have hji:j≠i:=fun z=>hb ⟨e,z▸q⟩
  exact o.val j e (fun z=>hj ((hown j).mpr ⟨hji,z⟩)) q
end
inductive aG where
 |nx (Z:DSt)|rt (d:D)|bk (Z:DSt)|ct (Z:DSt)|rf (ds:List D)
section
variable(K:xFg)(mg:Str->Option Value)(E:XK)
def eH(G0 H0:Hp)(own' ol:List Nat)(Dn:iB)(G:Hp):aG->Prop
 |.nx Zd'=>∀Z' G' H',Ok K mg H0 own' Zd' Z' G' H'->Step G0 H0 G' H'->aM G G'->Dn.nx Z' H'
 |.bk Zd'=>∀Z' G' H',Ok K mg H0 ol Zd' Z' G' H'->Step G0 H0 G' H'->aM G G'->Dn.bk Z' H'
 |.ct Zd'=>∀Z' G' H',Ok K mg H0 ol Zd' Z' G' H'->Step G0 H0 G' H'->aM G G'->Dn.ct Z' H'
 |.rt d=>∀v G' H',Step G0 H0 G' H'->Rep K mg G' d v->Dn.rt v H'
 |.rf ds=>∀a vs G' H',Step G0 H0 G' H'->H0 a=none->H' a=some (.lst vs)->G' a=none->Reps K mg G' ds vs->Dn.rt (.ref a) H'
def tS(G0 H0:Hp)(own own' ol:List Nat)(f:DSt->R aG):TS:=fun Dn Z H=>∃G Zd,Ok K mg H0 own Zd Z G H/\Step G0 H0 G H/\RW (f Zd) (eH K mg G0 H0 own' ol Dn G) (bH K mg E G0 H0)
end
theorem eH.shift{K:xFg}{mg:Str->Option Value}{G0 H0 G G':Hp}{own' ol:List Nat}{Dn:iB}(s:aM G G'){o:aG}(h:eH K mg G0 H0 own' ol Dn G o):eH K mg G0 H0 own' ol Dn G' o:=by
 cases o with
 |nx _=>exact fun a b c d e f=>h a b c d e (s.trans f)
 |bk _=>exact fun a b c d e f=>h a b c d e (s.trans f)
 |ct _=>exact fun a b c d e f=>h a b c d e (s.trans f)
 |rt _=>exact h
 |rf _=>exact h
def DS(X:Cx)(E:XK)(own own' ol:List Nat)(st:Stmt)(f:DSt->R aG):Prop:=∀G0,PS X st (tS X.K X.mg E G0 X.H₀ own own' ol f)
def gK(X:Cx)(E:XK)(own own' ol:List Nat)(st:List Stmt)(f:DSt->R aG):Prop:=∀G0,dP X st (tS X.K X.mg E G0 X.H₀ own own' ol f)
def aN(f g:DSt->R aG):DSt->R aG:=fun Z=>(f Z).bind fun o=>match o with
 |.nx Z'=>g Z'
 |o=>.ok o
def gL:DSt->R aG:=fun Z=>.ok (.nx Z)
section
variable{X:Cx}{E:XK}{own own1 own2 own' ol:List Nat}{st:Stmt}{rest:List Stmt}{f g:DSt->R aG}{pos:Pos}
theorem iF:gK X E own own ol [] gL:=fun G0=>dP.mono' CK fun Dn Z H ⟨G,Zd,ok,s0,q⟩=>(show eH X.K X.mg G0 X.H₀ own ol Dn G (.nx Zd) from q) Z G H ok s0 (aM.refl _)
theorem aO(h1:DS X E own own1 ol st f)(h2:gK X E own1 own2 ol rest g):gK X E own own2 ol (st::rest) (aN f g):=fun G0=>dP.mono' (lG (h1 G0) (h2 G0)) fun Dn Z H ⟨G,Zd,ok,s0,q⟩=>by
 refine⟨G,Zd,ok,s0,q.of_bind.mono (fun o _ z=>?_) fun _ z=>z⟩
 cases o with
 |nx σ1=>
  intro Z' G' H' ok' s' e'
  exact⟨G',σ1,ok',s',(show RW (g σ1) _ _ from z).mono (fun o _ z=>z.shift e') fun _ z=>z⟩
 |rt d=>exact z
 |rf d=>exact z
 |bk d=>exact z
 |ct d=>exact z
theorem cI(h1:DS X E own own1 ol st f):gK X E own own1 ol [st] f:=fun G0=>oK (h1 G0)
theorem nJ(i:Nat)(hi:own.contains i=true)(ho:own'=own.filter fun j=>j != i)(h:gK X E own' own2 ol rest g):gK X E own own2 ol rest g:=fun G0=>dP.mono' (h G0) fun Dn Z H ⟨G,Zd,ok,s0,q⟩=>by
 obtain⟨G',ok',s',e'⟩:=ok.release (i:=i) (own':=own') s0 (by simpa using hi) fun j=>by subst ho;simp[and_comm]
 exact⟨G',Zd,ok',s',q.mono (fun o _ z=>z.shift e') fun _ z=>z⟩
def cJ(fe:DSt->R D):DSt->R aG:=fun Z=>(fe Z).bind fun d=>.ok (.rt d)
theorem iG{e:Expr}{fe:DSt->R D}(h:DE X E e fe):DS X E own own' ol (.Return (some e) pos) (cJ fe):=fun G0=>PS.mono' (tW h) fun Dn Z H ⟨G,Zd,ok,s0,q⟩=>by
 have s1:=ok.pubStep s0
 exact⟨_,Zd,ok.pub.1,q.of_bind.mono (fun d _ z v G' H' s r=>(show eH X.K X.mg G0 X.H₀ own' ol Dn G (.rt d) from z) v G' H' (s1.trans s) r) fun _ z=>z.step s1⟩
def eY(c:DSt->R Bool)(f g:DSt->R aG):DSt->R aG:=fun Z=>(c Z).bind fun k=>bif k then f Z else g Z
theorem fQ{c:Expr}{a b:List Stmt}{fc:DSt->R Bool}(hc:DT X E c fc)(ha:gK X E own own' ol a f)(hb:gK X E own own' ol b g):DS X E own own' ol (.If c a b pos) (eY fc f g):=fun G0=>
 PS.mono' (CL hc (ha G0) (hb G0)) fun Dn Z H ⟨G,Zd,ok,s0,q⟩=>by
 have s1:=ok.pubStep s0
 refine⟨_,Zd,ok.pub.1,q.of_bind.mono (fun k _ z G' H' s=>?_) fun _ z=>z.step s1⟩
 have ok':=ok.drop s.h
 have s':Step G0 X.H₀ G H':=s0.trans (.heap ok.ext s.h)
 cases k with
 |true=>exact x6 ⟨G,Zd,ok',s',z⟩
 |false=>exact x5 ⟨G,Zd,ok',s',z⟩
def yQ(fe:DSt->R D):DSt->R aG:=fun Z=>(fe Z).bind fun _=>.ok (.nx Z)
def cW(own:List Nat)(i:Nat)(fe:DSt->R D):DSt->R aG:=fun Z=>(fe (mask own Z)).bind fun d=>.ok (.nx (Z.set i (some d)))
def aY(i:Nat)(fe:DSt->R D):DSt->R aG:=fun Z=>(fe Z).bind fun d=>.ok (.nx (Z.set i (some d)))
def WO(i:Nat)(fe:DSt->R D):DSt->R aG:=fun Z=>(fe Z).bind fun d=>bif imm d then .ok (.nx (Z.set i (some d))) else .bad
theorem WP{own:List Nat}{i:Nat}(h:own.contains i=false):i∉own:=by simpa using h
theorem uL(Z:DSt):mask [] Z=Z:=by
 have:∀(Z:DSt) (k:Nat),iX [] k Z=Z:=fun Z=>by
  induction Z with
  |nil=>intro k;rfl
  |cons d ds ih=>intro k;unfold iX;rw[ih];rfl
 exact this Z 0
theorem yR{te:TE}{fe:DSt->R D}{i:Nat}{G0:Hp}(h:∀Z H Q,tE X.K X.mg E fe Z H Q->te Z H Q)(ho:own.contains i=false){Dn:iB}{Z:St}{H:Hp}(q:tS X.K X.mg E G0 X.H₀ own own ol (cW own i fe) Dn Z H):mY te (lH i) Dn Z H:=by
 obtain⟨G,Zd,ok,s0,q⟩:=q
 refine h Z H _ ⟨G,mask own Zd,ok.masked,q.of_bind.mono (fun d _ z v G' H' s r=>?_) fun _ z=>z.step s0⟩
 exact(show eH X.K X.mg G0 X.H₀ own ol Dn G (.nx (Zd.set i (some d))) from z) _ G' H' ((ok.step s).set (WP ho) r) (s0.trans s) s.g
def jL(own:List Nat)(i:Nat)(fe:DSt->R (List D)):DSt->R aG:=fun Z=>(fe (mask own Z)).bind fun ds=>.ok (.nx (Z.set i (some (.lst ds))))
def uM(i:Nat)(fe:DSt->R (List D)):DSt->R aG:=fun Z=>(fe Z).bind fun ds=>bif imms ds then .ok (.nx (Z.set i (some (.lst ds)))) else .bad
def lU(own:List Nat)(i:Nat):List Nat:=if own.contains i then own else i::own
theorem E6{own:List Nat}{i j:Nat}:j∈lU own i↔j=i\/j∈own:=by
 unfold lU
 split
 ·rename_i h
  have hi:i∈own:=by simpa using h
  exact⟨.inr,fun h=>h.elim (fun e=>e▸hi) id⟩
 ·simp
theorem WQ{te:TE}{fe:DSt->R (List D)}{i:Nat}{G0:Hp}(h:∀Z H Q,qL X.K X.mg E fe Z H Q->te Z H Q){Dn:iB}{Z:St}{H:Hp}(q:tS X.K X.mg E G0 X.H₀ own (lU own i) ol (jL own i fe) Dn Z H):mY te (lH i) Dn Z H:=by
 obtain⟨G,Zd,ok,s0,q⟩:=q
 refine h Z H _ ⟨G,mask own Zd,ok.masked,q.of_bind.mono (fun ds _ z a vs G' H' s n e g r=>?_) fun _ z=>z.step s0⟩
 exact(show eH X.K X.mg G0 X.H₀ (lU own i) ol Dn G (.nx (Zd.set i (some (.lst ds)))) from z) _ G' H' (ok.new s n e g (s0.h.free n) r fun j=>E6) (s0.trans s) s.g
theorem WR{te:TE}{fe:DSt->R (List D)}{i:Nat}{G0:Hp}(h:∀Z H Q,qL X.K X.mg E fe Z H Q->te Z H Q){Dn:iB}{Z:St}{H:Hp}(q:tS X.K X.mg E G0 X.H₀ own (lU own i) ol (uM i fe) Dn Z H):mY te (lH i) Dn Z H:=by
 obtain⟨G,Zd,ok,s0,q⟩:=q
 have s1:=ok.pubStep s0
 refine h Z H _ ⟨_,Zd,ok.pub.1,q.of_bind.mono (fun ds _ z a vs G' H' s n e g r=>?_) fun _ z=>z.step s1⟩
 cases hd:imms ds with
 |false=>rw[hd] at z;exact(show False from z).elim
 |true=>
  rw[hd] at z
  obtain⟨st,sT⟩:=ok.hide s
  have g':lT own Zd Z G' a=none:=by unfold lT;split<;>first|rfl|exact g
  exact(show eH X.K X.mg G0 X.H₀ (lU own i) ol Dn G (.nx (Zd.set i (some (.lst ds)))) from z) _ _ H' (ok.new st n e g' (s0.h.free n) (r.imm sT hd) fun j=>E6) (s0.trans st) st.g
variable{i:Nat}{x:Str}{e:Expr}{pos':Pos}{fe:DSt->R D}{fl:DSt->R (List D)}
theorem WS(i:Nat)(hN:X.N.Nodup)(he:DE X E e fe)(ho:own.contains i=false:=by rfl)(hi:X.N[i]? = some x:=by rfl)(hx:iT X.env.scope x:=by first|exact Or.inl rfl|exact Or.inr rfl)(hs:swapsWith e (some (.Name x pos')) pos.line X.env=pure false:=by rfl)
  (hf:X.fn x=true\/X.env.scope.names.lookup x=some .local:=by first|exact .inl rfl|exact .inr rfl|assumption):DS X E own own ol (.Assign [.Name x pos'] e pos) (cW own i fe):=fun G0=>
 PS.mono' (lI hN hi hx he hs hf) fun Dn Z H q=>yR (fun _ _ _ z=>z) ho q
theorem kU(i:Nat)(hN:X.N.Nodup)(he:DE X E e fe)(hi:X.N[i]? = some x:=by rfl)(hx:iT X.env.scope x:=by first|exact Or.inl rfl|exact Or.inr rfl)(hs:swapsWith e (some (.Name x pos')) pos.line X.env=pure false:=by rfl)
  (hf:X.fn x=true\/X.env.scope.names.lookup x=some .local:=by first|exact .inl rfl|exact .inr rfl|assumption):DS X E [] [] ol (.Assign [.Name x pos'] e pos) (aY i fe):=fun G0=>by
 have:aY i fe=cW [] i fe:=by funext Z;unfold aY cW;rw[uL]
 rw[this]
 exact PS.mono' (lI hN hi hx he hs hf) fun Dn Z H q=>yR (fun _ _ _ z=>z) rfl q
theorem WT(i:Nat)(hN:X.N.Nodup)(he:DF X E e fl)(hw:own'=lU own i:=by rfl)(hi:X.N[i]? = some x:=by rfl)(hx:iT X.env.scope x:=by first|exact Or.inl rfl|exact Or.inr rfl)(hs:swapsWith e (some (.Name x pos')) pos.line X.env=pure false:=by rfl)
  (hf:X.fn x=true\/X.env.scope.names.lookup x=some .local:=by first|exact .inl rfl|exact .inr rfl|assumption):DS X E own own' ol (.Assign [.Name x pos'] e pos) (jL own i fl):=fun G0=>by
 subst hw;exact PS.mono' (lI hN hi hx he hs hf) fun Dn Z H q=>WQ (fun _ _ _ z=>z) q
theorem WU(i:Nat)(hN:X.N.Nodup)(he:DF X E e fl)(hw:own'=lU own i:=by rfl)(hi:X.N[i]? = some x:=by rfl)(hx:iT X.env.scope x:=by first|exact Or.inl rfl|exact Or.inr rfl)(hs:swapsWith e (some (.Name x pos')) pos.line X.env=pure false:=by rfl)
  (hf:X.fn x=true\/X.env.scope.names.lookup x=some .local:=by first|exact .inl rfl|exact .inr rfl|assumption):DS X E own own' ol (.Assign [.Name x pos'] e pos) (uM i fl):=fun G0=>by
 subst hw;exact PS.mono' (lI hN hi hx he hs hf) fun Dn Z H q=>WR (fun _ _ _ z=>z) q
theorem WV{te:TE}(h:∀Z H Q,qL X.K X.mg E fl Z H Q->te Z H Q):∀Z H Q,tE X.K X.mg E (fun Z=>(fl Z).bind fun ds=>.ok (.lst ds)) Z H Q->te Z H Q:=fun Z H Q ⟨G,Zd,ok,q⟩=>by
 refine h Z H Q ⟨G,Zd,ok,q.of_bind.mono (fun ds _ q=>?_) fun _ z=>z⟩
 intro a vs G' H' s n e g r
 have q':aQ X.K X.mg Q G H (.lst ds):=q
 have sg:aM G' (aU G' a (.lst vs)):=same_upd g
 refine q' (.ref a) (aU G' a (.lst vs)) H' ⟨s.g.trans sg,s.h,fun b u p=>?_,fun b u p1 p2=>?_⟩ ⟨a,vs,rfl,bM.of bV,r.mono sg⟩
 ·by_cases hb:b=a
  ·subst hb;rw[bV] at p;cases p;exact e
  ·rw[bF hb] at p;exact s.e b u p
 ·have hb:b≠a:=cU p1 n
  rw[bF hb];exact s.c b u p1 p2
def aL(fl:DSt->R (List D)):DSt->R D:=fun Z=>(fl Z).bind fun ds=>.ok (.lst ds)
theorem DF.val(h:DF X E e fl):DE X E e (aL fl):=h.de
variable{tg elt iter:Expr}{ifs:List Expr}{scope:Scope}{NY:List Str}{k:Nat}{ks:List Nat}{fi:DSt->R (List D)}{gp:D->R (List D)}{fc:DSt->R Bool}{lpos:Pos}
theorem WW(i:Nat)(C:X.calm=true)(hN:X.N.Nodup)(hi':X.N[i]? = some x)(hy:X.env.kindOf x=some .local)(lc:LC X k scope NY)(hi:DI X E tg iter fi)
  (hb:∀(s₀:Shared) (H₀:Hp) (C:Addr) (ex:List Addr),NY.Nodup->DG (cO X scope NY s₀ H₀ C ex) tg ks gp/\uI (cO X scope NY s₀ H₀ C ex) E0 ifs fc/\DE (cO X scope NY s₀ H₀ C ex) E0 elt fe)
  (hsw:swapsWith (.ListComp elt [⟨tg,iter,ifs,0⟩] scope lpos) (some (.Name x pos')) pos.line X.env=pure true)
  (hs:∀x,foldedSetIterable iter X.env x=pure x):PS X (.Assign [.Name x pos'] (.ListComp elt [⟨tg,iter,ifs,0⟩] scope lpos) pos) (mY (uA k (tI X.K X.mg E fi) (tG X.K X.mg ks gp) (tT X.K X.mg E0 fc) (tE X.K X.mg E0 fe)) (lH i)):=
 U2 (g:=tG X.K X.mg ks gp) (tc:=tT X.K X.mg E0 fc) (te:=tE X.K X.mg E0 fe) C hN hi' hy lc hi (fun s0 H0 Ca ex nd=>hb s0 H0 Ca ex nd) hsw hs
theorem E7(i:Nat)(C:X.calm=true)(hN:X.N.Nodup)(lc:LC X k scope NY)(hk:ks.all (fun i=>decide (i<k))=true)(hi:DI X E tg iter fi)
  (hb:∀(s₀:Shared) (H₀:Hp) (C:Addr) (ex:List Addr),NY.Nodup->DG (cO X scope NY s₀ H₀ C ex) tg ks gp/\uI (cO X scope NY s₀ H₀ C ex) E0 ifs fc/\DE (cO X scope NY s₀ H₀ C ex) E0 elt fe)
  (ho:own.contains i=false:=by rfl) (hi':X.N[i]? = some x:=by rfl) (hy:X.env.kindOf x=some .local:=by rfl)
  (hsw:swapsWith (.ListComp elt [⟨tg,iter,ifs,0⟩] scope lpos) (some (.Name x pos')) pos.line X.env=pure true:=by rfl)
  (hs:∀x,foldedSetIterable iter X.env x=pure x:=by intro _;rfl):DS X E own own ol (.Assign [.Name x pos'] (.ListComp elt [⟨tg,iter,ifs,0⟩] scope lpos) pos) (cW own i (aL (dN k ks fi gp fc fe))):=fun G0=>
 PS.mono' (WW i C hN hi' hy lc hi hb hsw hs) fun Dn Z H q=>yR (WV fun _ _ _ h=>E3 (te:=tE X.K X.mg E0 fe) (tc:=tT X.K X.mg E0 fc) hk h) ho q
def j5(own:List Nat)(ks:List Nat)(gp:D->R (List D))(fe:DSt->R D):DSt->R aG:=fun Z=>(fe (mask own Z)).bind fun d=>(gp d).noerr.bind fun us=>.ok (.nx (setAll Z ks us))
theorem WX(he:DE X E e fe)(hg:DG X tg ks gp)(ho:ks.all (fun i=>!own.contains i)=true:=by rfl)(hs:swapsWithSole [tg] e pos.line X.env=pure false:=by rfl)(hw:swappedStores [tg] e X.env=pure none:=by rfl)
  (h1:(assignEach [tg] X.env).map (·.2)=[assign tg X.env]:=by rfl):DS X E own own ol (.Assign [tg] e pos) (j5 own ks gp fe):=fun G0=>PS.mono' (RI he hg hs hw h1) fun Dn Z H ⟨G,Zd,ok,s0,q⟩=>by
 refine⟨G,mask own Zd,ok.masked,q.of_bind.mono (fun d _ z v G' H' s r=>?_) fun _ z=>z.step s0⟩
 obtain⟨us,e1,z⟩:=lQ z.of_bind
 refine⟨G',d,s.e,r,RW.ok_of e1 fun ws rw'=>?_⟩
 refine(show eH X.K X.mg G0 X.H₀ own ol Dn G (.nx (setAll Zd ks us)) from z) _ G' H' ((ok.step s).setAll (fun k hk=>?_) rw') (s0.trans s) s.g
 simpa using xa2.mp ho k hk
def WY(own:List Nat)(i j:Nat)(fs:DSt->R (List D)):DSt->R aG:=fun Z=>(fs (mask own Z)).bind fun ds=>match ds with
 |[a,b]=>.ok (.nx ((Z.set i (some a)).set j (some b)))
 |_=>.bad
def fR(Z:DSt)(i:Nat):R (List D):=match Z[i]? with
 |some (some (.lst ds))=>.ok ds
 |_=>.bad
def iH(own:List Nat)(i:Nat)(fe:DSt->R D):DSt->R aG:=fun Z=>(fR Z i).bind fun ds=>(fe (mask own Z)).bind fun d=>bif most ds.length then .ok (.nx (Z.set i (some (.lst (ds++[d]))))) else .bad
def WZ(i:Nat)(fe:DSt->R D):DSt->R aG:=fun Z=>(fR Z i).bind fun ds=>(fe Z).bind fun d=>bif most ds.length&&imm d then .ok (.nx (Z.set i (some (.lst (ds++[d]))))) else .bad
theorem W0{Z:DSt}{i:Nat}{ds:List D}(h:fR Z i=.ok ds):Z[i]? = some (some (.lst ds)):=by
 unfold fR at h
 split at h
 ·cases h;assumption
 ·cases h
theorem W1{Z:DSt}{i:Nat}{e:D}:fR Z i≠.err e:=by
 unfold fR
 split<;>simp
theorem W2(i:Nat){apos cpos:Pos}{np:Pos}(he:DE X E e fe)(ho:own.contains i=true:=by rfl)(hN:X.N[i]? = some x:=by rfl)(hv:iS X.env.scope x:=by first|exact Or.inl rfl|exact Or.inr (Or.inl rfl)|exact Or.inr (Or.inr rfl))(hd:(x==("__debug__":Str))=false:=by decide)
  (hcd:(x==("__classdict__":Str))=false:=by decide)
  (hbase:attributeBase (.Name x np) "append" X.env (eval (.Name x np) X.env)=eval (.Name x np) X.env:=by rfl)
  (hfew:((backTo cpos (starEach [e] X.env)).all (fun x=>!x.1)&&(backToKw cpos (keywordEach [] X.env)).all (fun x=>x.1.isSome)&&decide ([e].length+([]:List Keyword).length+(if ([]:List Keyword).isEmpty then 0 else 1)<30))=true:=by rfl)
  (hline:(apos.endLine==cpos.line)=true:=by rfl) (hs:starEach [e] X.env=(false,eval e X.env)::starEach [] X.env:=by rfl) (hplain:(backTo cpos (starEach [] X.env)).any (·.1)=false:=by rfl)
  (hsw:swapsWith (.Call (.Attribute (.Name x np) "append" apos) [e] [] cpos) none pos.line X.env=pure false:=by rfl) :
  DS X E own own ol (.Expr (.Call (.Attribute (.Name x np) "append" apos) [e] [] cpos) pos) (iH own i fe):=fun G0=>
 PS.mono' (xN (qH PySem.F.plainAttrs_list PySem.F.slot_list_append PySem.F.type_list_append D2 (pv i hN hv hd hcd) (bB he bJ hs) hbase hfew hline hs hplain) hsw) fun Dn Z H ⟨G,Zd,ok,s0,q⟩=>by
 have q1:=q.of_bind
 cases hL:fR Zd i with
 |bad=>rw[hL] at q1;exact q1.elim
 |err e=>exact xat hL W1
 |ok ds=>
  rw[hL] at q1
  have q2:RW ((fe (mask own Zd)).bind fun d=>bif most ds.length then R.ok (.nx (Zd.set i (some (.lst (ds++[d]))))) else .bad) (eH X.K X.mg G0 X.H₀ own ol Dn G) (bH X.K X.mg E G0 X.H₀):=q1
  have hd:=W0 hL
  have hi:i∈own:=by simpa using ho
  obtain⟨a,ds',vs,p1,p2,p3,p4,p5,p6⟩:=ok.mine i _ hi hd
  cases p2
  refine⟨_,p1,.inl ⟨rfl,_,bM.of p3⟩,?_⟩
  refine⟨G,mask own Zd,ok.masked,(show RW ((aA fe aD) (mask own Zd)) _ _ from ?_)⟩
  unfold aA
  have q3:=q2.of_bind
  cases hf:fe (mask own Zd) with
  |bad=>rw[hf] at q3;exact q3.elim
  |err e=>rw[hf] at q3;exact(show bH X.K X.mg E G0 X.H₀ e from q3).step s0
  |ok d=>
   rw[hf] at q3
   rintro ws G' H' s ⟨v,_,e1,r1,r2⟩
   subst e1
   cases r2
   cases hm:most ds.length with
   |false=>rw[hm] at q3;exact(show False from q3).elim
   |true=>
    rw[hm] at q3
    have hlt:ds.length<sizeLine:=xas hm
    have ok':=ok.step s
    refine⟨a,vs,v,rfl,rfl,s.h _ _ p3,by rw[<- p6.length];exact hlt,?_⟩
    exact(show eH X.K X.mg G0 X.H₀ own ol Dn G (.nx (Zd.set i (some (.lst (ds++[d]))))) from q3) Z G' _ (ok'.write hi hd p1 ((p6.mono s.g).append (Reps.cons r1 Reps.nil))) ((s0.trans s).write (o:=.lst vs) p5 (s.c _ _ p3 p4)) s.g
end
def eZ(ks:List Nat)(gp:D->R (List D))(fb:DSt->R aG):List D->DSt->R aG
 |[],Z=>.ok (.nx Z)
 |d::ds,Z=>(gp d).noerr.bind fun us=>(fb (setAll Z ks us)).bind fun o=>match o with
  |.nx Z'=>eZ ks gp fb ds Z'
  |.ct Z'=>eZ ks gp fb ds Z'
  |.bk Z'=>.ok (.nx Z')
  |.rt d=>.ok (.rt d)
  |.rf d=>.ok (.rf d)
def j6(own ks:List Nat)(gp:D->R (List D))(fi:DSt->R (List D))(fb:DSt->R aG):DSt->R aG:=fun Z=>(fi (mask own Z)).bind fun ds=>eZ ks gp fb ds Z
structure XL(X:Cx):Prop where
 own:PassesOwn (model X.prog X.w) X.A X.env X.xe
section
variable{X:Cx}{E:XK}{own ol ks:List Nat}{tg iter:Expr}{body:List Stmt}{gp:D->R (List D)}{fi:DSt->R (List D)}{fb:DSt->R aG}{pos:Pos}
theorem lV(L:XL X)(hc:X.calm=true)(hi:DI X E tg iter fi)(hg:DG X tg ks gp)(hb:gK X E own own own body fb)(ho:ks.all (fun i=>!own.contains i)=true:=by rfl)(hs:∀x,foldedSetIterable iter X.env x=pure x:=by intro _;rfl) :
  DS X E own own ol (.For tg iter body [] pos) (j6 own ks gp fi fb):=fun G0=>PS.mono' (R0 L.own hc hi hg (hb G0) hs) fun Dn Z H ⟨G,Zd,ok,s0,q⟩=>by
 refine⟨G,mask own Zd,ok.masked,q.of_bind.mono (fun ds _ z J G1 H1 s1 it=>?_) fun _ z=>z.step s0⟩
 have hko:∀k∈ks,k∉own:=fun k hk=>by simpa using xa2.mp ho k hk
 refine⟨fun i m Z' H'=>m=ds.length-i/\i<=ds.length/\∃G' Zd',Ok X.K X.mg X.H₀ own Zd' Z' G' H'/\aM G1 G'/\Step G0 X.H₀ G' H'/\RW (eZ ks gp fb (ds.drop i) Zd') (eH X.K X.mg G0 X.H₀ own ol Dn G1) (bH X.K X.mg E G0 X.H₀),
  ⟨ds.length,by simp,xbz _,G1,Zd,ok.step s1,aM.refl _,s0.trans s1,z.mono (fun _ _ z=>z.shift s1.g) fun _ z=>z⟩,?_⟩
 rintro i m Z' H' ⟨rfl,hi,G',Zd',ok',e',s',w⟩
 by_cases hlt:i<ds.length
 ·right
  obtain⟨d,hd⟩:∃d,ds[i]? = some d:=⟨ds[i],by simp[hlt]⟩
  obtain⟨g1,g2⟩:=it.turn H' i d (e'.trans ok'.ext) hd
  have hdrop:ds.drop i=d::ds.drop (i+1):=by
   rw[List.drop_eq_getElem_cons hlt]
   congr 1
   exact xbp ((xax hlt).symm.trans hd)
  rw[hdrop] at w
  refine⟨g1,fun σ2 H2=>i+1<=ds.length/\∃G' Zd',Ok X.K X.mg X.H₀ own Zd' σ2 G' H2/\aM G1 G'/\Step G0 X.H₀ G' H2/\RW (eZ ks gp fb (ds.drop (i+1)) Zd') (eH X.K X.mg G0 X.H₀ own ol Dn G1) (bH X.K X.mg E G0 X.H₀),
   fun σ2 H2 ⟨h1,h2⟩=>⟨ds.length-(i+1),by omega,rfl,h1,h2⟩,fun x H2 hy=>?_⟩
  obtain⟨G2,s2,r2⟩:=g2 x H2 hy G' e' ok'.ext
  unfold eZ at w
  obtain⟨us,e1,w⟩:=lQ w.of_bind
  refine⟨G2,d,s2.e,r2,RW.ok_of e1 fun ws rws=>?_⟩
  have ok2:=(ok'.step s2).setAll hko rws
  refine⟨G2,_,ok2,s'.trans s2,w.of_bind.mono (fun o _ z=>?_) fun _ z=>z⟩
  cases o with
  |nx σ3=>exact fun σ4 G4 H4 ok4 s4 e4=>⟨hlt,G4,σ3,ok4,(e'.trans s2.g).trans e4,s4,z⟩
  |ct σ3=>exact fun σ4 G4 H4 ok4 s4 e4=>⟨hlt,G4,σ3,ok4,(e'.trans s2.g).trans e4,s4,z⟩
  |bk σ3=>exact fun σ4 G4 H4 ok4 s4 e4=>(show eH X.K X.mg G0 X.H₀ own ol Dn G1 (.nx σ3) from z) σ4 G4 H4 ok4 s4 ((e'.trans s2.g).trans e4)
  |rt d=>exact z
  |rf d=>exact z
 ·left
  have hi2:i=ds.length:=by omega
  subst hi2
  rw[List.drop_length] at w
  refine⟨it.stop H' (e'.trans ok'.ext),?_⟩
  unfold eZ at w
  exact(show eH X.K X.mg G0 X.H₀ own ol Dn G1 (.nx Zd') from w) Z' G' H' ok' s' e'
end
def fH(n:Nat)(ds:List D):DSt:=ds.map some++List.replicate (n-ds.length) none
def fin:R aG->R D
 |.ok (.rt d)=>.ok d
 |.ok (.rf ds)=>.ok (.lst ds)
 |.ok (.nx _)=>.ok .non
 |.ok _=>.bad
 |.err e=>.err e
 |.bad=>.bad
def b6(n nN:Nat)(body:DSt->R aG):List D->R D:=fun ds=>bif ds.length==n then fin (body (fH nN ds)) else .bad
theorem Reps.startOk{K:xFg}{mg:Str->Option Value}{G H:Hp}(e:aM G H):∀{ds:List D} {vs:List V} (k:Nat),Reps K mg G ds vs->bZ K mg (ds.map some++List.replicate k none) (vs.map some++List.replicate k none) G H
 |[],_,k,h=>by
  cases h
  have:=bZ.nones (K:=K) (mg:=mg) (G:=G) (H:=H) (Zd:=[]) (Z:=[]) ⟨e,rfl,fun i d q=>by simp at q⟩ k
  simpa using this
 |d::ds,_,k,⟨v,r,h1,h2,h3⟩=>by
  subst h1
  exact(Reps.startOk e k h3).cons (x:=some d) (y:=some v) fun d' q=>by cases q;exact⟨v,rfl,h2⟩
section
variable{P:Program}{w:World}{K:xFg}{mg:Str->Option Value}{base:Heap}
theorem aT.mk'{x qual:Str}{st:Stmt}{f:Addr}{fd:FuncData}{N ps:List Str}{k n nN:Nat}{own':List Nat}{body:DSt->R aG}(F:gE K x qual st f fd)(S:gU N ps (cF st))(hm:mg x=some (.ref f))(b:eS K fd ps [])
  (hn:ps.length=n) (hN:N.length=nN)
  (hb:∀(X:Cx) (E:XK),(∃cdv A outer s H,X=dX (bW P w) P w K mg base N qual (cF st) f cdv A outer s H E)->XC X E k->XL X->gK X E [] own' [] (fX st) body):aT P w K mg base (k+1) x (b6 n nN body):=by
 refine⟨f,fd,ps,F.okX S (fun vs H Q E h=>?_) (fun cdv A outer s H vs Q E hr hsp=>?_),hm,F.kp,b⟩
 ·obtain⟨G,ds,e,r,q⟩:=h
  by_cases hd:ds.length=n
  ·rw[<- r.length,hd,hn]
  ·have:(ds.length==n)=false:=by simpa using hd
   unfold b6 at q
   rw[this] at q
   exact(show False from q).elim
 ·obtain⟨G,ds,e,r,q⟩:=hsp
  have hd:ds.length=n:=by
   by_cases hd:ds.length=n
   ·exact hd
   ·have:(ds.length==n)=false:=by simpa using hd
    unfold b6 at q
    rw[this] at q
    exact(show False from q).elim
  unfold b6 at q
  rw[show (ds.length==n)=true by simpa using hd] at q
  have q':RW (fin (body (fH nN ds))) (aQ K mg Q G H) (bH K mg E G H):=q
  refine⟨_,hb _ E ⟨cdv,A,outer,s,H,rfl⟩ ⟨rfl,hr,uC⟩ ⟨PassesOwn.leaving⟩ G,G,fH nN ds,?_,.refl e,?_⟩
  ·have:=Reps.startOk e (N.length-vs.length) r
   unfold L2.start fH
   rw[<- hN,r.length]
   exact .zero this
  ·cases hbd:body (fH nN ds) with
   |bad=>rw[hbd] at q';exact q'
   |err e=>rw[hbd] at q';exact q'
   |ok o=>
    rw[hbd] at q'
    cases o with
    |rt d=>exact fun v G' H' s r=>(show aQ K mg Q G H d from q') v G' H' s r
    |rf es=>
     intro a vs G' H' s n e g r
     have q2:aQ K mg Q G H (.lst es):=q'
     have sg:aM G' (aU G' a (.lst vs)):=same_upd g
     refine q2 (.ref a) (aU G' a (.lst vs)) H' ⟨s.g.trans sg,s.h,fun b u p=>?_,fun b u p1 p2=>?_⟩ ⟨a,vs,rfl,bM.of bV,r.mono sg⟩
     ·by_cases hb:b=a
      ·subst hb;rw[bV] at p;cases p;exact e
      ·rw[bF hb] at p;exact s.e b u p
     ·have hb:b≠a:=cU p1 n
      rw[bF hb];exact s.c b u p1 p2
    |nx Z=>exact fun Z' G' H' ok s _=>(show aQ K mg Q G H .non from q') .non G' H' s rfl
    |bk Z=>exact(show False from q').elim
    |ct Z=>exact(show False from q').elim
end
theorem XC.lc{X:Cx}{E:XK}{k:Nat}(C:XC X E k)(scope:Scope)(NY:List Str)(s0:Shared)(H0:Hp)(Ca:Addr)(ex:List Addr):XC (cO X scope NY s0 H0 Ca ex) E0 k:=⟨C.calm,C.room,EH⟩
end DL
namespace DL
open L2
mutual
def bC:D->D->Bool
 |.non,.non=>true
 |.bl a,.bl b=>a==b
 |.int a,.int b=>a==b
 |.str a,.str b=>a==b
 |.bl a,.int b=>(if a then (1:Int) else 0)==b
 |.int a,.bl b=>a==(if b then (1:Int) else 0)
 |.tup xs,.tup ys=>eqDs xs ys
 |.lst xs,.lst ys=>eqDs xs ys
 |_,_=>false
def eqDs:List D->List D->Bool
 |[],[]=>true
 |x::xs,y::ys=>bC x y&&eqDs xs ys
 |_,_=>false
end
def bN:Nat->D->Bool
 |_,.non=>true
 |_,.bl _=>true
 |_,.int _=>true
 |_,.str _=>true
 |n+1,.tup xs=>xs.all (bN n)
 |n+1,.lst xs=>xs.all (bN n)
 |_,_=>false
theorem uN:∀(xs ys:List D),((List.range (min xs.length ys.length)).all (fun j=>bC (xs.getD j .non) (ys.getD j .non))&&xs.length==ys.length)=eqDs xs ys
 |[],[]=>by unfold eqDs;rfl
 |[],_::_=>by unfold eqDs;simp
 |_::_,[]=>by unfold eqDs;simp
 |x::xs,y::ys=>by
  unfold eqDs
  rw[<- uN xs ys]
  simp only[xad,Nat.succ_min_succ,List.range_succ_eq_map,xcv,List.getD_cons_zero,List.all_map,Bool.and_assoc]
  congr 2
  rw[xcr];simp
theorem uO:∀(n:Nat) (d:D),bN n d=true->bC d d=true:=by
 intro n
 induction n with
 |zero=>intro d h;cases d<;>first|(simp[bN] at h;done)|(unfold bC;simp;done)
 |succ n ih=>
  have hl:∀xs:List D,xs.all (bN n)=true->eqDs xs xs=true:=fun xs=>by
   induction xs with
   |nil=>intro _;unfold eqDs;rfl
   |cons x xs ihx=>
    intro h
    rw[xcv,xap] at h
    unfold eqDs
    rw[ih x h.1,ihx h.2];rfl
  intro d h
  cases d with
  |tup xs=>unfold bC;exact hl xs (by unfold bN at h;exact h)
  |lst xs=>unfold bC;exact hl xs (by unfold bN at h;exact h)
  |_=>first|(simp[bN] at h;done)|(unfold bC;simp;done)
def eL:D->Option V
 |.non=>some .non
 |.bl b=>some (.bl b)
 |.int i=>some (.int i)
 |.str x=>some (.str x)
 |_=>none
theorem gV{K:xFg}{mg:Str->Option Value}{G:Hp}{d:D}{v x:V}(h:eL d=some v)(r:Rep K mg G d x):x=v/\m7 v=true:=by
 cases d<;>first|(simp[eL] at h;done)|(simp only[eL,Option.some.injEq] at h;subst h;simp only[Rep] at r;exact⟨r,rfl⟩)
theorem W3{d d':D}{v v':V}(h:eL d=some v)(h':eL d'=some v'):bC d d'=qG v v':=by
 cases d<;>first|(simp[eL] at h;done)|(simp only[eL,Option.some.injEq] at h;subst h;cases d'<;>first|(simp[eL] at h';done)|(simp only[eL,Option.some.injEq] at h';subst h';unfold bC qG;first|rfl|simp))
theorem E8{d d':D}{v:V}(h:eL d=some v)(h':eL d'=some v):d=d':=by
 cases d<;>first|(simp[eL] at h;done)|(simp only[eL,Option.some.injEq] at h;subst h;cases d'<;>first|(simp[eL] at h';done)|(simp only[eL,Option.some.injEq] at h';cases h';rfl))
theorem iZ{n:Nat}{d:D}(h:bN n d=true):(∃v,eL d=some v)\/(∃m xs,n=m+1/\d=.tup xs/\xs.all (bN m)=true)\/(∃m xs,n=m+1/\d=.lst xs/\xs.all (bN m)=true):=by
 cases d with
 |tup xs=>cases n with
  |zero=>simp[bN] at h
  |succ m=>exact .inr (.inl ⟨m,xs,rfl,rfl,by unfold bN at h;exact h⟩)
 |lst xs=>cases n with
  |zero=>simp[bN] at h
  |succ m=>exact .inr (.inr ⟨m,xs,rfl,rfl,by unfold bN at h;exact h⟩)
 |non=>exact .inl ⟨_,rfl⟩
 |bl b=>exact .inl ⟨_,rfl⟩
 |int i=>exact .inl ⟨_,rfl⟩
 |str x=>exact .inl ⟨_,rfl⟩
 |_=>simp[bN] at h
section
variable{X:Cx}{pins:List (Addr×Obj)}{Z:St}{G H:Hp}{s:Shared}
theorem E9(I:aH X pins Z H s){a:Addr}{xs ys:List V}(h1:cB X.K H a xs)(h2:bM X.K H a ys):False:=by
 obtain⟨_,_,⟨o,e,c,_⟩,_⟩:=I.tuple h1
 obtain⟨_,_,⟨o',_,e',c',_⟩,_⟩:=I.list h2
 rw[e] at e';cases e'
 rw[c] at c'
 exact xat c' (by simp)
theorem uP{v:V}{a:Addr}(h:m7 v=true):v≠.ref a:=by rintro rfl;cases h
theorem yS(I:aH X pins Z H s)(e:aM G H):∀(n:Nat) {d d':D} {v:V},bN n d=true->bN n d'=true->Rep X.K X.mg G d v->Rep X.K X.mg G d' v->d=d':=by
 intro n
 induction n with
 |zero=>
  intro d d' v h h' r r'
  rcases iZ h with⟨w,hw⟩|⟨_,_,z,_⟩|⟨_,_,z,_⟩<;>try omega
  rcases iZ h' with⟨w',hw'⟩|⟨_,_,z,_⟩|⟨_,_,z,_⟩<;>try omega
  have e1:=(gV hw r).1
  have e2:=(gV hw' r').1
  rw[<- e1] at hw;rw[<- e2] at hw'
  exact E8 hw hw'
 |succ n ih=>
  have hl:∀(xs ys:List D) (vs:List V),xs.all (bN n)=true->ys.all (bN n)=true->Reps X.K X.mg G xs vs->Reps X.K X.mg G ys vs->xs=ys:=by
   intro xs
   induction xs with
   |nil=>
    intro ys vs _ _ r r'
    cases r
    cases ys with
    |nil=>rfl
    |cons y ys=>obtain⟨_,_,z,_⟩:=r';cases z
   |cons x xs ihx=>
    intro ys vs h h' r r'
    obtain⟨v,t,rfl,r1,r2⟩:=r
    cases ys with
    |nil=>cases r'
    |cons y ys=>
     obtain⟨v',t',z,r1',r2'⟩:=r'
     cases z
     rw[xcv,xap] at h h'
     rw[ih h.1 h'.1 r1 r1',ihx ys _ h.2 h'.2 r2 r2']
  intro d d' v h h' r r'
  rcases iZ h with⟨w,hw⟩|⟨m,xs,hm,rfl,hx⟩|⟨m,xs,hm,rfl,hx⟩
  ·rcases iZ h' with⟨w',hw'⟩|⟨m',ys,hm',rfl,hy⟩|⟨m',ys,hm',rfl,hy⟩
   ·have e1:=(gV hw r).1
    have e2:=(gV hw' r').1
    rw[<- e1] at hw;rw[<- e2] at hw'
    exact E8 hw hw'
   ·obtain⟨e1,e2⟩:=gV hw r
    obtain⟨a,vs,z,_⟩:=r'
    exact xat (e1.symm.trans z) (uP e2)
   ·obtain⟨e1,e2⟩:=gV hw r
    obtain⟨a,vs,z,_⟩:=r'
    exact xat (e1.symm.trans z) (uP e2)
  ·obtain rfl:n=m:=by omega
   obtain⟨a,vs,rfl,q1,q2⟩:=r
   rcases iZ h' with⟨w',hw'⟩|⟨m',ys,hm',rfl,hy⟩|⟨m',ys,hm',rfl,hy⟩
   ·obtain⟨e1,e2⟩:=gV hw' r'
    exact xat e1.symm (uP e2)
   ·obtain rfl:n=m':=by omega
    obtain⟨a',vs',z,q1',q2'⟩:=r'
    cases z
    have:=I.tuple_inj (aM.sqT e q1) (aM.sqT e q1')
    subst this
    rw[hl xs ys _ hx hy q2 q2']
   ·obtain⟨a',vs',z,q1',q2'⟩:=r'
    cases z
    exact(E9 I (aM.sqT e q1) (e.seq q1')).elim
  ·obtain rfl:n=m:=by omega
   obtain⟨a,vs,rfl,q1,q2⟩:=r
   rcases iZ h' with⟨w',hw'⟩|⟨m',ys,hm',rfl,hy⟩|⟨m',ys,hm',rfl,hy⟩
   ·obtain⟨e1,e2⟩:=gV hw' r'
    exact xat e1.symm (uP e2)
   ·obtain⟨a',vs',z,q1',q2'⟩:=r'
    cases z
    exact(E9 I (aM.sqT e q1') (e.seq q1)).elim
   ·obtain rfl:n=m':=by omega
    obtain⟨a',vs',z,q1',q2'⟩:=r'
    cases z
    have:=I.list_inj (e.seq q1) (e.seq q1')
    subst this
    rw[hl xs ys _ hx hy q2 q2']
theorem FB{α:Type}{us:List α}{j:Nat}(h:j<us.toArray.size):us.toArray[j]=us[j]'(by simpa using h):=by simp
theorem FC{α:Type}{xs:List α}{d:α}{j:Nat}(h:j<xs.length):xs.getD j d=xs[j]:=by simp[List.getD,h]
open SeqAt in
theorem uQ{A:Around}{n:Nat}(ih:∀{d d':D} {x x':V} {u u':Value},bN n d=true->bN n d'=true->Rep X.K X.mg G d x->aZ x u->Rep X.K X.mg G d' x'->aZ x' u'->EqAt A s u u' (bC d d'))
  {xs ys:List D} {vs ws:List V} {us us':List Value} (h:xs.all (bN n)=true) (h':ys.all (bN n)=true) (r:Reps X.K X.mg G xs vs) (q:bA vs us) (r':Reps X.K X.mg G ys ws) (q':bA ws us') :
  ∀j (h1:j<us.toArray.size) (h2:j<us'.toArray.size),EqAt A s us.toArray[j] us'.toArray[j] (bC (xs.getD j .non) (ys.getD j .non)):=by
 intro j h1 h2
 have l1:j<vs.length:=by rw[q.length];simpa using h1
 have l2:j<ws.length:=by rw[q'.length];simpa using h2
 have l3:j<xs.length:=by rw[r.length];exact l1
 have l4:j<ys.length:=by rw[r'.length];exact l2
 obtain⟨v,e1,e2⟩:=r.get (i:=j) (d:=xs[j]) (by simp[l3])
 obtain⟨w,e3,e4⟩:=r'.get (i:=j) (d:=ys[j]) (by simp[l4])
 obtain⟨u,e5,e6⟩:=q.get e1
 obtain⟨u',e7,e8⟩:=q'.get e3
 have z1:us.toArray[j]=u:=by rw[FB h1];exact(xan.mp e5).2
 have z2:us'.toArray[j]=u':=by rw[FB h2];exact(xan.mp e7).2
 rw[z1,z2,FC l3,FC l4]
 exact ih (xa2.mp h _ (xcd l3)) (xa2.mp h' _ (xcd l4)) e2 e6 e4 e8
theorem FE(A:Around):A.in1.units=A.units+1:=rfl
open SeqAt in
theorem W4{A:Around}{x x':V}{u u':Value}(q:aZ x u)(q':aZ x' u')(f:m7 x=true)(f':m7 x'=true):RcAt A s u u' (qG x x')/\RcNeAt A s u u' (!qG x x'):=by
 cases x with
 |non=>
  cases (show u=Value.none from q)
  cases x' with
  |non=>cases (show u'=Value.none from q');exact⟨RcAt.none_none,RcNeAt.none_none⟩
  |bl b=>cases (show u'=Value.bool b from q');exact⟨RcAt.none_bool b,RcNeAt.none_bool b⟩
  |int b=>obtain⟨tb,rfl⟩:=(show ∃t,u'=Value.int b t from q');exact⟨RcAt.none_int b tb,RcNeAt.none_int b tb⟩
  |str b=>obtain⟨tb,rfl⟩:=(show ∃t,u'=Value.str b t from q');exact⟨RcAt.none_str b tb,RcNeAt.none_str b tb⟩
  |_=>cases f'
 |bl a=>
  cases (show u=Value.bool a from q)
  cases x' with
  |non=>cases (show u'=Value.none from q');exact⟨RcAt.bool_none a,RcNeAt.bool_none a⟩
  |bl b=>cases (show u'=Value.bool b from q');exact⟨RcAt.bool_bool a b,RcNeAt.bool_bool a b⟩
  |int b=>obtain⟨tb,rfl⟩:=(show ∃t,u'=Value.int b t from q');exact⟨RcAt.bool_int a b tb,RcNeAt.bool_int a b tb⟩
  |str b=>obtain⟨tb,rfl⟩:=(show ∃t,u'=Value.str b t from q');exact⟨RcAt.bool_str a b tb,RcNeAt.bool_str a b tb⟩
  |_=>cases f'
 |int a=>
  obtain⟨ta,rfl⟩:=(show ∃t,u=Value.int a t from q)
  cases x' with
  |non=>cases (show u'=Value.none from q');exact⟨RcAt.int_none a ta,RcNeAt.int_none a ta⟩
  |bl b=>cases (show u'=Value.bool b from q');exact⟨RcAt.int_bool a ta b,RcNeAt.int_bool a ta b⟩
  |int b=>obtain⟨tb,rfl⟩:=(show ∃t,u'=Value.int b t from q');exact⟨RcAt.int_int a ta b tb,RcNeAt.int_int a ta b tb⟩
  |str b=>obtain⟨tb,rfl⟩:=(show ∃t,u'=Value.str b t from q');exact⟨RcAt.int_str a ta b tb,RcNeAt.int_str a ta b tb⟩
  |_=>cases f'
 |str a=>
  obtain⟨ta,rfl⟩:=(show ∃t,u=Value.str a t from q)
  cases x' with
  |non=>cases (show u'=Value.none from q');exact⟨RcAt.str_none a ta,RcNeAt.str_none a ta⟩
  |bl b=>cases (show u'=Value.bool b from q');exact⟨RcAt.str_bool a ta b,RcNeAt.str_bool a ta b⟩
  |int b=>obtain⟨tb,rfl⟩:=(show ∃t,u'=Value.int b t from q');exact⟨RcAt.str_int a ta b tb,RcNeAt.str_int a ta b tb⟩
  |str b=>obtain⟨tb,rfl⟩:=(show ∃t,u'=Value.str b t from q');exact⟨RcAt.str_str a ta b tb,RcNeAt.str_str a ta b tb⟩
  |_=>cases f'
 |_=>cases f
open SeqAt in
theorem uR{A:Around}{x:V}{u:Value}{b:Addr}{items:Array Value}(fx:m7 x=true)(q:aZ x u)(hA:A.units<cLine)(h:s.heap.IsTuple b items\/s.heap.IsList b items):EqAt A s u (.ref b) false/\EqAt A s (.ref b) u false/\RcAt A s u (.ref b) false/\RcAt A s (.ref b) u false/\RcNeAt A s u (.ref b) true/\RcNeAt A s (.ref b) u true:=by
 cases x with
 |non=>
  obtain rfl:u=Value.none:=q
  rcases h with h|h
  ·exact⟨EqAt.none_tuple h hA,EqAt.tuple_none h hA,RcAt.none_tuple h hA,RcAt.tuple_none h hA,RcNeAt.none_tuple h hA,RcNeAt.tuple_none h hA⟩
  ·exact⟨EqAt.none_list h hA,EqAt.list_none h hA,RcAt.none_list h hA,RcAt.list_none h hA,RcNeAt.none_list h hA,RcNeAt.list_none h hA⟩
 |bl a=>
  obtain rfl:u=Value.bool a:=q
  rcases h with h|h
  ·exact⟨EqAt.bool_tuple _ h hA,EqAt.tuple_bool _ h hA,RcAt.bool_tuple _ h hA,RcAt.tuple_bool _ h hA,RcNeAt.bool_tuple _ h hA,RcNeAt.tuple_bool _ h hA⟩
  ·exact⟨EqAt.bool_list _ h hA,EqAt.list_bool _ h hA,RcAt.bool_list _ h hA,RcAt.list_bool _ h hA,RcNeAt.bool_list _ h hA,RcNeAt.list_bool _ h hA⟩
 |int a=>
  obtain⟨t,rfl⟩:∃t,u=Value.int a t:=q
  rcases h with h|h
  ·exact⟨EqAt.int_tuple _ _ h hA,EqAt.tuple_int _ _ h hA,RcAt.int_tuple _ _ h hA,RcAt.tuple_int _ _ h hA,RcNeAt.int_tuple _ _ h hA,RcNeAt.tuple_int _ _ h hA⟩
  ·exact⟨EqAt.int_list _ _ h hA,EqAt.list_int _ _ h hA,RcAt.int_list _ _ h hA,RcAt.list_int _ _ h hA,RcNeAt.int_list _ _ h hA,RcNeAt.list_int _ _ h hA⟩
 |str a=>
  obtain⟨t,rfl⟩:∃t,u=Value.str a t:=q
  rcases h with h|h
  ·exact⟨EqAt.str_tuple _ _ h hA,EqAt.tuple_str _ _ h hA,RcAt.str_tuple _ _ h hA,RcAt.tuple_str _ _ h hA,RcNeAt.str_tuple _ _ h hA,RcNeAt.tuple_str _ _ h hA⟩
  ·exact⟨EqAt.str_list _ _ h hA,EqAt.list_str _ _ h hA,RcAt.str_list _ _ h hA,RcAt.list_str _ _ h hA,RcNeAt.str_list _ _ h hA,RcNeAt.list_str _ _ h hA⟩
 |_=>cases fx
theorem qV{xs ys:List D}:bC (.tup xs) (.tup ys)=eqDs xs ys/\bC (.lst xs) (.lst ys)=eqDs xs ys/\bC (.tup xs) (.lst ys)=false/\bC (.lst xs) (.tup ys)=false:=by
 refine⟨?_,?_,?_,?_⟩<;>(unfold bC;rfl)
theorem uS{d:D}{v:V}{ys:List D}(h:eL d=some v):bC d (.tup ys)=false/\bC d (.lst ys)=false/\bC (.tup ys) d=false/\bC (.lst ys) d=false:=by
 cases d<;>first|(simp[eL] at h;done)|(refine⟨?_,?_,?_,?_⟩<;>(unfold bC;rfl))
set_option maxHeartbeats 4000000 in
open SeqAt in
theorem yT(I:aH X pins Z H s)(e:aM G H):∀(n:Nat) {A:Around} {d d':D} {x x':V} {u u':Value},A.units+n<cLine->bN n d=true->bN n d'=true->Rep X.K X.mg G d x->aZ x u->Rep X.K X.mg G d' x'->aZ x' u'->
  EqAt A s u u' (bC d d')/\RcAt A s u u' (bC d d')/\RcNeAt A s u u' (!bC d d'):=by
 have ff:∀{A:Around} {d d':D} {v v' x x':V} {u u':Value},eL d=some v->eL d'=some v'->Rep X.K X.mg G d x->aZ x u->Rep X.K X.mg G d' x'->aZ x' u'->EqAt A s u u' (bC d d')/\RcAt A s u u' (bC d d')/\RcNeAt A s u u' (!bC d d'):=by
  intro A d d' v v' x x' u u' hv hv' r q r' q'
  obtain⟨rfl,f1⟩:=gV hv r
  obtain⟨rfl,f2⟩:=gV hv' r'
  rw[W3 hv hv']
  exact⟨UF q q' f1 f2,W4 q q' f1 f2⟩
 have seq:∀{d:D} {m:Nat} {xs:List D} {x:V} {u:Value},d=.tup xs\/d=.lst xs->Rep X.K X.mg G d x->aZ x u->∃b items,u=.ref b/\(s.heap.IsTuple b items\/s.heap.IsList b items):=by
  intro d m xs x u hd r q
  rcases hd with rfl|rfl
  ·obtain⟨a,vs,rfl,q1,q2⟩:=r
   obtain⟨us,v1,t1,_⟩:=I.tuple (aM.sqT e q1)
   exact⟨a,_,q,.inl t1⟩
  ·obtain⟨a,vs,rfl,q1,q2⟩:=r
   obtain⟨us,v1,t1,_⟩:=I.list (e.seq q1)
   exact⟨a,_,q,.inr t1.isList⟩
 intro n
 induction n with
 |zero=>
  intro A d d' x x' u u' hu h h' r q r' q'
  rcases iZ h with⟨w,hw⟩|⟨_,_,z,_⟩|⟨_,_,z,_⟩<;>try omega
  rcases iZ h' with⟨w',hw'⟩|⟨_,_,z,_⟩|⟨_,_,z,_⟩<;>try omega
  exact ff hw hw' r q r' q'
 |succ n ih=>
  intro A d d' x x' u u' hu h h' r q r' q'
  have hA:A.units<cLine:=by omega
  have ih':∀{d d':D} {x x':V} {u u':Value},bN n d=true->bN n d'=true->Rep X.K X.mg G d x->aZ x u->Rep X.K X.mg G d' x'->aZ x' u'->EqAt A.in1 s u u' (bC d d'):=
   fun a b c d e f=>(ih (A:=A.in1) (by rw[FE];omega) a b c d e f).1
  rcases iZ h with⟨w,hw⟩|⟨m,xs,hm,rfl,hx⟩|⟨m,xs,hm,rfl,hx⟩
  ·rcases iZ h' with⟨w',hw'⟩|⟨m',ys,hm',rfl,hy⟩|⟨m',ys,hm',rfl,hy⟩
   ·exact ff hw hw' r q r' q'
   ·obtain⟨rfl,f1⟩:=gV hw r
    obtain⟨b,items,rfl,hb⟩:=seq (m:=m') (.inl rfl) r' q'
    obtain⟨z1,_,z3,_,z5,_⟩:=uR f1 q hA hb
    rw[(uS hw).1];exact⟨z1,z3,z5⟩
   ·obtain⟨rfl,f1⟩:=gV hw r
    obtain⟨b,items,rfl,hb⟩:=seq (m:=m') (.inr rfl) r' q'
    obtain⟨z1,_,z3,_,z5,_⟩:=uR f1 q hA hb
    rw[(uS hw).2.1];exact⟨z1,z3,z5⟩
  ·obtain rfl:n=m:=by omega
   rcases iZ h' with⟨w',hw'⟩|⟨m',ys,hm',rfl,hy⟩|⟨m',ys,hm',rfl,hy⟩
   ·obtain⟨rfl,f1⟩:=gV hw' r'
    obtain⟨b,items,rfl,hb⟩:=seq (m:=n) (.inl rfl) r q
    obtain⟨_,z2,_,z4,_,z6⟩:=uR f1 q' hA hb
    rw[(uS hw').2.2.1];exact⟨z2,z4,z6⟩
   ·obtain rfl:n=m':=by omega
    have hr:=r;have hr':=r'
    obtain⟨a,vs,rfl,q1,q2⟩:=r
    obtain rfl:u=Value.ref a:=q
    obtain⟨us,v1,t1,_⟩:=I.tuple (aM.sqT e q1)
    obtain⟨b,ws,rfl,q1',q2'⟩:=r'
    obtain rfl:u'=Value.ref b:=q'
    obtain⟨us',v1',t1',_⟩:=I.tuple (aM.sqT e q1')
    have t1:s.heap.IsTuple a us.toArray:=t1
    have t1':s.heap.IsTuple b us'.toArray:=t1'
    have z:=RcAt.tuples t1 t1' hA (uQ ih' hx hy q2 v1 q2' v1')
    have zn:=RcNeAt.tuples t1 t1' hA (uQ ih' hx hy q2 v1 q2' v1')
    have hz:((List.range (min us.toArray.size us'.toArray.size)).all (fun j=>bC (xs.getD j .non) (ys.getD j .non))&&us.toArray.size==us'.toArray.size)=bC (.tup xs) (.tup ys):=by
     rw[qV.1,<- uN]
     simp only[xao,<- v1.length,<- v1'.length,<- q2.length,<- q2'.length]
    rw[hz] at z zn
    refine⟨?_,z,zn⟩
    by_cases hab:a=b
    ·subst hab
     have ed:=yS I e (n+1) h h' hr hr'
     rw[ed,uO _ _ h'];exact EqAt.same _
    ·exact EqAt.of_refs hab z
   ·obtain⟨a,vs,rfl,q1,q2⟩:=r
    obtain rfl:u=Value.ref a:=q
    obtain⟨us,v1,t1,_⟩:=I.tuple (aM.sqT e q1)
    obtain⟨b,ws,rfl,q1',q2'⟩:=r'
    obtain rfl:u'=Value.ref b:=q'
    obtain⟨us',v1',t1',_⟩:=I.list (e.seq q1')
    have t1:s.heap.IsTuple a us.toArray:=t1
    rw[qV.2.2.1]
    exact⟨EqAt.tuple_list t1 t1'.isList hA,RcAt.tuple_list t1 t1'.isList hA,RcNeAt.tuple_list t1 t1'.isList hA⟩
  ·obtain rfl:n=m:=by omega
   rcases iZ h' with⟨w',hw'⟩|⟨m',ys,hm',rfl,hy⟩|⟨m',ys,hm',rfl,hy⟩
   ·obtain⟨rfl,f1⟩:=gV hw' r'
    obtain⟨b,items,rfl,hb⟩:=seq (m:=n) (.inr rfl) r q
    obtain⟨_,z2,_,z4,_,z6⟩:=uR f1 q' hA hb
    rw[(uS hw').2.2.2];exact⟨z2,z4,z6⟩
   ·obtain⟨a,vs,rfl,q1,q2⟩:=r
    obtain rfl:u=Value.ref a:=q
    obtain⟨us,v1,t1,_⟩:=I.list (e.seq q1)
    obtain⟨b,ws,rfl,q1',q2'⟩:=r'
    obtain rfl:u'=Value.ref b:=q'
    obtain⟨us',v1',t1',_⟩:=I.tuple (aM.sqT e q1')
    have t1':s.heap.IsTuple b us'.toArray:=t1'
    rw[qV.2.2.2]
    exact⟨EqAt.list_tuple t1.isList t1' hA,RcAt.list_tuple t1.isList t1' hA,RcNeAt.list_tuple t1.isList t1' hA⟩
   ·obtain rfl:n=m':=by omega
    have hr:=r;have hr':=r'
    obtain⟨a,vs,rfl,q1,q2⟩:=r
    obtain rfl:u=Value.ref a:=q
    obtain⟨us,v1,t1,_⟩:=I.list (e.seq q1)
    obtain⟨b,ws,rfl,q1',q2'⟩:=r'
    obtain rfl:u'=Value.ref b:=q'
    obtain⟨us',v1',t1',_⟩:=I.list (e.seq q1')
    have both:RcAt A s (.ref a) (.ref b) (bC (.lst xs) (.lst ys))/\RcNeAt A s (.ref a) (.ref b) (!bC (.lst xs) (.lst ys)):=by
     by_cases hl:us.toArray.size=us'.toArray.size
     ·have z:=RcAt.lists t1.isList t1'.isList hl hA (uQ ih' hx hy q2 v1 q2' v1')
      have zn:=RcNeAt.lists t1.isList t1'.isList hl hA (uQ ih' hx hy q2 v1 q2' v1')
      have hz:(List.range us.toArray.size).all (fun j=>bC (xs.getD j .non) (ys.getD j .non))=bC (.lst xs) (.lst ys):=by
       have hl':xs.length=ys.length:=by rw[q2.length,q2'.length,v1.length,v1'.length];simpa using hl
       rw[qV.2.1,<- uN,hl',Nat.min_self,xao,<- v1.length,<- q2.length,hl']
       simp
      rw[hz] at z zn
      exact⟨z,zn⟩
     ·have z:=RcAt.lists_lengths t1.isList t1'.isList (by simpa using hl) hA
      have zn:=RcNeAt.lists_lengths t1.isList t1'.isList (by simpa using hl) hA
      have hz:bC (.lst xs) (.lst ys)=false:=by
       have hl':¬xs.length=ys.length:=by rw[q2.length,q2'.length,v1.length,v1'.length];simpa using hl
       rw[qV.2.1,<- uN]
       simp[hl']
      rw[hz]
      exact⟨z,zn⟩
    refine⟨?_,both⟩
    by_cases hab:a=b
    ·subst hab
     have ed:=yS I e (n+1) h h' hr hr'
     rw[ed,uO _ _ h'];exact EqAt.same _
    ·exact EqAt.of_refs hab both.1
end
end DL
namespace DL
open L2 PyProof.Rows
def B(n:Nat)(i:Int):Prop:=i.natAbs<2^n
theorem B.of{n:Nat}{i:Int}{k:Nat}(h:i.natAbs<=k)(hk:k<2^n:=by decide +kernel):B n i:=xci h hk
theorem B.log{n:Nat}{i:Int}(h:B n i)(hn:0<n):i.natAbs.log2<n:=U3 hn h
def i3(i:Int):Bool:=decide (i.natAbs.log2<60000000)
theorem W5{n:Nat}{i:Int}(h:B n i)(hn:n<=60000000:=by decide):i3 i=true:=by
 refine xaf ?_
 cases n with
 |zero=>
  have:i.natAbs=0:=by unfold B at h;omega
  rw[this];decide
 |succ k=>exact xau (h.log (Nat.succ_pos _)) hn
theorem W6{i j:Int}(a:i3 i=true)(b:i3 j=true):IntMulOk i j:=by
 have h1:i.natAbs.log2<60000000:=xas a
 have h2:j.natAbs.log2<60000000:=xas b
 have bits:∀k:Int,k.natAbs.log2<60000000->Builtin.Int.intBits k<=60000000:=fun k h=>by
  unfold Builtin.Int.intBits
  split
  ·exact xbz _
  ·omega
 have b1:=bits i h1
 have b2:=bits j h2
 unfold IntMulOk
 intro z
 simp only[xap,decide_eq_true_eq,Builtin.Int.intTooBig] at z
 have e:=z.2
 have l:(bitsLine:Int)=134217728:=by decide
 rw[l] at e
 omega
def oX(i:Int):Bool:=decide (i≠0/\i.natAbs.log2<9000)
theorem W7{n:Nat}{i:Int}(h:B n i)(h0:i≠0)(hn:n<=9000:=by decide):oX i=true:=by
 refine xaf ⟨h0,?_⟩
 cases n with
 |zero=>
  have:i.natAbs=0:=by unfold B at h;omega
  omega
 |succ k=>exact xau (h.log (Nat.succ_pos _)) hn
def yU(i j:Int):Bool:=decide (0<=j/\j<=1000000/\i.natAbs<2^64)
section
variable{X:Cx}{K:xFg}{mg:Str->Option Value}
def gI(C:Int->Int->Bool)(h:Int->Int->Int):D->D->R D
 |.int i,.int j=>bif C i j then .ok (.int (h i j)) else .bad
 |_,_=>.bad
def gB(h:Int->Int->Bool):D->D->R D
 |.int i,.int j=>.ok (.bl (h i j))
 |_,_=>.bad
theorem qW{C:Int->Int->Bool}{h:Int->Int->Int}:fM (gI C h):=by
 intro a b e
 cases a<;>cases b<;>simp only[gI]<;>first|(intro z;cases z)|(intro z;revert z;cases C _ _<;>simp[cond])
theorem uT{h:Int->Int->Bool}:fM (gB h):=by
 intro a b e
 cases a<;>cases b<;>simp only[gB]<;>(intro z;cases z)
theorem qX{C:Int->Int->Bool}{C':Int->Int->Prop}{h:Int->Int->Int}(hc:∀i j,C i j=true->C' i j):fL K mg (rI C' fun i j=>.int (h i j)) (gI C h):=by
 intro G H a b x y Q e ra rb q
 cases a with
 |int i=>cases b with
  |int j=>
   cases ra;cases rb
   cases hC:C i j with
   |false=>simp only[gI,hC,cond_false] at q;exact q.elim
   |true=>
    simp only[gI,hC,cond_true] at q
    exact⟨i,j,rfl,rfl,hc i j hC,aQ.now q e rfl⟩
  |_=>exact(show False from q).elim
 |_=>exact(show False from q).elim
theorem uU{h:Int->Int->Bool}:fL K mg (kM fun i j=>.bl (h i j)) (gB h):=by
 intro G H a b x y Q e ra rb q
 cases a with
 |int i=>cases b with
  |int j=>cases ra;cases rb;exact⟨i,j,rfl,rfl,aQ.now q e rfl⟩
  |_=>exact(show False from q).elim
 |_=>exact(show False from q).elim
theorem W8:bP X (binaryOp .Mult) (rI (fun i j=>i3 i=true/\i3 j=true) fun i j=>.int (i*j)):=qE fun _ _ _ _ _ _ _ hc q=>mul_int q (W6 hc.1 hc.2)
theorem W9:bP X (binaryOp .FloorDiv) (rI (fun _ j=>oX j=true) fun i j=>.int (i.fdiv j)):=qE fun i j _ _ _ _ _ hc q=>by
 have h:=xas (p:=j≠0/\j.natAbs.log2<9000) hc
 exact floordiv_int h.1 q (.inl (PyProof.noPylong_of_log2 h.2))
def FF(K:xFg):R2:=fun x y H Q=>∃l b xs zs,x=.ref l/\y=.ref b/\bM K H l xs/\bM K H b zs/\xs.length+zs.length<=sizeLine/\∀p,H p=none->Q (.ref p) (aU H p (.lst (xs++zs)))
theorem FG:bP X (binaryOp .Add) (FF X.K):=by
 intro pins s Z H x y v u Q I rx ry h
 obtain⟨l,b,xs,zs,rfl,rfl,hH,hB,hz,q⟩:=h
 cases rx
 cases ry
 obtain⟨its,r,pl,_⟩:=I.list hH
 obtain⟨its2,r2,pl2,_⟩:=I.list hB
 obtain⟨⟨cls,dd,data,sl⟩,ho,hc,n,hd⟩:=id pl.isList
 obtain⟨⟨cls2,dd2,data2,sl2⟩,ho2,hc2,n2,hd2⟩:=id pl2.isList
 simp only at hc hd hc2 hd2
 subst hc hd hc2 hd2
 refine concat_meets ⟨_,ho,rfl⟩ ⟨_,ho2,rfl⟩ noFill_list_add seq_list_add PySem.F.slot_list_add PySem.F.entry_list_add (PySem.F.args_list_add_2 _ _) (list_addW l b its.toArray its2.toArray n n2 dd dd2 sl sl2 (by rw[xao,xao,<- r.length,<- r2.length];exact hz)) ⟨ho,ho2,?_⟩
 have ea:its.toArray++its2.toArray=(its++its2).toArray:=by simp
 rw[ea]
 exact⟨.ref _,_,I.lnew (t':=s.toks) (r.append r2) (by rw[xaa];exact hz),rfl,q _ I.fresh⟩
def bD(n:Nat):Bool:=decide (n<=sizeLine)
def aI:D->D->R D
 |.int i,.int j=>.ok (.int (i+j))
 |.str x,.str y=>bif bD (x.length+y.length) then .ok (.str (x++y)) else .bad
 |.lst xs,.lst ys=>bif bD (xs.length+ys.length) then .ok (.lst (xs++ys)) else .bad
 |.tup xs,.tup ys=>bif bD (xs.length+ys.length) && !xs.isEmpty then .ok (.tup (xs++ys)) else .bad
 |_,_=>.bad
theorem XA:fM aI:=by
 intro a b e
 cases a<;>cases b<;>simp only[aI]<;>first|(intro z;cases z;done)|(generalize bD _=k;cases k<;>simp[cond]<;>(try (generalize List.isEmpty _=k2;cases k2<;>simp)))
abbrev XB(K:xFg):R2:=fun x y H Q=>kM (fun i j=>.int (i+j)) x y H Q\/((∃i j,x=.str i/\y=.str j/\i.length+j.length<=sizeLine/\Q (.str (i++j)) H)\/(FF K x y H Q\/DM K x y H Q))
theorem XE:fL K mg (XB K) aI:=by
 intro G H a b x y Q e ra rb q
 cases a with
 |int i=>cases b with
  |int j=>cases ra;cases rb;exact .inl ⟨i,j,rfl,rfl,aQ.now q e rfl⟩
  |_=>exact(show False from q).elim
 |str i=>cases b with
  |str j=>
   cases ra;cases rb
   cases hC:bD (i.length+j.length) with
   |false=>simp only[aI,hC,cond_false] at q;exact q.elim
   |true=>
    simp only[aI,hC,cond_true] at q
    exact .inr (.inl ⟨i,j,rfl,rfl,xas hC,aQ.now q e rfl⟩)
  |_=>exact(show False from q).elim
 |lst xs=>cases b with
  |lst ys=>
   obtain⟨p,vs,rfl,h1,h2⟩:=ra
   obtain⟨p',ws,rfl,h1',h2'⟩:=rb
   cases hC:bD (xs.length+ys.length) with
   |false=>simp only[aI,hC,cond_false] at q;exact q.elim
   |true=>
    simp only[aI,hC,cond_true] at q
    refine .inr (.inr (.inl ⟨p,p',vs,ws,rfl,rfl,e.seq h1,e.seq h1',by rw[<- h2.length,<- h2'.length];exact xas hC,fun l hl=>?_⟩))
    have s:=Step.pub (o:=.lst (vs++ws)) e hl
    exact(show aQ K mg Q G H (.lst (xs++ys)) from q) _ _ _ s ⟨l,_,rfl,bM.of bV,(h2.append h2').mono s.g⟩
  |_=>exact(show False from q).elim
 |tup xs=>cases b with
  |tup ys=>
   obtain⟨p,vs,rfl,h1,h2⟩:=ra
   obtain⟨p',ws,rfl,h1',h2'⟩:=rb
   cases hC:(bD (xs.length+ys.length) && !xs.isEmpty) with
   |false=>simp only[aI,hC,cond_false] at q;exact q.elim
   |true=>
    simp only[aI,hC,cond_true] at q
    rw[xap] at hC
    have q':aQ K mg Q G H (.tup (xs++ys)):=q
    refine .inr (.inr (.inr ⟨p,p',vs,ws,rfl,rfl,aM.sqT e h1,aM.sqT e h1',fun z=>?_,by rw[<- h2.length,<- h2'.length];exact xas hC.1,fun z=>?_,fun z l hl=>?_⟩))
    ·subst z
     have:=h2.length
     have hx:xs=[]:=xb0.mp this
     subst hx;simp at hC
    ·subst z
     have:=h2'.length
     have hy:ys=[]:=xb0.mp this
     subst hy
     rw[xa8] at q'
     exact q'.now e ⟨p,vs,rfl,h1,h2⟩
    ·have s:=Step.pub (o:=.tup (vs++ws)) e hl
     exact q' _ _ _ s ⟨l,_,rfl,cB.of bV,(h2.append h2').mono s.g⟩
  |_=>exact(show False from q).elim
 |_=>exact(show False from q).elim
abbrev gSub:D->D->R D:=gI (fun _ _=>true) fun i j=>i-j
abbrev j7:D->D->R D:=gI (fun i j=>i3 i&&i3 j) fun i j=>i*j
abbrev iI:D->D->R D:=gI (fun _ j=>oX j) fun i j=>i.fdiv j
abbrev aV:D->D->R D:=gI (fun _ j=>decide (j≠0)) fun i j=>i.fmod j
abbrev qY:D->D->R D:=gI yU fun i j=>i^j.toNat
abbrev XF:D->D->R D:=gI (fun _ j=>decide (0<=j)) fun i j=>i/2^j.toNat
variable{E:XK}{a b c:Expr}{fa fb fc:DSt->R D}{pos:Pos}
theorem qZ(ha:DE X E a fa)(hb:DE X E b fb):DE X E (.BinOp a .Add b pos) (aC aI fa fb):=kT (R6.or (SL.or (FG.or T7))) XE XA ha hb
theorem XG(ha:DE X E a fa)(hb:DE X E b fb):DE X E (.BinOp a .Sub b pos) (aC gSub fa fb):=
 kT (r:=rI (fun _ _=>True) fun i j=>.int (i-j)) (qE fun _ _ _ _ _ _ _ _ q=>sub_int q) (qX fun _ _ _=>trivial) qW ha hb
theorem XH(ha:DE X E a fa)(hb:DE X E b fb):DE X E (.BinOp a .Mult b pos) (aC j7 fa fb):=kT W8 (qX fun i j h=>by simpa using h) qW ha hb
theorem yV(ha:DE X E a fa)(hb:DE X E b fb):DE X E (.BinOp a .FloorDiv b pos) (aC iI fa fb):=kT W9 (qX fun i j h=>h) qW ha hb
theorem rH(ha:DE X E a fa)(hb:DE X E b fb):DE X E (.BinOp a .Mod b pos) (aC aV fa fb):=kT R7 (qX fun i j h=>xas h) qW ha hb
theorem XI(ha:DE X E a fa)(hb:DE X E b fb):DE X E (.BinOp a .Pow b pos) (aC qY fa fb):=kT R8 (qX fun i j h=>xas (p:=0<=j/\j<=1000000/\i.natAbs<2^64) h) qW ha hb
def gM:D->R D
 |.int i=>.ok (.int (-i))
 |_=>.bad
theorem XJ(ha:DE X E a fa):DE X E (.UnaryOp .USub a pos) (gJ gM fa):=by
 refine WG SA (fun G H d x Q e r q=>?_) (fun d e=>?_) ha
 ·cases d with
  |int i=>cases r;exact⟨i,rfl,aQ.now q e rfl⟩
  |_=>exact(show False from q).elim
 ·cases d<;>simp[gM]
structure gN(X:Cx)(op:CmpOp)(g:D->D->R D):Prop where
 ex:∃r,bP X (compareOp op) r/\fL X.K X.mg r g/\fM g
abbrev gA:D->D->R D:=gB fun i j=>decide (i<j)
abbrev uV:D->D->R D:=gB fun i j=>decide (i<=j)
abbrev fI:D->D->R D:=gB fun i j=>decide (j<i)
abbrev gGe:D->D->R D:=gB fun i j=>decide (j<=i)
theorem rJ:gN X .Lt gA:=⟨_,SB,uU,uT⟩
theorem yW:gN X .LtE uV:=⟨_,SC,uU,uT⟩
theorem oY:gN X .Gt fI:=⟨_,SD,uU,uT⟩
theorem XM:gN X .GtE gGe:=⟨_,SF,uU,uT⟩
def iJ(a b:D):Bool:=bN 9 a&&bN 9 b
def a6(a b:D):R D:=bif iJ a b then .ok (.bl (bC a b)) else .bad
def bR(a b:D):R D:=bif iJ a b then .ok (.bl (!bC a b)) else .bad
def FI(K:xFg)(mg:Str->Option Value)(neg:Bool):R2:=fun x y H Q=>∃G d d',aM G H/\Rep K mg G d x/\Rep K mg G d' y/\iJ d d'=true/\Q (.bl (bif neg then !bC d d' else bC d d')) H
theorem XN{k:Nat}(r:cQ k X.A):bP X (compareOp .Eq) (FI X.K X.mg false):=by
 intro pins s Z H x y v u Q I rx ry h
 obtain⟨G,d,d',e,r1,r2,c,q⟩:=h
 unfold iJ at c
 rw[xap] at c
 have hu:X.A.units+9<cLine:=by have:=r.un;omega
 exact(yT I e 9 hu c.1 c.2 r1 rx r2 ry).2.1 _ _ _ _ ⟨.bl _,H,I,rfl,q⟩
theorem XO{k:Nat}(r:cQ k X.A):bP X (compareOp .NotEq) (FI X.K X.mg true):=by
 intro pins s Z H x y v u Q I rx ry h
 obtain⟨G,d,d',e,r1,r2,c,q⟩:=h
 unfold iJ at c
 rw[xap] at c
 have hu:X.A.units+9<cLine:=by have:=r.un;omega
 exact(yT I e 9 hu c.1 c.2 r1 rx r2 ry).2.2 _ _ _ _ ⟨.bl _,H,I,rfl,q⟩
theorem rK{k:Nat}(C:XC X E k):gN X .Eq a6:=⟨_,XN C.room,fun G H a b x y Q e ra rb q=>by
 unfold a6 at q
 cases hc:iJ a b with
 |false=>rw[hc] at q;exact q.elim
 |true=>rw[hc] at q;exact⟨G,a,b,e,ra,rb,hc,aQ.now q e rfl⟩,fun a b e=>by unfold a6;cases iJ a b<;>simp[cond]⟩
theorem yX{k:Nat}(C:XC X E k):gN X .NotEq bR:=⟨_,XO C.room,fun G H a b x y Q e ra rb q=>by
 unfold bR at q
 cases hc:iJ a b with
 |false=>rw[hc] at q;exact q.elim
 |true=>rw[hc] at q;exact⟨G,a,b,e,ra,rb,hc,aQ.now q e rfl⟩,fun a b e=>by unfold bR;cases iJ a b<;>simp[cond]⟩
def nK:D->Bool
 |.non=>true
 |_=>false
def uW:D->D->R D
 |d,.non=>.ok (.bl (nK d))
 |.bl a,.bl b=>.ok (.bl (a==b))
 |_,_=>.bad
def rL:D->D->R D
 |d,.non=>.ok (.bl (!nK d))
 |.bl a,.bl b=>.ok (.bl (a != b))
 |_,_=>.bad
theorem FJ{G:Hp}{d:D}{x:V}(r:Rep K mg G d x):decide (x=.non)=nK d:=by
 have nr:∀a:Addr,decide (V.ref a=V.non)=false:=fun a=>by simp
 cases d with
 |non=>cases r;rfl
 |bl b=>cases r;rfl
 |int i=>cases r;rfl
 |str y=>cases r;rfl
 |ty n=>cases r;rfl
 |cls c=>obtain⟨C,rfl,_⟩:=r;exact nr _
 |tup xs=>obtain⟨a,vs,rfl,_⟩:=r;exact nr _
 |lst xs=>obtain⟨a,vs,rfl,_⟩:=r;exact nr _
 |dct ks xs=>obtain⟨a,vs,rfl,_⟩:=r;exact nr _
 |exc c as=>obtain⟨a,C,dct,vs,rfl,_⟩:=r;exact nr _
theorem XQ:gN X .Is uW:=⟨_,SH.or U4,fun G H a b x y Q e ra rb q=>by
 cases b with
 |non=>cases rb;exact .inl ⟨rfl,by rw[FJ ra];cases a<;>exact aQ.now q e rfl⟩
 |bl k=>cases a with
  |bl k'=>cases ra;cases rb;exact .inr ⟨k',k,rfl,rfl,aQ.now q e rfl⟩
  |_=>exact(show False from q).elim
 |_=>cases a<;>exact(show False from q).elim,fun a b e=>by cases a<;>cases b<;>simp[uW]⟩
theorem FK:gN X .IsNot rL:=⟨_,SI.or U5,fun G H a b x y Q e ra rb q=>by
 cases b with
 |non=>cases rb;exact .inl ⟨rfl,by rw[FJ ra];cases a<;>exact aQ.now q e rfl⟩
 |bl k=>cases a with
  |bl k'=>cases ra;cases rb;exact .inr ⟨k',k,rfl,rfl,aQ.now q e rfl⟩
  |_=>exact(show False from q).elim
 |_=>cases a<;>exact(show False from q).elim,fun a b e=>by cases a<;>cases b<;>simp[rL]⟩
theorem yY{op:CmpOp}{g:D->D->R D}(cf:gN X op g)(ha:DE X E a fa)(hb:DE X E b fb)(hm:behindInMarks op b=false:=by first|exact dH _ (by decide) (by decide)|rfl):DE X E (.Compare a [op] [b] pos) (aC g fa fb):=by
 obtain⟨r,h1,h2,h3⟩:=cf.ex
 exact V8 h1 h2 h3 ha hb hm
theorem gW{op:CmpOp}{g:D->D->R D}(cf:gN X op g)(ha:DE X E a fa)(hb:DE X E b fb)(hm:behindInMarks op b=false:=by first|exact dH _ (by decide) (by decide)|rfl):DT X E (.Compare a [op] [b] pos) (aK (aC g fa fb)):=by
 obtain⟨r,h1,h2,h3⟩:=cf.ex
 exact V9 h1 h2 h3 ha hb hm
theorem XR{op op':CmpOp}{g g':D->D->R D}(cf:gN X op g)(cf':gN X op' g')(ha:DE X E a fa)(hb:DE X E b fb)(hc:DE X E c fc)(hm:lastMarks [op,op'] [b,c]=false:=by with_unfolding_all rfl):DT X E (.Compare a [op,op'] [b,c] pos) (aK (qN g g' fa fb fc)):=by
 obtain⟨r,h1,h2,h3⟩:=cf.ex
 obtain⟨r',h1',h2',h3'⟩:=cf'.ex
 exact WB h1 h2 h3 h1' h2' h3' ha hb hc hm
end
end DL
namespace DL
open L2 PyProof.Rows
section
variable{X:Cx}{E:XK}{K:xFg}{mg:Str->Option Value}{G H:Hp}
theorem XS:bootBuiltins "all"=some (.builtin "all"):=by rfl
theorem XT:bootBuiltins "isinstance"=some (.builtin "isinstance"):=by rfl
theorem FL:bootBuiltins "int"=some (.type "int"):=by rfl
theorem yZ:bootBuiltins "str"=some (.type "str"):=by rfl
theorem uX:bootBuiltins "tuple"=some (.type "tuple"):=by rfl
theorem XU:bootBuiltins "list"=some (.type "list"):=by rfl
theorem XV:bootBuiltins "ValueError"=some (.type "ValueError"):=by rfl
theorem Reps.one{d:D}{vs:List V}(h:Reps K mg G [d] vs):∃v,vs=[v]/\Rep K mg G d v:=by
 obtain⟨v,r,rfl,h2,h3⟩:=h
 cases h3
 exact⟨v,rfl,h2⟩
theorem Reps.two{d d':D}{vs:List V}(h:Reps K mg G [d,d'] vs):∃v w,vs=[v,w]/\Rep K mg G d v/\Rep K mg G d' w:=by
 obtain⟨v,r,rfl,h2,h3⟩:=h
 obtain⟨w,rfl,h4⟩:=h3.one
 exact⟨v,w,rfl,h2,h4⟩
def g1{α:Type}(g:D->R α):List D->R α
 |[d]=>g d
 |_=>.bad
def g2{α:Type}(g:D->D->R α):List D->R α
 |[d,e]=>g d e
 |_=>.bad
theorem oZ{r:List V->Hp->VK->Prop}{g:D->R D}(h:∀(G H:Hp) (d:D) (v:V) (Q:VK),aM G H->Rep K mg G d v->RW (g d) (aQ K mg Q G H) (fun _=>False)->r [v] H Q):iC K mg r (g1 g):=by
 intro G H ds vs Q e rp q
 match ds,rp,q with
 |[],rp,q=>exact(show False from q).elim
 |[d],rp,q=>obtain⟨v,rfl,h1⟩:=rp.one;exact h G H d v Q e h1 q
 |_::_::_,rp,q=>exact(show False from q).elim
theorem y0{r:List V->Hp->VK->Prop}{g:D->D->R D}(h:∀(G H:Hp) (d d':D) (v v':V) (Q:VK),aM G H->Rep K mg G d v->Rep K mg G d' v'->RW (g d d') (aQ K mg Q G H) (fun _=>False)->r [v,v'] H Q):iC K mg r (g2 g):=by
 intro G H ds vs Q e rp q
 match ds,rp,q with
 |[],rp,q=>exact(show False from q).elim
 |[d],rp,q=>exact(show False from q).elim
 |[d,d'],rp,q=>obtain⟨v,w,rfl,h1,h2⟩:=rp.two;exact h G H d d' v w Q e h1 h2 q
 |_::_::_::_,rp,q=>exact(show False from q).elim
variable{x:Str}{p pos:Pos}{e:Expr}{es:List Expr}{fs:DSt->R (List D)}
def y1:D->R D
 |.lst xs=>.ok (.int xs.length)
 |.tup xs=>.ok (.int xs.length)
 |.str y=>bif bD y.length then .ok (.int y.length) else .bad
 |_=>.bad
abbrev aW:=g1 y1
theorem XW:iC K mg (fun xs H Q=>(∃p ys,xs=[.ref p]/\(bM K H p ys\/cB K H p ys)/\Q (.int ys.length) H)\/(∃z,xs=[.str z]/\z.length<=sizeLine/\Q (.int z.length) H)) aW:=oZ fun G H d v Q e r q=>by
 cases d with
 |lst xs=>
  obtain⟨a,vs,rfl,h1,h2⟩:=r
  exact .inl ⟨a,vs,rfl,.inl (e.seq h1),by rw[<- h2.length];exact aQ.now q e rfl⟩
 |tup xs=>
  obtain⟨a,vs,rfl,h1,h2⟩:=r
  exact .inl ⟨a,vs,rfl,.inr (aM.sqT e h1),by rw[<- h2.length];exact aQ.now q e rfl⟩
 |str y=>
  cases r
  cases hC:bD y.length with
  |false=>simp only[y1,hC,cond_false] at q;exact q.elim
  |true=>simp only[y1,hC,cond_true] at q;exact .inr ⟨y,rfl,xas hC,aQ.now q e rfl⟩
 |_=>exact(show False from q).elim
theorem y6(hm:X.mg "len"=none)(ha:DA X E (e::es) fs)(hg:Gl X "len":=by rfl)(he:starEach (e::es) X.env=(false,eval e X.env)::starEach es X.env:=by rfl)(hpl:(backTo pos (starEach es X.env)).any (·.1)=false:=by rfl):DE X E (.Call (.Name "len" p) (e::es) [] pos) (aJ aW fs):=
 qS (DZ.or UH) XW hm PySem.boot_len ha hg (by decide) (by decide) he hpl
def XY:D->R D
 |.int i=>.ok (.int (i.natAbs:Int))
 |_=>.bad
abbrev XZ:=g1 XY
def X0:D->D->R D
 |.int i,.int j=>.ok (.int (min i j))
 |_,_=>.bad
def X1:D->D->R D
 |.int i,.int j=>.ok (.int (max i j))
 |_,_=>.bad
abbrev rM:=g2 X0
abbrev rN:=g2 X1
theorem X2:iC K mg (fun xs H Q=>∃i j,xs=[.int i,.int j]/\Q (.int (if j<i then j else i)) H) rM:=y0 fun G H d d' v v' Q e r r' q=>by
 cases d with
 |int i=>cases d' with
  |int j=>
   cases r;cases r'
   have ea:(if j<i then j else i)=min i j:=by split<;>omega
   exact⟨i,j,rfl,by rw[ea];exact aQ.now q e rfl⟩
  |_=>exact(show False from q).elim
 |_=>exact(show False from q).elim
theorem X3:iC K mg (fun xs H Q=>∃i j,xs=[.int i,.int j]/\Q (.int (if j>i then j else i)) H) rN:=y0 fun G H d d' v v' Q e r r' q=>by
 cases d with
 |int i=>cases d' with
  |int j=>
   cases r;cases r'
   have ea:(if j>i then j else i)=max i j:=by split<;>omega
   exact⟨i,j,rfl,by rw[ea];exact aQ.now q e rfl⟩
  |_=>exact(show False from q).elim
 |_=>exact(show False from q).elim
theorem X4(hc:X.calm=true)(hm:X.mg "min"=none)(ha:DA X E (e::es) fs)(hg:Gl X "min":=by rfl)(he:starEach (e::es) X.env=(false,eval e X.env)::starEach es X.env:=by rfl)(hpl:(backTo pos (starEach es X.env)).any (·.1)=false:=by rfl):DE X E (.Call (.Name "min" p) (e::es) [] pos) (aJ rM fs):=
 qS (SO hc) X2 hm PyProof.Rows.boot_min ha hg (by decide) (by decide) he hpl
theorem X5(hc:X.calm=true)(hm:X.mg "max"=none)(ha:DA X E (e::es) fs)(hg:Gl X "max":=by rfl)(he:starEach (e::es) X.env=(false,eval e X.env)::starEach es X.env:=by rfl)(hpl:(backTo pos (starEach es X.env)).any (·.1)=false:=by rfl):DE X E (.Call (.Name "max" p) (e::es) [] pos) (aJ rN fs):=
 qS (SN hc) X3 hm PyProof.Rows.boot_max ha hg (by decide) (by decide) he hpl
def FM:List D->Option (List Int)
 |[]=>some []
 |.int i::r=>(FM r).map (i::·)
 |_=>none
def lW:List D->Option (List Bool)
 |[]=>some []
 |.bl b::r=>(lW r).map (b::·)
 |_=>none
theorem FN:∀{ds:List D} {bs:List Bool},lW ds=some bs->ds=bs.map D.bl
 |[],ns,h=>by simp only[lW,Option.some.injEq] at h;subst h;rfl
 |.bl i::r,ns,h=>by
  simp only[lW,xcu] at h
  obtain⟨ms,h1,rfl⟩:=h
  rw[FN h1];rfl
theorem FO:∀bs:List Bool,lW (bs.map D.bl)=some bs
 |[]=>rfl
 |n::r=>by rw[xbg];unfold lW;rw[FO r];rfl
def sum1:D->R D
 |.lst xs=>match FM xs with
  |some ns=>.ok (.int ns.sum)
  |none=>.bad
 |_=>.bad
def rO:D->R D
 |.lst xs=>match lW xs with
  |some bs=>.ok (.bl (bs.all id))
  |none=>.bad
 |_=>.bad
abbrev j8:=g1 rO
theorem X6:iC K mg (fun xs H Q=>∃(p:Addr) (bs:List Bool),xs=[.ref p]/\bM K H p (bs.map V.bl)/\Q (.bl (bs.all id)) H) j8:=oZ fun G H d v Q e r q=>by
 cases d with
 |lst xs=>
  obtain⟨a,vs,rfl,h1,h2⟩:=r
  cases hn:lW xs with
  |none=>simp only[rO,hn] at q;exact q.elim
  |some ns=>
   simp only[rO,hn] at q
   rw[FN hn] at h2
   rw[Reps.of_bools h2] at h1
   exact⟨a,ns,rfl,e.seq h1,aQ.now q e rfl⟩
 |_=>exact(show False from q).elim
theorem FP(hc:X.calm=true)(hm:X.mg "all"=none)(ha:DA X E (e::es) fs)(hg:Gl X "all":=by rfl)(he:starEach (e::es) X.env=(false,eval e X.env)::starEach es X.env:=by rfl)(hpl:(backTo pos (starEach es X.env)).any (·.1)=false:=by rfl):DE X E (.Call (.Name "all" p) (e::es) [] pos) (aJ j8 fs):=
 qS (VV hc) X6 hm XS ha hg (by decide) (by decide) he hpl
def X7:D->R D
 |.int i=>.ok (.int i)
 |.bl b=>.ok (.int (if b then 1 else 0))
 |_=>.bad
abbrev cY:=g1 X7
theorem X8:iC K mg (fun xs H Q=>(∃i,xs=[.int i]/\Q (.int i) H)\/∃k,xs=[.bl k]/\Q (.int (if k then 1 else 0)) H) cY:=oZ fun G H d v Q e r q=>by
 cases d with
 |int i=>cases r;exact .inl ⟨i,rfl,aQ.now q e rfl⟩
 |bl b=>cases r;exact .inr ⟨b,rfl,aQ.now q e rfl⟩
 |_=>exact(show False from q).elim
theorem X9(hm:X.mg "int"=none)(ha:DA X E (e::es) fs)(hg:Gl X "int":=by rfl)(he:starEach (e::es) X.env=(false,eval e X.env)::starEach es X.env:=by rfl)(hpl:(backTo pos (starEach es X.env)).any (·.1)=false:=by rfl):DE X E (.Call (.Name "int" p) (e::es) [] pos) (aJ cY fs):=
 uH SQ X8 hm ha FL hg (by decide) (by decide) he hpl
def YA:D->R D
 |.lst xs=>.ok (.tup xs)
 |.tup xs=>.ok (.tup xs)
 |_=>.bad
abbrev iK:=g1 YA
theorem YB:iC K mg (fun xs H Q=>∃p ys,xs=[.ref p]/\((bM K H p ys/\∀l,H l=none->Q (.ref l) (aU H l (.tup ys)))\/(cB K H p ys/\Q (.ref p) H))) iK:=oZ fun G H d v Q e r q=>by
 cases d with
 |lst xs=>
  obtain⟨a,vs,rfl,h1,h2⟩:=r
  refine⟨a,vs,rfl,.inl ⟨e.seq h1,fun l hl=>?_⟩⟩
  have s:=Step.pub (o:=.tup vs) e hl
  exact(show aQ K mg Q G H (.tup xs) from q) _ _ _ s ⟨l,vs,rfl,cB.of bV,h2.mono s.g⟩
 |tup xs=>
  obtain⟨a,vs,rfl,h1,h2⟩:=r
  exact⟨a,vs,rfl,.inr ⟨aM.sqT e h1,(show aQ K mg Q G H (.tup xs) from q).now e ⟨a,vs,rfl,h1,h2⟩⟩⟩
 |_=>exact(show False from q).elim
theorem YC(hm:X.mg "tuple"=none)(ha:DA X E (e::es) fs)(hg:Gl X "tuple":=by rfl)(he:starEach (e::es) X.env=(false,eval e X.env)::starEach es X.env:=by rfl)(hpl:(backTo pos (starEach es X.env)).any (·.1)=false:=by rfl):DE X E (.Call (.Name "tuple" p) (e::es) [] pos) (aJ iK fs):=
 uH UJ YB hm ha uX hg (by decide) (by decide) he hpl
def rP(g:List D->R (List D))(fs:DSt->R (List D)):DSt->R (List D):=fun Z=>(fs Z).bind fun ds=>(g ds).noerr
def FQ(K:xFg)(mg:Str->Option Value)(r:List V->Hp->VK->Prop)(g:List D->R (List D)):Prop:=
 ∀(G H:Hp) (ds:List D) (vs:List V) (Q:VK),aM G H->Reps K mg G ds vs->RW (g ds) (gF K mg Q G H) (fun _=>False)->r vs H Q
theorem YD{T:String}{r:List V->Hp->VK->Prop}{g:List D->R (List D)}(hc:dW X (.type T) r)(hd:FQ X.K X.mg r g)(hm:X.mg x=none)(ha:DA X E (e::es) fs)(hv:bootBuiltins x=some (.type T):=by rfl)(hg:Gl X x:=by rfl)(hn:x≠"__name__":=by decide)(hdb:(x==("__debug__":Str))=false:=by decide)
  (he:starEach (e::es) X.env=(false,eval e X.env)::starEach es X.env:=by rfl) (hpl:(backTo pos (starEach es X.env)).any (·.1)=false:=by rfl):DF X E (.Call (.Name x p) (e::es) [] pos) (rP g fs):=by
 refine PE.mono' (xX hc hg hm hv ha hn hdb he hpl) fun Z H Q ⟨G,Zd,ok,q⟩=>?_
 refine⟨G,Zd,ok,q.of_bind.mono (fun ds _ z vs G' H' s r=>?_) fun _ z=>z⟩
 obtain⟨d,e1,z⟩:=lQ z
 exact hd G' H' ds vs Q s.e r (by rw[e1];exact z.step s)
def YE:D->R (List D)
 |.lst xs=>.ok xs
 |.tup xs=>.ok xs
 |_=>.bad
abbrev uY:=g1 YE
theorem YF:FQ K mg (fun xs H Q=>∃p ys,xs=[.ref p]/\(bM K H p ys\/cB K H p ys)/\∀l,H l=none->Q (.ref l) (aU H l (.lst ys))) uY:=by
 intro G H ds vs Q e rp q
 have go:∀xs vs,Reps K mg G xs vs->gF K mg Q G H xs->∀l,H l=none->Q (.ref l) (aU H l (.lst vs)):=fun xs vs h z l hl=>z l vs G _ (.hid e hl) hl bV (e.free hl) h
 match ds,rp,q with
 |[],rp,q=>exact(show False from q).elim
 |[d],rp,q=>
  obtain⟨v,rfl,r⟩:=rp.one
  cases d with
  |lst xs=>obtain⟨a,vs,rfl,h1,h2⟩:=r;exact⟨a,vs,rfl,.inl (e.seq h1),go xs vs h2 q⟩
  |tup xs=>obtain⟨a,vs,rfl,h1,h2⟩:=r;exact⟨a,vs,rfl,.inr (aM.sqT e h1),go xs vs h2 q⟩
  |_=>exact(show False from q).elim
 |_::_::_,rp,q=>exact(show False from q).elim
theorem YG(hm:X.mg "list"=none)(ha:DA X E (e::es) fs)(hg:Gl X "list":=by rfl)(he:starEach (e::es) X.env=(false,eval e X.env)::starEach es X.env:=by rfl)(hpl:(backTo pos (starEach es X.env)).any (·.1)=false:=by rfl):DF X E (.Call (.Name "list" p) (e::es) [] pos) (rP uY fs):=
 YD UI YF hm ha XU hg (by decide) (by decide) he hpl
def zA:D->Option String
 |.non=>some "NoneType"
 |.bl _=>some "bool"
 |.int _=>some "int"
 |.str _=>some "str"
 |.tup _=>some "tuple"
 |.lst _=>some "list"
 |.dct _ _=>some "dict"
 |_=>none
def rQ(T:String):Bool:=["int","bool","str","tuple","list","dict"].contains T
def uZ(t T:String):Bool:=t==T||(t=="bool"&&T=="int")
theorem nL(t T:String)(ht:["NoneType","bool","int","str","tuple","list","dict"].contains t=true)(hT:rQ T=true):PySem.W.kitOne K (.type t) (.type T)=some (uZ t T):=by
 simp only[List.contains_eq_mem,xal,xbk,or_false,decide_eq_true_eq] at ht
 simp only[rQ,List.contains_eq_mem,xal,xbk,or_false,decide_eq_true_eq] at hT
 rcases ht with rfl|rfl|rfl|rfl|rfl|rfl|rfl<;>rcases hT with rfl|rfl|rfl|rfl|rfl|rfl<;>rfl
end
end DL
namespace DL
open L2 PyProof.Rows
section
variable{X:Cx}{E:XK}{K:xFg}{mg:Str->Option Value}{G H:Hp}
variable{x:Str}{p pos:Pos}{e:Expr}{es:List Expr}{fs:DSt->R (List D)}
def FR(K:xFg)(mg:Str->Option Value):List V->Hp->VK->Prop:=fun xs H Q=>∃G d T v b,xs=[v,.ty T]/\aM G H/\Rep K mg G d v/\(∃t,zA d=some t/\rQ T=true/\b=uZ t T)/\Q (.bl b) H
theorem YH:dW X (.builtin "isinstance") (FR X.K X.mg):=by
 intro pins s Z H xs us Q I r h
 obtain⟨G,d,T,v,b,rfl,e,rp,⟨t,ht,hT,rfl⟩,q⟩:=h
 obtain⟨u,w',rfl,ru,rw'⟩:=t7 r
 cases (show w'=Value.type T from rw')
 have fin:∀tk,EP X pins Z Q (.bool (uZ t T)) { s with toks:=tk }:=fun tk=>⟨.bl _,H,I.tok tk,rfl,q⟩
 cases d with
 |non=>cases ht;cases rp;cases (show u=Value.none from ru);exact PySem.W.kia_one PySem.W.kitx_none I.kIn True.intro (nL _ _ rfl hT) (fun z=>nomatch z) fin
 |bl y=>cases ht;cases rp;cases (show u=Value.bool y from ru);exact PySem.W.kia_one PySem.W.kitx_bool I.kIn True.intro (nL _ _ rfl hT) (fun z=>nomatch z) fin
 |int i=>cases ht;cases rp;obtain⟨tk,rfl⟩:=(show ∃tk,u=Value.int i tk from ru);exact PySem.W.kia_one PySem.W.kitx_int I.kIn True.intro (nL _ _ rfl hT) (fun z=>nomatch z) fin
 |str y=>cases ht;cases rp;obtain⟨tk,rfl⟩:=(show ∃tk,u=Value.str y tk from ru);exact PySem.W.kia_one PySem.W.kitx_str I.kIn True.intro (nL _ _ rfl hT) (fun z=>nomatch z) fin
 |tup ds=>
  cases ht
  obtain⟨a,vs,rfl,h1,h2⟩:=rp
  cases (show u=Value.ref a from ru)
  obtain⟨_,_,⟨o,h3,h4,_⟩,_⟩:=I.tuple (aM.sqT e h1)
  exact PySem.W.kia_one PySem.W.kitx_tuple I.kIn ⟨o,h3,h4⟩ (nL _ _ rfl hT) (fun z=>nomatch z) fin
 |lst ds=>
  cases ht
  obtain⟨a,vs,rfl,h1,h2⟩:=rp
  cases (show u=Value.ref a from ru)
  obtain⟨_,_,⟨o,n,h3,h4,_⟩,_⟩:=I.list (e.seq h1)
  exact PySem.W.kia_one PySem.W.kitx_list I.kIn ⟨o,h3,h4⟩ (nL _ _ rfl hT) (fun z=>nomatch z) fin
 |dct ks ds=>
  cases ht
  obtain⟨a,vs,rfl,h1,_⟩:=rp
  cases (show u=Value.ref a from ru)
  obtain⟨_,_,_,_,p⟩:=(show eK X.prog X.w H s.heap a (.dK (ks.zip vs)) from (aM.rd e h1).ok I.hok)
  obtain⟨o,es,ep,h3,h4,_⟩:=p
  exact PySem.W.kia_one PySem.W.kitx_dict I.kIn ⟨o,h3,h4.1⟩ (nL _ _ rfl hT) (fun z=>nomatch z) fin
 |_=>cases ht
abbrev YI(K:xFg):List V->Hp->VK->Prop:=fun xs H Q=>∃(a C:Addr) (c:V) (cv:Value) (b:Bool),xs=[.ref a,c]/\H a=some (j3 a C none)/\((∃D,c=.ref D/\cv=.ref D)\/∃T,c=.ty T/\cv=.type T)/\nB K C/\PySem.W.kitOne K (.ref C) cv=some b/\Q (.bl b) H
def bK:D->D->R D
 |d,.ty T=>match zA d with
  |some t=>bif rQ T then .ok (.bl (uZ t T)) else .bad
  |none=>match d with
   |.exc _ []=>bif T=="ValueError" then .ok (.bl true) else .bad
   |_=>.bad
 |.exc c [],.cls d=>match cR c d with
  |some b=>.ok (.bl b)
  |none=>.bad
 |_,_=>.bad
theorem YJ:iC K mg (fun xs H Q=>FR K mg xs H Q\/YI K xs H Q) (g2 bK):=y0 fun G H d d' v v' Q e r r' q=>by
 have exc:∀{c as},d=.exc c as->as=[]->∃a C,v=.ref a/\H a=some (j3 a C none)/\fF K mg c C:=fun {c as} hd ha=>by
  subst hd;subst ha
  obtain⟨a,C,dct,vs,rfl,h2,h3,h4,h5⟩:=r
  cases h5
  rcases h4 with⟨rfl,_⟩|⟨dx,w,_,z,_⟩
  ·exact⟨a,C,rfl,e _ _ h2,h3⟩
  ·cases z
 cases d' with
 |ty T=>
  cases r'
  cases ht:zA d with
  |some t=>
   cases hT:rQ T with
   |false=>simp only[bK,ht,hT,cond_false] at q;exact q.elim
   |true=>simp only[bK,ht,hT,cond_true] at q;exact .inl ⟨G,d,T,v,_,rfl,e,r,⟨t,ht,hT,rfl⟩,aQ.now q e rfl⟩
  |none=>
   cases d with
   |exc c as=>
    cases as with
    |nil=>
     cases hT:T=="ValueError" with
     |false=>simp only[bK,ht,hT,cond_false] at q;exact q.elim
     |true=>
      simp only[bK,ht,hT,cond_true] at q
      obtain⟨a,C,rfl,h1,h2⟩:=exc rfl rfl
      have:=eq_of_beq hT
      subst this
      exact .inr ⟨a,C,_,_,true,rfl,h1,.inr ⟨_,rfl,rfl⟩,h2.exc,h2.val,aQ.now q e rfl⟩
    |cons b bs=>simp only[bK,ht] at q;exact q.elim
   |_=>simp only[bK,ht] at q;exact q.elim
 |cls c'=>
  cases d with
  |exc c as=>
   cases as with
   |nil=>
    obtain⟨Dd,rfl,hD⟩:=r'
    cases hs:cR c c' with
    |none=>simp only[bK,hs] at q;exact q.elim
    |some b=>
     simp only[bK,hs] at q
     obtain⟨a,C,rfl,h1,h2⟩:=exc rfl rfl
     exact .inr ⟨a,C,_,_,b,rfl,h1,.inl ⟨Dd,rfl,rfl⟩,h2.exc,h2.isi c' Dd b hs hD,aQ.now q e rfl⟩
   |cons b bs=>exact(show False from q).elim
  |_=>exact(show False from q).elim
 |_=>cases d<;>first|exact(show False from q).elim|(rename_i as;cases as<;>exact(show False from q).elim)
theorem nM(hm:X.mg "isinstance"=none)(ha:DA X E (e::es) fs)(hg:Gl X "isinstance":=by rfl)(he:starEach (e::es) X.env=(false,eval e X.env)::starEach es X.env:=by rfl)(hpl:(backTo pos (starEach es X.env)).any (·.1)=false:=by rfl):DE X E (.Call (.Name "isinstance" p) (e::es) [] pos) (aJ (g2 bK) fs):=
 qS (YH.or VS) YJ hm XT ha hg (by decide) (by decide) he hpl
def tO(K:xFg)(mg:Str->Option Value)(E:XK)(f:DSt->R (Option Int)):TO:=fun Z H Q=>∃G Zd,bZ K mg Zd Z G H/\RW (f Zd) (fun o=>∀G' H',Step G H G' H'->Q o H') (bH K mg E G H)
def DO(X:Cx)(E:XK)(e:Option Expr)(f:DSt->R (Option Int)):Prop:=PO X e (tO X.K X.mg E f)
def b7:DSt->R (Option Int):=fun _=>.ok none
def asI:D->R (Option Int)
 |.int i=>.ok (some i)
 |_=>.bad
def bG(f:DSt->R D):DSt->R (Option Int):=fun Z=>(f Z).bind asI
theorem PO.mono'{e:Option Expr}{t t':TO}(h:PO X e t)(m:∀Z H Q,t' Z H Q->t Z H Q):PO X e t':=fun pins s Z H Q I q=>h pins s Z H Q I (m Z H Q q)
theorem FS:DO X E none b7:=PO.mono' T1 fun Z H Q ⟨G,Zd,ok,q⟩=>(show ∀G' H',Step G H G' H'->Q none H' from q) G H (.refl ok.ext)
theorem YL{f:DSt->R D}(h:DE X E e f):DO X E (some e) (bG f):=PO.mono' (T2 h) fun Z H Q ⟨G,Zd,ok,q⟩=>⟨G,Zd,ok,q.of_bind.mono (fun d _ z v G' H' s r=>by
 cases d with
 |int i=>cases r;exact⟨i,rfl,(show ∀G' H',Step G H G' H'->Q (some i) H' from z) G' H' s⟩
 |_=>exact(show False from z).elim) fun _ z=>z⟩
def cX{α:Type}(xs:List α)(lo hi:Option Int):List α:=(xs.drop (HT.sIx xs.length 0 lo)).take (HT.sIx xs.length xs.length hi-HT.sIx xs.length 0 lo)
def FT{α:Type}(xs:List α)(lo hi:Option Int):Bool:=decide (HT.sIx xs.length 0 lo=0/\HT.sIx xs.length xs.length hi=xs.length)
def zB:D->Option Int->Option Int->R D
 |.lst xs,lo,hi=>.ok (.lst (cX xs lo hi))
 |.tup xs,lo,hi=>bif FT xs lo hi then .bad else .ok (.tup (cX xs lo hi))
 |_,_,_=>.bad
def cC(fe:DSt->R D)(fl fh:DSt->R (Option Int)):DSt->R D:=fun Z=>(fe Z).bind fun d=>(fl Z).bind fun lo=>(fh Z).bind fun hi=>zB d lo hi
theorem Reps.cut{ds:List D}{vs:List V}(h:Reps K mg G ds vs)(lo hi:Option Int):Reps K mg G (cX ds lo hi) (jH vs lo hi):=by
 unfold cX jH
 rw[h.length]
 exact(h.drop _).take _
theorem YM{fe:DSt->R D}{lo hi:Option Expr}{fl fh:DSt->R (Option Int)}{p2:Pos}(he:DE X E e fe)(hl:DO X E lo fl)(hh:DO X E hi fh):DE X E (.Subscript e (.Slice lo hi none p2) pos) (cC fe fl fh):=by
 refine PE.mono' (xY (DY.or T6) he hl hh) fun Z H Q ⟨G,Zd,ok,q⟩=>?_
 refine gG (P:=aQ X.K X.mg Q) ok q fun d v G1 H1 s1 ok1 r1 q1=>?_
 refine⟨G1,Zd,ok1,q1.of_bind.mono (fun l _ q2 G2 H2 s2=>?_) fun _ z=>z⟩
 refine⟨G2,Zd,ok1.step s2,q2.of_bind.mono (fun u _ q3 G3 H3 s3=>?_) fun _ z=>z.step s2⟩
 have s:=(s1.trans s2).trans s3
 have r3:=r1.mono (s2.g.trans s3.g)
 cases d with
 |lst xs=>
  obtain⟨a,vs,rfl,h1,h2⟩:=r3
  refine .inl ⟨a,vs,rfl,s3.e.seq h1,fun pp hp=>?_⟩
  have sp:=Step.pub (o:=.lst (jH vs l u)) s3.e hp
  exact(show aQ X.K X.mg Q G H (.lst (cX xs l u)) from q3) _ _ _ (s.trans sp) ⟨pp,_,rfl,bM.of bV,(h2.cut l u).mono sp.g⟩
 |tup xs=>
  obtain⟨a,vs,rfl,h1,h2⟩:=r3
  cases hw:FT xs l u with
  |true=>simp only[zB,hw,cond_true] at q3;exact q3.elim
  |false=>
   simp only[zB,hw,cond_false] at q3
   refine .inr ⟨a,vs,rfl,aM.sqT s3.e h1,by rw[<- h2.length];exact of_decide_eq_false hw,fun pp hp=>?_⟩
   have sp:=Step.pub (o:=.tup (jH vs l u)) s3.e hp
   exact(show aQ X.K X.mg Q G H (.tup (cX xs l u)) from q3) _ _ _ (s.trans sp) ⟨pp,_,rfl,cB.of bV,(h2.cut l u).mono sp.g⟩
 |_=>exact(show False from q3).elim
end
def FU(c:Str)(fs:DSt->R (List D)):DSt->R aG:=fun Z=>(fs Z).bind fun ds=>bif j4 ds.length then .err (.exc c []) else .bad
section
variable{P:Program}{w:World}{K:xFg}{mg:Str->Option Value}{base:Heap}{N:List Str}{qual:Str}{scope:Scope}{f:Addr}{cdv:Value}{A:Around}{outer:List Env}{s0:Shared}{H0:Hp}{E:XK}{own own' ol:List Nat}
theorem YN{x:Str}{C:Addr}{e0:Expr}{rest:List Expr}{np cpos pos:Pos}{fs:DSt->R (List D)}(q:PySem.W.excIn K C [.type "ValueError",.type "Exception",.type "BaseException",.type "object"] "ValueError.__new__"=true)(hx:fF K mg x C)
  (ha:DA (dX (bW P w) P w K mg base N qual scope f cdv A outer s0 H0 E) E (e0::rest) fs) (hg:Gl (dX (bW P w) P w K mg base N qual scope f cdv A outer s0 H0 E) x:=by rfl)
  (hdb:(x==("__debug__":Str))=false:=by decide)
  (he:starEach (e0::rest) (envOfC qual scope s0.heap.objs.size f cdv)=(false,eval e0 (envOfC qual scope s0.heap.objs.size f cdv))::starEach rest (envOfC qual scope s0.heap.objs.size f cdv):=by rfl)
  (hpl:(backTo cpos (starEach rest (envOfC qual scope s0.heap.objs.size f cdv))).any (·.1)=false:=by rfl) :
  DS (dX (bW P w) P w K mg base N qual scope f cdv A outer s0 H0 E) E own own' ol (.Raise (some (.Call (.Name x np) (e0::rest) [] cpos)) none pos) (FU x fs):=fun G0=>
 PS.mono' (EI q hg hx.here ha hdb he hpl) fun Dn Z H ⟨G,Zd,ok,s1,z⟩=>by
 have sp:=ok.pubStep s1
 refine⟨_,Zd,ok.pub.1,z.of_bind.mono (fun ds _ z vs G' H' s r=>?_) fun _ z=>z.step sp⟩
 cases hf:j4 ds.length with
 |false=>rw[hf] at z;exact(show False from z).elim
 |true=>
  rw[hf] at z
  refine⟨by rw[<- r.length];exact yM hf,?_⟩
  exact(show bH K mg E G0 H0 (.exc x []) from z) G' H' C none (sp.trans s) ⟨x,[],[],rfl,hx,.inl ⟨rfl,rfl⟩,Reps.nil⟩
end
def u4(c:Str):DSt->R aG:=fun _=>.err (.exc c [])
theorem FV{P:Program}{w:World}{K:xFg}{mg:Str->Option Value}{base:Heap}{N:List Str}{qual:Str}{scope:Scope}{f:Addr}{cdv:Value}{A:Around}{outer:List Env}{s0:Shared}{H0:Hp}{E:XK}{own own' ol:List Nat}{x t:Str}{C:Addr}{np cpos pos tp:Pos}{j}(q:PySem.W.excIn K C [.type "ValueError",.type "Exception",.type "BaseException",.type "object"] "ValueError.__new__"=true)(hx:fF K mg x C)
  (hg:Gl (dX (bW P w) P w K mg base N qual scope f cdv A outer s0 H0 E) x:=by rfl) (hdb:(x==("__debug__":Str))=false:=by decide) :
  DS (dX (bW P w) P w K mg base N qual scope f cdv A outer s0 H0 E) E own own' ol (.Raise (some (.Call (.Name x np) [.Constant (.str t) j tp] [] cpos)) none pos) (u4 x):=
 YN (fs:=aA (eC (.str t)) aD) q hx (bB eV bJ) hg hdb
section
variable(K:xFg)(mg:Str->Option Value)
def tSX(G0 H0:Hp)(f:DSt->R aG):lN:=fun Dn E Z H=>∃G Zd,bZ K mg Zd Z G H/\Step G0 H0 G H/\RW (f Zd) (eH K mg G0 H0 [] [] Dn G) (bH K mg E G H)
end
def DSX(X:Cx)(st:Stmt)(f:DSt->R aG):Prop:=∀G0,nE X (bW X.prog X.w) st (tSX X.K X.mg G0 X.H₀ f)
def FY(X:Cx)(st:List Stmt)(f:DSt->R aG):Prop:=∀G0,yD X (bW X.prog X.w) st (tSX X.K X.mg G0 X.H₀ f)
theorem nE.mono'{X:Cx}{CX:eR}{st:Stmt}{t t':lN}(h:nE X CX st t)(m:∀D E Z H,t' D E Z H->t D E Z H):nE X CX st t':=fun pins s Z H D E I q=>h pins s Z H D E I (m D E Z H q)
section
variable{X:Cx}{ol:List Nat}{k:Nat}{x y:Str}{m:List D->R D}{p pos cpos npos:Pos}{e:Expr}{es:List Expr}{fs:DSt->R (List D)}{f g:DSt->R aG}
theorem YO{st:Stmt}(h:DSX X st f):FY X [st] f:=fun G0=>VP (h G0)
def u5(m:List D->R D)(fs:DSt->R (List D)):DSt->R D:=fun Z=>(fs Z).noerr.bind m
theorem YQ{G0 G H:Hp}{Zd:DSt}{Z:L2.St}{Q:VK}{E:XK}{S:D->R aG}{PO:aG->Prop}(ok:bZ X.K X.mg Zd Z G H)(q:RW ((u5 m fs Zd).bind S) PO (bH X.K X.mg E G H))
  (h:∀d v G' H',Step G H G' H'->Rep X.K X.mg G' d v->RW (S d) PO (bH X.K X.mg E G H)->Q v H'):EK (nH X.K X.mg m) [] (yG X.K X.mg E0 fs) Z H Q E:=by
 obtain⟨ds,e1,q⟩:=lQ q.of_bind.of_bind
 refine⟨G,Zd,ok,RW.ok_of e1 fun vs G' H' s r=>?_⟩
 show nH X.K X.mg m (vs++[]) H' _ E
 rw[xa8]
 exact⟨G',ds,s.e,r,q.mono (fun d _ z v G2 H2 s2 r2=>h d v G2 H2 (s.trans s2) r2 z) fun _ z=>z.step s⟩
theorem YR(hr:cQ k X.A)(F:aT X.prog X.w X.K X.mg X.base k x m)(ha:DA X.nox E0 (e::es) fs)(hg:Gl X x:=by rfl)(hdb:(x==("__debug__":Str))=false:=by decide)
  (he:starEach (e::es) X.env=(false,eval e X.env)::starEach es X.env:=by rfl) (hpl:(backTo cpos (starEach es X.env)).any (·.1)=false:=by rfl) (hs:swapsWith (.Call (.Name x p) (e::es) [] cpos) none pos.line X.env=pure false:=by rfl) :
  DSX X (.Expr (.Call (.Name x p) (e::es) [] cpos) pos) (yQ (u5 m fs)):=fun G0=>by
 obtain⟨fa,fd,ps,h1,h2,h3,h4⟩:=F.ex
 refine nE.mono' (VO (VM (dvs:=[]) (ds:=[]) h1 hr hg h2 h3 h4 .nil ha hdb he hpl) hs) fun Dn E Z H ⟨G,Zd,ok,s0,q⟩=>?_
 exact YQ (G0:=G0) ok q fun d v G' H' s r z=>(show eH X.K X.mg G0 X.H₀ [] [] Dn G (.nx Zd) from z) Z G' H' (.zero (ok.step s)) (s0.trans s) s.g
def u6(i:Nat)(c:Str)(body hnd:DSt->R aG):DSt->R aG:=fun Z=>match body Z with
 |.ok o=>.ok o
 |.err (.exc cc as)=>bif cR cc c==some true then (hnd (Z.set i (some (.exc cc as)))).noerr.bind fun o=>match o with
   |.nx Z'=>.ok (.nx (Z'.set i none))
   |_=>.bad
  else .bad
 |_=>.bad
theorem Ok.unset{K:xFg}{mg:Str->Option Value}{H0 G H:Hp}{Zd:DSt}{Z:L2.St}{i:Nat}{own:List Nat}(o:Ok K mg H0 own Zd Z G H)(hi:i∉own):Ok K mg H0 own (Zd.set i none) (Z.set i none) G H:=by
 have back:∀{j:Nat} {d:D},(Zd.set i none)[j]? = some (some d)->j≠i/\Zd[j]? = some (some d):=fun {j d} q=>by
  by_cases hj:j=i
  ·subst hj
   have hl:j<Zd.length:=by have:=(xan.mp q).1;simpa using this
   rw[xa0 hl] at q;cases q
  ·rw[xam (xbd hj)] at q;exact⟨hj,q⟩
 refine⟨o.ext,by simp[o.len],fun j d hj q=>?_,fun j d hj q=>?_,fun j l a d1 d2 h1 h2 h3 h4 h5 h6=>?_⟩
 ·obtain⟨hj',q'⟩:=back q
  rw[xam (xbd hj')];exact o.val j d hj q'
 ·obtain⟨hj',q'⟩:=back q
  rw[xam (xbd hj')];exact o.mine j d hj q'
 ·obtain⟨hj',q3⟩:=back h3
  obtain⟨hl',q4⟩:=back h4
  rw[xam (xbd hj')] at h5
  rw[xam (xbd hl')] at h6
  exact o.dj j l a d1 d2 h1 h2 q3 q4 h5 h6
theorem YS(i:Nat){E:XK}{body:List Stmt}{c n:Str}{np hpos:Pos}{b0:Stmt}{suite:List Stmt}{Dc:Addr}(hst:X.stack=X.env::X.outer)(hf:X.env.frame=some X.env.locals)(hN:X.N.Nodup)
  (hm:X.mg c=some (.ref Dc)) (hb:FY X body f) (hh:∀x,gK (hdl X x) E0 [] [] [] (b0::suite) g) (hi:X.N[i]? = some n:=by rfl) (hn:X.env.scope.names.lookup n=some .local:=by rfl) (hg:Gl X c:=by rfl)
  (hdb:(c==("__debug__":Str))=false:=by decide):DS X E [] [] [] (.Try body [.ExceptHandler (some (.Name c np)) (some n) (b0::suite) hpos] [] [] pos) (u6 i c f g):=fun G0=>
 PS.mono' (VR (th:=tS X.K X.mg E0 G0 X.H₀ [] [] [] g) hst hf hN hi hn hg hm (hb G0) (fun x=>hh x G0) hdb) fun Dn Z H ⟨G,Zd,ok,s0,q⟩=>by
 have ok0:bZ X.K X.mg Zd Z G H:=by have:=ok.masked;rw[uL] at this;exact this
 unfold u6 at q
 cases hbd:f Zd with
 |bad=>rw[hbd] at q;exact(show False from q).elim
 |ok o=>
  rw[hbd] at q
  exact⟨fun _ _ _=>False,⟨G,Zd,ok0,s0,RW.ok_of hbd q⟩,fun C dct H' x z=>z.elim⟩
 |err ex=>
  rw[hbd] at q
  cases ex with
  |exc cc as=>
   cases hsub:(cR cc c==some true) with
   |false=>simp only[hsub,cond_false] at q;exact q.elim
   |true=>
    simp only[hsub,cond_true] at q
    obtain⟨o,ho1,q⟩:=lQ q.of_bind
    refine⟨fun cv dct H'=>∃C G',cv=.ref C/\Step G H G' H'/\ET X.K X.mg G' (.exc cc as) C dct,⟨G,Zd,ok0,s0,?_⟩,?_⟩
    ·rw[hbd]
     exact fun G' H' C dct s r=>⟨C,G',rfl,s,r⟩
    ·rintro C dct H' x ⟨C',G',e1,s',hr⟩ nx
     cases e1
     obtain⟨c2,as2,vs,e2,hxc,hd,hrs⟩:=hr
     cases e2
     refine⟨hxc.ctc c Dc (eq_of_beq hsub) hm,?_⟩
     have sp:=Step.pub (o:=j3 x C dct) s'.e nx
     have st:=s'.trans sp
     refine⟨_,Zd.set i (some (.exc cc as)),.zero ((ok0.step st).set ⟨x,C,dct,vs,rfl,bV,hxc,hd.mono sp.g,hrs.mono sp.g⟩),s0.trans st,RW.ok_of ho1 ?_⟩
     cases o with
     |nx σ1=>
      have q':eH X.K X.mg G0 X.H₀ [] [] Dn G (.nx (σ1.set i none)):=q
      exact fun σ2 G2 H2 ok2 s2 e2=>q' _ G2 H2 (ok2.unset (by simp)) s2 (st.g.trans e2)
     |_=>exact(show False from q).elim
  |_=>exact(show False from q).elim
end
end DL
namespace DL
open L2 PyProof.Rows
theorem dO{n nN:Nat}{b:DSt->R aG}{ds:List D}{Z:DSt}(hl:ds.length=n)(hs:fH nN ds=Z):b6 n nN b ds=fin (b Z):=by
 subst hl;subst hs;unfold b6;rw[beq_self_eq_true];rfl
theorem YT{X:Cx}{E:XK}{x:Str}{d:D}{pos:Pos}(h:∃u v,X.mg x=some u/\aZ v u/\∀G,Rep X.K X.mg G d v)(hg:Gl X x:=by rfl)(hd:(x==("__debug__":Str))=false:=by decide):DE X E (.Name x pos) (eC d):=by
 obtain⟨u,v,h1,h2,h3⟩:=h
 exact EU h1 h2 h3 hg hd
section
variable{K:xFg}{mg:Str->Option Value}
def nO(c d:Str):Bool:=c==d||d=="ChalkError"
def lX(K:xFg)(mg:Str->Option Value)(C:Addr)(d:Str)(b:Bool):Prop:=
 (∀D,mg d=some (.ref D)->PySem.W.kitOne K (.ref C) (.ref D)=some b)/\(b=true->∀D,mg d=some (.ref D)->PySem.W.exmOne K (.ref C) (.ref D)=some true)
theorem fF.mk'{c:Str}{C:Addr}(here:mg c=some (.ref C))(exc:nB K C)(val:PySem.W.kitOne K (.ref C) (.type "ValueError")=some true)(rows:∀d∈lO,lX K mg C d (nO c d)):fF K mg c C:=by
 have sub:∀d b,cR c d=some b->d∈lO/\b=nO c d:=fun d b h=>by
  unfold cR at h
  cases hc:(lO.contains c&&lO.contains d) with
  |false=>rw[hc] at h;cases h
  |true=>
   rw[hc] at h
   have h':some (c==d||d=="ChalkError")=some b:=h
   rw[xap] at hc
   exact⟨by simpa using hc.2,by cases h';rfl⟩
 refine⟨here,exc,fun d Dd b h hd=>?_,val,fun d Dd h hd=>?_⟩
 ·obtain⟨h1,rfl⟩:=sub d b h
  exact(rows d h1).1 Dd hd
 ·obtain⟨h1,h2⟩:=sub d true h
  exact(rows d h1).2 h2.symm Dd hd
theorem lX.of{C D0:Addr}{d:Str}{b:Bool}(h:mg d=some (.ref D0))(t:PySem.W.kitOne K (.ref C) (.ref D0)=some b)(u:b=true->PySem.W.exmOne K (.ref C) (.ref D0)=some true):lX K mg C d b:=
 ⟨fun D hD=>by rw[h] at hD;cases hD;exact t,fun hb D hD=>by rw[h] at hD;cases hD;exact u hb⟩
theorem lX.no{C:Addr}{d:Str}{b:Bool}(h:mg d=none):lX K mg C d b:=⟨fun D hD=>(by rw[h] at hD;cases hD),fun _ D hD=>(by rw[h] at hD;cases hD)⟩
end
section
variable{P:Program}{w:World}{K:xFg}{mg:Str->Option Value}{base:Heap}
theorem YU{x qual:Str}{st:Stmt}{f:Addr}{fd:FuncData}{N ps:List Str}{k n nN:Nat}{own':List Nat}{body:DSt->R aG}(F:gE K x qual st f fd)(S:gU N ps (cF st))
  (hn:ps.length=n) (hN:N.length=nN)
  (hb:∀(X:Cx) (E:XK),(∃cdv A outer s H,X=dX (bW P w) P w K mg base N qual (cF st) f cdv A outer s H E)->XC X E k->XL X->gK X E [] own' [] (fX st) body):cN P w K mg base (bW P w) (k+1) f fd ps (nH K mg (b6 n nN body)):=by
 refine F.okX S (fun vs H Q E h=>?_) (fun cdv A outer s H vs Q E hr hsp=>?_)
 ·obtain⟨G,ds,e,r,q⟩:=h
  by_cases hd:ds.length=n
  ·rw[<- r.length,hd,hn]
  ·have:(ds.length==n)=false:=by simpa using hd
   unfold b6 at q
   rw[this] at q
   exact(show False from q).elim
 ·obtain⟨G,ds,e,r,q⟩:=hsp
  have hd:ds.length=n:=by
   by_cases hd:ds.length=n
   ·exact hd
   ·have:(ds.length==n)=false:=by simpa using hd
    unfold b6 at q
    rw[this] at q
    exact(show False from q).elim
  unfold b6 at q
  rw[show (ds.length==n)=true by simpa using hd] at q
  have q':RW (fin (body (fH nN ds))) (aQ K mg Q G H) (bH K mg E G H):=q
  refine⟨_,hb _ E ⟨cdv,A,outer,s,H,rfl⟩ ⟨rfl,hr,uC⟩ ⟨PassesOwn.leaving⟩ G,G,fH nN ds,?_,.refl e,?_⟩
  ·have:=Reps.startOk e (N.length-vs.length) r
   unfold L2.start fH
   rw[<- hN,r.length]
   exact .zero this
  ·cases hbd:body (fH nN ds) with
   |bad=>rw[hbd] at q';exact q'
   |err e=>rw[hbd] at q';exact q'
   |ok o=>
    rw[hbd] at q'
    cases o with
    |rt d=>exact fun v G' H' s r=>(show aQ K mg Q G H d from q') v G' H' s r
    |rf es=>
     intro a vs G' H' s n e g r
     have q2:aQ K mg Q G H (.lst es):=q'
     have sg:aM G' (aU G' a (.lst vs)):=same_upd g
     refine q2 (.ref a) (aU G' a (.lst vs)) H' ⟨s.g.trans sg,s.h,fun b u p=>?_,fun b u p1 p2=>?_⟩ ⟨a,vs,rfl,bM.of bV,r.mono sg⟩
     ·by_cases hb:b=a
      ·subst hb;rw[bV] at p;cases p;exact e
      ·rw[bF hb] at p;exact s.e b u p
     ·have hb:b≠a:=cU p1 n
      rw[bF hb];exact s.c b u p1 p2
    |nx Z=>exact fun Z' G' H' ok s _=>(show aQ K mg Q G H .non from q') .non G' H' s rfl
    |bk Z=>exact(show False from q').elim
    |ct Z=>exact(show False from q').elim
def u7(K:xFg):Sp:=fun vs H Q _=>∃(a:Addr) (ns:List Int),vs=[.ref a]/\bM K H a (ns.map V.int)/\ns.length<=63/\∀H',Q (.bl true) H'
theorem YV{k:Nat}{f:Addr}{fd:FuncData}{m:List D->R D}(F:cN P w K mg base (bW P w) k f fd ["_law_script"] (nH K mg m))(hm:∀ns:List Int,ns.length<=63->m [.lst (ns.map .int)]=.ok (.bl true)) :
  cN P w K mg base (bW P w) k f fd ["_law_script"] (u7 K):=F.imp fun vs H Q E h=>by
 obtain⟨a,ns,rfl,hS,hl,q⟩:=h
 refine⟨H,[.lst (ns.map .int)],aM.refl _,Reps.cons ⟨a,_,rfl,hS,Reps.ints ns⟩ Reps.nil,RW.ok_of (hm ns hl) fun v G' H' s r=>?_⟩
 cases r;exact q H'
end
theorem walkD{l:PySem.W.OpenLaw}{q:Program}{loose:List Str}{XP:(Str->Option Value)->Heap->Prop}{YP:World->Heap->Prop}{d:DefRec}{K:Params->xFg}(k:Nat)(hr:cQ k callerA)(hn:l.most=some 63)(hdf:d.params.defaults=[])
  (hY:∀(w:World) (h:Heap),YP w h->(K w.params).In h)
  (F : ∀ (w : World) (mg : Str -> Option Value) (fa : Addr) (h : Heap), (K w.params).In h -> h.Ns mainGlobals mg -> mg d.name = some (.ref fa) ->
   ∃fd:FuncData,(∀(s:Shared) (u:Value),BindsTo s fd ⟨[u],[]⟩ [("_law_script",u)])/\∀base:Heap,(K w.params).In base->base.Ns mainGlobals mg->cN l.prog w (K w.params) mg base (bW l.prog w) k fa fd ["_law_script"] (u7 (K w.params))) :
  PySem.W.WalkO q loose XP YP l.row.toRowW d [] (fun f vs=>PySem.call f vs):=
 L2.walk_of (n:=63) (k:=k) (x:="_law_script") (CX:=fun w=>bW l.prog w) (sp:=fun w=>u7 (K w.params)) hn (by decide) hdf hr hY F (fun _ _ a ns hl _ hS=>⟨a,ns,rfl,hS,hl,fun _=>rfl⟩) fun w H s e s' z=>by
  obtain⟨_,_,_,_,_,_,_,_,_,_,_,_,_,z⟩:=z
  exact z.elim
end DL
namespace DL
open L2
def kW(r:R aG)(g:DSt->R aG):R aG:=r.bind fun o=>match o with
 |.nx Z'=>g Z'
 |o=>.ok o
theorem bY(f g:DSt->R aG)(Z:DSt):aN f g Z=kW (f Z) g:=rfl
theorem bU(Z:DSt)(g:DSt->R aG):kW (.ok (.nx Z)) g=g Z:=rfl
theorem FZ(d:D)(g:DSt->R aG):kW (.ok (.rt d)) g=.ok (.rt d):=rfl
theorem GA(Z:DSt)(g:DSt->R aG):kW (.ok (.bk Z)) g=.ok (.bk Z):=rfl
theorem GB(Z:DSt)(g:DSt->R aG):kW (.ok (.ct Z)) g=.ok (.ct Z):=rfl
theorem GC(e:D)(g:DSt->R aG):kW (.err e) g=.err e:=rfl
theorem jM(Z:DSt):gL Z=.ok (.nx Z):=rfl
theorem GD(d:D)(Z:DSt):aB 0 (some d::Z)=.ok d:=rfl
theorem GF(n:Nat)(x:Option D)(Z:DSt):aB (n+1) (x::Z)=aB n Z:=rfl
theorem i5(d:D)(Z:DSt):eC d Z=.ok d:=rfl
def bI(g:D->D->R D)(a b:R D):R D:=a.bind fun x=>b.bind fun y=>g x y
theorem bS(g:D->D->R D)(fa fb:DSt->R D)(Z:DSt):aC g fa fb Z=bI g (fa Z) (fb Z):=rfl
theorem cD(g:D->D->R D)(x y:D):bI g (.ok x) (.ok y)=g x y:=rfl
def unK(g:D->R D)(a:R D):R D:=a.bind g
theorem GH(g:D->R D)(fa:DSt->R D)(Z:DSt):gJ g fa Z=unK g (fa Z):=rfl
theorem GI(g:D->R D)(x:D):unK g (.ok x)=g x:=rfl
def rR(m:List D->R D)(a:R (List D)):R D:=a.bind m
theorem jN(m:List D->R D)(fs:DSt->R (List D))(Z:DSt):aR m fs Z=rR m (fs Z):=rfl
theorem zC(m:List D->R D)(ds:List D):rR m (.ok ds)=m ds:=rfl
theorem GJ(m:List D->R D)(e:D):rR m (.err e)=.err e:=rfl
def GK(m:List D->R D)(a:R (List D)):R D:=a.noerr.bind m
theorem GL(m:List D->R D)(fs:DSt->R (List D))(Z:DSt):u5 m fs Z=GK m (fs Z):=rfl
theorem GM(m:List D->R D)(ds:List D):GK m (.ok ds)=m ds:=rfl
def lY(g:List D->R D)(a:R (List D)):R D:=a.bind fun ds=>(g ds).noerr
theorem lZ(g:List D->R D)(fs:DSt->R (List D))(Z:DSt):aJ g fs Z=lY g (fs Z):=rfl
theorem zD(g:List D->R D)(ds:List D):lY g (.ok ds)=(g ds).noerr:=rfl
def GN(g:List D->R (List D))(a:R (List D)):R (List D):=a.bind fun ds=>(g ds).noerr
theorem GO(g:List D->R (List D))(fs:DSt->R (List D))(Z:DSt):rP g fs Z=GN g (fs Z):=rfl
theorem GP(g:List D->R (List D))(ds:List D):GN g (.ok ds)=(g ds).noerr:=rfl
theorem zF{α:Type}(a:α):(R.ok a).noerr=.ok a:=rfl
theorem zG(Z:DSt):aD Z=.ok []:=rfl
def cZ(a:R D)(b:R (List D)):R (List D):=a.bind fun x=>b.bind fun xs=>.ok (x::xs)
theorem cE(fa:DSt->R D)(fs:DSt->R (List D))(Z:DSt):aA fa fs Z=cZ (fa Z) (fs Z):=rfl
theorem u8(x:D)(xs:List D):cZ (.ok x) (.ok xs)=.ok (x::xs):=rfl
theorem GQ(e:D)(b:R (List D)):cZ (.err e) b=.err e:=rfl
def iL(a:R (List D)):R D:=a.bind fun ds=>bif j4 ds.length then .ok (.tup ds) else .bad
theorem nP(fs:DSt->R (List D))(Z:DSt):bQ fs Z=iL (fs Z):=rfl
theorem GS:iL (.ok [])=.ok (.tup []):=rfl
theorem GU(a:D):iL (.ok [a])=.ok (.tup [a]):=rfl
theorem GV(a b:D):iL (.ok [a,b])=.ok (.tup [a,b]):=rfl
theorem GW(a b c:D):iL (.ok [a,b,c])=.ok (.tup [a,b,c]):=rfl
theorem GX(a b c d:D):iL (.ok [a,b,c,d])=.ok (.tup [a,b,c,d]):=rfl
theorem GY(a b c d e:D):iL (.ok [a,b,c,d,e])=.ok (.tup [a,b,c,d,e]):=rfl
theorem GZ(a b c d e f:D):iL (.ok [a,b,c,d,e,f])=.ok (.tup [a,b,c,d,e,f]):=rfl
theorem HA(a b c d e f g h i:D):iL (.ok [a,b,c,d,e,f,g,h,i])=.ok (.tup [a,b,c,d,e,f,g,h,i]):=rfl
def i6(a:R (List D)):R (List D):=a.bind fun ds=>bif j4 ds.length then .ok ds else .bad
theorem o0(fs:DSt->R (List D))(Z:DSt):aP fs Z=i6 (fs Z):=rfl
theorem HB:i6 (.ok [])=.ok []:=rfl
theorem HC(a:D):i6 (.ok [a])=.ok [a]:=rfl
theorem HD(a b:D):i6 (.ok [a,b])=.ok [a,b]:=rfl
theorem HE(a b c:D):i6 (.ok [a,b,c])=.ok [a,b,c]:=rfl
theorem HF(a b c d:D):i6 (.ok [a,b,c,d])=.ok [a,b,c,d]:=rfl
theorem HG(a b c d e:D):i6 (.ok [a,b,c,d,e])=.ok [a,b,c,d,e]:=rfl
theorem HH(a b c d e f:D):i6 (.ok [a,b,c,d,e,f])=.ok [a,b,c,d,e,f]:=rfl
def o3(a:R (List D)):R D:=a.bind fun ds=>.ok (.lst ds)
theorem gX(fl:DSt->R (List D))(Z:DSt):aL fl Z=o3 (fl Z):=rfl
theorem HI(ds:List D):o3 (.ok ds)=.ok (.lst ds):=rfl
def c7(a:R D):R Bool:=a.bind fG
theorem dQ(f:DSt->R D)(Z:DSt):aK f Z=c7 (f Z):=rfl
theorem u9(b:Bool):c7 (.ok (.bl b))=.ok b:=rfl
def vA(a:R Bool)(fb:DSt->R Bool)(Z:DSt):R Bool:=a.bind fun k=>bif k then fb Z else .ok false
theorem l5(fa fb:DSt->R Bool)(Z:DSt):gH fa fb Z=vA (fa Z) fb Z:=rfl
theorem o4(fb:DSt->R Bool)(Z:DSt):vA (.ok true) fb Z=fb Z:=rfl
theorem zH(fb:DSt->R Bool)(Z:DSt):vA (.ok false) fb Z=.ok false:=rfl
def zI(a:R Bool)(fb:DSt->R Bool)(Z:DSt):R Bool:=a.bind fun k=>bif k then .ok true else fb Z
theorem fJ(fa fb:DSt->R Bool)(Z:DSt):dY fa fb Z=zI (fa Z) fb Z:=rfl
theorem HJ(fb:DSt->R Bool)(Z:DSt):zI (.ok true) fb Z=.ok true:=rfl
theorem gO(fb:DSt->R Bool)(Z:DSt):zI (.ok false) fb Z=fb Z:=rfl
def kX(a:R Bool):R Bool:=a.bind fun k=>.ok (!k)
theorem j9(fa:DSt->R Bool)(Z:DSt):dI fa Z=kX (fa Z):=rfl
theorem vB(b:Bool):kX (.ok b)=.ok (!b):=rfl
def vC(a:R D)(fb:DSt->R D)(Z:DSt):R D:=a.bind fun x=>(fG x).bind fun k=>bif k then fb Z else .ok (.bl false)
theorem zJ(fa fb:DSt->R D)(Z:DSt):lP fa fb Z=vC (fa Z) fb Z:=rfl
theorem zK(fb:DSt->R D)(Z:DSt):vC (.ok (.bl true)) fb Z=fb Z:=rfl
theorem HK(fb:DSt->R D)(Z:DSt):vC (.ok (.bl false)) fb Z=.ok (.bl false):=rfl
def zL(a:R D)(fb:DSt->R D)(Z:DSt):R D:=a.bind fun x=>(fG x).bind fun k=>bif k then .ok (.bl true) else fb Z
theorem HL(fa fb:DSt->R D)(Z:DSt):vOr fa fb Z=zL (fa Z) fb Z:=rfl
theorem HM(fb:DSt->R D)(Z:DSt):zL (.ok (.bl true)) fb Z=.ok (.bl true):=rfl
theorem HN(fb:DSt->R D)(Z:DSt):zL (.ok (.bl false)) fb Z=fb Z:=rfl
def HP(a:R D):R D:=a.bind fun x=>(fG x).bind fun k=>.ok (.bl !k)
theorem HQ(fa:DSt->R D)(Z:DSt):WD fa Z=HP (fa Z):=rfl
theorem HR(b:Bool):HP (.ok (.bl b))=.ok (.bl !b):=rfl
def zM(c:R Bool)(fa fb:DSt->R D)(Z:DSt):R D:=c.bind fun k=>bif k then fa Z else fb Z
theorem HS(c:DSt->R Bool)(fa fb:DSt->R D)(Z:DSt):eIf c fa fb Z=zM (c Z) fa fb Z:=rfl
theorem HU(fa fb:DSt->R D)(Z:DSt):zM (.ok true) fa fb Z=fa Z:=rfl
theorem HV(fa fb:DSt->R D)(Z:DSt):zM (.ok false) fa fb Z=fb Z:=rfl
def zN(c:R Bool)(f g:DSt->R aG)(Z:DSt):R aG:=c.bind fun k=>bif k then f Z else g Z
theorem eM(c:DSt->R Bool)(f g:DSt->R aG)(Z:DSt):eY c f g Z=zN (c Z) f g Z:=rfl
theorem l6(f g:DSt->R aG)(Z:DSt):zN (.ok true) f g Z=f Z:=rfl
theorem gP(f g:DSt->R aG)(Z:DSt):zN (.ok false) f g Z=g Z:=rfl
def HW(g g':D->D->R D)(a b c:R D):R D:=a.bind fun x=>b.bind fun y=>(g x y).bind fun z=>(fG z).bind fun k=>bif k then c.bind fun w=>g' y w else .ok (.bl false)
theorem HX(g g':D->D->R D)(fa fb fc:DSt->R D)(Z:DSt):qN g g' fa fb fc Z=HW g g' (fa Z) (fb Z) (fc Z):=rfl
theorem HY(p q:Int->Int->Bool)(i j k:Int):HW (gB p) (gB q) (.ok (.int i)) (.ok (.int j)) (.ok (.int k))=.ok (.bl (p i j&&q j k)):=by
 show (bif p i j then R.ok (D.bl (q j k)) else R.ok (D.bl false))=_
 cases p i j<;>rfl
def HZ(i:Nat)(l:R (List D))(a:R D)(Z:DSt):R aG:=l.bind fun ds=>a.bind fun d=>bif most ds.length then .ok (.nx (Z.set i (some (.lst (ds++[d]))))) else .bad
theorem nQ(own:List Nat)(i:Nat)(fe:DSt->R D)(Z:DSt):iH own i fe Z=HZ i (fR Z i) (fe (mask own Z)) Z:=rfl
theorem H9{n:Nat}(h:n<=1000000):most n=true:=xaf (xci h (by decide))
theorem nS(i:Nat)(ds:List D)(d:D)(Z:DSt)(h:ds.length<=1000000):HZ i (.ok ds) (.ok d) Z=.ok (.nx (Z.set i (some (.lst (ds++[d]))))):=by
 show (bif most ds.length then _ else _)=_
 rw[H9 h];rfl
def IA(i:Nat)(l:R (List D))(a:R D)(Z:DSt):R aG:=l.bind fun ds=>a.bind fun d=>bif most ds.length&&imm d then .ok (.nx (Z.set i (some (.lst (ds++[d]))))) else .bad
theorem IB(i:Nat)(fe:DSt->R D)(Z:DSt):WZ i fe Z=IA i (fR Z i) (fe Z) Z:=rfl
theorem YW(i:Nat)(ds:List D)(d:D)(Z:DSt)(h:ds.length<=1000000)(h':imm d=true):IA i (.ok ds) (.ok d) Z=.ok (.nx (Z.set i (some (.lst (ds++[d]))))):=by
 show (bif most ds.length&&imm d then _ else _)=_
 rw[H9 h,h'];rfl
theorem IC(ds:List D)(Z:DSt):fR (some (.lst ds)::Z) 0=.ok ds:=rfl
theorem ID(x:Option D)(Z:DSt)(n:Nat):fR (x::Z) (n+1)=fR Z n:=rfl
theorem iM{i:Int}(h1:-(10^100)<=i)(h2:i<=10^100):i3 i=true:=W5 (n:=400) (B.of (k:=10^100) (by omega))
theorem IE{i:Int}(h1:-(10^100)<=i)(h2:i<=10^100)(h:i≠0):oX i=true:=W7 (n:=400) (B.of (k:=10^100) (by omega)) h
def jO(a:R D):R aG:=a.bind fun d=>.ok (.rt d)
theorem l7(fe:DSt->R D)(Z:DSt):cJ fe Z=jO (fe Z):=rfl
theorem IF(d:D):jO (.ok d)=.ok (.rt d):=rfl
theorem IG(e:D):jO (.err e)=.err e:=rfl
def zO(a:R D)(Z:DSt):R aG:=a.bind fun _=>.ok (.nx Z)
theorem IH(fe:DSt->R D)(Z:DSt):yQ fe Z=zO (fe Z) Z:=rfl
theorem II(d:D)(Z:DSt):zO (.ok d) Z=.ok (.nx Z):=rfl
theorem IJ(e:D)(Z:DSt):zO (.err e) Z=.err e:=rfl
def vD(i:Nat)(a:R D)(Z:DSt):R aG:=a.bind fun d=>.ok (.nx (Z.set i (some d)))
theorem o5(i:Nat)(fe:DSt->R D)(Z:DSt):aY i fe Z=vD i (fe Z) Z:=rfl
theorem IK(own:List Nat)(i:Nat)(fe:DSt->R D)(Z:DSt):cW own i fe Z=vD i (fe (mask own Z)) Z:=rfl
theorem vE(i:Nat)(d:D)(Z:DSt):vD i (.ok d) Z=.ok (.nx (Z.set i (some d))):=rfl
theorem IL(i:Nat)(e:D)(Z:DSt):vD i (.err e) Z=.err e:=rfl
def IM(i:Nat)(a:R D)(Z:DSt):R aG:=a.bind fun d=>bif imm d then .ok (.nx (Z.set i (some d))) else .bad
theorem YX(i:Nat)(fe:DSt->R D)(Z:DSt):WO i fe Z=IM i (fe Z) Z:=rfl
theorem YY(i:Nat)(d:D)(Z:DSt)(h:imm d=true):IM i (.ok d) Z=.ok (.nx (Z.set i (some d))):=by
 show (bif imm d then _ else _)=_
 rw[h];rfl
def zP(i:Nat)(a:R (List D))(Z:DSt):R aG:=a.bind fun ds=>.ok (.nx (Z.set i (some (.lst ds))))
theorem zQ(own:List Nat)(i:Nat)(fe:DSt->R (List D))(Z:DSt):jL own i fe Z=zP i (fe (mask own Z)) Z:=rfl
theorem zS(i:Nat)(ds:List D)(Z:DSt):zP i (.ok ds) Z=.ok (.nx (Z.set i (some (.lst ds)))):=rfl
def rS(ks:List Nat)(gp:D->R (List D))(a:R D)(Z:DSt):R aG:=a.bind fun d=>(gp d).noerr.bind fun us=>.ok (.nx (setAll Z ks us))
theorem o6(own ks:List Nat)(gp:D->R (List D))(fe:DSt->R D)(Z:DSt):j5 own ks gp fe Z=rS ks gp (fe (mask own Z)) Z:=rfl
theorem IN(i j:Nat)(a b:D)(Z:DSt):rS [i,j] (eG 2) (.ok (.tup [a,b])) Z=.ok (.nx ((Z.set i (some a)).set j (some b))):=rfl
theorem IP(i j:Nat)(a b:D)(Z:DSt):rS [i,j] (eG 2) (.ok (.lst [a,b])) Z=.ok (.nx ((Z.set i (some a)).set j (some b))):=rfl
theorem IQ(i j k:Nat)(a b c:D)(Z:DSt):rS [i,j,k] (eG 3) (.ok (.tup [a,b,c])) Z=.ok (.nx (((Z.set i (some a)).set j (some b)).set k (some c))):=rfl
theorem IR(i j k:Nat)(a b c:D)(Z:DSt):rS [i,j,k] (eG 3) (.ok (.lst [a,b,c])) Z=.ok (.nx (((Z.set i (some a)).set j (some b)).set k (some c))):=rfl
def IS(i j:Nat)(a:R (List D))(Z:DSt):R aG:=a.bind fun ds=>match ds with
 |[a,b]=>.ok (.nx ((Z.set i (some a)).set j (some b)))
 |_=>.bad
theorem IT(own:List Nat)(i j:Nat)(fs:DSt->R (List D))(Z:DSt):WY own i j fs Z=IS i j (fs (mask own Z)) Z:=rfl
theorem IU(i j:Nat)(a b:D)(Z:DSt):IS i j (.ok [a,b]) Z=.ok (.nx ((Z.set i (some a)).set j (some b))):=rfl
def IV(c:Str)(a:R (List D)):R aG:=a.bind fun ds=>bif j4 ds.length then .err (.exc c []) else .bad
theorem IW(c:Str)(fs:DSt->R (List D))(Z:DSt):FU c fs Z=IV c (fs Z):=rfl
theorem IX(c:Str)(a:D):IV c (.ok [a])=.err (.exc c []):=rfl
theorem IY(c:Str)(Z:DSt):u4 c Z=.err (.exc c []):=rfl
def zU(i:Nat)(c:Str)(r:R aG)(hnd:DSt->R aG)(Z:DSt):R aG:=match r with
 |.ok o=>.ok o
 |.err (.exc cc as)=>bif cR cc c==some true then (hnd (Z.set i (some (.exc cc as)))).noerr.bind fun o=>match o with
   |.nx Z'=>.ok (.nx (Z'.set i none))
   |_=>.bad
  else .bad
 |_=>.bad
theorem IZ(i:Nat)(c:Str)(body hnd:DSt->R aG)(Z:DSt):u6 i c body hnd Z=zU i c (body Z) hnd Z:=rfl
theorem I0(i:Nat)(c:Str)(o:aG)(hnd:DSt->R aG)(Z:DSt):zU i c (.ok o) hnd Z=.ok o:=rfl
def JA(i:Nat)(r:R aG):R aG:=r.noerr.bind fun o=>match o with
 |.nx Z'=>.ok (.nx (Z'.set i none))
 |_=>.bad
theorem JB(i:Nat)(Z:DSt):JA i (.ok (.nx Z))=.ok (.nx (Z.set i none)):=rfl
theorem YZ(i:Nat)(c cc:Str)(as:List D)(hnd:DSt->R aG)(Z:DSt)(h:cR cc c=some true):zU i c (.err (.exc cc as)) hnd Z=JA i (hnd (Z.set i (some (.exc cc as)))):=by
 show (bif cR cc c==some true then _ else _)=_
 rw[h];rfl
theorem JC(d:D):fin (.ok (.rt d))=.ok d:=rfl
theorem JD(Z:DSt):fin (.ok (.nx Z))=.ok .non:=rfl
theorem JE(e:D):fin (.err e)=.err e:=rfl
theorem vF(i j:Int):aI (.int i) (.int j)=.ok (.int (i+j)):=rfl
theorem JF(i j:Int):gSub (.int i) (.int j)=.ok (.int (i-j)):=rfl
theorem kY(i j:Int)(hi:i3 i=true)(hj:i3 j=true):j7 (.int i) (.int j)=.ok (.int (i*j)):=by
 show (bif i3 i&&i3 j then _ else _)=_
 rw[hi,hj];rfl
theorem rV(i j:Int)(h:oX j=true)(h0:0<j):iI (.int i) (.int j)=.ok (.int (i/j)):=by
 show (bif oX j then R.ok (D.int (i.fdiv j)) else .bad)=_
 rw[h,Int.fdiv_eq_ediv_of_nonneg _ (Int.le_of_lt h0)];rfl
theorem e9(i j:Int)(h0:0<j):aV (.int i) (.int j)=.ok (.int (i%j)):=by
 have:decide (j≠0)=true:=xaf (by omega)
 show (bif decide (j≠0) then R.ok (D.int (i.fmod j)) else .bad)=_
 rw[this,Int.fmod_eq_emod_of_nonneg _ (Int.le_of_lt h0)];rfl
theorem Y0(i j:Int)(h:yU i j=true):qY (.int i) (.int j)=.ok (.int (i^j.toNat)):=by
 show (bif yU i j then _ else _)=_
 rw[h];rfl
theorem Y1(i j:Int)(h:0<=j):XF (.int i) (.int j)=.ok (.int (i/2^j.toNat)):=by
 show (bif decide (0<=j) then _ else _)=_
 rw[xaf h];rfl
theorem JG(i:Int):gM (.int i)=.ok (.int (-i)):=rfl
theorem JH(i j:Int):gA (.int i) (.int j)=.ok (.bl (decide (i<j))):=rfl
theorem JI(i j:Int):uV (.int i) (.int j)=.ok (.bl (decide (i<=j))):=rfl
theorem JJ(i j:Int):fI (.int i) (.int j)=.ok (.bl (decide (j<i))):=rfl
theorem JK(i j:Int):gGe (.int i) (.int j)=.ok (.bl (decide (j<=i))):=rfl
theorem o7{a b:D}(h:iJ a b=true):a6 a b=.ok (.bl (bC a b)):=by unfold a6;rw[h];rfl
theorem rW{a b:D}(h:iJ a b=true):bR a b=.ok (.bl (!bC a b)):=by unfold bR;rw[h];rfl
theorem zV(i j:Int):bC (.int i) (.int j)=decide (i=j):=by unfold bC;rfl
theorem JL(i j:Int):a6 (.int i) (.int j)=.ok (.bl (decide (i=j))):=by rw[o7 rfl,zV]
theorem zW(i j:Int):bR (.int i) (.int j)=.ok (.bl (!decide (i=j))):=by rw[rW rfl,zV]
theorem JM(i j:Bool):a6 (.bl i) (.bl j)=.ok (.bl (i==j)):=by rw[o7 rfl];unfold bC;rfl
theorem JN(i j:Bool):bR (.bl i) (.bl j)=.ok (.bl (!(i==j))):=by rw[rW rfl];unfold bC;rfl
abbrev t3(x y z:Int):D:=.tup [.int x,.int y,.int z]
abbrev l3(x y z:Int):D:=.lst [.int x,.int y,.int z]
theorem JO:∀(ns ms:List Int),eqDs (ns.map D.int) (ms.map D.int)=decide (ns=ms)
 |[],[]=>by unfold eqDs;rfl
 |[],_::_=>by unfold eqDs;rfl
 |_::_,[]=>by unfold eqDs;rfl
 |n::ns,m::ms=>by
  show eqDs (D.int n::ns.map D.int) (D.int m::ms.map D.int)=_
  unfold eqDs
  rw[JO ns ms,zV,xcr]
  simp
theorem zX(a b c x y z:Int):bC (t3 a b c) (t3 x y z)=decide (a=x/\b=y/\c=z):=by
 have:=JO [a,b,c] [x,y,z]
 unfold bC
 rw[show ([D.int a,.int b,.int c]:List D)=[a,b,c].map D.int from rfl,show ([D.int x,.int y,.int z]:List D)=[x,y,z].map D.int from rfl,this,xcr]
 simp
theorem Y2(a b c x y z:Int):bC (l3 a b c) (l3 x y z)=decide (a=x/\b=y/\c=z):=by
 have:=zX a b c x y z
 unfold bC at this ⊢
 exact this
theorem JP(a b c x y z:Int):a6 (t3 a b c) (t3 x y z)=.ok (.bl (decide (a=x/\b=y/\c=z))):=by rw[o7 rfl,zX]
theorem JQ(a b c x y z:Int):bR (t3 a b c) (t3 x y z)=.ok (.bl (!decide (a=x/\b=y/\c=z))):=by rw[rW rfl,zX]
theorem JR(a b c x y z:Int):a6 (l3 a b c) (l3 x y z)=.ok (.bl (decide (a=x/\b=y/\c=z))):=by rw[o7 rfl,Y2]
theorem JS(a b:Bool):uW (.bl a) (.bl b)=.ok (.bl (a==b)):=rfl
theorem JT(a b:Bool):rL (.bl a) (.bl b)=.ok (.bl (a != b)):=rfl
theorem JU(d:D):uW d .non=.ok (.bl (nK d)):=by cases d<;>rfl
theorem JV(d:D):rL d .non=.ok (.bl (!nK d)):=by cases d<;>rfl
theorem JW(a b c:D):aF (.tup [a,b,c]) (.int 0)=.ok a:=rfl
theorem JX(a b c:D):aF (.tup [a,b,c]) (.int 1)=.ok b:=rfl
theorem JY(a b c:D):aF (.tup [a,b,c]) (.int 2)=.ok c:=rfl
theorem JZ(a b c:D):aF (.lst [a,b,c]) (.int 0)=.ok a:=rfl
theorem J0(a b c:D):aF (.lst [a,b,c]) (.int 1)=.ok b:=rfl
theorem J1(a b c:D):aF (.lst [a,b,c]) (.int 2)=.ok c:=rfl
theorem jP{xs:List D}{j:Nat}{d:D}(h:xs[j]? = some d):aF (.lst xs) (.int (j:Int))=.ok d:=by
 show (match eU xs (j:Int) with|some d=>R.ok d|none=>.bad)=_
 rw[T9 h]
theorem J2(xs:List D):aW [.lst xs]=.ok (.int xs.length):=rfl
theorem J3:aW [.tup []]=.ok (.int 0):=rfl
theorem J4(a:D):aW [.tup [a]]=.ok (.int 1):=rfl
theorem J5(a b:D):aW [.tup [a,b]]=.ok (.int 2):=rfl
theorem J6(a b c:D):aW [.tup [a,b,c]]=.ok (.int 3):=rfl
theorem J7(a b c d:D):aW [.tup [a,b,c,d]]=.ok (.int 4):=rfl
theorem J8(i:Int):XZ [.int i]=.ok (.int (i.natAbs:Int)):=rfl
theorem J9(i j:Int):rM [.int i,.int j]=.ok (.int (min i j)):=rfl
theorem KA(i j:Int):rN [.int i,.int j]=.ok (.int (max i j)):=rfl
theorem KB(b:Bool):cY [.bl b]=.ok (.int (if b then 1 else 0)):=rfl
theorem KC(i:Int):g2 bK [.int i,.ty "int"]=.ok (.bl true):=rfl
theorem KD(i:Int):g2 bK [.int i,.ty "bool"]=.ok (.bl false):=rfl
theorem KF(i:Bool):g2 bK [.bl i,.ty "bool"]=.ok (.bl true):=rfl
theorem KG(i:Bool):g2 bK [.bl i,.ty "int"]=.ok (.bl true):=rfl
theorem KH(xs:List D):g2 bK [.tup xs,.ty "tuple"]=.ok (.bl true):=rfl
theorem KI(xs:List D):g2 bK [.lst xs,.ty "list"]=.ok (.bl true):=rfl
theorem KJ(xs:List D):g2 bK [.lst xs,.ty "tuple"]=.ok (.bl false):=rfl
theorem KK(xs:List D):g2 bK [.tup xs,.ty "list"]=.ok (.bl false):=rfl
theorem fS{c d:Str}{b:Bool}(h:cR c d=some b):g2 bK [.exc c [],.cls d]=.ok (.bl b):=by
 show (match cR c d with|some b=>R.ok (D.bl b)|none=>.bad)=_
 rw[h]
theorem KL(c:Str):g2 bK [.exc c [],.ty "ValueError"]=.ok (.bl true):=rfl
theorem zY(j:Int)(h:fZ j=true):eX [.int j]=.ok (cH 0 j.toNat):=by
 show (bif fZ j then _ else _)=_
 rw[h];rfl
theorem KM(i j:Int)(h:fZ i=true)(h':fZ j=true):nI [.int i,.int j]=.ok (cH i (j-i).toNat):=by
 show (bif fZ i&&fZ j then _ else _)=_
 rw[h,h'];rfl
theorem rX{i:Int}(h:-1000000000<=i)(h':i<=1000000000):fZ i=true:=by
 unfold fZ
 rw[Nat.blt_eq]
 omega
def zZ(g:List D->R (List D))(a:R (List D)):R (List D):=a.bind g
theorem z0(g:List D->R (List D))(fs:DSt->R (List D))(Z:DSt):fP g fs Z=zZ g (fs Z):=(rfl)
theorem KN(g:List D->R (List D))(ds:List D):zZ g (.ok ds)=g ds:=(rfl)
def AA(a:R D):R (List D):=a.bind E2
theorem KO(f:DSt->R D)(Z:DSt):dJ f Z=AA (f Z):=rfl
theorem KP(xs:List D):AA (.ok (.tup xs))=.ok xs:=rfl
theorem KQ(xs:List D):AA (.ok (.lst xs))=.ok xs:=rfl
def AB(ks:List Nat)(gp:D->R (List D))(fb:DSt->R aG)(a:R (List D))(Z:DSt):R aG:=a.bind fun ds=>eZ ks gp fb ds Z
theorem vG(own ks:List Nat)(gp:D->R (List D))(fi:DSt->R (List D))(fb:DSt->R aG)(Z:DSt):j6 own ks gp fi fb Z=AB ks gp fb (fi (mask own Z)) Z:=rfl
theorem rY(ks:List Nat)(gp:D->R (List D))(fb:DSt->R aG)(ds:List D)(Z:DSt):AB ks gp fb (.ok ds) Z=eZ ks gp fb ds Z:=rfl
def kZ(r:R aG)(k:DSt->R aG):R aG:=r.bind fun o=>match o with
 |.nx Z'=>k Z'
 |.ct Z'=>k Z'
 |.bk Z'=>.ok (.nx Z')
 |.rt d=>.ok (.rt d)
 |.rf d=>.ok (.rf d)
theorem vH(Z:DSt)(k:DSt->R aG):kZ (.ok (.nx Z)) k=k Z:=rfl
theorem KR(Z:DSt)(k:DSt->R aG):kZ (.ok (.ct Z)) k=k Z:=rfl
theorem KS(Z:DSt)(k:DSt->R aG):kZ (.ok (.bk Z)) k=.ok (.nx Z):=rfl
theorem KT(d:D)(k:DSt->R aG):kZ (.ok (.rt d)) k=.ok (.rt d):=rfl
theorem KU(d:D)(k:DSt->R aG):kZ (.err d) k=.err d:=rfl
theorem AC(ks:List Nat)(gp:D->R (List D))(fb:DSt->R aG)(Z:DSt):eZ ks gp fb [] Z=.ok (.nx Z):=rfl
theorem vI(i:Nat)(fb:DSt->R aG)(d:D)(ds:List D)(Z:DSt):eZ [i] bX fb (d::ds) Z=kZ (fb (Z.set i (some d))) (eZ [i] bX fb ds):=by
 show (fb (Z.set i (some d))).bind _=_
 unfold kZ
 cases fb (Z.set i (some d)) with
 |ok o=>cases o<;>rfl
 |err e=>rfl
 |bad=>rfl
theorem o8{i:Nat}{fb:DSt->R aG}(I:Nat->DSt->Prop)(ds:List D)(hs:∀(k:Nat) (d:D) (Z:DSt),ds[k]? = some d->I k Z->∃Z',(fb (Z.set i (some d))=.ok (.nx Z')\/fb (Z.set i (some d))=.ok (.ct Z'))/\I (k+1) Z')(Z:DSt)(h:I 0 Z):∃Z',eZ [i] bX fb ds Z=.ok (.nx Z')/\I ds.length Z':=by
 have go:∀(ds:List D) (n:Nat),(∀(k:Nat) (d:D) (Z:DSt),ds[k]? = some d->I (n+k) Z->∃Z',(fb (Z.set i (some d))=.ok (.nx Z')\/fb (Z.set i (some d))=.ok (.ct Z'))/\I (n+k+1) Z')->∀Z,I n Z->∃Z',eZ [i] bX fb ds Z=.ok (.nx Z')/\I (n+ds.length) Z':=by
  intro ds
  induction ds with
  |nil=>intro n _ Z h;exact⟨Z,rfl,h⟩
  |cons d ds ih=>
   intro n hs Z h
   obtain⟨σ1,h1,h2⟩:=hs 0 d Z rfl h
   obtain⟨σ2,h3,h4⟩:=ih (n+1) (fun k d' Z hd hI=>by
    have:=hs (k+1) d' Z (by simpa using hd) (by rw[show n+(k+1)=n+1+k by omega];exact hI)
    rw[show n+(k+1)+1=n+1+k+1 by omega] at this
    exact this) σ1 h2
   refine⟨σ2,?_,by rw[xad,show n+(ds.length+1)=n+1+ds.length by omega];exact h4⟩
   rw[vI]
   rcases h1 with h1|h1<;>rw[h1]
   ·exact h3
   ·exact h3
 obtain⟨Z',h1,h2⟩:=go ds 0 (fun k d Z hd hI=>by
  rw[xcl] at hI ⊢
  exact hs k d Z hd hI) Z h
 exact⟨Z',h1,by rw[xcl] at h2;exact h2⟩
def AD(k:Nat)(ks:List Nat)(a:R (List D))(gp:D->R (List D))(c:DSt->R Bool)(e:DSt->R D)(Z:DSt):R (List D):=a.bind fun ds=>bif most ds.length then (iE ks gp c e (List.replicate k none++Z) ds).noerr else .bad
theorem l9(k:Nat)(ks:List Nat)(fi:DSt->R (List D))(gp:D->R (List D))(c:DSt->R Bool)(e:DSt->R D)(Z:DSt):dN k ks fi gp c e Z=AD k ks (fi Z) gp c e Z:=rfl
theorem o9{n:Nat}(h:n<=1000000):most n=true:=xaf (xci h (by decide))
theorem nU{ds:List D}{e:DSt->R D}{Z:DSt}{g:D->D}(hl:ds.length<=1000000)(h:∀d∈ds,e (some d::Z)=.ok (g d)):AD 1 [0] (.ok ds) bX c9 e Z=.ok (ds.map g):=by
 have go:∀ds:List D,(∀d∈ds,e (some d::Z)=.ok (g d))->iE [0] bX c9 e (List.replicate 1 none++Z) ds=.ok (ds.map g):=by
  intro ds
  induction ds with
  |nil=>intro _;rfl
  |cons d ds ih=>
   intro h
   show (e (some d::Z)).bind (fun y=>(iE [0] bX c9 e (List.replicate 1 none++Z) ds).bind fun ys=>.ok (y::ys))=_
   rw[h d xaq,ih fun d' hd=>h d' (xae _ hd)];rfl
 show (bif most ds.length then _ else _)=_
 rw[o9 hl,go ds h];rfl
end DL
namespace DL
open L2 PyProof.Rows
section
variable{X:Cx}{E:XK}{e:Expr}{te:TE}{pos:Pos}
def putK(i:Nat)(l:R (List D))(a k:R D)(Z:DSt):R aG:=l.bind fun ds=>a.bind fun d=>k.bind fun kd=>match kd with
 |.int n=>match j1 ds.length n with
  |some j=>.ok (.nx (Z.set i (some (.lst (ds.set j d)))))
  |none=>.bad
 |_=>.bad
variable{own ol:List Nat}{x:Str}{k:Expr}{fk fe:DSt->R D}{np tpos:Pos}
end
def tR(K:xFg)(mg:Str->Option Value)(E:XK)(f:DSt->R (List D)):TI:=fun Z H R=>∃G Zd,bZ K mg Zd Z G H/\RW (f Zd) (fun ds=>∀J G' H',Step G H G' H'->(∀G2,iD K mg J G2 ds)->R J H') (bH K mg E G H)
def DR(X:Cx)(E:XK)(tg iter:Expr)(f:DSt->R (List D)):Prop:=PI X tg iter (tR X.K X.mg E f)
section
variable{X:Cx}{E:XK}{K:xFg}{mg:Str->Option Value}{p pos:Pos}{e:Expr}{es:List Expr}{fs:DSt->R (List D)}
def vJ:D->R D
 |.int i=>bif decide (i.natAbs.log2<1920) then .ok (.str (toString i)) else .bad
 |_=>.bad
abbrev iN:=g1 vJ
theorem Y3:iC K mg (fun xs H Q=>∃i,xs=[.int i]/\i.natAbs.log2<1920/\Q (.str (toString i)) H) iN:=oZ fun G H d v Q e r q=>by
 cases d with
 |int i=>
  cases r
  cases hC:decide (i.natAbs.log2<1920) with
  |false=>simp only[vJ,hC,cond_false] at q;exact q.elim
  |true=>simp only[vJ,hC,cond_true] at q;exact⟨i,rfl,xas hC,aQ.now q e rfl⟩
 |_=>exact(show False from q).elim
theorem Y4(hm:X.mg "str"=none)(ha:DA X E (e::es) fs)(hg:Gl X "str":=by rfl)(he:starEach (e::es) X.env=(false,eval e X.env)::starEach es X.env:=by rfl)(hpl:(backTo pos (starEach es X.env)).any (·.1)=false:=by rfl):DE X E (.Call (.Name "str" p) (e::es) [] pos) (aJ iN fs):=
 uH SR Y3 hm ha yZ hg (by decide) (by decide) he hpl
end
end DL
namespace DL
open PySem.Spec PyProof.Rows L2
section
variable{X:Cx}{E:XK}{pos:Pos}
theorem Y5{pins:List (Addr×Obj)}{Z:L2.St}{H:Hp}{s:Shared}(I:aH X pins Z H s):sysModules<s.heap.objs.size:=
 Nat.lt_trans (by decide) (show mainGlobals<s.heap.objs.size from (I.mod.glob.keeps I.bk).lt)
theorem Y6:PE X (.Dict [] [] pos) (fun _ H Q=>∀p,H p=none->Q (.ref p) (aU H p (.dK []))):=fun pins s Z H Q I h=>
 wpAny_Dict_empty ⟨.ref s.heap.objs.size,_,I.laid (a:=s.heap.objs.size) (o:=.dK []) (t':=s.toks) (fun _ _ q=>xaj _ q) (xak _)
  ⟨xbz _,beq_eq_false_iff_ne.mpr (xbd (xbf (Y5 I))),[],.nil,Heap.DictOf.new s.heap⟩,rfl,h _ (I.hok.fresh (xak _))⟩
theorem Y7:DE X E (.Dict [] [] pos) (eC (.dct [] [])):=PE.mono' Y6 fun Z H Q ⟨G,Zd,ok,q⟩ p hp=>by
 have sp:=Step.pub (o:=.dK []) ok.ext hp
 exact(show aQ X.K X.mg Q G H (.dct [] []) from q) _ _ _ sp ⟨p,[],rfl,.inl bV,rfl,Reps.nil⟩
end
end DL
namespace DL
open L2 PyProof.Rows
def gY(d:D)(xs:List D):Bool:=xs.any fun y=>bC y d
def eI(d:D)(xs:List D):Bool:=bN 9 d&&xs.all (bN 9)
def jQ:D->D->R D
 |d,.lst xs=>bif eI d xs then .ok (.bl (gY d xs)) else .bad
 |d,.tup xs=>bif eI d xs then .ok (.bl (gY d xs)) else .bad
 |.str i,.str j=>.ok (.bl (!(Builtin.Str.occurrences j i 0 j.length 1).isEmpty))
 |_,_=>.bad
def dE:D->D->R D
 |d,.lst xs=>bif eI d xs then .ok (.bl (!gY d xs)) else .bad
 |d,.tup xs=>bif eI d xs then .ok (.bl (!gY d xs)) else .bad
 |.str i,.str j=>.ok (.bl (!(!(Builtin.Str.occurrences j i 0 j.length 1).isEmpty)))
 |_,_=>.bad
section
variable{X:Cx}{E:XK}
theorem KW{K:xFg}{mg:Str->Option Value}{G:Hp}{d:D}(f:Value->Bool):∀{ds:List D} {vs:List V} {its:List Value},(∀d' v' u,d'∈ds->Rep K mg G d' v'->aZ v' u->f u=bC d' d)->Reps K mg G ds vs->bA vs its->its.any f=ds.any fun y=>bC y d
 |[],_,_,_,r,t=>by cases r;cases t;rfl
 |d'::ds,_,_,h,⟨v,vs,e,r1,r2⟩,t=>by
  subst e
  cases t with
  |cons q t=>
   rw[xcg,xcg,h d' _ _ xaq r1 q,KW f (fun d'' v'' u hd=>h d'' v'' u (xae _ hd)) r2 t]
theorem KY{K:xFg}{mg:Str->Option Value}{G:Hp}:∀{ds:List D} {vs:List V} {its:List Value},Reps K mg G ds vs->bA vs its->∀u∈its,∃d' v',d'∈ds/\Rep K mg G d' v'/\aZ v' u
 |[],_,_,r,t,u,hu=>by cases r;cases t;cases hu
 |d'::ds,_,_,⟨v,vs,e,r1,r2⟩,t,u,hu=>by
  subst e
  cases t with
  |cons q t=>
   rcases xal.mp hu with rfl|hu
   ·exact⟨d',v,xaq,r1,q⟩
   ·obtain⟨d'',v'',h1,h2,h3⟩:=KY r2 t u hu
    exact⟨d'',v'',xae _ h1,h2,h3⟩
def KZ(K:xFg)(mg:Str->Option Value)(neg:Bool):R2:=fun x y H Q=>∃G d ds p vs,aM G H/\Rep K mg G d x/\y=.ref p/\(bM K G p vs\/cB K G p vs)/\Reps K mg G ds vs/\eI d ds=true/\Q (.bl (bif neg then !gY d ds else gY d ds)) H
open Classical in
theorem vK{pins:List (Addr×Obj)}{Z:L2.St}{G H:Hp}{s:Shared}(I:aH X pins Z H s){k:Nat}(r:cQ k X.A)(e:aM G H){d:D}{x:V}{v:Value}{ds:List D}{vs:List V}{its:List Value}(rx:Rep X.K X.mg G d x)(qx:aZ x v)(rs:Reps X.K X.mg G ds vs)(t:bA vs its)(h:eI d ds=true) :
  ∃f:Value->Bool,(∀u∈its,SeqAt.EqAt X.A.in1 s u v (f u))/\its.any f=gY d ds:=by
 unfold eI at h
 rw[xap,xa2] at h
 obtain⟨h1,h2⟩:=h
 have key:∀d' v' u,d'∈ds->Rep X.K X.mg G d' v'->aZ v' u->decide (∃d'' v'',d''∈ds/\Rep X.K X.mg G d'' v''/\aZ v'' u/\bC d'' d=true)=bC d' d:=by
  intro d' v' u hd r1 q1
  by_cases hq:bC d' d=true
  ·rw[hq];exact xaf ⟨d',v',hd,r1,q1,hq⟩
  ·rw[Bool.not_eq_true] at hq
   rw[hq]
   refine xag ?_
   rintro⟨d'',v'',hd',r2,q2,hq'⟩
   have ev:=q1.inj q2
   subst ev
   have:=yS I e 9 (h2 _ hd) (h2 _ hd') r1 r2
   subst this
   rw[hq] at hq';cases hq'
 refine⟨fun u=>decide (∃d'' v'',d''∈ds/\Rep X.K X.mg G d'' v''/\aZ v'' u/\bC d'' d=true),fun u hu=>?_,KW _ key rs t⟩
 obtain⟨d',v',hd,r1,q1⟩:=KY rs t u hu
 show SeqAt.EqAt X.A.in1 s u v (decide _)
 rw[key d' v' u hd r1 q1]
 exact(yT I e 9 (by rw[FE];have:=r.un;omega) (h2 _ hd) h1 r1 q1 rx qx).1
theorem Y8{k:Nat}(r:cQ k X.A):bP X (compareOp .In) (KZ X.K X.mg false):=by
 intro pins s Z H x y v u Q I rx ry h
 obtain⟨G,d,ds,p,vs,e,r1,rfl,hq,rs,c,q⟩:=h
 cases ry
 rcases hq with hq|hq
 ·obtain⟨its,t,pl,hz⟩:=I.list (e.seq hq)
  obtain⟨f,h1,h2⟩:=vK I r e r1 rx rs t c
  refine SeqAt.in_listAt f pl.isList (fun w hw=>h1 w (by simpa using hw)) ⟨.bl _,H,I,rfl,?_⟩
  rw[show its.toArray.any f=its.any f by simp,h2];exact q
 ·obtain⟨its,t,pl,hz⟩:=I.tuple (aM.sqT e hq)
  obtain⟨f,h1,h2⟩:=vK I r e r1 rx rs t c
  refine SeqAt.in_tupleAt f pl (fun w hw=>h1 w (by simpa using hw)) ⟨.bl _,H,I,rfl,?_⟩
  rw[show its.toArray.any f=its.any f by simp,h2];exact q
theorem Y9{k:Nat}(r:cQ k X.A):bP X (compareOp .NotIn) (KZ X.K X.mg true):=by
 intro pins s Z H x y v u Q I rx ry h
 obtain⟨G,d,ds,p,vs,e,r1,rfl,hq,rs,c,q⟩:=h
 cases ry
 rcases hq with hq|hq
 ·obtain⟨its,t,pl,hz⟩:=I.list (e.seq hq)
  obtain⟨f,h1,h2⟩:=vK I r e r1 rx rs t c
  refine SeqAt.notIn_listAt f pl.isList (fun w hw=>h1 w (by simpa using hw)) ⟨.bl _,H,I,rfl,?_⟩
  rw[show its.toArray.any f=its.any f by simp,h2];exact q
 ·obtain⟨its,t,pl,hz⟩:=I.tuple (aM.sqT e hq)
  obtain⟨f,h1,h2⟩:=vK I r e r1 rx rs t c
  refine SeqAt.notIn_tupleAt f pl (fun w hw=>h1 w (by simpa using hw)) ⟨.bl _,H,I,rfl,?_⟩
  rw[show its.toArray.any f=its.any f by simp,h2];exact q
abbrev K0(neg:Bool):R2:=fun x y H Q=>∃i j,x=.str i/\y=.str j/\Q (.bl (bif neg then !(!(Builtin.Str.occurrences j i 0 j.length 1).isEmpty) else !(Builtin.Str.occurrences j i 0 j.length 1).isEmpty)) H
theorem ZA{k:Nat}(C:XC X E k):gN X .In jQ:=⟨_,(Y8 C.room).or (SG:bP X _ (K0 false)),fun G H a b x y Q e ra rb q=>by
 cases b with
 |lst xs=>
  obtain⟨p,vs,rfl,h1,h2⟩:=rb
  cases hc:eI a xs with
  |false=>simp only[jQ,hc,cond_false] at q;exact q.elim
  |true=>simp only[jQ,hc,cond_true] at q;exact .inl ⟨G,a,xs,p,vs,e,ra,rfl,.inl h1,h2,hc,aQ.now q e rfl⟩
 |tup xs=>
  obtain⟨p,vs,rfl,h1,h2⟩:=rb
  cases hc:eI a xs with
  |false=>simp only[jQ,hc,cond_false] at q;exact q.elim
  |true=>simp only[jQ,hc,cond_true] at q;exact .inl ⟨G,a,xs,p,vs,e,ra,rfl,.inr h1,h2,hc,aQ.now q e rfl⟩
 |str j=>cases a with
  |str i=>cases ra;cases rb;exact .inr ⟨i,j,rfl,rfl,aQ.now q e rfl⟩
  |_=>exact(show False from q).elim
 |_=>cases a<;>exact(show False from q).elim,fun a b e=>by
  cases b with
  |lst xs=>simp only[jQ];cases eI a xs<;>simp[cond]
  |tup xs=>simp only[jQ];cases eI a xs<;>simp[cond]
  |_=>cases a<;>simp[jQ]⟩
theorem AE{k:Nat}(C:XC X E k):gN X .NotIn dE:=⟨_,(Y9 C.room).or (UG:bP X _ (K0 true)),fun G H a b x y Q e ra rb q=>by
 cases b with
 |lst xs=>
  obtain⟨p,vs,rfl,h1,h2⟩:=rb
  cases hc:eI a xs with
  |false=>simp only[dE,hc,cond_false] at q;exact q.elim
  |true=>simp only[dE,hc,cond_true] at q;exact .inl ⟨G,a,xs,p,vs,e,ra,rfl,.inl h1,h2,hc,aQ.now q e rfl⟩
 |tup xs=>
  obtain⟨p,vs,rfl,h1,h2⟩:=rb
  cases hc:eI a xs with
  |false=>simp only[dE,hc,cond_false] at q;exact q.elim
  |true=>simp only[dE,hc,cond_true] at q;exact .inl ⟨G,a,xs,p,vs,e,ra,rfl,.inr h1,h2,hc,aQ.now q e rfl⟩
 |str j=>cases a with
  |str i=>cases ra;cases rb;exact .inr ⟨i,j,rfl,rfl,aQ.now q e rfl⟩
  |_=>exact(show False from q).elim
 |_=>cases a<;>exact(show False from q).elim,fun a b e=>by
  cases b with
  |lst xs=>simp only[dE];cases eI a xs<;>simp[cond]
  |tup xs=>simp only[dE];cases eI a xs<;>simp[cond]
  |_=>cases a<;>simp[dE]⟩
end
theorem K1{d:D}{xs:List D}(h:eI d xs=true):dE d (.lst xs)=.ok (.bl (!gY d xs)):=by
 cases d<;>(simp only[dE];rw[h];rfl)
def rZ:D->D->R (List D)
 |.lst xs,.lst ys=>bif bD (xs.length+ys.length) then .ok (xs++ys) else .bad
 |_,_=>.bad
def pA(fa fb:DSt->R D):DSt->R (List D):=fun Z=>(fa Z).bind fun x=>(fb Z).bind fun y=>rZ x y
theorem ZB{X:Cx}{E:XK}{a b:Expr}{fa fb:DSt->R D}{pos:Pos}(ha:DE X E a fa)(hb:DE X E b fb):DF X E (.BinOp a .Add b pos) (pA fa fb):=by
 refine PE.mono' (xO FG ha hb) fun Z H Q ⟨G,Zd,ok,q⟩=>?_
 refine gG (P:=gF X.K X.mg Q) ok q fun a x G1 H1 s1 ok1 r1 q1=>?_
 refine gG (P:=fun _ _=>gF X.K X.mg Q G H) ok1 q1 fun b y G2 H2 s2 ok2 r2 q2=>?_
 cases a with
 |lst xs=>cases b with
  |lst ys=>
   obtain⟨p,vs,rfl,h1,h2⟩:=r1
   obtain⟨p',ws,rfl,h1',h2'⟩:=r2
   have h1:=s2.g.seq h1
   have h2:=h2.mono s2.g
   cases hC:bD (xs.length+ys.length) with
   |false=>simp only[rZ,hC,cond_false] at q2;exact q2.elim
   |true=>
    simp only[rZ,hC,cond_true] at q2
    have q3:gF X.K X.mg Q G H (xs++ys):=q2
    refine⟨p,p',vs,ws,rfl,rfl,ok2.ext.seq h1,ok2.ext.seq h1',by rw[<- h2.length,<- h2'.length];exact xas hC,fun l hl=>?_⟩
    exact q3 l _ G2 _ ((s1.trans s2).trans (.hid ok2.ext hl)) ((s1.trans s2).h.free hl) bV (ok2.ext.free hl) (h2.append h2')
  |_=>exact(show False from q2).elim
 |_=>cases b<;>exact(show False from q2).elim
def AF(a b:R D):R (List D):=a.bind fun x=>b.bind fun y=>rZ x y
theorem ZC(fa fb:DSt->R D)(Z:DSt):pA fa fb Z=AF (fa Z) (fb Z):=rfl
theorem ZD(xs ys:List D)(h:xs.length+ys.length<=1000000):AF (.ok (.lst xs)) (.ok (.lst ys))=.ok (xs++ys):=by
 show (bif bD (xs.length+ys.length) then _ else _)=_
 rw[show bD (xs.length+ys.length)=true from xaf (xah h (by decide))];rfl
end DL
namespace DL
open L2 PyProof.Rows
def iO(c:Nat):Str:=⟨#[c]⟩
def vL(z:Str):It:=⟨fun i _=>i<z.cps.size,fun i H x H'=>H'=H/\∃c,z.cps[i]? = some c/\x=.str (iO c),fun i _=>z.cps.size<=i⟩
theorem K2{P:Program}{w:World}{K:xFg}{tg:Expr}(z:Str)(it:Addr)(nm:String)(t:Tok)(hnm:nm="str_ascii_iterator"\/nm="str_iterator"):oN P w K tg (vL z) [it] it (fun i h=>h.IsStrIter it nm z t i) where
 mem:=by simp
 obj:=fun i h st b hb=>by
  have e:b=it:=by simpa using hb
  subst e
  obtain⟨o,e,c,d⟩:=st
  exact⟨o,e,fun v z=>by rw[d] at z;cases z⟩
 keep:=fun i h h' st k=>by
  obtain⟨o,e,r⟩:=st
  exact⟨o,k it (by simp) o e,r⟩
 item:=by
  intro X hP hw hK hc i pins s Z H E I hf st hg
  subst hP hw hK
  obtain⟨f0,f1,f2,f3,f4,f5⟩:=hf it (by simp)
  have go:∀(W:Walks X.prog X.w X.A it [it] [it] z.cps.size (SignAt z) (fun i h=>h.IsStrIter it nm z t i)),wpAny (model X.prog X.w) X.A (pyNext (.ref it)) (fun r s1=>∃u,r=some u/\wpAny (model X.prog X.w) X.A (letOwnedTupleGo tg (.ref it) u) (fun _ s2=>∃x H',aH X pins Z H' s2/\aZ x u/\(vL z).yld i H x H'/\s2.heap.IsStrIter it nm z t (i+1)/\∀b∈[it],H' b=none) E s1) E s:=by
   intro W
   refine W.item i s _ _ hg st fun v h' tk hv st' kk=>?_
   obtain⟨c,u,hc',rfl⟩:=hv
   have I1:aH X pins Z H { s with heap:=h',toks:=tk }:=I.turned (fun b o hb e=>kk b o (by simpa using hb) e) f0 f1 f3 f4 f5
   obtain⟨o,e,cl,d⟩:=id st'
   exact⟨_,rfl,tX (s:={ s with heap:=h',toks:=tk }) e cl d (by rcases hnm with rfl|rfl<;>decide) ⟨.str (iO c),H,I1,⟨u,rfl⟩,⟨rfl,c,hc',rfl⟩,st',fun b hb=>(hf b hb).1⟩⟩
  rcases hnm with rfl|rfl
  ·exact go (Walks.strAscii (I.ok.hd hc) it z t)
  ·exact go (Walks.strWide (I.ok.hd hc) it z t)
 done:=by
  intro X hP hw hK hc i pins s Z H E I hf st hg
  subst hP hw hK
  obtain⟨f0,f1,f2,f3,f4,f5⟩:=hf it (by simp)
  rcases hnm with rfl|rfl
  ·exact wpAny_pyNext_ascii_end (I.ok.hd hc) st (by have:z.cps.size<=i:=hg;simp;omega) fun h' eb=>⟨rfl,I.turned (t':=s.toks) (fun b o hb e=>eb b o hb e) f0 f1 f3 f4 f5⟩
  ·exact wpAny_pyNext_wide_end (I.ok.hd hc) st (by have:z.cps.size<=i:=hg;simp;omega) fun h' eb=>⟨rfl,I.turned (t':=s.toks) (fun b o hb e=>eb b o hb e) f0 f1 f3 f4 f5⟩
 self:=fun A i s Q E st h=>by
  rcases hnm with rfl|rfl
  ·exact wpAny_pyIter_striter_ascii st h
  ·exact wpAny_pyIter_striter_wide st h
section
variable{X:Cx}{E:XK}{tg:Expr}
def K3(tl:TE):TI:=fun Z H R=>tl Z H fun x H1=>∃z,x=.str z/\R (vL z) H1
theorem ZE{l:Expr}{tl:TE}(hl:PE X l tl):PI X tg l (K3 tl):=by
 intro pins s Z H R I h
 refine aX (hl pins s Z H _ I h) fun v s1 ⟨x,H1,I1,r1,q1⟩=>?_
 obtain⟨z,e,q⟩:=q1
 subst e
 obtain⟨t,rfl⟩:=r1
 have fpo:∀b∈[s1.heap.objs.size],iU X pins H1 b:=fun b hb=>by
  have e:b=s1.heap.objs.size:=by simpa using hb
  subst e
  exact I1.fpOk (xak _) (I1.hok.fresh (xak _))
 cases ha:z.cps.all (· < 128)
 ·exact wpAny_pyIter_wide ha ⟨s1.heap.objs.size,[s1.heap.objs.size],_,_,H1,rfl,I1.kept (t':=s1.toks) fun b o e=>xaj _ e,K2 z _ "str_iterator" t (.inr rfl),⟨_,xa6 _ rfl,rfl,rfl⟩,fpo,q⟩
 ·exact wpAny_pyIter_ascii ha ⟨s1.heap.objs.size,[s1.heap.objs.size],_,_,H1,rfl,I1.kept (t':=s1.toks) fun b o e=>xaj _ e,K2 z _ "str_ascii_iterator" t (.inl rfl),⟨_,xa6 _ rfl,rfl,rfl⟩,fpo,q⟩
def i7(z:Str):List D:=z.cps.toList.map fun c=>.str (iO c)
def AG:D->R (List D)
 |.str z=>.ok (i7 z)
 |_=>.bad
def AH(f:DSt->R D):DSt->R (List D):=fun Z=>(f Z).bind AG
theorem iD.text{K:xFg}{mg:Str->Option Value}{G:Hp}(z:Str):iD K mg (vL z) G (i7 z):=by
 have hl:(i7 z).length=z.cps.size:=by simp[i7]
 refine⟨fun H e=>by rw[hl];exact xak _,fun H i d e hd=>?_⟩
 have hi:i<z.cps.size:=by have:=(xan.mp hd).1;omega
 refine⟨hi,fun x H' y G1 e1 e2=>?_⟩
 obtain⟨rfl,c,hc,rfl⟩:=y
 have:d=.str (iO c):=by
  unfold i7 at hd
  rw[xbl,Array.getElem?_toList,hc] at hd
  simpa using hd.symm
 subst this
 exact⟨G1,.refl e2,rfl⟩
theorem ZF{l:Expr}{f:DSt->R D}(hl:DE X E l f):DI X E tg l (AH f):=by
 have hT:PI X tg l (K3 (tE X.K X.mg E f)):=ZE hl
 intro pins s Z H R I ⟨G,Zd,ok,q⟩
 refine hT pins s Z H R I ⟨G,Zd,ok,?_⟩
 refine q.of_bind.mono (fun d _ z=>?_) fun _ z=>z
 rintro v G' H' st r
 cases d with
 |str y=>
  cases r
  exact⟨y,rfl,(show ∀J G' H',Step G H G' H'->iD X.K X.mg J G' (i7 y)->R J H' from z) _ G' H' st (.text y)⟩
 |_=>exact(show False from z).elim
variable{a b:Expr}{fa fb:DSt->R D}{pos:Pos}
def jR:D->D->R D
 |.str z,.int i=>bif decide (0<=i)&&Nat.blt i.natAbs 1073741824 then (match z.cps[i.toNat]? with
  |some c=>.ok (.str (iO c))
  |none=>.bad) else .bad
 |_,_=>.bad
abbrev rIxS:R2:=fun x y H Q=>∃z i c,x=.str z/\y=.int i/\0<=i/\i<2^63/\i<z.length/\z.cps[i.toNat]? = some c/\Q (.str ⟨#[c]⟩) H
theorem ZG:fM jR:=by
 intro a b e h
 cases a with
 |str z=>cases b with
  |int i=>
   cases hC:(decide (0<=i)&&Nat.blt i.natAbs 1073741824) with
   |false=>simp only[jR,hC,cond_false] at h;cases h
   |true=>
    simp only[jR,hC,cond_true] at h
    split at h<;>cases h
  |_=>cases h
 |_=>cases b<;>cases h
theorem ZH{K:xFg}{mg:Str->Option Value}:fL K mg rIxS jR:=by
 intro G H a b x y Q e ra rb q
 cases a with
 |str z=>cases b with
  |int i=>
   cases ra;cases rb
   cases hC:(decide (0<=i)&&Nat.blt i.natAbs 1073741824) with
   |false=>simp only[jR,hC,cond_false] at q;exact q.elim
   |true=>
    simp only[jR,hC,cond_true] at q
    rw[xap,decide_eq_true_eq,Nat.blt_eq] at hC
    cases hc:z.cps[i.toNat]? with
    |none=>rw[hc] at q;exact q.elim
    |some c=>
     rw[hc] at q
     have hlt:i.toNat<z.cps.size:=(xb4.mp hc).1
     have hlt':i<(z.length:Int):=by
      show i<(z.cps.size:Int)
      omega
     exact⟨z,i,c,rfl,rfl,hC.1,by omega,hlt',hc,aQ.now q e rfl⟩
  |_=>exact(show False from q).elim
 |_=>cases b<;>exact(show False from q).elim
theorem ZI(ha:DE X E a fa)(hb:DE X E b fb)(hs:CW b:=by intro _ _;rfl):DE X E (.Subscript a b pos) (aC jR fa fb):=
 PE.mono' (SM ha hb hs) fun _ _ _ h=>qM ZH ZG h
def i8:Option Int->Option (Int×Tok):=fun o=>o.map fun i=>(i,0)
def kA(z:Str)(lo hi:Option Int):Str:=if (slicePicked z (i8 lo) (i8 hi) none).length==z.length then z else ⟨((slicePicked z (i8 lo) (i8 hi) none).filterMap (z.cps[·]?)).toArray⟩
def ZJ:V->Option Int->Option Int->Hp->VK->Prop:=fun x lo hi H Q=>∃z,x=.str z/\(kA z lo hi).length<=sizeLine/\Q (.str (kA z lo hi)) H
theorem K4{v:Value}{o:Option Int}(h:IsPart v o):∃l:Option (Int×Tok),v=partValue l/\l.map (·.1)=o:=by
 cases h with
 |none=>exact⟨none,rfl,rfl⟩
 |int i t=>exact⟨some (i,t),rfl,rfl⟩
theorem ZK:lM X ZJ:=by
 intro pins s Z H x v vl vu lo hi sl Q I rx hs pl pu h
 obtain⟨z,rfl,hz,q⟩:=h
 obtain⟨t,rfl⟩:=rx
 obtain⟨l,rfl,hl⟩:=K4 pl
 obtain⟨u,rfl,hu⟩:=K4 pu
 refine⟨"str",_,PySem.F.slot_str_getitem.lookup,typeIs_str s z t,?_⟩
 refine wpAny_getItem_str_slice (l:=l) (u:=u) (st:=none) hs rfl ?_
 have e:slicePicked z l u none=slicePicked z (i8 lo) (i8 hi) none:=by
  unfold slicePicked i8
  rw[hl,hu]
  cases lo<;>cases hi<;>rfl
 unfold sliceMade
 rw[e]
 unfold kA at hz q
 by_cases hp:((slicePicked z (i8 lo) (i8 hi) none).length==z.length)=true
 ·rw[xa5 hp] at hz q
  rw[xa5 (by rw[hp];rfl)]
  exact⟨.str z,H,I,⟨t,rfl⟩,q⟩
 ·rw[xaz hp] at hz q
  rw[xaz (by rw[Bool.not_eq_true] at hp;rw[hp];simp)]
  exact⟨hz,.str _,H,I.tok _,⟨_,rfl⟩,q⟩
def vM:D->Option Int->Option Int->R D
 |.str z,lo,hi=>bif bD (kA z lo hi).length then .ok (.str (kA z lo hi)) else .bad
 |_,_,_=>.bad
def i9(fe:DSt->R D)(fl fh:DSt->R (Option Int)):DSt->R D:=fun Z=>(fe Z).bind fun d=>(fl Z).bind fun lo=>(fh Z).bind fun hi=>vM d lo hi
theorem ZL{e:Expr}{fe:DSt->R D}{lo hi:Option Expr}{fl fh:DSt->R (Option Int)}{p2:Pos}(he:DE X E e fe)(hl:DO X E lo fl)(hh:DO X E hi fh):DE X E (.Subscript e (.Slice lo hi none p2) pos) (i9 fe fl fh):=by
 refine PE.mono' (xY ZK he hl hh) fun Z H Q ⟨G,Zd,ok,q⟩=>?_
 refine gG (P:=aQ X.K X.mg Q) ok q fun d v G1 H1 s1 ok1 r1 q1=>?_
 refine⟨G1,Zd,ok1,q1.of_bind.mono (fun l _ z G2 H2 s2=>?_) fun _ z=>z⟩
 refine⟨G2,Zd,ok1.step s2,z.of_bind.mono (fun u _ z G3 H3 s3=>?_) fun _ z=>z.step s2⟩
 cases d with
 |str y=>
  cases r1
  cases hC:bD (kA y l u).length with
  |false=>simp only[vM,hC,cond_false] at z;exact z.elim
  |true=>
   simp only[vM,hC,cond_true] at z
   exact⟨y,rfl,xas hC,aQ.now ((show aQ X.K X.mg Q G H (.str (kA y l u)) from z).step ((s1.trans s2).trans s3)) s3.e rfl⟩
 |_=>exact(show False from z).elim
def gC(sep:Str):List Str->Str
 |[y]=>y
 |ys=>Builtin.Str.glued sep ys
def eN:List D->Option (List Str)
 |[]=>some []
 |.str y::ds=>(eN ds).map (y::·)
 |_=>none
theorem Reps.strs{K:xFg}{mg:Str->Option Value}{G:Hp}:∀{ds:List D} {ys:List Str} {vs:List V},eN ds=some ys->Reps K mg G ds vs->vs=ys.map V.str
 |[],_,_,h,r=>by cases h;cases r;rfl
 |.str y::ds,_,_,h,⟨v,t,e1,r1,r2⟩=>by
  subst e1
  cases hd:eN ds with
  |none=>simp[eN,hd] at h
  |some ys'=>
   simp[eN,hd] at h
   subst h
   rw[Reps.strs hd r2]
   have:v=V.str y:=r1
   rw[this];rfl
 |.non::_,_,_,h,_=>by simp[eN] at h
 |.bl _::_,_,_,h,_=>by simp[eN] at h
 |.int _::_,_,_,h,_=>by simp[eN] at h
 |.ty _::_,_,_,h,_=>by simp[eN] at h
 |.cls _::_,_,_,h,_=>by simp[eN] at h
 |.tup _::_,_,_,h,_=>by simp[eN] at h
 |.lst _::_,_,_,h,_=>by simp[eN] at h
 |.dct _ _::_,_,_,h,_=>by simp[eN] at h
 |.exc _ _::_,_,_,h,_=>by simp[eN] at h
theorem AI:∀{ys:List Str} {us:List Value},bA (ys.map V.str) us->∃l:List (Str×Tok),us=strValues l/\l.map (·.1)=ys
 |[],_,h=>by cases h;exact⟨[],rfl,rfl⟩
 |y::ys,_,h=>by
  cases h with
  |cons q t=>
   obtain⟨l,rfl,hl⟩:=AI t
   obtain⟨tk,rfl⟩:=q
   exact⟨(y,tk)::l,rfl,by rw[xbg,hl]⟩
def k6(sep:Str)(ys:List Str):Nat:=ys.toArray.foldl (· + ·.length+sep.length) 0
def ZM(K:xFg):V->List V->Hp->VK->Prop:=fun x vs H Q=>∃sep b ys,x=.str sep/\vs=[.ref b]/\bM K H b (ys.map V.str)/\k6 sep ys<=sizeLine/\(gC sep ys).length<=sizeLine/\Q (.str (gC sep ys)) H
theorem ZN:t9 X "str.join" (ZM X.K):=by
 intro pins s Z H x vs v us Q I rx rv h
 obtain⟨sep,b,ys,rfl,rfl,hB,hz,hz2,q⟩:=h
 obtain⟨t,rfl⟩:=rx
 obtain⟨u,rfl,ru⟩:=rv.one
 cases ru
 obtain⟨its,r,pl,_⟩:=I.list hB
 obtain⟨l,rfl,hl⟩:=AI r
 subst hl
 refine call_meets F.slot_str_join (typeIs_str s sep t) F.entry_str_join (F.args_str_join_2 _ _) (meets_str_join_list sep t b l (xag (by show ¬sizeLine<_;exact Nat.not_lt.mpr hz))) ⟨pl.isList,?_⟩
 match l,hz2,q with
 |[],hz2,q=>exact⟨hz2,.str _,H,I.tok _,⟨_,rfl⟩,q⟩
 |[p],hz2,q=>exact⟨.str _,H,I,⟨_,rfl⟩,q⟩
 |_::_::_,hz2,q=>exact⟨hz2,.str _,H,I.tok _,⟨_,rfl⟩,q⟩
def fA(sep:D)(d:D):R D:=match sep,d with
 |.str z,.lst ds=>match eN ds with
  |some ys=>bif bD (k6 z ys)&&bD (gC z ys).length then .ok (.str (gC z ys)) else .bad
  |none=>.bad
 |_,_=>.bad
def ZO(fe:DSt->R D)(Z:DSt):D->R D
 |.str z=>(fe Z).bind fun d=>fA (.str z) d
 |_=>.bad
def gZ(fo fe:DSt->R D):DSt->R D:=fun Z=>(fo Z).bind fun z=>ZO fe Z z
theorem K5{o e:Expr}{fo fe:DSt->R D}{apos cpos:Pos}(ho:DE X E o fo)(he:DE X E e fe)
  (hbase:attributeBase o "join" X.env (eval o X.env)=eval o X.env:=by rfl)
  (hfew:((backTo cpos (starEach [e] X.env)).all (fun x=>!x.1)&&(backToKw cpos (keywordEach [] X.env)).all (fun x=>x.1.isSome)&&decide ([e].length+([]:List Keyword).length+(if ([]:List Keyword).isEmpty then 0 else 1)<30))=true:=by rfl)
  (hline:(apos.endLine==cpos.line)=true:=by rfl) (hs:starEach [e] X.env=(false,eval e X.env)::starEach [] X.env:=by rfl) (hplain:(backTo cpos (starEach [] X.env)).any (·.1)=false:=by rfl) :
  DE X E (.Call (.Attribute o "join" apos) [e] [] cpos) (gZ fo fe):=by
 refine PE.mono' (qH PySem.F.plainAttrs_str PySem.F.slot_str_join PySem.F.type_str_join ZN ho (bB he bJ hs) hbase hfew hline hs hplain) fun Z H Q ⟨G,Zd,ok,q⟩=>?_
 refine gG (P:=aQ X.K X.mg Q) ok q fun z x G1 H1 s1 ok1 r1 q1=>?_
 cases z with
 |str y=>
  cases r1
  refine⟨rfl,G1,Zd,ok1,(show RW ((aA fe aD) Zd) _ _ from ?_)⟩
  unfold aA
  have q2:=(show RW ((fe Zd).bind fun d=>fA (.str y) d) _ _ from q1).of_bind
  cases hf:fe Zd with
  |bad=>rw[hf] at q2;exact q2.elim
  |err e=>rw[hf] at q2;exact(show bH X.K X.mg E G1 H1 e from q2)
  |ok d=>
   rw[hf] at q2
   have q3:RW (fA (.str y) d) (aQ X.K X.mg Q G H) (bH X.K X.mg E G1 H1):=q2
   rintro ws G2 H2 s2 ⟨v,_,e1,r3,r4⟩
   subst e1
   cases r4
   cases d with
   |lst ds=>
    obtain⟨b,vs,rfl,hb,hv⟩:=r3
    cases hs':eN ds with
    |none=>simp only[fA,hs'] at q3;exact q3.elim
    |some ys=>
     have ev:=Reps.strs hs' hv
     subst ev
     cases hC:(bD (k6 y ys)&&bD (gC y ys).length) with
     |false=>simp only[fA,hs',hC,cond_false] at q3;exact q3.elim
     |true=>
      simp only[fA,hs',hC,cond_true] at q3
      rw[xap] at hC
      exact⟨y,b,ys,rfl,rfl,s2.e.seq hb,xas hC.1,xas hC.2,aQ.now ((show aQ X.K X.mg Q G H (.str (gC y ys)) from q3).step (s1.trans s2)) s2.e rfl⟩
   |_=>exact(show False from q3).elim
 |_=>exact(show False from q1).elim
theorem AJ:∀l:List (Str×Tok),bA (l.map fun p=>V.str p.1) (strValues l)
 |[]=>.nil
 |p::l=>.cons ⟨p.2,rfl⟩ (AJ l)
theorem K6{K:xFg}{mg:Str->Option Value}{G:Hp}:∀l:List (Str×Tok),Reps K mg G (l.map fun p=>D.str p.1) (l.map fun p=>V.str p.1)
 |[]=>Reps.nil
 |p::l=>Reps.cons rfl (K6 l)
theorem ZP{K:xFg}{mg:Str->Option Value}{G:Hp}{a:Addr}{its:Array Value}{n:Nat}{sl:Array (Option Value)}{l:List (Str×Tok)}(lk:K.lookup a=some ⟨.type "tuple",none,.seq its n,sl⟩)(h:its.toList=strValues l)(hz:l.length<=100):Rep K mg G (.tup (l.map fun p=>D.str p.1)) (.ref a):=by
 refine⟨a,_,rfl,.inr ⟨_,its,n,lk,rfl,rfl,?_,by rw[h];exact AJ l,rfl⟩,K6 l⟩
 rw[<- xb2,h]
 unfold strValues
 rw[xab]
 exact xah hz (by decide)
end
end DL
namespace DL
open L2 PyProof.Rows
section
variable{prog:Program}{w:World}{A:Around}{E:Value->Shared->Prop}{s:Shared}
theorem items_int{ks:List Int}{vs:List Value}(h:ItemsAre (intKind prog w) ks vs):∀v∈vs,∃i t,v=.int i t:=by
 induction h with
 |nil=>intro v hv;cases hv
 |cons q _ ih=>
  intro v hv
  rcases xal.mp hv with rfl|hv
  ·cases v with
   |int i t=>exact⟨i,t,rfl⟩
   |_=>cases q
  ·exact ih v hv
structure TSet(prog:Program)(w:World)(h:Heap)(a:Addr)(o:Obj)(es:Array (Int×Value))(ep:Nat)(t:SetTable)(kss:List (List Int)):Prop where
 get:h.get? a=some o
 ex:o.ExactSet
 dat:o.data=.set es ep t
 dm:t.dummies=#[]
 pl:t.place.size=es.size
 msk:(t.mask=7/\es.size<=4)\/(t.mask=31/\es.size<=18)
 n:es.size=kss.length
 el:∀e∈es.toList,∃c ls,e.2=.ref c/\IsTupleKey (intKind prog w) h ls c/\ls∈kss
variable{h:Heap}{a:Addr}{o:Obj}{es:Array (Int×Value)}{ep:Nat}{t:SetTable}{kss:List (List Int)}
end
end DL
namespace DL
open L2 PyProof.Rows
section
variable{prog:Program}{w:World}{A:Around}{h h':Heap}{it l z:Addr}{items:Array Value}
abbrev mB(led:Bool):Obj:={ cls:=.type "set",dict:=none,data:=.set #[] 0 (.fresh 0 0 led) }
end
end DL
namespace DL
open L2 PyProof.Rows
section
variable{X:Cx}{E:XK}
def sB(a:Addr)(n:Nat):Heap->Prop:=fun h=>∃o es ep t,h.get? a=some o/\o.ExactSet/\o.data=.set es ep t/\SetTable.fits t es.size=true/\es.size=n
def ZQ:List V->Hp->VK->Prop:=fun xs H Q=>∃(a:Addr) (n:Nat),xs=[.ref a]/\H a=some (.ext (sB a n))/\n<=1000/\Q (.int n) H
theorem ZR:dW X (.builtin "len") ZQ:=by
 intro pins s Z H xs us Q I rs h
 obtain⟨a,n,rfl,hq,hn,q⟩:=h
 obtain⟨u,rfl,rx⟩:=jF rs
 cases rx
 obtain⟨⟨o,es,ep,t,g1,g2,g3,g4,g5⟩,_⟩:=(show eK X.prog X.w H s.heap a (.ext (sB a n)) from I.hok a _ hq)
 exact call_len_set g1 g2 g3 g4 (by omega) ⟨.int n,H,I.tok _,⟨s.toks+1,by rw[g5]⟩,q⟩
end
end DL
namespace DL
open L2 PyProof.Rows
section
variable{P:Program}{w:World}{K:xFg}{mg:Str->Option Value}{base:Heap}{x:Str}{st:Stmt}{f:Addr}{fd:FuncData}{N ps:List Str}{k n nN:Nat}{own':List Nat}{body:DSt->R aG}
structure FD(K:xFg)(x:Str)(st:Stmt):Prop where
 ex:∃f fd,PySem.W.nsIn K mainGlobals x=some (some (.ref f))/\gE K x x st f fd
theorem FD.mk'{oc:Value}{od an:Option Addr}{osl:Array (Option Value)}{kV doc pm cdv ct:Value}(a:PySem.W.nsIn K mainGlobals x=some (some (.ref f)))(l:K.lookup f=some ⟨oc,od,.func (PySem.W.fnOf x x (j2 st) (fX st) (cF st) .none kV doc pm an cdv ct),osl⟩)
  (c:PySem.W.codeIn K cdv x=true) (k:PySem.W.keepIn K (.ref f)=true):FD K x st:=⟨f,_,a,x4 l c k⟩
structure FA(K:xFg)(mg:Str->Option Value)(x:Str)(st:Stmt)(ps:List Str)(f:Addr)(fd:FuncData):Prop where
 F:gE K x x st f fd
 m:mg x=some (.ref f)
 b:eS K fd ps []
theorem FD.go{h:Heap}(d:FD K x st)(X:K.In h)(G:h.Ns mainGlobals mg)(ps:List Str)
  (b:∀(kV doc pm:Value) (an:Option Addr) (cdv ct:Value) (us:List Value),us.length=ps.length->bindArgs (PySem.W.fnOf x x (j2 st) (fX st) (cF st) .none kV doc pm an cdv ct) ⟨us,[]⟩=pure (ps.zip us)):∃f fd,FA K mg x st ps f fd:=by
 obtain⟨f,fd,a,F⟩:=d.ex
 exact⟨f,fd,F,xa3 X G a,F.binds b⟩
abbrev XX(P:Program)(w:World)(K:xFg)(mg:Str->Option Value)(base:Heap)(x:Str)(st:Stmt)(f:Addr)(N:List Str)(k:Nat)(D:Cx->XK->Prop):Prop:=
 ∀cdv A outer s H E,XC (dX (bW P w) P w K mg base N x (cF st) f cdv A outer s H E) E k->XL (dX (bW P w) P w K mg base N x (cF st) f cdv A outer s H E)->N.Nodup->D (dX (bW P w) P w K mg base N x (cF st) f cdv A outer s H E) E
theorem FA.ok(F:FA K mg x st ps f fd)(S:gU N ps (cF st))(hn:ps.length=n)(hN:N.length=nN)
  (hb:XX P w K mg base x st f N k fun X E=>gK X E [] own' [] (fX st) body):aT P w K mg base (k+1) x (b6 n nN body):=
 aT.mk' F.F S F.m F.b hn hN fun X E hX C L=>by
  obtain⟨cdv,A,outer,s,H,rfl⟩:=hX
  exact hb cdv A outer s H E C L S.nd
end
end DL
namespace DL
open L2 PyProof.Rows
section
variable{X:Cx}{E:XK}{K:xFg}{mg:Str->Option Value}{p pos:Pos}{e:Expr}{es:List Expr}{fs:DSt->R (List D)}
def ZS:V->List V->Hp->VK->Prop:=fun x vs H Q=>∃a b,x=.str a/\vs=[.str b]/\(b.length==0)=false/\a.length+2<=sizeLine/\∀p,H p=none->Q (.ref p) (aU H p (.lst ((Txt.split a b).map V.str)))
theorem ZT(x y:Str):(Txt.split x y).length<=x.length+2:=by
 unfold Txt.split
 split
 ·exact Nat.succ_le_of_lt (by simp)
 ·split
  ·exact Nat.succ_le_of_lt (by simp)
  ·have e1:=StrLaws.occ_length_le x y 0 x.length (x.length+1)
   rw[length_partsBetween];omega
theorem ZU:t9 X "str.split" ZS:=by
 intro pins s Z H x vs v us Q I rx rv h
 obtain⟨a,b,rfl,rfl,hy,hz,q⟩:=h
 obtain⟨t,rfl⟩:=rx
 obtain⟨u,rfl,ru⟩:=rv.one
 obtain⟨tb,rfl⟩:=ru
 have fin:∀(l:List (Str×Tok)) (tk:Nat),l.map (·.1)=Txt.split a b->EP X pins Z Q (.ref s.heap.objs.size) { s with heap:=s.heap.push { cls:=.type "list",data:=.seq (strValues l).toArray },toks:=tk }:=fun l tk e=>by
  have hf:H s.heap.objs.size=none:=I.hok.fresh (xak _)
  refine⟨.ref s.heap.objs.size,aU H s.heap.objs.size (.lst ((Txt.split a b).map V.str)),I.laid (t':=tk) (fun b u e=>xaj _ e) (xak _) ?_,rfl,q _ hf⟩
  refine⟨by rw[xab];exact xah (ZT a b) hz,strValues l,0,by rw[<- e,xbj];exact AJ l,xa6 _ rfl⟩
 have hn:(Builtin.Str.partsBetween a (Builtin.Str.occurrences a b 0 a.length (a.length+1)) b.length).length<=sizeLine:=by
  have e1:=StrLaws.occ_length_le a b 0 a.length (a.length+1)
  rw[length_partsBetween];omega
 cases h1:(decide (a.length<b.length)||decide (Builtin.Str.strKind a<Builtin.Str.strKind b))
 ·cases hf:(Builtin.Str.occurrences a b 0 a.length (a.length+1)).isEmpty
  ·refine call_meets F.slot_str_split (typeIs_str _ _ _) F.entry_str_split (F.args_str_split_2 _ _) (meets_str_split_sep a b t tb h1 hy hf (by omega) hn) ?_
   show wants _ _ _ { s with toks:=_,heap:=s.heap.push { cls:=.type "list",data:=.seq (strsFrom s.toks (Builtin.Str.partsBetween a (Builtin.Str.occurrences a b 0 a.length (a.length+1)) b.length)).toArray } }
   rw[strsFrom_eq]
   exact fin (numbered s.toks _) _ ((numbered_texts _ _).trans ((xaz (ne_true_of_eq_false h1)).trans (xaz (ne_true_of_eq_false hf))).symm)
  ·exact call_meets F.slot_str_split (typeIs_str _ _ _) F.entry_str_split (F.args_str_split_2 _ _) (meets_str_split_not_found a b t tb h1 hy hf) (fin [(a,t)] s.toks ((xaz (ne_true_of_eq_false h1)).trans (xa5 hf)).symm)
 ·exact call_meets F.slot_str_split (typeIs_str _ _ _) F.entry_str_split (F.args_str_split_2 _ _) (meets_str_split_cannot_occur a b t tb h1) (fin [(a,t)] s.toks (xa5 h1).symm)
def g6:D->D->R (List D)
 |.str x,.str y=>bif (!(y.length==0))&&bD (x.length+2) then .ok ((Txt.split x y).map D.str) else .bad
 |_,_=>.bad
def ZV(fe:DSt->R D)(Z:DSt):D->R (List D)
 |.str z=>(fe Z).bind fun d=>g6 (.str z) d
 |_=>.bad
def pB(fo fe:DSt->R D):DSt->R (List D):=fun Z=>(fo Z).bind fun z=>ZV fe Z z
theorem K7{G:Hp}:∀ys:List Str,Reps K mg G (ys.map D.str) (ys.map V.str)
 |[]=>Reps.nil
 |_::ys=>Reps.cons rfl (K7 ys)
theorem ZW{o e:Expr}{fo fe:DSt->R D}{apos cpos:Pos}(ho:DE X E o fo)(he:DE X E e fe)
  (hbase:attributeBase o "split" X.env (eval o X.env)=eval o X.env:=by rfl)
  (hfew:((backTo cpos (starEach [e] X.env)).all (fun x=>!x.1)&&(backToKw cpos (keywordEach [] X.env)).all (fun x=>x.1.isSome)&&decide ([e].length+([]:List Keyword).length+(if ([]:List Keyword).isEmpty then 0 else 1)<30))=true:=by rfl)
  (hline:(apos.endLine==cpos.line)=true:=by rfl) (hs:starEach [e] X.env=(false,eval e X.env)::starEach [] X.env:=by rfl) (hplain:(backTo cpos (starEach [] X.env)).any (·.1)=false:=by rfl) :
  DF X E (.Call (.Attribute o "split" apos) [e] [] cpos) (pB fo fe):=by
 refine PE.mono' (qH PySem.F.plainAttrs_str PySem.F.slot_str_split PySem.F.type_str_split ZU ho (bB he bJ hs) hbase hfew hline hs hplain) fun Z H Q ⟨G,Zd,ok,q⟩=>?_
 refine gG (P:=gF X.K X.mg Q) ok q fun z x G1 H1 s1 ok1 r1 q1=>?_
 cases z with
 |str y=>
  cases r1
  refine⟨rfl,G1,Zd,ok1,(show RW ((aA fe aD) Zd) _ _ from ?_)⟩
  unfold aA
  have q2:=(show RW ((fe Zd).bind fun d=>g6 (.str y) d) _ _ from q1).of_bind
  cases hf:fe Zd with
  |bad=>rw[hf] at q2;exact q2.elim
  |err e=>rw[hf] at q2;exact(show bH X.K X.mg E G1 H1 e from q2)
  |ok d=>
   rw[hf] at q2
   have q3:RW (g6 (.str y) d) (gF X.K X.mg Q G H) (bH X.K X.mg E G1 H1):=q2
   rintro ws G2 H2 s2 ⟨v,_,e1,r3,r4⟩
   subst e1
   cases r4
   cases d with
   |str z=>
    cases r3
    cases hC:((!(z.length==0))&&bD (y.length+2)) with
    |false=>simp only[g6,hC,cond_false] at q3;exact q3.elim
    |true=>
     simp only[g6,hC,cond_true] at q3
     rw[xap,xb8] at hC
     refine⟨y,z,rfl,rfl,hC.1,xas hC.2,fun p hp=>?_⟩
     have st:=s1.trans s2
     have sp:=Step.hid (o:=.lst ((Txt.split y z).map V.str)) s2.e hp
     exact(show gF X.K X.mg Q G H ((Txt.split y z).map D.str) from q3) p _ G2 _ (st.trans sp) (st.h.free hp) bV (s2.e.free hp) (K7 _)
   |_=>exact(show False from q3).elim
 |_=>exact(show False from q1).elim
theorem ZX:dW X (.type "int") (fun xs H Q=>∃x n,xs=[.str x]/\x.length<=640/\PySem.intText? x=some n/\Q (.int n) H):=by
 intro pins s Z H xs us Q I r h
 obtain⟨x,n,rfl,hl,hn,q⟩:=h
 obtain⟨u,rfl,t,rfl⟩:=jF r
 exact call_int_1 (PySem.W.KIN.gives_text hl hn).meets ⟨typeIs_int _ _ _,.int n,H,I.tok _,⟨_,rfl⟩,q⟩
def pC:D->R D
 |.str x=>match PySem.intText? x with
  |some n=>bif decide (x.length<=640) then .ok (.int n) else .bad
  |none=>.bad
 |_=>.bad
abbrev sC:=g1 pC
theorem ZY:iC K mg (fun xs H Q=>∃x n,xs=[.str x]/\x.length<=640/\PySem.intText? x=some n/\Q (.int n) H) sC:=oZ fun G H d v Q e r q=>by
 cases d with
 |str x=>
  cases r
  cases hT:PySem.intText? x with
  |none=>simp only[pC,hT] at q;exact q.elim
  |some n=>
   cases hC:decide (x.length<=640) with
   |false=>simp only[pC,hT,hC,cond_false] at q;exact q.elim
   |true=>simp only[pC,hT,hC,cond_true] at q;exact⟨x,n,rfl,xas hC,hT,aQ.now q e rfl⟩
 |_=>exact(show False from q).elim
theorem ZZ(hm:X.mg "int"=none)(ha:DA X E (e::es) fs)(hg:Gl X "int":=by rfl)(he:starEach (e::es) X.env=(false,eval e X.env)::starEach es X.env:=by rfl)(hpl:(backTo pos (starEach es X.env)).any (·.1)=false:=by rfl):DE X E (.Call (.Name "int" p) (e::es) [] pos) (aJ sC fs):=
 uH ZX ZY hm ha FL hg (by decide) (by decide) he hpl
end
end DL
namespace DL
open L2 PyProof.Rows
theorem Reps.rep{K:xFg}{mg:Str->Option Value}{G:Hp}{ds:List D}{vs:List V}(h:Reps K mg G ds vs):∀k:Nat,Reps K mg G (List.replicate k ds).flatten (List.replicate k vs).flatten
 |0=>Reps.nil
 |k+1=>by
  rw[xba,xba,xbw,xbw]
  exact h.append (Reps.rep h k)
end DL
namespace DL
open PySem.W PyProof.Rows
section
variable{n:Nat}{lt:Nat->Nat->Bool}
abbrev sg(p:Array Nat)(i:Nat):Nat:=p.getD i 0
def Dn(lt:Nat->Nat->Bool)(p:Array Nat)(m:Nat):Prop:=∀i j,i<j->j<m->lt (sg p j) (sg p i)=true
end
end DL
namespace DL
open L2 PyProof.Rows
section
variable{K:xFg}{mg:Str->Option Value}{c d:Str}{C D0:Addr}
def NR(K:xFg)(C:Addr)(c d:Str):Prop:=PySem.W.nsIn K mainGlobals d=some none\/∃D0,PySem.W.nsIn K mainGlobals d=some (some (.ref D0))/\PySem.W.kitOne K (.ref C) (.ref D0)=some (nO c d)/\(nO c d=true->PySem.W.exmOne K (.ref C) (.ref D0)=some true)
theorem NR.no(a:PySem.W.nsIn K mainGlobals d=some none):NR K C c d:=.inl a
theorem NR.ff(h:nO c d=false)(a:PySem.W.nsIn K mainGlobals d=some (some (.ref D0)))(t:PySem.W.kitOne K (.ref C) (.ref D0)=some false):NR K C c d:=.inr ⟨D0,a,by rw[h];exact t,fun z=>by rw[h] at z;cases z⟩
theorem NR.tt(h:nO c d=true)(a:PySem.W.nsIn K mainGlobals d=some (some (.ref D0)))(t:PySem.W.kitOne K (.ref C) (.ref D0)=some true)(u:PySem.W.exmOne K (.ref C) (.ref D0)=some true):NR K C c d:=.inr ⟨D0,a,by rw[h];exact t,fun _=>u⟩
theorem NR.row{h:Heap}(r:NR K C c d)(X:K.In h)(G:h.Ns mainGlobals mg):lX K mg C d (nO c d):=by
 rcases r with a|⟨D0,a,t,u⟩
 ·exact lX.no (xbo X G a)
 ·exact lX.of (xa3 X G a) t u
structure XD(K:xFg)(c:Str):Prop where
 ex:∃C,PySem.W.nsIn K mainGlobals c=some (some (.ref C))/\PySem.W.excIn K C [.type "ValueError",.type "Exception",.type "BaseException",.type "object"] "ValueError.__new__"=true/\nB K C/\PySem.W.kitOne K (.ref C) (.type "ValueError")=some true/\∀d∈lO,NR K C c d
theorem XD.mk'(e:PySem.W.nsIn K mainGlobals c=some (some (.ref C)))(y:PySem.W.excIn K C [.type "ValueError",.type "Exception",.type "BaseException",.type "object"] "ValueError.__new__"=true)
  (ga:PySem.W.findIn K (.ref C) "__getattribute__"=some (some (.builtin "BaseException.__getattribute__"))) (gh:PySem.W.findIn K (.ref C) "__getattr__"=some none) (bs:PySem.W.mroIn K C (.type "BaseException")=some true) (ob:PySem.W.mroIn K C (.type "object")=some true) (ca:PySem.W.findIn K (.ref C) "__class__"=some (some (.builtin "object.__class__")))
  (cg:PySem.W.specialIn K (.builtin "object.__class__") "__get__"=some (some (.builtin "getset_descriptor.__get__"))) (ct:PySem.W.takesIn K (.builtin "object.__class__")=some true) (vv:PySem.W.kitOne K (.ref C) (.type "ValueError")=some true)
  (r0:NR K C c "ChalkError") (r1:NR K C c "NoPlace") (r2:NR K C c "Same") (r3:NR K C c "NoFloor") (r4:NR K C c "Endless") (r5:NR K C c "NoDeed") (r6:NR K C c "NoText") (r7:NR K C c "NoName") (r8:NR K C c "TooMany") (r9:NR K C c "NoChange") (r10:NR K C c "NoFrame") (r11:NR K C c "NoValue") (r12:NR K C c "Unlike") (r13:NR K C c "NoRatio") (r14:NR K C c "NoBow") (r15:NR K C c "NoRow"):XD K c:=by
 refine⟨C,e,y,⟨by (obtain⟨_,hc,_⟩:=PySem.W.kw_along ga;rw[hc];rfl),ga,gh,bs,ob,ca,cg,ct⟩,vv,fun d hd=>?_⟩
 simp only[lO,xal,xbk,or_false] at hd
 rcases hd with rfl|rfl|rfl|rfl|rfl|rfl|rfl|rfl|rfl|rfl|rfl|rfl|rfl|rfl|rfl|rfl<;>assumption
theorem XD.go{h:Heap}(x:XD K c)(X:K.In h)(G:h.Ns mainGlobals mg):∃C,mg c=some (.ref C)/\PySem.W.excIn K C [.type "ValueError",.type "Exception",.type "BaseException",.type "object"] "ValueError.__new__"=true/\fF K mg c C:=by
 obtain⟨C,e,y,ec,vv,r⟩:=x.ex
 exact⟨C,xa3 X G e,y,fF.mk' (xa3 X G e) ec vv fun d hd=>(r d hd).row X G⟩
end
end DL
namespace DL
open PySem
theorem us0{P:List Value->Prop}(h:P []):∀us:List Value,us.length=0->P us:=fun us hl=>by
 cases us with
 |nil=>exact h
 |cons=>cases hl
theorem vN{P:List Value->Prop}(h:∀a,P [a]):∀us:List Value,us.length=1->P us:=fun us hl=>by
 cases us with
 |nil=>cases hl
 |cons a us=>exact us0 (P:=fun l=>P (a::l)) (h a) us (Nat.succ.inj hl)
theorem AK{P:List Value->Prop}(h:∀a b,P [a,b]):∀us:List Value,us.length=2->P us:=fun us hl=>by
 cases us with
 |nil=>cases hl
 |cons a us=>exact vN (P:=fun l=>P (a::l)) (h a) us (Nat.succ.inj hl)
theorem us3{P:List Value->Prop}(h:∀a b c,P [a,b,c]):∀us:List Value,us.length=3->P us:=fun us hl=>by
 cases us with
 |nil=>cases hl
 |cons a us=>exact AK (P:=fun l=>P (a::l)) (h a) us (Nat.succ.inj hl)
theorem us4{P:List Value->Prop}(h:∀a b c d,P [a,b,c,d]):∀us:List Value,us.length=4->P us:=fun us hl=>by
 cases us with
 |nil=>cases hl
 |cons a us=>exact us3 (P:=fun l=>P (a::l)) (h a) us (Nat.succ.inj hl)
theorem us5{P:List Value->Prop}(h:∀a b c d e,P [a,b,c,d,e]):∀us:List Value,us.length=5->P us:=fun us hl=>by
 cases us with
 |nil=>cases hl
 |cons a us=>exact us4 (P:=fun l=>P (a::l)) (h a) us (Nat.succ.inj hl)
end DL
namespace DL
open L2 PyProof.Rows
variable{P:Program}{w:World}{K:xFg}{mg:Str->Option Value}{base:Heap}{x:Str}{st:Stmt}{ps N:List Str}{f:Addr}{fd:FuncData}{k n nN:Nat}{own':List Nat}
def LB:List D->R D:=fun _=>.bad
def pE(g:(List D->R D)->List D->R D):Nat->List D->R D
 |0=>LB
 |n+1=>g (pE g n)
theorem FA.bad(F:FA K mg x st ps f fd)(S:gU N ps (cF st)):aT P w K mg base (k+1) x LB:=by
 refine⟨f,fd,ps,F.F.okX S (fun vs H Q E h=>?_) (fun cdv A outer s H vs Q E hr hsp=>?_),F.m,F.F.kp,F.b⟩
 ·obtain⟨G,ds,e,r,q⟩:=h
  exact(show False from q).elim
 ·obtain⟨G,ds,e,r,q⟩:=hsp
  exact(show False from q).elim
theorem FA.deep(F:FA K mg x st ps f fd)(S:gU N ps (cF st))(hn:ps.length=n)(hN:N.length=nN){body:(List D->R D)->DSt->R aG}
  (hb:∀(j:Nat) (m:List D->R D),aT P w K mg base (k+1+j) x m->XX P w K mg base x st f N (k+1+j) fun X E=>gK X E [] own' [] (fX st) (body m)) :
  ∀j,aT P w K mg base (k+1+j) x (pE (fun m=>b6 n nN (body m)) j)
 |0=>FA.bad F S
 |j+1=>F.ok S hn hN (hb j _ (FA.deep F S hn hN hb j))
end DL
namespace L2
open PySem.Spec PyProof.Rows
section
variable{κ:Type}[DecidableEq κ]
def putK(kvs:List (κ×V))(k:κ)(v:V):List (κ×V):=
 if (kvs.any fun kv=>decide (kv.1=k))=true then kvs.map (fun kv=>if kv.1=k then (kv.1,v) else kv) else kvs++[(k,v)]
end
end L2
section
set_option maxHeartbeats 2000000
namespace DL
open L2 PyProof.Rows
theorem Z1{n k:Nat}{ds:List D}{d:D}(h:(fH n ds)[k]? = some (some d)):ds[k]? = some d:=by
 unfold fH at h
 by_cases hk:k<ds.length
 ·rw[xbn (by simpa using hk),xbl] at h
  obtain⟨x,h1,h2⟩:=xcu.mp h
  cases h2;exact h1
 ·rw[xbe (by simpa using hk),xcf] at h
  split at h<;>cases h
theorem LD{α:Type}{n k:Nat}{ds:List α}{d:α}(h:ds[k]? = some d):(ds.map some++List.replicate n none)[k]? = some (some d):=by
 have hk:=(xan.mp h).1
 rw[xbn (by simpa using hk),xbl,h];rfl
end DL
end
namespace DL
open L2
def kB(z:Str)(k:Nat):Str:=⟨(List.replicate k z.cps).foldl (·++·) #[]⟩
theorem LF(z:Str)(k:Nat):(kB z k).cps.toList=(List.replicate k z.cps.toList).flatten:=by
 have go:∀(k:Nat) (acc:Array Nat),((List.replicate k z.cps).foldl (·++·) acc).toList=acc.toList++(List.replicate k z.cps.toList).flatten:=by
  intro k
  induction k with
  |zero=>intro acc;simp
  |succ k ih=>intro acc;rw[xba,xba,List.foldl_cons,ih];simp
 exact go k #[]
theorem Z2(z:Str)(k:Nat):(kB z k).length=z.length*k:=by
 show (kB z k).cps.size=z.cps.size*k
 rw[<- xb2,LF,oR,xb2,Nat.mul_comm]
def LG:R2:=fun x y H Q=>∃z k,x=.str z/\y=.int k/\1<=z.length/\2<=k/\z.length*k.toNat<=100000/\Q (.str (kB z k.toNat)) H
theorem Z3{X:Cx}:bP X (binaryOp .Mult) LG:=by
 intro pins s Z H x y v u Q I rx ry h
 obtain⟨z,k,rfl,rfl,h1,h2,h3,q⟩:=h
 obtain⟨t,rfl⟩:=rx
 obtain⟨t',rfl⟩:=ry
 have hk:k.toNat<=100000:=xah (Nat.le_mul_of_pos_left _ h1) h3
 have hz:z.length<=100000:=xah (Nat.le_mul_of_pos_right _ (by omega)) h3
 have hne:(k==1||z.length==0)=false:=by
  rw[Bool.or_eq_false_iff]
  refine⟨beq_eq_false_iff_ne.mpr (by omega),beq_eq_false_iff_ne.mpr (by omega)⟩
 refine P.mul_str ?_ ?_ ?_ ?_
 ·rw[xag (by omega),xag (by omega)];rfl
 ·intro _ _
  have:(100000:Int)<=(2^63-1)/k:=Int.le_ediv_of_mul_le (by omega) (by omega)
  omega
 ·intro _ _
  exact xag (Nat.not_lt.mpr (xah h3 (by decide)))
 ·rw[xaz (by omega),xaz (by rw[hne];decide)]
  exact⟨by show (kB z k.toNat).length<=sizeLine;rw[Z2];exact xah h3 (by decide),.str (kB z k.toNat),H,I.tok _,⟨_,rfl⟩,q⟩
def fT:D->D->R D
 |.str z,.int k=>bif decide (1<=z.length/\2<=k/\z.length*k.toNat<=100000) then .ok (.str (kB z k.toNat)) else .bad
 |_,_=>.bad
theorem Z4:fM fT:=by
 intro a b e
 cases a<;>cases b<;>simp only[fT]<;>first|(intro z;cases z;done)|(intro z;revert z;rename_i z k;cases (decide (1<=z.length/\2<=k/\z.length*k.toNat<=100000))<;>simp[cond])
theorem Z5{K:xFg}{mg:Str->Option Value}:fL K mg LG fT:=by
 intro G H a b x y Q e ra rb q
 cases a with
 |str z=>cases b with
  |int k=>
   cases ra;cases rb
   cases hC:decide (1<=z.length/\2<=k/\z.length*k.toNat<=100000) with
   |false=>simp only[fT,hC,cond_false] at q;exact q.elim
   |true=>
    simp only[fT,hC,cond_true] at q
    obtain⟨h1,h2,h3⟩:=xas hC
    exact⟨z,k,rfl,rfl,h1,h2,h3,aQ.now q e rfl⟩
  |_=>exact(show False from q).elim
 |_=>exact(show False from q).elim
section
variable{X:Cx}{E:XK}{a b:Expr}{fa fb:DSt->R D}{pos:Pos}
theorem vO(ha:DE X E a fa)(hb:DE X E b fb):DE X E (.BinOp a .Mult b pos) (aC fT fa fb):=kT Z3 Z5 Z4 ha hb
end
def vP(ds:List D):D->R (List D)
 |.int k=>bif decide (0<=k/\k<=100000)&&bD (ds.length*k.toNat) then .ok (List.replicate k.toNat ds).flatten else .bad
 |_=>.bad
def sD(fl:DSt->R (List D))(fe:DSt->R D):DSt->R (List D):=fun Z=>(fl Z).bind fun ds=>(fe Z).bind fun d=>vP ds d
theorem Z6{X:Cx}{E:XK}{a b:Expr}{pos:Pos}{fl:DSt->R (List D)}{fe:DSt->R D}(ha:DF X E a fl)(hb:DE X E b fe):DF X E (.BinOp a .Mult b pos) (sD fl fe):=PE.mono' (xO UP ha hb) fun Z H Q ⟨G,Zd,ok,q⟩=>by
 refine⟨G,Zd,ok,q.of_bind.mono (fun ds _ q1 p vs G1 H1 s1 n0 h1 g1 r1=>?_) fun _ z=>z⟩
 have ok1:=ok.step s1
 refine⟨G1,Zd,ok1,q1.of_bind.mono (fun d _ q2 v G2 H2 s2 r2=>?_) fun _ z=>z.step s1⟩
 cases d with
 |int k=>
  cases r2
  cases hC:(decide (0<=k/\k<=100000)&&bD (ds.length*k.toNat)) with
  |false=>simp only[vP,hC,cond_false] at q2;exact q2.elim
  |true=>
   simp only[vP,hC,cond_true] at q2
   rw[xap] at hC
   have hk:=xas hC.1
   refine⟨p,k,vs,rfl,rfl,s2.h _ _ h1,by omega,by omega,?_,fun l hl=>?_⟩
   ·rw[<- r1.length];exact xas hC.2
   ·have st:=s1.trans s2
    exact(show gF X.K X.mg Q G H (List.replicate k.toNat ds).flatten from q2) l _ G2 _ (st.trans (.hid st.e hl)) (st.h.free hl) bV (st.e.free hl) ((r1.mono s2.g).rep _)
 |_=>exact(show False from q2).elim
end DL
namespace DL
open L2 PyProof.Rows
section
variable{prog:Program}{w:World}{A:Around}{h h':Heap}{it l z:Addr}{items:Array Value}
def fB(xs:List Str):Nat->Nat
 |0=>0
 |i+1=>if (xs.take i).contains (xs.getD i "") then fB xs i else fB xs i+1
theorem vQ(xs:List Str):∀i,fB xs i<=i
 |0=>xak _
 |i+1=>by have:=vQ xs i;unfold fB;split<;>omega
def LH(items:Array Value)(xs:List Str):Prop:=items.size=xs.length/\∀j,j<items.size->∃t,items[j]? = some (.str (xs.getD j "") t)
def mD(prog:Program)(w:World)(h:Heap)(z:Addr)(xs:List Str)(i:Nat):Prop:=h.SetOf (strKind prog w) z (fun k=>(xs.take i).contains k) (fB xs i)
theorem Z7{R:Result->Shared->Prop}(hh:A.handled=none)(hl:l≠it)(hz1:z≠it)(hz2:z≠l)(xs:List Str)(hx:LH items xs)(hn:items.size<=1000) :
  ∀(k i:Nat) (s:Shared),items.size-i=k->i<=items.size->(s.heap.IsListIter it l i/\s.heap.IsList l items)->mD prog w s.heap z xs i->
   (∀h2 tk,(∀b u,b≠z->b≠it->s.heap.get? b=some u->h2.get? b=some u)->mD prog w h2 z xs items.size->R (.ok (.ret .none)) { s with heap:=h2,toks:=tk })->
   codeAny (model prog w) A (.builtin "set.update.loop" ⟨[.ref z,.ref it],[]⟩) R s:=by
 have W:=Walks.list (prog:=prog) (w:=w) (A:=A.in1) (by rw[Around.in1_handled];exact hh) it l hl items
 have mv:∀{h h':Heap} {i:Nat},(∀b u,b∉[it]->h.get? b=some u->h'.get? b=some u)->mD prog w h z xs i->mD prog w h' z xs i:=fun kp ⟨o,es,ep,t,g,r⟩=>⟨o,es,ep,t,kp z o (by simpa using hz1) g,r⟩
 intro k
 induction k with
 |zero=>
  intro i s hk hi st S fin
  obtain rfl:i=items.size:=by omega
  refine codeAny_builtin PyProof.Rows.F.entry_set_update_loop ?_
  rw[Around.under_plainId PyProof.Rows.F.plain_set_update_loop _]
  show wpAny _ A.in1 (pyNext (.ref it) >>= _) _ _ _
  refine xai (W.done s _ _ st fun h2 tk kp=>?_)
  show wpAny _ A.in1 (ret Value.none) _ _ _
  exact xa4 (fin h2 tk (fun b u _ b2 e=>kp b u (by simpa using b2) e) (mv kp S))
 |succ k ih=>
  intro i s hk hi st S fin
  have hlt:i<items.size:=by omega
  refine codeAny_builtin PyProof.Rows.F.entry_set_update_loop ?_
  rw[Around.under_plainId PyProof.Rows.F.plain_set_update_loop _]
  show wpAny _ A.in1 (pyNext (.ref it) >>= _) _ _ _
  refine xai (W.item i s _ _ hlt st fun v h1 tk hv st1 kp=>?_)
  obtain⟨t,e1⟩:=hx.2 i hlt
  rw[hv] at e1
  cases e1
  have S1:=mv kp S
  show wpAny _ A.in1 (holding [Value.str (xs.getD i "") t] (setAdd z (.str (xs.getD i "") t)) >>= _) _ _ _
  unfold setAdd
  have his:(strKind prog w).is (xs.getD i "") (.str (xs.getD i "") t)=true:=by
   show Value.isStr (.str (xs.getD i "") t) (xs.getD i "")=true
   simp[Value.isStr]
  refine xai (wpAny_holding (wpAny_holding (xai ((strKind prog w).pyHash his ?_))))
  refine wpAny_setAddHashed_of (s:={ s with heap:=h1,toks:=tk+1 }) his rfl S1 (by have:=vQ xs i;show _<4096;omega) fun h2 sb S2=>?_
  have gz:z∉[it,l]:=by
   rw[xal,xbc]
   rintro(q|q)
   ·exact hz1 q
   ·exact hz2 q
  refine xa4 ⟨plainId_quiet PyProof.Rows.F.plain_set_update_loop _,ih (i+1) _ (by omega) hlt ?_ ?_ fun h3 tk3 kp3 S3=>?_⟩
  ·exact W.frame _ h1 h2 st1 fun b hb u e=>(sb.2 b fun q=>gz (q▸hb)).trans e
  ·have hix:i<xs.length:=by rw[<- hx.1];exact hlt
   have e1:(fun k'=>(xs.take i).contains k'||decide (k'=xs.getD i ""))=fun k=>(xs.take (i+1)).contains k:=by
    funext k'
    rw[List.take_succ,xax hix,List.contains_append,xa9,xax hix]
    simp[List.contains_cons,beq_iff_eq,Bool.beq_eq_decide_eq]
   have e2:fB xs (i+1)=if (xs.take i).contains (xs.getD i "")=true then fB xs i else fB xs i+1:=rfl
   unfold mD
   rw[<- e1,e2]
   exact S2
  ·exact fin h3 tk3 (fun b u b1 b2 e=>kp3 b u b1 b2 ((sb.2 b b1).trans (kp b u (by simpa using b2) e))) S3
theorem Z8{led:Bool}{xs:List Str}(g:h.get? z=some (mB led)):mD prog w h z xs 0:=by
 refine⟨_,#[],0,.fresh 0 0 led,g,⟨rfl,rfl,rfl⟩,rfl,?_,?_,?_,?_,rfl⟩
 ·exact fun e he=>by cases he
 ·intro k;simp
 ·decide
 ·rfl
set_option maxHeartbeats 3200000 in
theorem Z9{E:Value->Shared->Prop}{s:Shared}{Q:Value->Shared->Prop}(hh:A.handled=none)(hl:s.heap.IsList l items)(xs:List Str)(hx:LH items xs)(hn:items.size<=1000)
  (q:∀h2 tk,mD prog w h2 s.heap.objs.size xs items.size->(∀b u,s.heap.get? b=some u->h2.get? b=some u)->Q (.ref s.heap.objs.size) { s with heap:=h2,toks:=tk }):wpAny (model prog w) A (call (.type "set") [.ref l]) Q E s:=by
 obtain⟨mr1,mr2,mr3⟩:=PySem.F.called_set.mro
 have ma:=PySem.F.called_set.made
 have su:=PySem.F.called_set.sub
 have no:=PySem.F.called_set.notType
 have cc:=PySem.F.called_set.canCreate
 have ct:=PySem.F.typeCall_set_1 (.ref l)
 refine wpAny_call (codeAny_of_tree ?_)
 show wpAny _ _ (callAny (.type "set") _) _ _ _
 refine xa4 ⟨Code.quiet_builtin _ (by decide +kernel),codeAny_builtin F.entry_type_call ?_⟩
 rw[Around.under_plain (weight_type_call_type "set" [.ref l] []) rfl]
 repeat (any_goals (first|assumption|wp_step))
 refine codeAny_mono (code_set_new_1 (.ref l) (E:=E) (Q₁:=fun ob s1=>∃led:Bool,ob=.ref s.heap.objs.size/\s1={ s with heap:=s.heap.push (mB led) }) fun led=>⟨led,rfl,rfl⟩) fun r s1 hr=>?_
 cases r with
 |error e=>exact hr
 |ok fl=>
  cases fl with
  |ret ob=>
   obtain⟨led,rfl,rfl⟩:=hr
   have gS:(s.heap.push (mB led)).get? s.heap.objs.size=some (mB led):=xa6 _ rfl
   have tS:Shared.TypeIs { s with heap:=s.heap.push (mB led) } (.ref s.heap.objs.size) "set":=⟨_,gS,rfl⟩
   have il:=PySem.F.called_set.init.lookup
   have ib:=PySem.F.called_set.init.bind (.ref s.heap.objs.size)
   repeat (any_goals (first|assumption|wp_step))
   refine codeAny_mono (codeAny_call_builtin (R:=wants (fun r s2=>r=.none/\∃h2 tk,s2={ s with heap:=h2,toks:=tk }/\mD prog w h2 s.heap.objs.size xs items.size/\(∀b u,s.heap.get? b=some u->h2.get? b=some u)) E) PySem.F.called_set.init.plain PySem.F.entry_set_init (check_set_init_1 tS ?_)) fun r2 s2 hr2=>?_
   ·obtain⟨⟨c1,c2,c3,c4⟩,gl,cl,nl,dl⟩:=hl
    simp only at cl dl
    subst cl dl
    have gl1:(s.heap.push (mB led)).get? l=some { cls:=.type "list",dict:=c2,data:=.seq items nl,slots:=c4 }:=xaj _ gl
    have ls:=PySem.F.sub_list_set
    have lf:=PySem.F.sub_list_frozenset
    have nd:(Value.type "list"==Value.type "dict")=false:=by decide
    have il1:(s.heap.push (mB led)).IsList l items:=⟨_,gl1,rfl,nl,rfl⟩
    unfold Builtin.«set.__init__» noKeywords Builtin.Frozenset.updateFrom
    generalize hPI:pyIter=PI
    wp_walk
    subst hPI
    refine wpAny_pyIter_list il1 ?_
    refine xai (wpAny_runValue ?_)
    have lS:l<s.heap.objs.size:=xaw gl
    refine Z7 (A:=A.in1.in1) (it:=(s.heap.push (mB led)).objs.size) (l:=l) (z:=s.heap.objs.size) (items:=items) hh ?_ ?_ ?_ xs hx hn items.size 0 _ (by omega) (xbz _) ⟨⟨_,xa6 _ rfl,rfl,rfl⟩,il1.push _⟩ (Z8 (led:=led) (xaj _ gS)) ?_
    ·rw[xcj];exact xbf (Nat.lt_succ_of_lt lS)
    ·rw[xcj];exact xbf (xb5 _)
    ·exact xc3 lS
    ·intro h2 tk kp S2
     show wpAny _ _ _ _ _ _
     refine xa4 ?_
     show wpAny _ _ (ret Value.none) _ _ _
     refine xa4 ⟨rfl,h2,tk,rfl,S2,fun b u e=>?_⟩
     have lb:=xaw e
     refine kp b u (xbf lb) ?_ (xaj _ (xaj _ e))
     rw[xcj];exact xbf (Nat.lt_succ_of_lt lb)
   ·cases r2 with
    |error e=>exact hr2
    |ok fl2=>
     cases fl2 with
     |ret r=>
      obtain⟨rfl,h2,tk,rfl,S2,k2⟩:=hr2
      repeat (any_goals (first|assumption|wp_step))
      exact q _ _ S2 k2
     |_=>exact hr2.elim
  |_=>exact hr.elim
end
def nV:List D->Option (List Str)
 |[]=>some []
 |.str x::ds=>(nV ds).map (x::·)
 |_=>none
theorem LI:∀{ds:List D} {xs:List Str},nV ds=some xs->ds=xs.map .str
 |[],_,h=>by cases h;rfl
 |.str x::ds,_,h=>by
  obtain⟨ys,h1,rfl⟩:=xcu.mp (show (nV ds).map (x::·)=some _ from h)
  rw[LI h1];rfl
 |.non::_,_,h=>by cases h
 |.bl _::_,_,h=>by cases h
 |.int _::_,_,h=>by cases h
 |.tup _::_,_,h=>by cases h
 |.ty _::_,_,h=>by cases h
 |.cls _::_,_,h=>by cases h
 |.lst _::_,_,h=>by cases h
 |.dct _ _::_,_,h=>by cases h
 |.exc _ _::_,_,h=>by cases h
def mE:D->R D
 |.lst ds=>match nV ds with
  |some xs=>bif Nat.ble xs.length 1000 then .ok (.int (fB xs xs.length)) else .bad
  |none=>.bad
 |_=>.bad
def vR(f:DSt->R D):DSt->R D:=fun Z=>(f Z).bind mE
section
variable{X:Cx}{E:XK}
theorem LJ:∀{xs:List Str} {us:List Value},bA (xs.map V.str) us->us.length=xs.length/\∀j,j<us.length->∃t,us[j]? = some (.str (xs.getD j "") t)
 |[],us,h=>by cases h;exact⟨rfl,fun j hj=>by cases hj⟩
 |x::xs,us,h=>by
  cases h with
  |cons r rs=>
   obtain⟨h1,h2⟩:=LJ rs
   obtain⟨t,rfl⟩:=(show ∃t,_=Value.str x t from r)
   refine⟨by rw[xad,xad,h1],fun j hj=>?_⟩
   cases j with
   |zero=>exact⟨t,rfl⟩
   |succ j=>exact h2 j (by simpa using hj)
def zaa(K:xFg):List V->Hp->VK->Prop:=fun vs H Q=>∃(p:Addr) (xs:List Str),vs=[.ref p]/\bM K H p (xs.map V.str)/\xs.length<=1000/\∀a,H a=none->Q (.ref a) (aU H a (.ext (sB a (fB xs xs.length))))
theorem zab(hc:X.calm=true):dW X (.type "set") (zaa X.K):=by
 intro pins s Z H xs us Q I rs h
 obtain⟨p,xs,rfl,hq,hn,q⟩:=h
 obtain⟨u,rfl,rx⟩:=jF rs
 cases rx
 obtain⟨its,rv,pl,hz⟩:=I.list hq
 obtain⟨h1,h2⟩:=LJ rv
 refine Z9 (I.ok.hd hc) pl.isList xs ⟨by rw[xao,h1],fun j hj=>?_⟩ (by rw[xao,h1];exact hn) fun g tk S2 kp=>?_
 ·rw[xao] at hj
  obtain⟨t,e⟩:=h2 j hj
  exact⟨t,by rw[List.getElem?_toArray];exact e⟩
 ·obtain⟨o,es,ep,t,k1,k2,k3,_,_,_,k4,k5⟩:=S2
  rw[show its.toArray.size=xs.length by rw[xao,h1]] at k5
  refine⟨.ref s.heap.objs.size,_,I.laid (t':=tk) (h':=g) kp (xak _) (show eK X.prog X.w _ g _ (.ext (sB s.heap.objs.size (fB xs xs.length))) from ⟨⟨o,es,ep,t,k1,k2,k3,k4,k5⟩,⟨o,k1⟩,?_⟩),rfl,q _ (I.hok.fresh (xak _))⟩
  rintro h1 h3 ⟨o,es,ep,t,g,r1⟩ kk
  exact⟨o,es,ep,t,kk o g,r1⟩
theorem LK{K:xFg}{mg:Str->Option Value}{G:Hp}:∀{xs:List Str} {vs:List V},Reps K mg G (xs.map .str) vs->vs=xs.map V.str
 |[],_,h=>h
 |x::xs,_,⟨v,t,e,e1,e2⟩=>by
  rw[e,show v=.str x from e1,LK e2];rfl
theorem zac{k:Nat}(C:XC X E k)(hm1:X.mg "len"=none)(hm2:X.mg "set"=none){e:Expr}{fe:DSt->R D}{p1 p2 pos pos2:Pos}(hfe:DE X E e fe)(hg1:Gl X "len":=by rfl)(hg2:Gl X "set":=by rfl)
  (he1:starEach [.Call (.Name "set" p2) [e] [] pos2] X.env=(false,eval (.Call (.Name "set" p2) [e] [] pos2) X.env)::starEach [] X.env:=by rfl) (hpl1:(backTo pos (starEach [] X.env)).any (·.1)=false:=by rfl)
  (he2:starEach [e] X.env=(false,eval e X.env)::starEach [] X.env:=by rfl) (hpl2:(backTo pos2 (starEach [] X.env)).any (·.1)=false:=by rfl) :
  DE X E (.Call (.Name "len" p1) [.Call (.Name "set" p2) [e] [] pos2] [] pos) (vR fe):=by
 refine PE.mono' (xW ZR hg1 hm1 PySem.boot_len (lL (xX (zab C.calm) hg2 hm2 (by rfl) (bB hfe bJ he2) (by decide) (by decide) he2 hpl2) lK he1) (by decide) (by decide) he1 hpl1) fun Z H Q ⟨G,Zd,ok,q⟩=>?_
 refine⟨G,Zd,ok,(show RW ((aA fe aD) Zd) _ _ from ?_)⟩
 unfold aA
 have q2:=q.of_bind
 cases hf:fe Zd with
 |bad=>rw[hf] at q2;exact q2.elim
 |err x=>rw[hf] at q2;exact(show bH X.K X.mg E G H x from q2)
 |ok d=>
  rw[hf] at q2
  have q3:RW (mE d) (aQ X.K X.mg Q G H) (bH X.K X.mg E G H):=q2
  rintro ws G2 H2 s2 ⟨v,_,e1,r3,r4⟩
  subst e1
  cases r4
  cases d with
  |lst ds=>
   obtain⟨b,vs,rfl,hb,hv⟩:=r3
   cases hs:nV ds with
   |none=>simp only[mE,hs] at q3;exact(show False from q3).elim
   |some xs=>
    simp only[mE,hs] at q3
    cases hm:Nat.ble xs.length 1000 with
    |false=>rw[hm] at q3;exact(show False from q3).elim
    |true=>
     rw[hm] at q3
     have q3:aQ X.K X.mg Q G H (.int (fB xs xs.length)):=q3
     have hle:xs.length<=1000:=by simpa using hm
     obtain rfl:=LI hs
     have hvs:=LK hv
     subst hvs
     refine⟨b,xs,rfl,s2.e.seq hb,hle,fun a ha=>?_⟩
     have hc:=vQ xs xs.length
     have sp:=Step.hid (o:=.ext (sB a (fB xs xs.length))) s2.e ha
     exact⟨a,_,rfl,bV,by omega,q3 _ _ _ (s2.trans sp) rfl⟩
  |_=>exact(show False from q3).elim
end
end DL
namespace DL
open L2 PyProof.Rows
section
variable{X:Cx}{E:XK}
def zad(K:xFg):V->List V->Hp->VK->Prop:=fun x vs H Q=>∃sep b ys,x=.str sep/\vs=[.ref b]/\cB K H b (ys.map V.str)/\k6 sep ys<=sizeLine/\(gC sep ys).length<=sizeLine/\Q (.str (gC sep ys)) H
theorem zae:t9 X "str.join" (zad X.K):=by
 intro pins s Z H x vs v us Q I rx rv h
 obtain⟨sep,b,ys,rfl,rfl,hB,hz,hz2,q⟩:=h
 obtain⟨t,rfl⟩:=rx
 obtain⟨u,rfl,ru⟩:=rv.one
 cases ru
 obtain⟨its,r,⟨ob,g1,g2,n,g3⟩,_⟩:=I.tuple hB
 obtain⟨l,rfl,hl⟩:=AI r
 subst hl
 refine call_meets F.slot_str_join (typeIs_str s sep t) F.entry_str_join (F.args_str_join_2 _ _) (meets_str_join_tuple sep t b l (xag (by show ¬sizeLine<_;exact Nat.not_lt.mpr hz))) ⟨⟨ob,n,g1,g2,g3⟩,?_⟩
 match l,hz2,q with
 |[],hz2,q=>exact⟨hz2,.str _,H,I.tok _,⟨_,rfl⟩,q⟩
 |[p],hz2,q=>exact⟨.str _,H,I,⟨_,rfl⟩,q⟩
 |_::_::_,hz2,q=>exact⟨hz2,.str _,H,I.tok _,⟨_,rfl⟩,q⟩
def k7(sep:D)(d:D):R D:=match sep,d with
 |.str z,.tup ds=>match eN ds with
  |some ys=>bif bD (k6 z ys)&&bD (gC z ys).length then .ok (.str (gC z ys)) else .bad
  |none=>.bad
 |_,_=>.bad
def zaf(fe:DSt->R D)(Z:DSt):D->R D
 |.str z=>(fe Z).bind fun d=>k7 (.str z) d
 |_=>.bad
def AL(fo fe:DSt->R D):DSt->R D:=fun Z=>(fo Z).bind fun z=>zaf fe Z z
theorem zag{o e:Expr}{fo fe:DSt->R D}{apos cpos:Pos}(ho:DE X E o fo)(he:DE X E e fe)
  (hbase:attributeBase o "join" X.env (eval o X.env)=eval o X.env:=by rfl)
  (hfew:((backTo cpos (starEach [e] X.env)).all (fun x=>!x.1)&&(backToKw cpos (keywordEach [] X.env)).all (fun x=>x.1.isSome)&&decide ([e].length+([]:List Keyword).length+(if ([]:List Keyword).isEmpty then 0 else 1)<30))=true:=by rfl)
  (hline:(apos.endLine==cpos.line)=true:=by rfl) (hs:starEach [e] X.env=(false,eval e X.env)::starEach [] X.env:=by rfl) (hplain:(backTo cpos (starEach [] X.env)).any (·.1)=false:=by rfl) :
  DE X E (.Call (.Attribute o "join" apos) [e] [] cpos) (AL fo fe):=by
 refine PE.mono' (qH PySem.F.plainAttrs_str PySem.F.slot_str_join PySem.F.type_str_join zae ho (bB he bJ hs) hbase hfew hline hs hplain) fun Z H Q ⟨G,Zd,ok,q⟩=>?_
 refine gG (P:=aQ X.K X.mg Q) ok q fun z x G1 H1 s1 ok1 r1 q1=>?_
 cases z with
 |str y=>
  cases r1
  refine⟨rfl,G1,Zd,ok1,(show RW ((aA fe aD) Zd) _ _ from ?_)⟩
  unfold aA
  have q2:=(show RW ((fe Zd).bind fun d=>k7 (.str y) d) _ _ from q1).of_bind
  cases hf:fe Zd with
  |bad=>rw[hf] at q2;exact q2.elim
  |err e=>rw[hf] at q2;exact(show bH X.K X.mg E G1 H1 e from q2)
  |ok d=>
   rw[hf] at q2
   have q3:RW (k7 (.str y) d) (aQ X.K X.mg Q G H) (bH X.K X.mg E G1 H1):=q2
   rintro ws G2 H2 s2 ⟨v,_,e1,r3,r4⟩
   subst e1
   cases r4
   cases d with
   |tup ds=>
    obtain⟨b,vs,rfl,hb,hv⟩:=r3
    cases hs':eN ds with
    |none=>simp only[k7,hs'] at q3;exact q3.elim
    |some ys=>
     have ev:=Reps.strs hs' hv
     subst ev
     cases hC:(bD (k6 y ys)&&bD (gC y ys).length) with
     |false=>simp only[k7,hs',hC,cond_false] at q3;exact q3.elim
     |true=>
      simp only[k7,hs',hC,cond_true] at q3
      rw[xap] at hC
      exact⟨y,b,ys,rfl,rfl,aM.sqT s2.e hb,xas hC.1,xas hC.2,aQ.now ((show aQ X.K X.mg Q G H (.str (gC y ys)) from q3).step (s1.trans s2)) s2.e rfl⟩
   |_=>exact(show False from q3).elim
 |_=>exact(show False from q1).elim
end
end DL
namespace DL
open L2
def LL:R2:=fun x y H Q=>∃z k,x=.str z/\y=.int k/\((k=0/\Q (.str Str.empty) H)\/(k=1/\Q (.str z) H))
theorem zah{X:Cx}:bP X (binaryOp .Mult) LL:=by
 intro pins s Z H x y v u Q I rx ry h
 obtain⟨z,k,rfl,rfl,h⟩:=h
 obtain⟨t,rfl⟩:=rx
 obtain⟨t',rfl⟩:=ry
 rcases h with⟨rfl,q⟩|⟨rfl,q⟩
 ·refine P.mul_str (by decide) (fun a=>xat (by decide) a) (fun a=>xat (by decide) a) ?_
  rw[xa5 (by decide)]
  exact⟨by decide,.str Str.empty,H,I.tok _,⟨_,rfl⟩,q⟩
 ·refine P.mul_str (by decide) (fun _ a=>by cases a) (fun _ a=>by cases a) ?_
  rw[xaz (by decide),xa5 (show ((1:Int)==1||z.length==0)=true from rfl)]
  exact⟨.str z,H,I,⟨_,rfl⟩,q⟩
def k8:D->D->R D
 |.str z,.int k=>bif decide (k=0) then .ok (.str Str.empty) else bif decide (k=1) then .ok (.str z) else .bad
 |_,_=>.bad
theorem zai:fM k8:=by
 intro a b e
 cases a<;>cases b<;>simp only[k8]<;>first|(intro z;cases z;done)|(intro z;revert z;rename_i z k;cases (decide (k=0))<;>cases (decide (k=1))<;>simp[cond])
theorem zaj{K:xFg}{mg:Str->Option Value}:fL K mg LL k8:=by
 intro G H a b x y Q e ra rb q
 cases a with
 |str z=>cases b with
  |int k=>
   cases ra;cases rb
   refine⟨z,k,rfl,rfl,?_⟩
   by_cases h0:k=0
   ·simp only[k8,xaf h0,cond_true] at q
    exact .inl ⟨h0,aQ.now q e rfl⟩
   ·by_cases h1:k=1
    ·simp only[k8,xag h0,xaf h1,cond_false,cond_true] at q
     exact .inr ⟨h1,aQ.now q e rfl⟩
    ·simp only[k8,xag h0,xag h1,cond_false] at q
     exact q.elim
  |_=>exact(show False from q).elim
 |_=>exact(show False from q).elim
section
variable{X:Cx}{E:XK}{a b:Expr}{fa fb:DSt->R D}{pos:Pos}
theorem zak(ha:DE X E a fa)(hb:DE X E b fb):DE X E (.BinOp a .Mult b pos) (aC k8 fa fb):=kT zah zaj zai ha hb
end
end DL
namespace DL
open L2 PySem.Builtin
theorem zal:fillsNumberSlot (.type "tuple") "mul"=pure false:=
 fillsNumberSlot_seq (id:="tuple.__mul__") (r:=some (.builtin "tuple.__rmul__")) F.slot_tuple_mul.lookup (by decide +kernel) F.slot_tuple_rmul.lookup (by decide +kernel)
theorem zam:seqRepeat? (.type "tuple")=pure (some (.builtin "tuple.__mul__")):=by
 unfold seqRepeat?
 rw[seqSlot_of (T:="tuple") (name:="__mul__") (id:="tuple.__mul__") F.slot_tuple_mul.lookup (by decide +kernel),seqSlot_of (T:="tuple") (name:="__rmul__") (id:="tuple.__rmul__") F.slot_tuple_rmul.lookup (by decide +kernel)]
 rfl
theorem zan(a:Int)(t:Tok)(l:Addr)(items:Array Value)(n:Nat)(dd:Option Addr)(sl:Array (Option Value)) :
  Meets (Builtin.«int.__rmul__» ⟨[.int a t,.ref l],[]⟩) (fun _ R s=>s.heap.get? l=some { cls:=.type "tuple",dict:=dd,data:=.seq items n,slots:=sl }/\R (.ok (.ret Value.notImplemented)) s):=
 .of_wp fun prog w A R s h=>by obtain⟨hp,g,d,tk,os⟩:=s;obtain⟨hl,h⟩:=h;wp_walk;exact⟨_,rfl,h⟩
theorem zao(l:Addr)(items:Array Value)(n:Nat)(dd:Option Addr)(sl:Array (Option Value))(k:Int)(u:Tok)(h1:¬items.isEmpty=true)(h2:2<=k)(h3:k<100000)(h4:items.size*k.toNat<=100000) :
  Meets (Builtin.«tuple.__mul__» ⟨[.ref l,.int k u],[]⟩) (fun _ R s=>s.heap.get? l=some { cls:=.type "tuple",dict:=dd,data:=.seq items n,slots:=sl }/\R (.ok (.ret (Value.ref s.heap.objs.size))) { s with heap:=s.heap.push { cls:=Value.type "tuple",data:=Data.seq (List.foldl (fun x1 x2=>x1++x2) #[] (List.replicate k.toNat items)) } }):=
 .of_wp fun prog w A R s h=>by
  obtain⟨hp,g,d,tk,os⟩:=s;obtain⟨hl,h⟩:=h
  have f1:=AutoSeq1.idx_int;have f2:=AutoSeq1.sub_tuple_tuple
  have hn:items.size ≥ 1:=by
   have:items.isEmpty=false:=by simpa using h1
   rw[Array.isEmpty_eq_false_iff] at this
   exact Array.size_pos_iff.mpr this
  have c1:¬(decide (k < -(2^63:Int))||decide (k ≥ 2^63))=true:=by rw[xag (by omega),xag (by omega)];decide
  have c2:¬(items.isEmpty||k==1)=true:=by rw[show items.isEmpty=false by simpa using h1,show (k==1)=false from beq_eq_false_iff_ne.mpr (by omega)];decide
  have c3:¬(decide (k<=0)||items.isEmpty)=true:=by rw[show items.isEmpty=false by simpa using h1,xag (by omega)];decide
  have hm:(items.size:Int)*k<=100000:=by
   have:((items.size*k.toNat:Nat):Int)=(items.size:Int)*k:=by rw[Int.natCast_mul,Int.toNat_of_nonneg (by omega)]
   omega
  have c4:¬((items.size:Int)*k>(2^63-1)/8):=by omega
  have c5:¬Builtin.Tuple.tupleTooMany ((items.size:Int)*k)=true:=by
   unfold Builtin.Tuple.tupleTooMany
   rw[decide_eq_true_eq]
   have:(100000:Int)<=(sizeLine:Int):=by decide
   omega
  wp_walk using wpAny_loadPart' hl
  rw[xaz c1]
  wp_walk using wpAny_loadPart' hl
  rw[xaz c2]
  show wpAny _ _ (if (decide (k<=0)||items.isEmpty)=true then _ else _) _ _ _
  rw[xaz c3]
  show wpAny _ _ (if ((items.size:Int)*k>(2^63-1)/8) then _ else _) _ _ _
  rw[xaz c4]
  show wpAny _ _ (if Builtin.Tuple.tupleTooMany ((items.size:Int)*k)=true then _ else _) _ _ _
  rw[xaz c5]
  have hsz:(List.foldl (fun x1 x2=>x1++x2) #[] (List.replicate k.toNat items)).size<=sizeLine:=by
   have go:∀(m:Nat) (acc:Array Value),((List.replicate m items).foldl (·++·) acc).size=acc.size+m*items.size:=by
    intro m
    induction m with
    |zero=>intro acc;simp
    |succ m ih=>intro acc;rw[xba,List.foldl_cons,ih,Array.size_append,Nat.succ_mul];omega
   rw[go,Nat.mul_comm]
   exact xah (by simpa using h4) (show 100000<=sizeLine by decide)
  wp_walk
  exact⟨_,rfl,h⟩
def LM(K:xFg):R2:=fun x y H Q=>∃a k xs,x=.ref a/\y=.int k/\cB K H a xs/\xs≠[]/\2<=k/\k<100000/\xs.length*k.toNat<=100000/\∀p,H p=none->Q (.ref p) (aU H p (.tup (List.replicate k.toNat xs).flatten))
theorem zap{X:Cx}:bP X (binaryOp .Mult) (LM X.K):=by
 intro pins s Z H x y v u Q I rx ry h
 obtain⟨a,k,xs,rfl,rfl,ha,hx,h1,h2,hz,q⟩:=h
 cases rx
 obtain⟨t,rfl⟩:=ry
 obtain⟨its,r,p1,_⟩:=I.tuple ha
 obtain⟨⟨cls,dd,data,sl⟩,ho,hc,n,hd⟩:=id p1
 simp only at hc hd
 subst hc hd
 have hne:¬its.toArray.isEmpty=true:=by
  have:its≠[]:=fun z=>hx (r.nil_iff.mp z)
  simpa using this
 have hlen:its.toArray.size*k.toNat<=100000:=by rw[xao,<- r.length];exact hz
 have hnew:List.foldl (fun x1 x2=>x1++x2) #[] (List.replicate k.toNat its.toArray)=(List.replicate k.toNat its).flatten.toArray:=by
  have:=xZ its k.toNat []
  rw[xbq] at this
  exact this
 refine wpAny_binaryOp_repeat_ref (T:="tuple") (U:="int") (by decide) ⟨_,ho,rfl⟩ (fun s'=>typeIs_int s' k t) zal F.fills_int_mul F.slot_int_rmul zam F.slot_int_index.lookup
  (call_meets F.slot_int_rmul (typeIs_int s k t) F.entry_int_rmul (F.args_int_rmul_2 _ _) (zan k t a its.toArray n dd sl)
   ⟨ho,rfl,⟨_,ho,rfl⟩,call_meets F.slot_tuple_mul ⟨_,ho,rfl⟩ F.entry_tuple_mul (F.args_tuple_mul_2 _ _) (zao a its.toArray n dd sl k t hne h1 h2 hlen) ⟨ho,?_⟩⟩)
 rw[hnew]
 refine⟨.ref s.heap.objs.size,_,I.laid (t':=s.toks) (o:=.tup (List.replicate k.toNat xs).flatten) (fun b ob q=>xaj _ q) (xak _) ?_,rfl,q _ (I.hok.fresh (xak _))⟩
 exact⟨by rw[oR,Nat.mul_comm];exact xah hz (by decide),_,r.rep k.toNat,jZ.new _ _⟩
def k9:D->D->R D
 |.tup xs,.int k=>bif decide (2<=k/\k<100000/\xs.length*k.toNat<=100000) && !xs.isEmpty then .ok (.tup (List.replicate k.toNat xs).flatten) else .bad
 |_,_=>.bad
theorem zaq:fM k9:=by
 intro a b e
 cases a<;>cases b<;>simp only[k9]<;>first|(intro z;cases z;done)|(rename_i xs k;cases (decide (2<=k/\k<100000/\xs.length*k.toNat<=100000) && !xs.isEmpty)<;>simp[cond])
theorem zar{K:xFg}{mg:Str->Option Value}:fL K mg (LM K) k9:=by
 intro G H a b x y Q e ra rb q
 cases a with
 |tup xs=>cases b with
  |int k=>
   obtain⟨p,vs,rfl,h1,h2⟩:=ra
   cases rb
   cases hC:(decide (2<=k/\k<100000/\xs.length*k.toNat<=100000) && !xs.isEmpty) with
   |false=>simp only[k9,hC,cond_false] at q;exact q.elim
   |true=>
    simp only[k9,hC,cond_true] at q
    rw[xap] at hC
    obtain⟨c1,c2,c3⟩:=xas hC.1
    refine⟨p,k,vs,rfl,rfl,aM.sqT e h1,fun z=>?_,c1,c2,by rw[<- h2.length];exact c3,fun l hl=>?_⟩
    ·subst z
     have hx:xs=[]:=xb0.mp h2.length
     subst hx;simp at hC
    ·have s:=Step.pub (o:=.tup (List.replicate k.toNat vs).flatten) e hl
     exact(show aQ K mg Q G H (.tup (List.replicate k.toNat xs).flatten) from q) _ _ _ s ⟨l,_,rfl,cB.of bV,(h2.rep k.toNat).mono s.g⟩
  |_=>exact(show False from q).elim
 |_=>exact(show False from q).elim
section
variable{X:Cx}{E:XK}{a b:Expr}{fa fb:DSt->R D}{pos:Pos}
theorem zas(ha:DE X E a fa)(hb:DE X E b fb):DE X E (.BinOp a .Mult b pos) (aC k9 fa fb):=kT zap zar zaq ha hb
end
end DL
namespace Rdr
open PySem
def top(i:Nat):Stmt:=PySem.Challenge.pw_chalkline_k33_no_drawing.main.body.getD i (.Pass ⟨0,0,0,0⟩)
abbrev rCls:Stmt:=top 27
end Rdr
namespace Rdr
open L2 PyProof.Rows
def flds(vr:V)(n:Int):List (Str×V):=[("rows",vr),("done",.int n)]
theorem LN(vr:V)(n:Int):(flds vr n).lookup ("rows":Str)=some vr:=by rfl
theorem AM(vr:V)(n:Int):(flds vr n).lookup ("done":Str)=some (.int n):=by rfl
theorem zat(vr:V)(n:Int):(flds vr n).lookup ("take":Str)=none:=by rfl
theorem LO(vr:V)(n:Int):(flds vr n).lookup ("ahead":Str)=none:=by rfl
variable{P:Program}{w:World}{K:xFg}{mg:Str->Option Value}{base:Heap}
inductive gQ (K:xFg) (mg:Str->Option Value) (C:Addr) (G H:Hp) (p:Addr) (rows:List DL.D) (n:Int):Prop
 |mk (dx:Addr) (vr:V) (hp:H p=some (.ins C dx (flds vr n))) (hr:DL.Rep K mg G (.lst rows) vr) (gp:G p=none)
def g7(p:Addr)(H:Hp):Hp:=fun c=>if c=p then none else H c
theorem LP{p:Addr}{H:Hp}:g7 p H p=none:=by unfold g7;rw[xa5 rfl]
theorem pF{p b:Addr}{H:Hp}(h:b≠p):g7 p H b=H b:=by unfold g7;rw[xaz h]
theorem pG{p b:Addr}{H:Hp}{o:HO}(h:g7 p H b=some o):b≠p/\H b=some o:=by
 unfold g7 at h
 split at h
 ·cases h
 ·rename_i z;exact⟨z,h⟩
abbrev jS(G H G' H':Hp)(p:Addr):Prop:=DL.Step G (g7 p H) G' H'
structure Txt(K:xFg)(mg:Str->Option Value)(C:Addr):Prop where
 cl:jG K C
 nR:kN K C "rows"
 nD:kN K C "done"
abbrev LQ:Stmt:=kP rCls 0
abbrev LR:Stmt:=kP rCls 1
abbrev LS:Stmt:=kP rCls 2
def cL(rows:List DL.D)(n:Int):DL.D:=rows.getD n.toNat (.lst [])
theorem gQ.step{C p:Addr}{G H G' H':Hp}{rows:List DL.D}{n:Int}(S:gQ K mg C G H p rows n)(s:DL.Step G H G' H'):gQ K mg C G' H' p rows n:=by
 obtain⟨dx,vr,h1,h2,h3⟩:=S
 exact⟨dx,vr,s.h _ _ h1,h2.mono s.g,s.c _ _ h1 h3⟩
def AN(K:xFg)(mg:Str->Option Value)(C:Addr):Sp:=fun vs H Q _=>∃(G:Hp) (p:Addr) (rows:List DL.D) (n:Int),vs=[.ref p]/\aM G H/\gQ K mg C G H p rows n/\0<=n/\
 ∀v G' H',DL.Step G H G' H'->DL.Rep K mg G' (cL rows n) v->Q v H'
theorem zau:gU ["self"] ["self"] (cF LR):=⟨rfl,rfl,rfl,by decide +kernel,rfl,by decide +kernel,by decide +kernel⟩
theorem zav{f C:Addr}{fd:FuncData}{k:Nat}(F:gE K "ahead" "Reader.ahead" LR f fd)(T:Txt K mg C)(hm:mg "len"=none):cN P w K mg base (bW P w) (k+1) f fd ["self"] (AN K mg C):=by
 refine F.okX zau (fun vs H Q E h=>?_) (fun cdv A outer s H vs Q E hr h=>?_)
 ·obtain⟨G,p,rows,n,rfl,_⟩:=h
  rfl
 ·obtain⟨G,p,rows,n,rfl,e,S,n0,q⟩:=h
  refine⟨_,oK (tW (Q5 (QR (QQ (t8 (pv 0) rfl) (xW DZ rfl hm rfl (lL (t8 (pv 0) rfl) lK)))) (DQ DX (t8 (pv 0) rfl) (t8 (pv 0) rfl) (fun _ _=>rfl)) (xT lK))),?_⟩
  obtain⟨dx,vr,h1,h2,h3⟩:=S
  obtain⟨a,vs,rfl,hs,r⟩:=h2
  refine⟨_,rfl,p,C,dx,_,_,rfl,h1,T.cl,T.nD,AM _ _,_,rfl,p,C,dx,_,_,rfl,h1,T.cl,T.nR,LN _ _,a,vs,rfl,.inl (e.seq hs),n,_,rfl,rfl,_,rfl,?_⟩
  have hl:=r.length
  show (if decide (n<(vs.length:Int))=true then _ else _)
  by_cases hn:n<(vs.length:Int)
  ·rw[xa5 (xaf hn)]
   obtain⟨j,rfl⟩:∃j:Nat,n=(j:Int):=⟨n.toNat,by omega⟩
   have hj:j<rows.length:=by omega
   obtain⟨v,hv,rv⟩:=r.get (xax hj)
   refine⟨_,rfl,p,C,dx,_,_,rfl,h1,T.cl,T.nR,LN _ _,_,rfl,p,C,dx,_,_,rfl,h1,T.cl,T.nD,AM _ _,a,vs,(j:Int),v,rfl,rfl,e.seq hs,?_,?_⟩
   ·unfold eU j1
    rw[xa5 (by omega),xa5 (by omega),xbm];exact hv
   ·refine q v G H (DL.Step.refl e) ?_
    unfold cL
    rw[xbm,xa9,xax hj];exact rv
  ·rw[xaz (by rw[xag hn];exact xa7)]
   refine⟨xbz _,fun l hl'=>?_⟩
   have sp:=DL.Step.pub (o:=.lst []) e hl'
   refine q _ _ _ sp ?_
   unfold cL
   rw[xa9,xbx (by omega)]
   exact⟨l,[],rfl,bM.of bV,DL.Reps.nil⟩
def LU(K:xFg)(mg:Str->Option Value)(C:Addr):Sp:=fun vs H Q _=>∃(G:Hp) (p:Addr) (rows:List DL.D) (n:Int),vs=[.ref p]/\aM G H/\gQ K mg C G H p rows n/\0<=n/\
 ∀v G' H',jS G H G' H' p->gQ K mg C G' H' p rows (n+1)->DL.Rep K mg G' (cL rows n) v->Q v H'
theorem LV:gU ["self","words"] ["self"] (cF LS):=⟨rfl,rfl,rfl,by decide +kernel,rfl,by decide +kernel,by decide +kernel⟩
theorem zaw{f g C:Addr}{fd gd:FuncData}{k:Nat}(F:gE K "take" "Reader.take" LS f fd)(T:Txt K mg C)(M:lJ K C "ahead" g)(B:eS K gd ["self"] [])(O:cN P w K mg base (bW P w) k g gd ["self"] (AN K mg C)):cN P w K mg base (bW P w) (k+1) f fd ["self"] (LU K mg C):=by
 refine F.okX LV (fun vs H Q E h=>?_) (fun cdv A outer s H vs Q E hr h=>?_)
 ·obtain⟨G,p,rows,n,rfl,_⟩:=h
  rfl
 ·obtain⟨G,p,rows,n,rfl,e,S,n0,q⟩:=h
  refine⟨_,lG (lI (i:=1) LV.nd rfl (Or.inl rfl) (xV (pv 0) T.cl M O hr B .nil uC) rfl)
   (lG (S6 (pv 0) xM S8) (oK (tW (pv 1)))),?_⟩
  obtain⟨dx,vr,h1,h2,h3⟩:=id S
  refine⟨_,rfl,p,dx,_,rfl,h1,LO _ _,G,p,rows,n,rfl,e,S,n0,fun v G1 H1 s1 r1=>?_⟩
  obtain⟨dx',vr',k1,k2,k3⟩:=S.step s1
  refine⟨_,rfl,p,C,dx',_,_,rfl,k1,T.cl,T.nD,AM _ _,n,1,rfl,rfl,dx',_,k1,(by show 2<1000;decide),?_⟩
  refine⟨v,rfl,?_⟩
  have sG:aM G1 (aU H1 p (.ins C dx' (fE "done" (.int (n+1)) (flds vr' n)))):=fun b u h=>by
   have:b≠p:=fun z=>by rw[z,k3] at h;cases h
   rw[bF this];exact s1.e b u h
  exact q v G1 _ ⟨s1.g,fun b o h=>by rw[bF (pG h).1];exact s1.h b o (pG h).2,sG,fun a o h=>s1.c a o (pG h).2⟩ ⟨dx',vr',bV,k2,k3⟩ r1
def LW(K:xFg)(mg:Str->Option Value)(C:Addr):Sp:=fun vs H Q _=>∃(G:Hp) (p dx:Addr) (rows:List DL.D) (vr:V),vs=[.ref p,vr]/\aM G H/\H p=some (.ins C dx [])/\G p=none/\DL.Rep K mg G (.lst rows) vr/\
 ∀H',aM G H'->(∀b o,H b=some o->b≠p->H' b=some o)->gQ K mg C G H' p rows 0->Q .non H'
theorem zax:gU ["self","rows"] ["self","rows"] (cF LQ):=⟨rfl,rfl,rfl,by decide +kernel,rfl,by decide +kernel,by decide +kernel⟩
theorem zay{f C:Addr}{fd:FuncData}{k:Nat}(F:gE K "__init__" "Reader.__init__" LQ f fd)(T:Txt K mg C):cN P w K mg base (bW P w) (k+1) f fd ["self","rows"] (LW K mg C):=by
 refine F.okX zax (fun vs H Q E h=>?_) (fun cdv A outer s H vs Q E hr h=>?_)
 ·obtain⟨G,p,dx,rows,vr,rfl,_⟩:=h
  rfl
 ·obtain⟨G,p,dx,rows,vr,rfl,e,h1,gp,hr',q⟩:=h
  refine⟨_,lG (C4 (pv 0) (pv 1) rfl) (oK (C4 (pv 0) xM rfl)),?_⟩
  refine⟨_,rfl,_,rfl,p,C,dx,_,rfl,h1,T.cl,T.nR,(by show 0<1000;decide),?_⟩
  refine⟨_,rfl,p,C,dx,_,rfl,bV,T.cl,T.nD,(by show 1<1000;decide),?_⟩
  refine q _ (fun b u h=>?_) (fun b o h hb=>by rw[bF hb,bF hb];exact h) ⟨dx,vr,bV,hr',gp⟩
  have:b≠p:=fun z=>by rw[z,gp] at h;cases h
  rw[bF this,bF this];exact e b u h
end Rdr
section
set_option maxHeartbeats 1000000
namespace Rdr
open L2 PyProof.Rows DL
section
variable{K:xFg}{mg:Str->Option Value}{C p:Addr}{r:Nat}{rows:List D}{n n':Int}{Zd:DSt}{Z:L2.St}{G H G' H' G0 H0:Hp}{E:XK}
structure fU(K:xFg)(mg:Str->Option Value)(C:Addr)(r:Nat)(p:Addr)(Zd:DSt)(rows:List D)(n:Int)(Z:L2.St)(G H:Hp):Prop where
 ok:bZ K mg Zd Z G H
 un:Zd[r]? = some none
 hr:Z[r]? = some (some (.ref p))
 at_:gQ K mg C G H p rows n
 n0:0<=n
theorem fU.step(o:fU K mg C r p Zd rows n Z G H)(s:Step G H G' H'):fU K mg C r p Zd rows n Z G' H':=⟨o.ok.step s,o.un,o.hr,o.at_.step s,o.n0⟩
theorem fU.on(o:fU K mg C r p Zd rows n Z G H)(s:jS G H G' H' p)(a:gQ K mg C G' H' p rows n')(h:0<=n'):fU K mg C r p Zd rows n' Z G' H':=
 ⟨⟨s.e,o.ok.len,fun i d q=>let⟨v,h1,h2⟩:=o.ok.val i d q;⟨v,h1,h2.mono s.g⟩⟩,o.un,o.hr,a,h⟩
theorem fU.set{j:Nat}{d:D}{v:V}(o:fU K mg C r p Zd rows n Z G H)(hj:j≠r)(q:Rep K mg G d v):fU K mg C r p (Zd.set j (some d)) rows n (Z.set j (some v)) G H:=
 ⟨o.ok.set q,by rw[xam hj];exact o.un,by rw[xam hj];exact o.hr,o.at_,o.n0⟩
theorem jA(s:Step G H G' H'):jS G H G' H' p:=⟨s.g,fun b o h=>s.h b o (pG h).2,s.e,fun a o h=>s.c a o (pG h).2⟩
theorem lA(s0:Step G0 H0 G H)(hp:H0 p=none)(s:jS G H G' H' p):Step G0 H0 G' H':=by
 have ne:∀b o,H0 b=some o->b≠p:=fun b o h z=>by rw[z,hp] at h;cases h
 exact⟨s0.g.trans s.g,fun b o h=>s.h b o (by rw[pF (ne b o h)];exact s0.h b o h),s.e,fun a o h q=>s.c a o (by rw[pF (ne a o h)];exact s0.h a o h) (s0.c a o h q)⟩
theorem mF{G1 H1:Hp}(s:jS G H G1 H1 p)(t:jS G1 H1 G' H' p):jS G H G' H' p:=lA s LP t
theorem AO{e:D}(z:bH K mg E G (g7 p H) e):bH K mg E G H e:=fun G' H' C' dct s q=>z G' H' C' dct (jA s) q
theorem pH{e:D}(z:bH K mg E G0 H0 e)(s0:Step G0 H0 G H)(hp:H0 p=none):bH K mg E G (g7 p H) e:=fun G' H' C' dct s q=>z G' H' C' dct (lA s0 hp s) q
end
abbrev EF:=List D->DSt->Int->R (D×Int)
abbrev TF:=List D->DSt->Int->R (Bool×Int)
section
variable(K:xFg)(mg:Str->Option Value)(E:XK)(C:Addr)(r:Nat)
def pI(rows:List D)(p:Addr)(G H:Hp)(Q:VK)(x:D×Int):Prop:=∀v G' H',jS G H G' H' p->gQ K mg C G' H' p rows x.2->0<=x.2->Rep K mg G' x.1 v->Q v H'
def tER(f:EF):TE:=fun Z H Q=>∃G Zd rows n p,fU K mg C r p Zd rows n Z G H/\RW (f rows Zd n) (pI K mg C rows p G H Q) (bH K mg E G (g7 p H))
def tRT(f:TF):TT:=fun Z H Q=>∃G Zd rows n p,fU K mg C r p Zd rows n Z G H/\RW (f rows Zd n) (fun x=>∀G' H',jS G H G' H' p->gQ K mg C G' H' p rows x.2->0<=x.2->Q x.1 H') (bH K mg E G (g7 p H))
end
def ER(X:Cx)(E:XK)(C:Addr)(r:Nat)(e:Expr)(f:EF):Prop:=PE X e (tER X.K X.mg E C r f)
def RT(X:Cx)(E:XK)(C:Addr)(r:Nat)(e:Expr)(f:TF):Prop:=PT X e (tRT X.K X.mg E C r f)
def rPure(fe:DSt->R D):EF:=fun _ τ n=>(fe τ).bind fun d=>.ok (d,n)
def rTake:EF:=fun rows _ n=>.ok (cL rows n,n+1)
def rAhead:EF:=fun rows _ n=>.ok (cL rows n,n)
def rTst(ft:DSt->R Bool):TF:=fun _ τ n=>(ft τ).bind fun b=>.ok (b,n)
def rCmp(g:D->D->R D)(f:EF)(fb:DSt->R D):TF:=fun rows τ n=>(f rows τ n).bind fun x=>(fb τ).bind fun d=>(g x.1 d).bind fun z=>(fG z).bind fun b=>.ok (b,x.2)
structure RdF(P:Program)(w:World)(K:xFg)(mg:Str->Option Value)(base:Heap)(k:Nat)(C:Addr):Prop where
 T:Txt K mg C
 ah:∃f fd,cN P w K mg base (bW P w) k f fd ["self"] (AN K mg C)/\lJ K C "ahead" f/\eS K fd ["self"] []
 tk:∃f fd,cN P w K mg base (bW P w) k f fd ["self"] (LU K mg C)/\lJ K C "take" f/\eS K fd ["self"] []
section
variable{X:Cx}{E:XK}{C:Addr}{r k:Nat}{e a b c:Expr}{fe fb:DSt->R D}{ft:DSt->R Bool}{f:EF}{pos np apos:Pos}{x:Str}
theorem er_de(he:DE X E e fe):ER X E C r e (rPure fe):=PE.mono' he fun Z H Q ⟨G,Zd,rows,n,p,o,q⟩=>
 ⟨G,Zd,o.ok,q.of_bind.mono (fun d _ z v G' H' s q=>(show pI X.K X.mg C rows p G H Q (d,n) from z) v G' H' (jA s) (o.at_.step s) o.n0 q) fun _ z=>AO z⟩
theorem rt_dt(hc:DT X E c ft):RT X E C r c (rTst ft):=PT.mono' hc fun Z H Q ⟨G,Zd,rows,n,p,o,q⟩=>
 ⟨G,Zd,o.ok,q.of_bind.mono (fun b _ z G' H' s=>(show ∀G' H',jS G H G' H' p->gQ X.K X.mg C G' H' p rows n->0<=n->Q b H' from z) G' H' (jA s) (o.at_.step s) o.n0) fun _ z=>AO z⟩
theorem er_take(XC:DL.XC X E k)(F:RdF X.prog X.w X.K X.mg X.base k C){pl:Sem Bool}(h1:X.N[r]? = some x:=by rfl)(hv:iS X.env.scope x:=by first|exact Or.inl rfl|exact Or.inr (Or.inl rfl)|exact Or.inr (Or.inr rfl))(hd:(x==("__debug__":Str))=false:=by decide)(hcd:(x==("__classdict__":Str))=false:=by decide)
  (ht : eval (.Call (.Attribute (.Name x np) "take" apos) [] [] pos) X.env = (do
   let ov<-eval (.Name x np) X.env
   standAt apos.atName
   let (f,first)<-holding [ov] (getMethod ov "take" pl)
   callWith pos f first (backTo pos (starEach [] X.env)) (backToKw pos (keywordEach [] X.env))):=by rfl) :
  ER X E C r (.Call (.Attribute (.Name x np) "take" apos) [] [] pos) rTake:=by
 obtain⟨f,fd,O,M,B⟩:=F.tk
 refine PE.mono' (xV (pv r h1 hv hd hcd) F.T.cl M O XC.room B .nil XC.pass ht) fun Z H Q ⟨G,Zd,rows,n,p,o,q⟩=>?_
 obtain⟨dx,vr,k1,k2,k3⟩:=id o.at_
 exact⟨_,o.hr,p,dx,_,rfl,k1,zat _ _,G,p,rows,n,rfl,o.ok.ext,o.at_,o.n0,fun v G' H' s a q'=>q v G' H' s a (by have:=o.n0;show 0<=n+1;omega) q'⟩
theorem er_ahead(XC:DL.XC X E k)(F:RdF X.prog X.w X.K X.mg X.base k C){pl:Sem Bool}(h1:X.N[r]? = some x:=by rfl)(hv:iS X.env.scope x:=by first|exact Or.inl rfl|exact Or.inr (Or.inl rfl)|exact Or.inr (Or.inr rfl))(hd:(x==("__debug__":Str))=false:=by decide)(hcd:(x==("__classdict__":Str))=false:=by decide)
  (ht : eval (.Call (.Attribute (.Name x np) "ahead" apos) [] [] pos) X.env = (do
   let ov<-eval (.Name x np) X.env
   standAt apos.atName
   let (f,first)<-holding [ov] (getMethod ov "ahead" pl)
   callWith pos f first (backTo pos (starEach [] X.env)) (backToKw pos (keywordEach [] X.env))):=by rfl) :
  ER X E C r (.Call (.Attribute (.Name x np) "ahead" apos) [] [] pos) rAhead:=by
 obtain⟨f,fd,O,M,B⟩:=F.ah
 refine PE.mono' (xV (pv r h1 hv hd hcd) F.T.cl M O XC.room B .nil XC.pass ht) fun Z H Q ⟨G,Zd,rows,n,p,o,q⟩=>?_
 obtain⟨dx,vr,k1,k2,k3⟩:=id o.at_
 exact⟨_,o.hr,p,dx,_,rfl,k1,LO _ _,G,p,rows,n,rfl,o.ok.ext,o.at_,o.n0,fun v G' H' s q'=>q v G' H' (jA s) (o.at_.step s) o.n0 q'⟩
theorem rt_cmp{op:CmpOp}{g:D->D->R D}(cf:gN X op g)(ha:ER X E C r a f)(hb:DE X E b fb)(hm:behindInMarks op b=false:=by first|exact dH _ (by decide) (by decide)|rfl):RT X E C r (.Compare a [op] [b] pos) (rCmp g f fb):=by
 obtain⟨rr,h1,h2,h3⟩:=cf.ex
 refine PT.mono' (CU h1 ha hb hm) fun Z H Q ⟨G,Zd,rows,n,p,o,q⟩=>?_
 refine⟨G,Zd,rows,n,p,o,q.of_bind.mono (fun x _ z v G1 H1 s1 a1 n1 r1=>?_) fun _ z=>z⟩
 have o1:=o.on s1 a1 n1
 refine⟨G1,Zd,o1.ok,(show RW ((fb Zd).bind _) _ _ from z).of_bind.mono (fun d _ z v2 G2 H2 s2 r2=>?_) fun e z G' H' C' dct s q=>z G' H' C' dct (mF s1 (jA s)) q⟩
 have a2:=a1.step s2
 have s12:=mF s1 (jA (p:=p) s2)
 refine h2 G2 H2 x.1 d v v2 _ s2.e (r1.mono s2.g) r2 ?_
 cases ez:g x.1 d with
 |bad=>rw[ez] at z;exact(show False from z).elim
 |err e=>exact xat ez (h3 _ _ e)
 |ok y=>
  rw[ez] at z
  have z:RW ((fG y).bind fun b=>R.ok (b,x.2)) _ _:=z
  intro w G3 H3 s3 r3
  cases y with
  |bl b=>
   cases r3
   exact⟨b,rfl,(show ∀G' H',jS G H G' H' p->gQ X.K X.mg C G' H' p rows x.2->0<=x.2->Q b H' from z) G3 H3 (mF s12 (jA s3)) (a2.step s3) n1⟩
  |_=>exact(show False from z).elim
structure iP(K:xFg)(mg:Str->Option Value)(G:Hp)(i:Nat)(p:Addr)(ds:List D)(us:List V):Prop where
 len:ds.length=us.length
 vi:us[i]? = some (.ref p)
 oth:∀(l:Nat) (d:D),l≠i->ds[l]? = some d->∃v,us[l]? = some v/\Rep K mg G d v
def tAR(K:xFg)(mg:Str->Option Value)(E:XK)(C:Addr)(r i:Nat)(fs:DSt->R (List D)):TA:=fun Z H Q=>∃G Zd rows n p,fU K mg C r p Zd rows n Z G H/\RW (fs Zd) (fun ds=>∀us G' H',Step G H G' H'->iP K mg G' i p ds us->Q us H') (bH K mg E G H)
def sE(X:Cx)(E:XK)(C:Addr)(r i:Nat)(es:List Expr)(fs:DSt->R (List D)):Prop:=PA X es (tAR X.K X.mg E C r i fs)
end
section
variable{K:xFg}{mg:Str->Option Value}{G:Hp}{p:Addr}{i:Nat}{ds:List D}{us:List V}
theorem iP.here(q:Reps K mg G ds us):iP K mg G 0 p (.non::ds) (.ref p::us):=by
 refine⟨by rw[xad,xad,q.length],rfl,fun l d hl h=>?_⟩
 cases l with
 |zero=>exact xat rfl hl
 |succ l=>exact q.get h
theorem iP.cons{d:D}{v:V}(q:Rep K mg G d v)(a:iP K mg G i p ds us):iP K mg G (i+1) p (d::ds) (v::us):=by
 refine⟨by rw[xad,xad,a.len],a.vi,fun l d' hl h=>?_⟩
 cases l with
 |zero=>cases h;exact⟨v,rfl,q⟩
 |succ l=>exact a.oth l d' (fun z=>hl (by rw[z])) h
end
def spR(K:xFg)(mg:Str->Option Value)(C:Addr)(i:Nat)(m:List D->Int->List D->R (D×Int)):Sp:=fun vs H Q E=>∃G ds p rows n,aM G H/\iP K mg G i p ds vs/\gQ K mg C G H p rows n/\0<=n/\RW (m rows n ds) (pI K mg C rows p G H Q) (bH K mg E G (g7 p H))
structure FnAtR(P:Program)(w:World)(K:xFg)(mg:Str->Option Value)(base:Heap)(k:Nat)(x:Str)(C:Addr)(i:Nat)(m:List D->Int->List D->R (D×Int)):Prop where
 ex:∃(f:Addr) (fd:FuncData) (ps:List Str),cN P w K mg base (bW P w) k f fd ps (spR K mg C i m)/\mg x=some (.ref f)/\PySem.W.keepIn K (.ref f)=true/\eS K fd ps []
theorem FnAtR.mono{P:Program}{w:World}{K:xFg}{mg:Str->Option Value}{base:Heap}{l k:Nat}{x:Str}{C:Addr}{i:Nat}{m:List D->Int->List D->R (D×Int)}(F:FnAtR P w K mg base l x C i m)(h:l<=k):FnAtR P w K mg base k x C i m:=by
 obtain⟨f,fd,ps,h1,h2⟩:=F.ex
 exact⟨f,fd,ps,h1.mono h,h2⟩
def aHere(fs:DSt->R (List D)):DSt->R (List D):=fun τ=>(fs τ).bind fun ds=>.ok (.non::ds)
def aOnly:DSt->R (List D):=fun _=>.ok [.non]
def aMore(fe:DSt->R D)(fs:DSt->R (List D)):DSt->R (List D):=fun τ=>(fe τ).bind fun d=>(fs τ).bind fun ds=>.ok (d::ds)
def rCall(m:List D->Int->List D->R (D×Int))(fs:DSt->R (List D)):EF:=fun rows τ n=>(fs τ).bind fun ds=>m rows n ds
section
variable{X:Cx}{E:XK}{C:Addr}{r i k:Nat}{e:Expr}{es:List Expr}{fe:DSt->R D}{fs:DSt->R (List D)}{pos np:Pos}{x fn:Str}{m:List D->Int->List D->R (D×Int)}
theorem dar_here(ha:DA X E es fs)(h1:X.N[r]? = some x:=by rfl)(hv:iS X.env.scope x:=by first|exact Or.inl rfl|exact Or.inr (Or.inl rfl)|exact Or.inr (Or.inr rfl))(hd:(x==("__debug__":Str))=false:=by decide)(hcd:(x==("__classdict__":Str))=false:=by decide)
  (hs:starEach (.Name x np::es) X.env=(false,eval (.Name x np) X.env)::starEach es X.env:=by rfl):sE X E C r 0 (.Name x np::es) (aHere fs):=
 PA.mono' (lL (pv r h1 hv hd hcd) ha hs) fun Z H Q ⟨G,Zd,rows,n,p,o,q⟩=>by
 refine⟨_,o.hr,G,Zd,o.ok,q.of_bind.mono (fun ds _ z us G' H' s q'=>?_) fun _ z=>z⟩
 exact(show ∀us G' H',Step G H G' H'->iP X.K X.mg G' 0 p (.non::ds) us->Q us H' from z) _ G' H' s (iP.here q')
theorem dar_nil(h1:X.N[r]? = some x:=by rfl)(hv:iS X.env.scope x:=by first|exact Or.inl rfl|exact Or.inr (Or.inl rfl)|exact Or.inr (Or.inr rfl))(hd:(x==("__debug__":Str))=false:=by decide)(hcd:(x==("__classdict__":Str))=false:=by decide)
  (hs:starEach [.Name x np] X.env=(false,eval (.Name x np) X.env)::starEach [] X.env:=by rfl):sE X E C r 0 [.Name x np] aOnly:=
 PA.mono' (lL (pv r h1 hv hd hcd) lK hs) fun Z H Q ⟨G,Zd,rows,n,p,o,q⟩=>
 ⟨_,o.hr,(show ∀us G' H',Step G H G' H'->iP X.K X.mg G' 0 p [.non] us->Q us H' from q) _ G H (Step.refl o.ok.ext) (iP.here Reps.nil)⟩
theorem dar_cons(he:DE X E e fe)(ha:sE X E C r i es fs)(hs:starEach (e::es) X.env=(false,eval e X.env)::starEach es X.env:=by rfl):sE X E C r (i+1) (e::es) (aMore fe fs):=
 PA.mono' (lL he ha hs) fun Z H Q ⟨G,Zd,rows,n,p,o,q⟩=>by
 refine⟨G,Zd,o.ok,q.of_bind.mono (fun d _ z v G1 H1 s1 r1=>?_) fun _ z=>z⟩
 refine⟨G1,Zd,rows,n,p,o.step s1,(show RW ((fs Zd).bind _) _ _ from z).of_bind.mono (fun ds _ z us G2 H2 s2 a=>?_) fun _ z=>z.step s1⟩
 exact(show ∀us G' H',Step G H G' H'->iP X.K X.mg G' (i+1) p (d::ds) us->Q us H' from z) _ G2 H2 (s1.trans s2) (iP.cons (r1.mono s2.g) a)
theorem er_call(XC:DL.XC X E k)(F:FnAtR X.prog X.w X.K X.mg X.base k fn C i m)(ha:sE X E C r i (e::es) fs)(hg:Gl X fn:=by rfl)(hdb:(fn==("__debug__":Str))=false:=by decide)(he:starEach (e::es) X.env=(false,eval e X.env)::starEach es X.env:=by rfl)(hpl:(backTo pos (starEach es X.env)).any (·.1)=false:=by rfl) :
  ER X E C r (.Call (.Name fn np) (e::es) [] pos) (rCall m fs):=by
 obtain⟨f,fd,ps,h1,h2,h3,h4⟩:=F.ex
 refine PE.mono' (C6 h1 XC.room hg h2 h3 h4 .nil XC.pass ha hdb he hpl) fun Z H Q ⟨G,Zd,rows,n,p,o,q⟩=>?_
 refine⟨G,Zd,rows,n,p,o,q.of_bind.mono (fun ds _ z us G1 H1 s1 a=>?_) fun _ z=>AO z⟩
 refine⟨G1,ds,p,rows,n,s1.e,by rw[xa8];exact a,o.at_.step s1,o.n0,(show RW (m rows n ds) _ _ from z).mono (fun x _ z v G' H' s2 a2 n2 q2=>?_) fun e z G' H' C' dct s q=>z G' H' C' dct (mF (jA s1) s) q⟩
 exact z v G' H' (mF (jA s1) s2) a2 n2 q2
end
end Rdr
end
section
set_option maxHeartbeats 1000000
namespace Rdr
open L2 PyProof.Rows DL
inductive sF
 |nx (τ:DSt) (n:Int)
 |rt (d:D) (n:Int)
abbrev RF:=List D->DSt->Int->R sF
section
variable(K:xFg)(mg:Str->Option Value)(E:XK)(C:Addr)(r:Nat)(p:Addr)(G0 H0:Hp)
def mG(rows:List D)(Dn:iB):sF->Prop
 |.nx τ n=>∀Z' G' H',fU K mg C r p τ rows n Z' G' H'->Step G0 H0 G' H'->Dn.nx Z' H'
 |.rt d n=>∀v G' H',Step G0 H0 G' H'->gQ K mg C G' H' p rows n->0<=n->Rep K mg G' d v->Dn.rt v H'
def AQ(f:RF):TS:=fun Dn Z H=>∃G Zd rows n,fU K mg C r p Zd rows n Z G H/\Step G0 H0 G H/\RW (f rows Zd n) (mG K mg C r p G0 H0 rows Dn) (bH K mg E G0 H0)
end
def DR(X:Cx)(E:XK)(C:Addr)(r:Nat)(st:Stmt)(f:RF):Prop:=∀G0 H0 p,H0 p=none->PS X st (AQ X.K X.mg E C r p G0 H0 f)
def kC(X:Cx)(E:XK)(C:Addr)(r:Nat)(st:List Stmt)(f:RF):Prop:=∀G0 H0 p,H0 p=none->dP X st (AQ X.K X.mg E C r p G0 H0 f)
def rNext:RF:=fun _ τ n=>.ok (.nx τ n)
def rSeq(f g:RF):RF:=fun rows τ n=>(f rows τ n).bind fun o=>match o with
 |.nx τ' n'=>g rows τ' n'
 |.rt d n'=>.ok (.rt d n')
def rSet(j:Nat)(f:EF):RF:=fun rows τ n=>(f rows τ n).bind fun x=>.ok (.nx (τ.set j (some x.1)) x.2)
def rExpr(f:EF):RF:=fun rows τ n=>(f rows τ n).bind fun x=>.ok (.nx τ x.2)
def rRet(f:EF):RF:=fun rows τ n=>(f rows τ n).bind fun x=>.ok (.rt x.1 x.2)
def rIf(t:TF)(f g:RF):RF:=fun rows τ n=>(t rows τ n).bind fun b=>bif b.1 then f rows τ b.2 else g rows τ b.2
def rRaise1(x:Str):RF:=fun _ _ _=>.err (.exc x [])
section
variable{X:Cx}{E:XK}{C:Addr}{r k:Nat}{st:Stmt}{rest:List Stmt}{f g:RF}{ef:EF}{tf:TF}{e c:Expr}{pos pos':Pos}{y:Str}
theorem drs_nil:kC X E C r [] rNext:=fun G0 H0 p hp=>dP.mono' CK fun Dn Z H ⟨G,Zd,rows,n,o,s0,q⟩=>(show mG X.K X.mg C r p G0 H0 rows Dn (.nx Zd n) from q) Z G H o s0
theorem drs_one(h:DR X E C r st f):kC X E C r [st] f:=fun G0 H0 p hp=>oK (h G0 H0 p hp)
theorem drs_cons(h1:DR X E C r st f)(h2:kC X E C r rest g):kC X E C r (st::rest) (rSeq f g):=fun G0 H0 p hp=>dP.mono' (lG (h1 G0 H0 p hp) (h2 G0 H0 p hp)) fun Dn Z H ⟨G,Zd,rows,n,o,s0,q⟩=>by
 refine⟨G,Zd,rows,n,o,s0,q.of_bind.mono (fun x _ z=>?_) fun _ z=>z⟩
 cases x with
 |nx τ n'=>exact fun Z' G' H' o' s'=>⟨G',τ,rows,n',o',s',z⟩
 |rt d n'=>exact z
theorem dr_set(j:Nat)(hN:X.N.Nodup)(he:ER X E C r e ef)(hj:(!(j==r))=true:=by rfl)(hi:X.N[j]? = some y:=by rfl)(hx:iT X.env.scope y:=by first|exact Or.inl rfl|exact Or.inr rfl)(hs:swapsWith e (some (.Name y pos')) pos.line X.env=pure false:=by rfl)
  (hf:X.fn y=true\/X.env.scope.names.lookup y=some .local:=by first|exact .inl rfl|exact .inr rfl|assumption):DR X E C r (.Assign [.Name y pos'] e pos) (rSet j ef):=fun G0 H0 p hp=>
 PS.mono' (lI hN hi hx he hs hf) fun Dn Z H ⟨G,Zd,rows,n,o,s0,q⟩=>by
 simp only[xb8,beq_eq_false_iff_ne] at hj
 refine⟨G,Zd,rows,n,p,o,q.of_bind.mono (fun x _ z v G' H' s a n' q'=>?_) fun _ z=>pH z s0 hp⟩
 exact(show mG X.K X.mg C r p G0 H0 rows Dn (.nx (Zd.set j (some x.1)) x.2) from z) _ G' H' ((o.on s a n').set hj q') (lA s0 hp s)
theorem dr_expr(he:ER X E C r e ef)(hs:swapsWith e none pos.line X.env=pure false:=by rfl):DR X E C r (.Expr e pos) (rExpr ef):=fun G0 H0 p hp=>
 PS.mono' (xN he hs) fun Dn Z H ⟨G,Zd,rows,n,o,s0,q⟩=>by
 refine⟨G,Zd,rows,n,p,o,q.of_bind.mono (fun x _ z v G' H' s a n' q'=>?_) fun _ z=>pH z s0 hp⟩
 exact(show mG X.K X.mg C r p G0 H0 rows Dn (.nx Zd x.2) from z) _ G' H' (o.on s a n') (lA s0 hp s)
theorem dr_ret(he:ER X E C r e ef):DR X E C r (.Return (some e) pos) (rRet ef):=fun G0 H0 p hp=>
 PS.mono' (tW he) fun Dn Z H ⟨G,Zd,rows,n,o,s0,q⟩=>by
 refine⟨G,Zd,rows,n,p,o,q.of_bind.mono (fun x _ z v G' H' s a n' q'=>?_) fun _ z=>pH z s0 hp⟩
 exact(show mG X.K X.mg C r p G0 H0 rows Dn (.rt x.1 x.2) from z) v G' H' (lA s0 hp s) a n' q'
theorem dr_if{a b:List Stmt}(hc:RT X E C r c tf)(ha:kC X E C r a f)(hb:kC X E C r b g):DR X E C r (.If c a b pos) (rIf tf f g):=fun G0 H0 p hp=>
 PS.mono' (CL hc (ha G0 H0 p hp) (hb G0 H0 p hp)) fun Dn Z H ⟨G,Zd,rows,n,o,s0,q⟩=>by
 refine⟨G,Zd,rows,n,p,o,q.of_bind.mono (fun x _ z G' H' s a n'=>?_) fun _ z=>pH z s0 hp⟩
 obtain⟨k,n1⟩:=x
 cases k with
 |true=>exact x6 ⟨G',Zd,rows,n1,o.on s a n',lA s0 hp s,(show RW (f rows Zd n1) _ _ from z)⟩
 |false=>exact x5 ⟨G',Zd,rows,n1,o.on s a n',lA s0 hp s,(show RW (g rows Zd n1) _ _ from z)⟩
end
section
variable{P:Program}{w:World}{K:xFg}{mg:Str->Option Value}{base:Heap}{N:List Str}{qual:Str}{scope:Scope}{f:Addr}{cdv:Value}{A:Around}{outer:List Env}{s0:Shared}{H1:Hp}{E:XK}{CR:Addr}{r:Nat}
theorem dr_raise1{x t:Str}{C:Addr}{np cpos pos tp:Pos}{j}(q:PySem.W.excIn K C [.type "ValueError",.type "Exception",.type "BaseException",.type "object"] "ValueError.__new__"=true)(hx:fF K mg x C)
  (hg:Gl (dX (bW P w) P w K mg base N qual scope f cdv A outer s0 H1 E) x:=by rfl) (hdb:(x==("__debug__":Str))=false:=by decide) :
  DR (dX (bW P w) P w K mg base N qual scope f cdv A outer s0 H1 E) E CR r (.Raise (some (.Call (.Name x np) [.Constant (.str t) j tp] [] cpos)) none pos) (rRaise1 x):=fun G0 H0 p hp=>
 PS.mono' (EI q hg hx.here (bB (eV (x:=t)) (bJ (E:=E))) hdb) fun Dn Z H ⟨G,Zd,rows,n,o,s1,z⟩=>by
 refine⟨G,Zd,o.ok,?_⟩
 show qK K mg _ _ _ [.str t]
 intro vs G' H' s r
 refine⟨by rw[<- r.length];show 1<=sizeLine;decide,?_⟩
 exact(show bH K mg E G0 H0 (.exc x []) from z) G' H' C none (s1.trans s) ⟨x,[],[],rfl,hx,.inl ⟨rfl,rfl⟩,Reps.nil⟩
end
def cS:sF->R (D×Int)
 |.rt d n=>.ok (d,n)
 |.nx _ n=>.ok (.non,n)
def fnR(n nN i:Nat)(body:RF):List D->Int->List D->R (D×Int):=fun rows k ds=>bif ds.length==n then (body rows ((fH nN ds).set i none) k).bind cS else .bad
section
variable{P:Program}{w:World}{K:xFg}{mg:Str->Option Value}{base:Heap}{x:Str}{st:Stmt}{ps:List Str}{f:Addr}{fd:FuncData}{N:List Str}{n nN k i:Nat}{C:Addr}{body:RF}
theorem FA.okR(F:FA K mg x st ps f fd)(S:gU N ps (cF st))(hn:ps.length=n)(hN:N.length=nN)(hb:XX P w K mg base x st f N k fun X E=>kC X E C i (fX st) body):FnAtR P w K mg base (k+1) x C i (fnR n nN i body):=by
 refine⟨f,fd,ps,F.F.okX S (fun vs H Q E h=>?_) (fun cdv A outer s H vs Q E hr hsp=>?_),F.m,F.F.kp,F.b⟩
 ·obtain⟨G,ds,p,rows,m,e,a,S,m0,q⟩:=h
  by_cases hd:ds.length=n
  ·rw[<- a.len,hd,hn]
  ·have:(ds.length==n)=false:=by simpa using hd
   unfold fnR at q
   rw[this] at q
   exact(show False from q).elim
 ·obtain⟨G,ds,p,rows,m,e,a,S',m0,q⟩:=hsp
  have hd:ds.length=n:=by
   by_cases hd:ds.length=n
   ·exact hd
   ·have:(ds.length==n)=false:=by simpa using hd
    unfold fnR at q
    rw[this] at q
    exact(show False from q).elim
  unfold fnR at q
  rw[show (ds.length==n)=true by simpa using hd] at q
  have q:RW ((body rows ((fH nN ds).set i none) m).bind cS) _ _:=q
  have vi:(L2.start N vs)[i]? = some (some (.ref p)):=LD a.vi
  have len:(fH nN ds).length=(L2.start N vs).length:=by
   unfold L2.start fH
   rw[xaa,xaa,xab,xab,xbr,xbr,hN,a.len]
  have li:i<(fH nN ds).length:=by rw[len];exact(xan.mp vi).1
  have st0:Step G (g7 p H) G H:=⟨aM.refl _,fun b o h=>(pG h).2,e,fun _ _ _ h=>h⟩
  refine⟨_,hb cdv A outer s H E ⟨rfl,hr,uC⟩ ⟨PassesOwn.leaving⟩ S.nd G (g7 p H) p LP,G,(fH nN ds).set i none,rows,m,⟨⟨e,by rw[xcb];exact len,fun l d h=>?_⟩,xa0 li,vi,S',m0⟩,st0,q.of_bind.mono (fun o _ z=>?_) fun _ z=>z⟩
  ·by_cases hl:l=i
   ·subst hl
    rw[xa0 li] at h;cases h
   ·rw[xam (xbd hl)] at h
    obtain⟨v,h1,h2⟩:=a.oth l d hl (Z1 h)
    exact⟨v,LD h1,h2⟩
  ·cases o with
   |rt d n'=>exact fun v G' H' s a n0 q'=>(show pI K mg C rows p G H Q (d,n') from z) v G' H' s a n0 q'
   |nx τ n'=>exact fun Z' G' H' o' s=>(show pI K mg C rows p G H Q (.non,n') from z) .non G' H' s o'.at_ o'.n0 rfl
end
end Rdr
end
section
set_option maxHeartbeats 1000000
namespace Rdr
open L2 PyProof.Rows DL
def bL(t:TF)(f:EF)(rows:List D)(τ:DSt):Nat->Int->List D->R (List D×Int)
 |0,_,_=>.bad
 |k+1,n,xs=>(t rows τ n).bind fun b=>bif b.1 then (f rows τ b.2).bind fun x=>bif most xs.length then bL t f rows τ k x.2 (xs++[x.1]) else .bad else .ok (xs,b.2)
theorem AR{t:TF}{f:EF}{rows:List D}{τ:DSt}:∀(k:Nat) (n:Int) (xs:List D) (r:R (List D×Int)),bL t f rows τ k n xs=r->r≠.bad->∀l,bL t f rows τ (k+l) n xs=r
 |0,n,xs,r,h,hr,l=>xat h.symm hr
 |k+1,n,xs,r,h,hr,l=>by
  rw[show k+1+l=(k+l)+1 by omega]
  unfold bL at h ⊢
  cases ht:t rows τ n with
  |bad=>rw[ht] at h;exact xat h.symm hr
  |err e=>rw[ht] at h;exact h
  |ok b=>
   rw[ht] at h
   obtain⟨b,n1⟩:=b
   cases b with
   |false=>exact h
   |true=>
    have h:((f rows τ n1).bind fun x=>bif most xs.length then bL t f rows τ k x.2 (xs++[x.1]) else .bad)=r:=h
    show ((f rows τ n1).bind fun x=>bif most xs.length then bL t f rows τ (k+l) x.2 (xs++[x.1]) else .bad)=r
    cases hf:f rows τ n1 with
    |bad=>rw[hf] at h;exact xat h.symm hr
    |err e=>rw[hf] at h;exact h
    |ok x=>
     rw[hf] at h
     have h:(bif most xs.length then bL t f rows τ k x.2 (xs++[x.1]) else .bad)=r:=h
     show (bif most xs.length then bL t f rows τ (k+l) x.2 (xs++[x.1]) else .bad)=r
     cases hm:most xs.length with
     |false=>rw[hm] at h;exact xat h.symm hr
     |true=>rw[hm] at h;exact AR k _ _ r h hr l
open Classical in
noncomputable def lB(t:TF)(f:EF)(rows:List D)(τ:DSt)(n:Int):R (List D×Int):=if h:∃k,bL t f rows τ k n []≠.bad then bL t f rows τ (Classical.choose h) n [] else .bad
theorem nW{t:TF}{f:EF}{rows:List D}{τ:DSt}{n:Int}{k:Nat}{r:R (List D×Int)}(h:bL t f rows τ k n []=r)(hr:r≠.bad):lB t f rows τ n=r:=by
 have hx:∃k,bL t f rows τ k n []≠.bad:=⟨k,by rw[h];exact hr⟩
 unfold lB
 rw[dif_pos hx]
 have h1:=Classical.choose_spec hx
 have a:=AR k n [] r h hr (Classical.choose hx)
 have b:=AR (Classical.choose hx) n [] _ rfl h1 k
 rw[Nat.add_comm] at b
 rw[<- b,<- a]
noncomputable def rCol(j:Nat)(t:TF)(f:EF)(g:RF):RF:=fun rows τ n=>bif Nat.blt j τ.length then (lB t f rows (τ.set j none) n).bind fun x=>g rows (τ.set j (some (.lst x.1))) x.2 else .bad
inductive Pl (K:xFg) (mg:Str->Option Value) (G H:Hp) (Z:L2.St) (j:Nat) (a:Addr) (xs:List D):Prop
 |mk (vs:List V) (h1:Z[j]? = some (some (.ref a))) (h2:H a=some (.lst vs)) (h3:Reps K mg G xs vs) (h4:G a=none)
theorem zaD{G0 H0 G H:Hp}{a:Addr}{o:HO}(s0:Step G0 H0 G H)(ha0:H0 a=none)(h:H a=some o)(g:G a=none):Step G0 H0 (aU G a o) H:=by
 refine⟨s0.g.trans (DL.same_upd g),s0.h,fun b u hb=>?_,fun b u hb q=>?_⟩
 ·by_cases z:b=a
  ·rw[z,bV] at hb;cases hb;rw[z];exact h
  ·rw[bF z] at hb;exact s0.e b u hb
 ·have:b≠a:=fun z=>by rw[z,ha0] at hb;cases hb
  rw[bF this];exact s0.c b u hb q
section
variable{X:Cx}{E:XK}{C:Addr}{r k:Nat}{rest:List Stmt}{g:RF}{ef:EF}{tf:TF}{e c:Expr}{pos pos' pos1 pos2 lpos np apos cpos:Pos}{y:Str}
theorem drs_col(j:Nat)(Lo:XL X)(hN:X.N.Nodup)(hc:RT X E C r c tf)(he:ER X E C r e ef)(hr:kC X E C r rest g)(hj:(!(j==r))=true:=by rfl)(hi:X.N[j]? = some y:=by rfl)(hx:iT X.env.scope y:=by first|exact Or.inl rfl|exact Or.inr rfl)
  (hv:iS X.env.scope y:=by first|exact Or.inl rfl|exact Or.inr (Or.inl rfl)|exact Or.inr (Or.inr rfl)) (hd:(y==("__debug__":Str))=false:=by decide) (hcd:(y==("__classdict__":Str))=false:=by decide)
  (hs0:swapsWith (.List [] lpos) (some (.Name y pos')) pos1.line X.env=pure false:=by rfl) (hf:X.fn y=true\/X.env.scope.names.lookup y=some .local:=by first|exact .inl rfl|exact .inr rfl|assumption)
  (hbase:attributeBase (.Name y np) "append" X.env (eval (.Name y np) X.env)=eval (.Name y np) X.env:=by rfl)
  (hfew:((backTo cpos (starEach [e] X.env)).all (fun x=>!x.1)&&(backToKw cpos (keywordEach [] X.env)).all (fun x=>x.1.isSome)&&decide ([e].length+([]:List Keyword).length+(if ([]:List Keyword).isEmpty then 0 else 1)<30))=true:=by rfl)
  (hline:(apos.endLine==cpos.line)=true:=by rfl) (hs:starEach [e] X.env=(false,eval e X.env)::starEach [] X.env:=by rfl) (hplain:(backTo cpos (starEach [] X.env)).any (·.1)=false:=by rfl)
  (hsw:swapsWith (.Call (.Attribute (.Name y np) "append" apos) [e] [] cpos) none pos2.line X.env=pure false:=by rfl) :
  kC X E C r (.Assign [.Name y pos'] (.List [] lpos) pos1::.While c [.Expr (.Call (.Attribute (.Name y np) "append" apos) [e] [] cpos) pos2] [] pos::rest) (rCol j tf ef g):=fun G0 H0 p hp=>by
 simp only[xb8,beq_eq_false_iff_ne] at hj
 refine dP.mono' (lG (lI hN hi hx (xT lK) hs0 hf) (lG (RK Lo.own hc (oK (xN (qH PySem.F.plainAttrs_list PySem.F.slot_list_append PySem.F.type_list_append D2 (pv j hi hv hd hcd) (lL he lK hs) hbase hfew hline hs hplain) hsw))) (hr G0 H0 p hp))) fun Dn Z H ⟨G,Zd,rows,n,o,s0,q⟩=>?_
 have lj:j<Zd.length:=by
  cases hb:Nat.blt j Zd.length with
  |false=>unfold rCol at q;rw[hb] at q;exact(show False from q).elim
  |true=>simpa using hb
 have q:RW ((lB tf ef rows (Zd.set j none) n).bind fun x=>g rows (Zd.set j (some (.lst x.1))) x.2) (mG X.K X.mg C r p G0 H0 rows Dn) (bH X.K X.mg E G0 H0):=by
  unfold rCol at q
  rw[show Nat.blt j Zd.length=true by simpa using lj] at q
  exact q
 have q:=q.of_bind
 have hk:∃k,bL tf ef rows (Zd.set j none) k n []≠.bad:=by
  by_cases hx:∃k,bL tf ef rows (Zd.set j none) k n []≠.bad
  ·exact hx
  ·unfold lB at q;rw[dif_neg hx] at q;exact(show False from q).elim
 obtain⟨kk,hk⟩:=hk
 rw[nW rfl hk] at q
 refine⟨xbz _,fun a ha=>?_⟩
 have lj':j<Z.length:=by rw[<- o.ok.len];exact lj
 have sh:=Step.hid (o:=.lst []) o.ok.ext ha
 have ha0:H0 a=none:=s0.h.free ha
 obtain⟨dx,vr,k1,_,_⟩:=id o.at_
 have nap:a≠p:=(cU k1 ha).symm
 have o1:fU X.K X.mg C r p (Zd.set j none) rows n (Z.set j (some (.ref a))) G (aU H a (.lst [])):=by
  refine⟨⟨sh.e,by rw[xcb,xcb];exact o.ok.len,fun i d h=>?_⟩,by rw[xam hj];exact o.un,by rw[xam hj];exact o.hr,o.at_.step sh,o.n0⟩
  by_cases z:i=j
  ·subst z;rw[xa0 lj] at h;cases h
  ·rw[xam (xbd z)] at h ⊢;exact o.ok.val i d h
 refine⟨fun m Z' H'=>∃G' n' xs,fU X.K X.mg C r p (Zd.set j none) rows n' Z' G' H'/\Step G0 H0 G' H'/\Pl X.K X.mg G' H' Z' j a xs/\RW (bL tf ef rows (Zd.set j none) m n' xs) (fun x=>RW (g rows (Zd.set j (some (.lst x.1))) x.2) (mG X.K X.mg C r p G0 H0 rows Dn) (bH X.K X.mg E G0 H0)) (bH X.K X.mg E G0 H0),
  ⟨kk,G,n,[],o1,s0.trans sh,⟨[],by rw[xa0 lj'],bV,Reps.nil,o.ok.ext.free ha⟩,q⟩,?_⟩
 rintro m σ1 H1 ⟨G1,n1,xs,o1,s1,⟨vs,p1,p2,p3,p4⟩,w⟩
 cases m with
 |zero=>exact(show False from w).elim
 |succ m=>
  unfold bL at w
  refine⟨G1,Zd.set j none,rows,n1,p,o1,w.of_bind.mono (fun b _ z G2 H2 s2 a2 n2=>?_) fun _ z=>pH z s1 hp⟩
  obtain⟨b,m2⟩:=b
  have h2a:H2 a=some (.lst vs):=s2.h a _ (by rw[pF nap];exact p2)
  have g2a:G2 a=none:=s2.c a _ (by rw[pF nap];exact p2) p4
  have o2:=o1.on s2 a2 n2
  have t2:=lA s1 hp s2
  cases b with
  |false=>
   refine x5 ?_
   have t3:=zaD t2 ha0 h2a g2a
   have sg:aM G2 (aU G2 a (.lst vs)):=DL.same_upd g2a
   refine⟨aU G2 a (.lst vs),Zd.set j (some (.lst xs)),rows,m2,⟨⟨t3.e,by rw[xcb,<- o2.ok.len,xcb],fun i d h=>?_⟩,by rw[xam hj];exact o.un,o2.hr,?_,n2⟩,t3,z⟩
   ·by_cases zz:i=j
    ·subst zz
     rw[xa0 lj] at h;cases h
     exact⟨_,p1,a,vs,rfl,bM.of bV,p3.mono (s2.g.trans sg)⟩
    ·rw[xam (xbd zz)] at h
     obtain⟨v,h1,h2⟩:=o2.ok.val i d (by rw[xam (xbd zz)];exact h)
     exact⟨v,h1,h2.mono sg⟩
   ·obtain⟨dx,vr,k1,k2,k3⟩:=a2
    exact⟨dx,vr,k1,k2.mono sg,by rw[bF nap.symm];exact k3⟩
  |true=>
   refine x6 ⟨fun Z' H'=>∃G' n' xs,fU X.K X.mg C r p (Zd.set j none) rows n' Z' G' H'/\Step G0 H0 G' H'/\Pl X.K X.mg G' H' Z' j a xs/\RW (bL tf ef rows (Zd.set j none) m n' xs) (fun x=>RW (g rows (Zd.set j (some (.lst x.1))) x.2) (mG X.K X.mg C r p G0 H0 rows Dn) (bH X.K X.mg E G0 H0)) (bH X.K X.mg E G0 H0),fun σ2 H2 h=>⟨m,xb5 _,h⟩,?_⟩
   have z:RW ((ef rows (Zd.set j none) m2).bind fun x=>bif most xs.length then bL tf ef rows (Zd.set j none) m x.2 (xs++[x.1]) else .bad) _ _:=z
   refine⟨_,p1,.inl ⟨rfl,_,bM.of h2a⟩,G2,Zd.set j none,rows,m2,p,o2,z.of_bind.mono (fun x _ z v G3 H3 s3 a3 n3 r3=>?_) fun _ z=>pH z t2 hp⟩
   have h3a:H3 a=some (.lst vs):=s3.h a _ (by rw[pF nap];exact h2a)
   have g3a:G3 a=none:=s3.c a _ (by rw[pF nap];exact h2a) g2a
   cases hm:most xs.length with
   |false=>rw[hm] at z;exact(show False from z).elim
   |true=>
    rw[hm] at z
    have t3:=lA t2 hp s3
    have lt:vs.length<sizeLine:=by rw[<- p3.length];exact xas hm
    have sw:Step G0 H0 G3 (aU H3 a (.lst (vs++[v]))):=t3.write (o:=.lst vs) ha0 g3a
    refine⟨a,vs,v,rfl,rfl,h3a,lt,G3,x.2,xs++[x.1],⟨⟨sw.e,o2.ok.len,fun i d h=>?_⟩,o2.un,o2.hr,?_,n3⟩,sw,⟨vs++[v],p1,bV,(p3.mono (s2.g.trans s3.g)).append (Reps.cons r3 Reps.nil),g3a⟩,z⟩
    ·obtain⟨u,h1,h2⟩:=o2.ok.val i d h
     exact⟨u,h1,h2.mono s3.g⟩
    ·obtain⟨dx,vr,k1,k2,k3⟩:=a3
     exact⟨dx,vr,by rw[bF nap.symm];exact k1,k2,k3⟩
end
end Rdr
end
section
set_option maxHeartbeats 1000000
namespace Rdr
open L2 PyProof.Rows DL
structure RdG(P:Program)(w:World)(K:xFg)(mg:Str->Option Value)(base:Heap)(k:Nat)(C:Addr):Prop where
 F:RdF P w K mg base k C
 ex:∃j fi fdi,k=j+1/\Mk K C fi/\mg "Reader"=some (.ref C)/\cN P w K mg base (bW P w) j fi fdi ["self","rows"] (LW K mg C)/\eS K fdi ["self","rows"] []
def sH:sF->R aG
 |.rt d _=>.ok (.rt d)
 |.nx _ _=>.bad
def AS(r:Nat)(g:RF)(Z:DSt):D->R aG
 |.lst rows=>(g rows (Z.set r none) 0).bind sH
 |_=>.bad
def sReader(r:Nat)(fe:DSt->R D)(g:RF):DSt->R aG:=fun Z=>bif Nat.blt r Z.length then (fe Z).bind (AS r g Z) else .bad
section
variable{X:Cx}{E:XK}{C:Addr}{k:Nat}{e:Expr}{fe:DSt->R D}{g:RF}{rest:List Stmt}{own' ol:List Nat}{x:Str}{np np' pos cpos:Pos}
theorem dss_reader(r:Nat)(hN:X.N.Nodup)(XC:DL.XC X E k)(S:RdG X.prog X.w X.K X.mg X.base k C)(he:DE X E e fe)(hr:kC X E C r rest g)(h1:X.N[r]? = some x:=by rfl)(l1:iT X.env.scope x:=by first|exact Or.inl rfl|exact Or.inr rfl)
  (f1:X.fn x=true\/X.env.scope.names.lookup x=some .local:=by first|exact .inl rfl|exact .inr rfl|assumption) (g1:Gl X "Reader":=by rfl)
  (e1:starEach [e] X.env=(false,eval e X.env)::starEach [] X.env:=by rfl) (e2:(backTo cpos (starEach [] X.env)).any (·.1)=false:=by rfl)
  (e3:swapsWith (.Call (.Name "Reader" np) [e] [] cpos) (some (.Name x np')) pos.line X.env=pure false:=by rfl) :
  gK X E [] own' ol (.Assign [.Name x np'] (.Call (.Name "Reader" np) [e] [] cpos) pos::rest) (sReader r fe g):=fun G0=>by
 obtain⟨j,fi,fdi,rfl,M,hS,Fi,bi⟩:=S.ex
 have hrest:dP X rest (fun Dn Z H=>∃p,X.H₀ p=none/\AQ X.K X.mg E C r p G0 X.H₀ g Dn Z H):=fun pins s Z H Dn I ⟨p,hp,q⟩=>hr G0 X.H₀ p hp pins s Z H Dn I q
 refine dP.mono' (lG (lI (i:=r) hN h1 l1 (TQ M Fi XC.room g1 hS bi .nil XC.pass (lL he lK e1) (by decide) e1 e2) e3 f1) hrest) fun Dn Z H ⟨G,Zd,ok,s0,q⟩=>?_
 have q:RW ((fe Zd).bind (AS r g Zd)) (eH X.K X.mg G0 X.H₀ own' ol Dn G) (bH X.K X.mg E G0 X.H₀)/\r<Zd.length:=by
  unfold sReader at q
  cases hb:Nat.blt r Zd.length with
  |false=>rw[hb] at q;exact(show False from q).elim
  |true=>rw[hb] at q;exact⟨q,by simpa using hb⟩
 obtain⟨q,lr⟩:=q
 have ok0:bZ X.K X.mg Zd Z G H:=⟨ok.ext,ok.len,fun i d h=>ok.val i d (by simp) h⟩
 have lr':r<Z.length:=by rw[<- ok.len];exact lr
 refine⟨G,Zd,ok0,q.of_bind.mono (fun d hd z v G1 H1 s1 r1=>?_) fun _ z=>z.step s0⟩
 clear hd
 unfold AS at z
 split at z
 ·rename_i rows
  intro p dx np ndx nex
  have gp:G1 p=none:=s1.e.free np
  have gdx:G1 dx=none:=s1.e.free ndx
  have sG:aM G1 (aU (aU H1 dx (.own p)) p (.ins C dx [])):=fun b u h=>by
   rw[bF (cU h gp),bF (cU h gdx)];exact s1.e b u h
  refine⟨G1,p,dx,rows,v,rfl,sG,bV,gp,r1,fun H2 s2 k2 A2=>⟨rfl,p,?_,?_⟩⟩
  ·exact s0.h.free (s1.h.free np)
  have up2:∀b o,X.H₀ b=some o->H2 b=some o:=fun b o h=>by
   have hb1:H1 b=some o:=s1.h _ _ (s0.h _ _ h)
   have n1:b≠p:=cU hb1 np
   have n2:b≠dx:=cU hb1 ndx
   exact k2 b o (by rw[bF n1,bF n2];exact hb1) n1
  have st0:Step G0 X.H₀ G1 H2:=⟨s0.g.trans s1.g,up2,s2,fun b o h h'=>s1.c b o (s0.h b o h) (s0.c b o h h')⟩
  refine⟨G1,Zd.set r none,rows,0,⟨⟨s2,by rw[xcb,xcb];exact ok.len,fun i d h=>?_⟩,xa0 lr,xa0 lr',A2,Int.le_refl 0⟩,st0,z.of_bind.mono (fun o _ z=>?_) fun _ z=>z⟩
  ·by_cases hz:i=r
   ·subst hz;rw[xa0 lr] at h;cases h
   ·rw[xam (xbd hz)] at h ⊢
    obtain⟨u,h1,h2⟩:=ok0.val i d h
    exact⟨u,h1,h2.mono s1.g⟩
  ·cases o with
   |rt d n=>exact fun v G' H' s a n0 q'=>(show eH X.K X.mg G0 X.H₀ own' ol Dn G (.rt d) from z) v G' H' s q'
   |nx τ n=>exact(show False from z).elim
 ·exact(show False from z).elim
end
end Rdr
end
section
set_option maxHeartbeats 1000000
namespace Rdr
open L2 PyProof.Rows DL
section
variable{P:Program}{w:World}{K:xFg}{mg:Str->Option Value}{base:Heap}{C:Addr}
theorem RdF.mono{l k:Nat}(F:RdF P w K mg base l C)(h:l<=k):RdF P w K mg base k C:=by
 obtain⟨T,⟨f,fd,O,r⟩,f',fd',O',r'⟩:=F
 exact⟨T,⟨f,fd,O.mono h,r⟩,f',fd',O'.mono h,r'⟩
theorem RdG.mono{l k:Nat}(F:RdG P w K mg base l C)(h:l<=k):RdG P w K mg base k C:=by
 obtain⟨G,j,fi,fdi,e,M,m,O,b⟩:=F
 exact⟨G.mono h,k-1,fi,fdi,by omega,M,m,O.mono (by omega),b⟩
structure MD(K:xFg)(C:Addr)(x q:Str)(st:Stmt):Prop where
 ex:∃f fd,gE K x q st f fd/\lJ K C x f
theorem MD.mk'{x q:Str}{st:Stmt}{f:Addr}{oc:Value}{od an:Option Addr}{osl:Array (Option Value)}{kV doc pm cdv ct:Value}(a:PySem.W.findIn K (.ref C) x=some (some (.ref f)))(i:PySem.W.isFn K (.ref f)=true)(l:K.lookup f=some ⟨oc,od,.func (PySem.W.fnOf x q (j2 st) (fX st) (cF st) .none kV doc pm an cdv ct),osl⟩)
  (c:PySem.W.codeIn K cdv q=true) (k:PySem.W.keepIn K (.ref f)=true):MD K C x q st:=⟨f,_,x4 l c k,a,i,k⟩
theorem MD.go{x q:Str}{st:Stmt}(d:MD K C x q st)(ps:List Str)
  (b:∀(kV doc pm:Value) (an:Option Addr) (cdv ct:Value) (us:List Value),us.length=ps.length->bindArgs (PySem.W.fnOf x q (j2 st) (fX st) (cF st) .none kV doc pm an cdv ct) ⟨us,[]⟩=pure (ps.zip us)):∃f fd,gE K x q st f fd/\lJ K C x f/\eS K fd ps []:=by
 obtain⟨f,fd,F,m⟩:=d.ex
 exact⟨f,fd,F,m,F.binds b⟩
theorem rdg(mC:mg "Reader"=some (.ref C))(T:Txt K mg C)(mk:PySem.W.makesIn K C=true)(kc:PySem.W.keepIn K (.ref C)=true)(d0:MD K C "__init__" "Reader.__init__" (kP rCls 0))(d1:MD K C "ahead" "Reader.ahead" (kP rCls 1))(d2:MD K C "take" "Reader.take" (kP rCls 2))(nl:mg "len"=none):RdG P w K mg base 2 C:=by
 obtain⟨f0,v0,F0,m0,b0⟩:=d0.go ["self","rows"] fun _ _ _ _ _ _=>AK (fun _ _=>rfl)
 obtain⟨f1,v1,F1,m1,b1⟩:=d1.go ["self"] fun _ _ _ _ _ _=>vN (fun _=>rfl)
 obtain⟨f2,v2,F2,m2,b2⟩:=d2.go ["self"] fun _ _ _ _ _ _=>vN (fun _=>rfl)
 have O1:=zav (P:=P) (w:=w) (base:=base) (k:=0) F1 T nl
 have O2:=zaw (P:=P) (w:=w) (base:=base) (k:=1) F2 T m1 b1 O1
 exact⟨⟨T,⟨f1,v1,O1.mono (by omega),m1,b1⟩,f2,v2,O2,m2,b2⟩,1,f0,v0,rfl,⟨mk,m0.at_,m0.fn,kc⟩,mC,zay (k:=0) F0 T,b0⟩
end
def rSl(f:EF)(fl fh:DSt->R (Option Int)):EF:=fun rows τ n=>(f rows τ n).bind fun x=>(fl τ).bind fun lo=>(fh τ).bind fun hi=>match x.1 with
 |.lst xs=>.ok (.lst (cX xs lo hi),x.2)
 |_=>.bad
section
variable{X:Cx}{E:XK}{C:Addr}{r:Nat}{e:Expr}{f:EF}{lo hi:Option Expr}{fl fh:DSt->R (Option Int)}{pos p2:Pos}
theorem er_sl(he:ER X E C r e f)(hl:DO X E lo fl)(hh:DO X E hi fh):ER X E C r (.Subscript e (.Slice lo hi none p2) pos) (rSl f fl fh):=
 PE.mono' (xY DY he hl hh) fun Z H Q ⟨G,Zd,rows,n,p,o,q⟩=>by
 refine⟨G,Zd,rows,n,p,o,q.of_bind.mono (fun x _ z v G1 H1 s1 a1 n1 r1=>?_) fun _ z=>z⟩
 have o1:=o.on s1 a1 n1
 refine⟨G1,Zd,o1.ok,(show RW ((fl Zd).bind _) _ _ from z).of_bind.mono (fun l _ z G2 H2 s2=>?_) fun e z G' H' C' dct s q=>z G' H' C' dct (mF s1 (jA s)) q⟩
 refine⟨G2,Zd,o1.ok.step s2,(show RW ((fh Zd).bind _) _ _ from z).of_bind.mono (fun u _ z G3 H3 s3=>?_) fun e z G' H' C' dct s q=>z G' H' C' dct (mF s1 (jA (s2.trans s))) q⟩
 obtain⟨d,m⟩:=x
 cases d with
 |lst xs=>
  obtain⟨a,vs,rfl,h1,h2⟩:=r1.mono (s2.g.trans s3.g)
  refine⟨a,vs,rfl,s3.e.seq h1,fun pp hp=>?_⟩
  have sp:=Step.pub (o:=.lst (jH vs l u)) s3.e hp
  exact(show pI X.K X.mg C rows p G H Q (.lst (cX xs l u),m) from z) _ _ _ (mF s1 (jA ((s2.trans s3).trans sp))) (a1.step ((s2.trans s3).trans sp)) n1 ⟨pp,_,rfl,bM.of bV,(h2.cut l u).mono sp.g⟩
 |_=>exact(show False from z).elim
end
abbrev RM:=List D->Int->List D->R (D×Int)
def recR(f:RM->RM):Nat->RM
 |0=>fun _ _ _=>.bad
 |j+1=>f (recR f j)
section
variable{P:Program}{w:World}{K:xFg}{mg:Str->Option Value}{base:Heap}{x y z:Str}{st:Stmt}{ps:List Str}{f:Addr}{fd:FuncData}{N:List Str}{k i i1 i2:Nat}{C:Addr}
theorem FA.badR(F:FA K mg x st ps f fd)(S:gU N ps (cF st)):FnAtR P w K mg base (k+1) x C i (fun _ _ _=>.bad):=
 ⟨f,fd,ps,F.F.okX S (fun vs H Q E ⟨_,_,_,_,_,_,_,_,_,q⟩=>(show False from q).elim) (fun cdv A outer s H vs Q E hr ⟨_,_,_,_,_,_,_,_,_,q⟩=>(show False from q).elim),F.m,F.F.kp,F.b⟩
theorem rec3{fx fy fz:RM->RM}(h0:FnAtR P w K mg base k x C i (fun _ _ _=>.bad))(hx:∀l m,k<=l->FnAtR P w K mg base l y C i1 m->FnAtR P w K mg base (l+1) x C i (fx m))(hy:∀l m,k<=l->FnAtR P w K mg base l z C i2 m->FnAtR P w K mg base (l+1) y C i1 (fy m))(hz:∀l m,k<=l->FnAtR P w K mg base l x C i m->FnAtR P w K mg base (l+1) z C i2 (fz m)) :
  ∀j,FnAtR P w K mg base (k+3*j) x C i (recR (fun m=>fx (fy (fz m))) j)
 |0=>h0
 |j+1=>hx (k+3*j+2) _ (by omega) (hy (k+3*j+1) _ (by omega) (hz (k+3*j) _ (by omega) (rec3 h0 hx hy hz j)))
end
end Rdr
end
namespace Mir
open L2 DL
noncomputable def LX:DSt->R aG:=(cJ (aL (dN 1 [0] (dJ (aL (pB (aB 0) (eC (.str "; "))))) bX c9 (aL (pB (aB 0) (eC (.str " ")))))))
noncomputable def sI:DSt->R aG:=(aN (eY (dI (aK (aJ (g2 bK) (aA (aB 0) (aA (eC (.ty "str")) aD))))) (u4 "NoText") gL) LX)
noncomputable def g8:List D->R D:=b6 1 1 sI
theorem LY(a0:D):g8 [a0]=fin (sI [some a0]):=dO (b:=sI) rfl rfl
def vS:D:=.int 8
def AT:D:=.str "abcdefghijklmnopqrstuvwxyz"
noncomputable def LZ:DSt->R aG:=(cJ (aJ j8 (aA (aL (dN 1 [0] (AH (aB 0)) bX c9 (aC jQ (aB 0) (eC AT)))) aD)))
noncomputable def vT:DSt->R aG:=(aN (eY (dY (dI (aK (aJ (g2 bK) (aA (aB 0) (aA (eC (.ty "str")) aD))))) (dI (aK (qN uV uV (eC (.int 1)) (aJ aW (aA (aB 0) aD)) (eC vS))))) (cJ (eC (.bl false))) gL) LZ)
noncomputable def pJ:List D->R D:=b6 1 1 vT
theorem zaE(a0:D):pJ [a0]=fin (vT [some a0]):=dO (b:=vT) rfl rfl
def vU:D:=.tup [.str "x",.str "rule",.str "times",.str "end"]
noncomputable def vV:DSt->R aG:=(cJ (lP (aR pJ (aA (aB 0) aD)) (aC dE (aB 0) (eC vU))))
noncomputable def jT:List D->R D:=b6 1 1 vV
theorem zaF(a0:D):jT [a0]=fin (vV [some a0]):=dO (b:=vV) rfl rfl
noncomputable def sJ:DSt->R aG:=(eY (dI (aK (aJ j8 (aA (aL (dN 1 [0] (dJ (aB 0)) bX c9 (aR jT (aA (aB 0) aD)))) aD)))) (u4 "NoText") gL)
noncomputable def gR:List D->R D:=b6 1 1 sJ
theorem L3(a0:D):gR [a0]=fin (sJ [some a0]):=dO (b:=sJ) rfl rfl
noncomputable def zaG:Rdr.RF:=(Rdr.rRaise1 "NoText")
noncomputable def sK:Rdr.RF:=(Rdr.rIf (Rdr.rCmp bR Rdr.rTake (aL (aP (aA (eC (.str "end")) aD)))) zaG Rdr.rNext)
noncomputable def gT:Rdr.RM:=Rdr.fnR 1 1 0 sK
def sL:D:=.int 4
def nX:D:=.int 60
noncomputable def zaH(m:Rdr.RM):Rdr.RF:=(Rdr.rRaise1 "NoText")
noncomputable def zaI(m:Rdr.RM):Rdr.RF:=(Rdr.rRaise1 "NoText")
noncomputable def L4(m:Rdr.RM):Rdr.RF:=(Rdr.rRet (Rdr.rPure (bQ (aA (eC (.str "times")) (aA (aJ sC (aA (aC aF (aB 0) (eC (.int 1))) aD)) (aA (aB 3) aD))))))
noncomputable def vW(m:Rdr.RM):Rdr.RF:=(Rdr.rSeq (Rdr.rExpr (Rdr.rCall gT Rdr.aOnly)) (L4 m))
noncomputable def vX(m:Rdr.RM):Rdr.RF:=(Rdr.rSeq (Rdr.rSet 3 (Rdr.rCall m (Rdr.aHere (aA (aC aI (aB 2) (eC (.int 1))) aD)))) (vW m))
noncomputable def sM(m:Rdr.RM):Rdr.RF:=(Rdr.rSeq (Rdr.rIf (Rdr.rTst (dY (aK (aC bR (aJ aW (aA (aB 0) aD)) (eC (.int 2)))) (aK (aC dE (aC aF (aB 0) (eC (.int 1))) (aL (dN 1 [0] (fP eX (aA (aC aI (eC nX) (eC (.int 1))) aD)) bX c9 (aJ iN (aA (aB 0) aD)))))))) (zaI m) Rdr.rNext) (vX m))
noncomputable def mH(m:Rdr.RM):Rdr.RF:=(Rdr.rSeq (Rdr.rIf (Rdr.rTst (aK (aC a6 (aB 2) (eC sL)))) (zaH m) Rdr.rNext) (sM m))
noncomputable def fC(m:Rdr.RM):Rdr.RM:=Rdr.fnR 3 4 1 (mH m)
noncomputable def AU(m:Rdr.RM):Rdr.RF:=(Rdr.rRet (Rdr.rCall m (Rdr.aMore (aB 2) (Rdr.aHere (aA (aB 1) aD)))))
noncomputable def zaJ(m:Rdr.RM):Rdr.RF:=(Rdr.rRaise1 "NoText")
noncomputable def zaK(m:Rdr.RM):Rdr.RF:=(Rdr.rRet (Rdr.rPure (aC aI (bQ (aA (eC (.str "cross")) aD)) (aB 3))))
noncomputable def AV(m:Rdr.RM):Rdr.RF:=(Rdr.rSeq (Rdr.rExpr (Rdr.rPure (aR gR (aA (aB 3) aD)))) (zaK m))
noncomputable def AW(m:Rdr.RM):Rdr.RF:=(Rdr.rSeq (Rdr.rSet 3 (Rdr.rPure (bQ (aA (aC aF (aB 2) (eC (.int 0))) (aA (aC aF (aB 2) (eC (.int 2))) (aA (aC aF (aB 2) (eC (.int 3))) (aA (aC aF (aB 2) (eC (.int 5))) (aA (aC aF (aB 2) (eC (.int 6))) aD)))))))) (AV m))
noncomputable def L5(m:Rdr.RM):Rdr.RF:=(Rdr.rRet (Rdr.rPure (bQ (aA (eC (.str "rule")) (aA (aC aF (aB 2) (eC (.int 0))) (aA (aC aF (aB 2) (eC (.int 2))) (aA (aJ iK (aA (cC (aB 2) (bG (eC (.int 3))) b7) aD)) aD)))))))
noncomputable def AX(m:Rdr.RM):Rdr.RF:=(Rdr.rSeq (Rdr.rExpr (Rdr.rPure (aR gR (aA (aC aI (aL (aP (aA (aC aF (aB 2) (eC (.int 0))) aD))) (cC (aB 2) (bG (eC (.int 2))) b7)) aD)))) (L5 m))
noncomputable def sN(m:Rdr.RM):Rdr.RF:=(Rdr.rSeq (Rdr.rIf (Rdr.rTst (gH (aK (aC a6 (aJ aW (aA (aB 2) aD)) (eC (.int 7)))) (aK (aC a6 (aC aF (aB 2) (eC (.int 4))) (eC (.str "x")))))) (AW m) Rdr.rNext) (AX m))
noncomputable def mI(m:Rdr.RM):Rdr.RF:=(Rdr.rSeq (Rdr.rIf (Rdr.rTst (dY (aK (aC gA (aJ aW (aA (aB 2) aD)) (eC (.int 4)))) (aK (aC bR (aC aF (aB 2) (eC (.int 1))) (eC (.str "=")))))) (zaJ m) Rdr.rNext) (sN m))
noncomputable def jB(m:Rdr.RM):Rdr.RF:=(Rdr.rSeq (Rdr.rIf (Rdr.rTst (aK (aC a6 (aC aF (aB 2) (eC (.int 0))) (eC (.str "times"))))) (AU m) Rdr.rNext) (mI m))
noncomputable def iQ(m:Rdr.RM):Rdr.RF:=(Rdr.rSeq (Rdr.rSet 2 Rdr.rTake) (jB m))
noncomputable def hJ(m:Rdr.RM):Rdr.RM:=Rdr.fnR 2 4 0 (iQ m)
noncomputable def zaL(m:Rdr.RM):Rdr.RF:=(Rdr.rRaise1 "NoText")
noncomputable def zaM(m:Rdr.RM):Rdr.RF:=(Rdr.rRet (Rdr.rPure (aJ iK (aA (aB 2) aD))))
noncomputable def mJ(m:Rdr.RM):Rdr.RF:=(Rdr.rSeq (Rdr.rIf (Rdr.rTst (aK (aC a6 (aJ aW (aA (aB 2) aD)) (eC (.int 0))))) (zaL m) Rdr.rNext) (zaM m))
noncomputable def vY(m:Rdr.RM):Rdr.RF:=(Rdr.rCol 2 (Rdr.rCmp dE Rdr.rAhead (bQ (aA (aL (aP aD)) (aA (aL (aP (aA (eC (.str "end")) aD))) aD)))) (Rdr.rCall m (Rdr.aHere (aA (aB 1) aD))) (mJ m))
noncomputable def pK(m:Rdr.RM):Rdr.RM:=Rdr.fnR 2 3 0 (vY m)
noncomputable def mK:Nat->Rdr.RM:=Rdr.recR fun m=>pK (hJ (fC m))
noncomputable def jU:Rdr.RM:=mK 8
noncomputable def sO:DSt->R aG:=(cJ (aC a6 (vR (aB 0)) (aJ aW (aA (aB 0) aD))))
noncomputable def fD:List D->R D:=b6 1 1 sO
theorem L6(a0:D):fD [a0]=fin (sO [some a0]):=dO (b:=sO) rfl rfl
def pL:D:=.int 8
noncomputable def zaN:Rdr.RF:=(Rdr.rRaise1 "NoText")
noncomputable def zaO:Rdr.RF:=(Rdr.rRaise1 "NoText")
noncomputable def AY:Rdr.RF:=(Rdr.rRet (Rdr.rPure (bQ (aA (aC aF (aB 1) (eC (.int 1))) (aA (aJ iK (aA (aB 2) aD)) (aA (aC aF (aB 1) (gJ gM (eC (.int 1)))) (aA (aB 3) aD)))))))
noncomputable def pM:Rdr.RF:=(Rdr.rSeq (Rdr.rExpr (Rdr.rCall gT Rdr.aOnly)) AY)
noncomputable def pN:Rdr.RF:=(Rdr.rSeq (Rdr.rSet 3 (Rdr.rCall jU (Rdr.aHere (aA (eC (.int 0)) aD)))) pM)
noncomputable def nY:Rdr.RF:=(Rdr.rSeq (Rdr.rIf (Rdr.rTst (dY (aK (aC fI (aJ aW (aA (aB 2) aD)) (eC pL))) (dI (aK (aR fD (aA (aB 2) aD)))))) zaO Rdr.rNext) pN)
noncomputable def pO:Rdr.RF:=(Rdr.rSeq (Rdr.rExpr (Rdr.rPure (aR gR (aA (aC aI (aL (aP (aA (aC aF (aB 1) (eC (.int 1))) (aA (aC aF (aB 1) (gJ gM (eC (.int 1)))) aD)))) (aB 2)) aD)))) nY)
noncomputable def kE:Rdr.RF:=(Rdr.rSeq (Rdr.rIf (Rdr.rTst (dY (aK (aC gA (aJ aW (aA (aB 1) aD)) (eC (.int 5)))) (aK (aC bR (aC aF (aB 1) (gJ gM (eC (.int 2)))) (eC (.str ">")))))) zaN Rdr.rNext) pO)
noncomputable def sP:Rdr.RF:=(Rdr.rSeq (Rdr.rSet 2 (Rdr.rPure (cC (aB 1) (bG (eC (.int 2))) (bG (gJ gM (eC (.int 2))))))) kE)
noncomputable def sQ:Rdr.RF:=(Rdr.rSeq (Rdr.rSet 1 Rdr.rTake) sP)
noncomputable def dR:Rdr.RM:=Rdr.fnR 1 4 0 sQ
def sR:D:=.int 20
noncomputable def zaP:Rdr.RF:=(Rdr.rRaise1 "NoText")
noncomputable def zaQ:Rdr.RF:=(Rdr.rRaise1 "NoText")
noncomputable def zaR:Rdr.RF:=(Rdr.rRaise1 "NoText")
noncomputable def zaS:Rdr.RF:=(Rdr.rRet (Rdr.rPure (bQ (aA (aJ iK (aA (aB 2) aD)) (aA (aB 3) aD)))))
noncomputable def vZ:Rdr.RF:=(Rdr.rSeq (Rdr.rIf (Rdr.rCmp bR Rdr.rAhead (aL (aP aD))) zaR Rdr.rNext) zaS)
noncomputable def sS:Rdr.RF:=(Rdr.rSeq (Rdr.rSet 3 (Rdr.rCall jU (Rdr.aHere (aA (eC (.int 0)) aD)))) vZ)
noncomputable def pP:Rdr.RF:=(Rdr.rSeq (Rdr.rIf (Rdr.rTst (dI (aK (aR fD (aA (aL (dN 1 [0] (dJ (aB 2)) bX c9 (aC aF (aB 0) (eC (.int 0))))) aD))))) zaQ Rdr.rNext) sS)
noncomputable def mL:Rdr.RF:=(Rdr.rSeq (Rdr.rIf (Rdr.rTst (aK (aC fI (aJ aW (aA (aB 2) aD)) (eC sR)))) zaP Rdr.rNext) pP)
noncomputable def sU:Rdr.RF:=(Rdr.rCol 2 (Rdr.rCmp a6 (Rdr.rSl Rdr.rAhead b7 (bG (eC (.int 1)))) (aL (aP (aA (eC (.str "rule")) aD)))) (Rdr.rCall dR Rdr.aOnly) mL)
noncomputable def pQ:DSt->R aG:=(Rdr.sReader 1 (aR g8 (aA (aB 0) aD)) sU)
noncomputable def dL:List D->R D:=b6 1 4 pQ
theorem AZ(a0:D):dL [a0]=fin (pQ [some a0,none,none,none]):=dO (b:=pQ) rfl rfl
noncomputable def L7:DSt->R aG:=(cJ (eC (.int 0)))
noncomputable def wA:DSt->R aG:=(aN (eY (aK (aC gA (aB 1) (aJ aW (aA (aB 0) aD)))) (cJ (aC aF (aB 0) (aB 1))) gL) L7)
noncomputable def fK:List D->R D:=b6 2 2 wA
theorem zaT(a0:D)(a1:D):fK [a0,a1]=fin (wA [some a0,some a1]):=dO (b:=wA) rfl rfl
noncomputable def L8:DSt->R aG:=(cJ (aC aV (aC j7 (aB 2) (aB 2)) (eC (.int 2305843009213693951))))
noncomputable def L9:DSt->R aG:=(aN (aY 2 (aC aV (aC aI (aC aI (aC j7 (aB 2) (aB 2)) (aC j7 (aC j7 (eC (.int 69621)) (aB 1)) (aB 1))) (aB 1)) (eC (.int 2305843009213693951)))) L8)
noncomputable def MA:DSt->R aG:=(aN (aY 2 (aC aV (aB 2) (eC (.int 2305843009213693951)))) L9)
noncomputable def wB:DSt->R aG:=(aN (aY 2 (aC aI (aC aI (aC j7 (aC aI (aC aV (aB 0) (eC (.int 1000000007))) (eC (.int 1))) (eC (.int 6364136223846793005))) (aC j7 (aC j7 (eC (.int 7919)) (aB 1)) (aB 1))) (aC j7 (eC (.int 31)) (aB 1)))) MA)
noncomputable def kF:List D->R D:=b6 2 3 wB
theorem zaU(a0:D)(a1:D):kF [a0,a1]=fin (wB [some a0,some a1,none]):=dO (b:=wB) rfl rfl
noncomputable def MB:DSt->R aG:=(cW [2] 3 (aC iI (aB 3) (aC qY (eC (.int 10)) (eC (.int 6)))))
noncomputable def MC:DSt->R aG:=(aN (iH [2] 2 (aC aV (aB 3) (aC qY (eC (.int 10)) (eC (.int 6))))) MB)
noncomputable def sV:DSt->R aG:=(eY (gH (aK (aC a6 (aC aV (aB 0) (eC (.int 2))) (eC (.int 0)))) (aK (aC fI (aB 3) (eC (.int 0))))) MC (iH [2] 2 (aC aV (aR kF (aA (aB 0) (aA (aB 4) aD))) (aC qY (eC (.int 10)) (eC (.int 6))))))
noncomputable def ME:DSt->R aG:=(cJ (aB 2))
noncomputable def MF:DSt->R aG:=(aN (j6 [2] [4] bX (fP eX (aA (aB 1) aD)) sV) ME)
noncomputable def MG:DSt->R aG:=(aN (cW [2] 3 (aC iI (aB 0) (eC (.int 2)))) MF)
noncomputable def wC:DSt->R aG:=(aN (jL [] 2 (aP aD)) MG)
noncomputable def dF:List D->R D:=b6 2 5 wC
theorem zaV(a0:D)(a1:D):dF [a0,a1]=fin (wC [some a0,some a1,none,none,none]):=dO (b:=wC) rfl rfl
noncomputable def sW:DSt->R aG:=(aY 4 (aC aI (aB 4) (aC jR (aB 2) (aC aV (aC iI (aC aF (aB 3) (eC (.int 11))) (aC aF (aL (aP (aA (eC (.int 1)) (aA (eC (.int 26)) (aA (eC (.int 676)) (aA (eC (.int 17576)) (aA (eC (.int 5)) (aA (eC (.int 9)) (aA (eC (.int 77)) aD))))))))) (aB 5))) (eC (.int 26))))))
noncomputable def MH:DSt->R aG:=(iH [6] 6 (aC aI (aB 8) (aC k8 (eC (.str "a")) (aJ cY (aA (aC jQ (aB 8) (aL (aP (aA (eC (.str "x")) (aA (eC (.str "rule")) (aA (eC (.str "times")) (aA (eC (.str "end")) aD))))))) aD)))))
noncomputable def sX:DSt->R aG:=(aN (cW [6] 8 (aC aI (aC jR (aB 2) (aC aV (aC aI (aC aF (aB 3) (eC (.int 9))) (aB 7)) (eC (.int 26)))) (aB 4))) MH)
noncomputable def MI:DSt->R aG:=(cJ (aB 6))
noncomputable def MJ:DSt->R aG:=(aN (j6 [6] [7] bX (fP eX (aA (aB 1) aD)) sX) MI)
noncomputable def MK:DSt->R aG:=(aN (jL [] 6 (aP aD)) MJ)
noncomputable def ML:DSt->R aG:=(aN (j6 [] [5] bX (fP eX (aA (aC aV (aC aF (aB 3) (eC (.int 10))) (eC (.int 8))) aD)) sW) MK)
noncomputable def MM:DSt->R aG:=(aN (aY 4 (eC (.str ""))) ML)
noncomputable def MN:DSt->R aG:=(aN (aY 3 (aR dF (aA (aB 0) (aA (eC (.int 12)) aD)))) MM)
noncomputable def wF:DSt->R aG:=(aN (aY 2 (eC (.str "abcdefghijklmnopqrstuvwxyz"))) MN)
noncomputable def sY:List D->R D:=b6 2 9 wF
theorem zaW(a0:D)(a1:D):sY [a0,a1]=fin (wF [some a0,some a1,none,none,none,none,none,none,none]):=dO (b:=wF) rfl rfl
noncomputable def MO:DSt->R aG:=(cJ (bQ (aA (eC (.str "rule")) (aA (aB 3) (aA (aB 5) (aA (aJ iK (aA (cC (aB 4) b7 (bG (aB 6))) aD)) aD))))))
noncomputable def MP:DSt->R aG:=(aN (j5 [] [5,6] (eG 2) (aC aF (aB 2) (aC aV (aC aF (aB 0) (eC (.int 2))) (aJ aW (aA (aB 2) aD))))) MO)
noncomputable def MQ:DSt->R aG:=(cJ (bQ (aA (eC (.str "cross")) (aA (aB 3) (aA (aC aF (aB 4) (eC (.int 0))) (aA (aC aF (aB 4) (eC (.int 1))) (aA (aC aF (aB 4) (eC (.int 2))) (aA (aC aF (aB 4) (eC (.int 3))) aD))))))))
noncomputable def MR:DSt->R aG:=(aN (eY (gH (aK (aC fI (aC aV (aC aF (aB 0) (eC (.int 0))) (eC (.int 8))) (eC (.int 4)))) (aK (aC bR (aB 2) (aL (aP aD))))) MP gL) MQ)
noncomputable def MS:DSt->R aG:=(aN (cW [] 4 (aL (dN 1 [0] (dJ (cC (aB 0) (bG (eC (.int 3))) (bG (eC (.int 11))))) bX c9 (aC aF (aB 2) (aC aV (aB 0) (aJ aW (aA (aB 2) aD))))))) MR)
noncomputable def wG:DSt->R aG:=(aN (aY 3 (aC aF (aB 1) (aC aV (aC aF (aB 0) (eC (.int 1))) (aJ aW (aA (aB 1) aD))))) MS)
noncomputable def nZ:List D->R D:=b6 3 7 wG
theorem zaX(a0:D)(a1:D)(a2:D):nZ [a0,a1,a2]=fin (wG [some a0,some a1,some a2,none,none,none,none]):=dO (b:=wG) rfl rfl
noncomputable def MT(m:List D->R D):DSt->R aG:=(iH [5] 5 (bQ (aA (eC (.str "times")) (aA (aC aF (aL (aP (aA (aC aV (aC aF (aB 7) (eC (.int 2))) (eC (.int 4))) (aA (aC aV (aC aF (aB 7) (eC (.int 2))) (eC (.int 61))) aD)))) (aJ cY (aA (aC a6 (aC aV (aC aF (aB 7) (eC (.int 1))) (eC (.int 16))) (eC (.int 1))) aD))) (aA (aB 8) aD)))))
noncomputable def MU(m:List D->R D):DSt->R aG:=(aN (j5 [5] [8,1] (eG 2) (aR m (aA (aB 0) (aA (aB 1) (aA (aB 2) (aA (aB 3) (aA (aC gSub (aB 4) (eC (.int 1))) aD))))))) (MT m))
noncomputable def MV(m:List D->R D):DSt->R aG:=(eY (gH (aK (aC a6 (aC aV (aC aF (aB 7) (eC (.int 0))) (eC (.int 8))) (eC (.int 0)))) (gH (aK (aC fI (aB 4) (eC (.int 0)))) (aK (aC gA (aB 1) (eC (.int 40)))))) (MU m) (iH [5] 5 (aR nZ (aA (aB 7) (aA (aB 2) (aA (aB 3) aD))))))
noncomputable def MW(m:List D->R D):DSt->R aG:=(aN (cW [5] 7 (aR dF (aA (aC aF (aB 0) (aC aV (aB 1) (aJ aW (aA (aB 0) aD)))) (aA (eC (.int 12)) aD)))) (MV m))
noncomputable def pR(m:List D->R D):DSt->R aG:=(aN (cW [5] 1 (aC aI (aB 1) (eC (.int 1)))) (MW m))
noncomputable def MX(m:List D->R D):DSt->R aG:=(cJ (bQ (aA (aJ iK (aA (aB 5) aD)) (aA (aB 1) aD))))
noncomputable def MY(m:List D->R D):DSt->R aG:=(aN (j6 [5] [6] bX (fP eX (aA (aC aI (eC (.int 1)) (aC aV (aC aF (aR dF (aA (aC aF (aB 0) (aC aV (aB 1) (aJ aW (aA (aB 0) aD)))) (aA (eC (.int 12)) aD))) (eC (.int 11))) (eC (.int 3)))) aD)) (pR m)) (MX m))
noncomputable def pS(m:List D->R D):DSt->R aG:=(aN (jL [] 5 (aP aD)) (MY m))
noncomputable def kG:Nat->List D->R D:=pE fun m=>b6 5 9 (pS m)
noncomputable def mM:List D->R D:=kG 64
theorem zaY(n:Nat)(a0:D)(a1:D)(a2:D)(a3:D)(a4:D):kG (n+1) [a0,a1,a2,a3,a4]=fin (pS (kG n) [some a0,some a1,some a2,some a3,some a4,none,none,none,none]):=show b6 5 9 (pS (kG n)) [a0,a1,a2,a3,a4]=_ from dO (b:=pS (kG n)) rfl rfl
noncomputable def MZ:DSt->R aG:=(cW [3] 4 (aC aI (aB 4) (aL (aP (aA (bQ (aA (aC aI (i9 (aC aF (aB 2) (aB 6)) b7 (bG (eC (.int 7)))) (eC (.str "r"))) (aA (aJ aW (aA (aB 8) aD)) aD))) aD)))))
noncomputable def M0:DSt->R aG:=(aN (iH [3] 3 (bQ (aA (aC aI (i9 (aC aF (aB 2) (aB 6)) b7 (bG (eC (.int 7)))) (eC (.str "r"))) (aA (aJ iK (aA (aB 8) aD)) (aA (aC aF (aB 10) (aC aV (aC aF (aB 7) (eC (.int 2))) (aJ aW (aA (aB 10) aD)))) (aA (aB 11) aD)))))) MZ)
noncomputable def M1:DSt->R aG:=(aN (j5 [3] [11,5] (eG 2) (aR mM (aA (aB 0) (aA (aC aI (aB 5) (eC (.int 3))) (aA (aB 10) (aA (aB 4) (aA (eC (.int 4)) aD))))))) M0)
noncomputable def M2:DSt->R aG:=(aN (cW [3] 10 (aC aF (aL (aP (aA (aB 8) (aA (aB 2) aD)))) (aJ cY (aA (aC a6 (aC aV (aC aF (aB 7) (eC (.int 3))) (eC (.int 4))) (eC (.int 1))) aD)))) M1)
noncomputable def M3:DSt->R aG:=(aN (cW [3] 8 (aC aI (cC (aB 8) (bG (aB 9)) b7) (cC (aB 8) b7 (bG (aB 9))))) M2)
noncomputable def M4:DSt->R aG:=(aN (cW [3] 9 (aC aV (aC aF (aB 7) (eC (.int 1))) (aJ aW (aA (aB 8) aD)))) M3)
noncomputable def M5:DSt->R aG:=(aN (cW [3] 8 (cC (aB 2) b7 (bG (aC aI (eC (.int 1)) (aC aV (aC aF (aB 7) (eC (.int 0))) (eC (.int 8))))))) M4)
noncomputable def n4:DSt->R aG:=(aN (cW [3] 7 (aR dF (aA (aC aF (aB 0) (aC aV (aC aI (aB 5) (aB 6)) (aJ aW (aA (aB 0) aD)))) (aA (eC (.int 12)) aD)))) M5)
noncomputable def M6:DSt->R aG:=(cJ (bQ (aA (aB 3) (aA (aB 4) (aA (aB 5) aD)))))
noncomputable def M7:DSt->R aG:=(aN (j6 [3] [6] bX (fP eX (aA (aB 1) aD)) n4) M6)
noncomputable def M8:DSt->R aG:=(aN (cW [3] 5 (eC (.int 0))) M7)
noncomputable def M9:DSt->R aG:=(aN (cW [3] 4 (aL (aP aD))) M8)
noncomputable def wH:DSt->R aG:=(aN (jL [] 3 (aP aD)) M9)
noncomputable def sZ:List D->R D:=b6 3 12 wH
theorem zaZ(a0:D)(a1:D)(a2:D):sZ [a0,a1,a2]=fin (wH [some a0,some a1,some a2,none,none,none,none,none,none,none,none,none]):=dO (b:=wH) rfl rfl
noncomputable def za0:DSt->R aG:=(cJ (bQ (aA (aB 2) (aA (bQ (aA (aJ iK (aA (aB 4) aD)) (aA (aB 7) aD))) aD))))
noncomputable def NA:DSt->R aG:=(aN (j5 [] [7,6] (eG 2) (aR mM (aA (aB 3) (aA (aC aI (aB 6) (eC (.int 2))) (aA (aB 2) (aA (aB 5) (aA (eC (.int 4)) aD))))))) za0)
noncomputable def NB:DSt->R aG:=(aN (j5 [] [4,5,6] (eG 3) (aR sZ (aA (aB 3) (aA (aC aV (aC aF (aB 1) (eC (.int 0))) (eC (.int 4))) (aA (aB 2) aD))))) NA)
noncomputable def NC:DSt->R aG:=(aN (aY 3 (aC aI (cC (aB 0) (bG (eC (.int 1))) (bG (eC (.int 40)))) (aL (aP (aA (eC (.int 0)) (aA (eC (.int 1)) aD)))))) NB)
noncomputable def ND:DSt->R aG:=(aN (aY 2 (aR sY (aA (aR fK (aA (aB 0) (aA (eC (.int 0)) aD))) (aA (eC (.int 9)) aD)))) NC)
noncomputable def wI:DSt->R aG:=(aN (aY 1 (aR dF (aA (aR fK (aA (aB 0) (aA (eC (.int 0)) aD))) (aA (eC (.int 12)) aD)))) ND)
noncomputable def n5:List D->R D:=b6 1 8 wI
theorem za1(a0:D):n5 [a0]=fin (wI [some a0,none,none,none,none,none,none,none]):=dO (b:=wI) rfl rfl
noncomputable def mO(m:List D->R D):DSt->R aG:=(eY (aK (aC a6 (aC aF (aB 2) (eC (.int 0))) (eC (.str "times")))) (uM 1 (pA (aC aI (aC aI (aB 1) (aL (aP (aA (aC aI (eC (.str "times ")) (aJ iN (aA (aC aF (aB 2) (eC (.int 1))) aD))) aD)))) (aR m (aA (aC aF (aB 2) (eC (.int 2))) aD))) (aL (aP (aA (eC (.str "end")) aD))))) (eY (aK (aC a6 (aC aF (aB 2) (eC (.int 0))) (eC (.str "cross")))) (iH [1] 1 (gZ (eC (.str " ")) (aL (aP (aA (aC aF (aB 2) (eC (.int 1))) (aA (eC (.str "=")) (aA (aC aF (aB 2) (eC (.int 2))) (aA (aC aF (aB 2) (eC (.int 3))) (aA (eC (.str "x")) (aA (aC aF (aB 2) (eC (.int 4))) (aA (aC aF (aB 2) (eC (.int 5))) aD))))))))))) (iH [1] 1 (gZ (eC (.str " ")) (aC aI (aL (aP (aA (aC aF (aB 2) (eC (.int 1))) (aA (eC (.str "=")) (aA (aC aF (aB 2) (eC (.int 2))) aD))))) (aL (rP uY (aA (aC aF (aB 2) (eC (.int 3))) aD))))))))
noncomputable def NF(m:List D->R D):DSt->R aG:=(cJ (aB 1))
noncomputable def NG(m:List D->R D):DSt->R aG:=(aN (j6 [1] [2] bX (dJ (aB 0)) (mO m)) (NF m))
noncomputable def pT(m:List D->R D):DSt->R aG:=(aN (jL [] 1 (aP aD)) (NG m))
noncomputable def mP:Nat->List D->R D:=pE fun m=>b6 1 3 (pT m)
noncomputable def lC:List D->R D:=mP 64
theorem za2(n:Nat)(a0:D):mP (n+1) [a0]=fin (pT (mP n) [some a0,none,none]):=show b6 1 3 (pT (mP n)) [a0]=_ from dO (b:=pT (mP n)) rfl rfl
noncomputable def NH:DSt->R aG:=(jL [] 1 (pA (aC aI (aB 1) (aR lC (aA (aB 5) aD))) (aL (aP (aA (eC (.str "end")) aD)))))
noncomputable def n6:DSt->R aG:=(aN (iH [1] 1 (aC aI (aC aI (aC aI (aC aI (aC aI (eC (.str "rule ")) (aB 2)) (eC (.str " "))) (AL (eC (.str " ")) (aB 3))) (eC (.str " > "))) (aB 4))) NH)
noncomputable def A0:DSt->R aG:=(cJ (gZ (eC (.str "; ")) (aC aI (aB 1) (aR lC (aA (aC aF (aB 0) (eC (.int 1))) aD)))))
noncomputable def NI:DSt->R aG:=(aN (j6 [1] [2,3,4,5] (eG 4) (dJ (aC aF (aB 0) (eC (.int 0)))) n6) A0)
noncomputable def wJ:DSt->R aG:=(aN (jL [] 1 (aP aD)) NI)
noncomputable def mQ:List D->R D:=b6 1 6 wJ
theorem za3(a0:D):mQ [a0]=fin (wJ [some a0,none,none,none,none,none]):=dO (b:=wJ) rfl rfl
noncomputable def NJ:DSt->R aG:=(cJ (lP (aC a6 (aB 1) (eC (.int 1))) (lP (aJ (g2 bK) (aA (aB 0) (aA (eC (.cls "ChalkError")) aD))) (aJ (g2 bK) (aA (aB 0) (aA (eC (.ty "ValueError")) aD))))))
noncomputable def NK:DSt->R aG:=(aN (aY 1 (aC aI (aC aI (aC aI (aB 1) (aJ cY (aA (aJ (g2 bK) (aA (aB 0) (aA (eC (.cls "NoRatio")) aD))) aD))) (aJ cY (aA (aJ (g2 bK) (aA (aB 0) (aA (eC (.cls "NoBow")) aD))) aD))) (aJ cY (aA (aJ (g2 bK) (aA (aB 0) (aA (eC (.cls "NoRow")) aD))) aD)))) NJ)
noncomputable def NL:DSt->R aG:=(aN (aY 1 (aC aI (aC aI (aC aI (aB 1) (aJ cY (aA (aJ (g2 bK) (aA (aB 0) (aA (eC (.cls "NoFrame")) aD))) aD))) (aJ cY (aA (aJ (g2 bK) (aA (aB 0) (aA (eC (.cls "NoValue")) aD))) aD))) (aJ cY (aA (aJ (g2 bK) (aA (aB 0) (aA (eC (.cls "Unlike")) aD))) aD)))) NK)
noncomputable def NM:DSt->R aG:=(aN (aY 1 (aC aI (aC aI (aC aI (aB 1) (aJ cY (aA (aJ (g2 bK) (aA (aB 0) (aA (eC (.cls "NoName")) aD))) aD))) (aJ cY (aA (aJ (g2 bK) (aA (aB 0) (aA (eC (.cls "TooMany")) aD))) aD))) (aJ cY (aA (aJ (g2 bK) (aA (aB 0) (aA (eC (.cls "NoChange")) aD))) aD)))) NL)
noncomputable def NN:DSt->R aG:=(aN (aY 1 (aC aI (aC aI (aC aI (aB 1) (aJ cY (aA (aJ (g2 bK) (aA (aB 0) (aA (eC (.cls "Endless")) aD))) aD))) (aJ cY (aA (aJ (g2 bK) (aA (aB 0) (aA (eC (.cls "NoDeed")) aD))) aD))) (aJ cY (aA (aJ (g2 bK) (aA (aB 0) (aA (eC (.cls "NoText")) aD))) aD)))) NM)
noncomputable def wK:DSt->R aG:=(aN (aY 1 (aC aI (aC aI (aJ cY (aA (aJ (g2 bK) (aA (aB 0) (aA (eC (.cls "NoPlace")) aD))) aD)) (aJ cY (aA (aJ (g2 bK) (aA (aB 0) (aA (eC (.cls "Same")) aD))) aD))) (aJ cY (aA (aJ (g2 bK) (aA (aB 0) (aA (eC (.cls "NoFloor")) aD))) aD)))) NN)
noncomputable def n8:List D->R D:=b6 1 2 wK
theorem za4(a0:D):n8 [a0]=fin (wK [some a0,none]):=dO (b:=wK) rfl rfl
noncomputable def za5:DSt->R aG:=(cJ (aB 0))
noncomputable def za6:DSt->R aG:=(aN (aY 0 (aC aI (aB 0) (aL (aP (aA (eC (.str "times 2; times 2; times 2; times 2; times 2; a = b c; end; end; end; end; end")) aD))))) za5)
noncomputable def za7:DSt->R aG:=(aN (aY 0 (aC aI (aB 0) (aL (aP (aA (eC (.str "rule r p > p; a = b c x d e; end")) aD))))) za6)
noncomputable def za8:DSt->R aG:=(aN (aY 0 (aC aI (aB 0) (aL (aP (aA (eC (.str "times 2; a = b c x d e; end; end")) aD))))) za7)
noncomputable def za9:DSt->R aG:=(aN (aY 0 (aC aI (aB 0) (aL (aP (aA (eC (.str "times 01; a = b c x d e; end")) (aA (eC (.str "times 00; a = b c x d e; end")) aD)))))) za8)
noncomputable def zba:DSt->R aG:=(aN (aY 0 (aC aI (aB 0) (aL (aP (aA (eC (.str "times 61; a = b c x d e; end")) aD))))) za9)
noncomputable def zbb:DSt->R aG:=(aN (aY 0 (aC aI (aB 0) (aL (aP (aA (eC (.str "rule r p > p")) (aA (eC (.str "rule")) (aA (eC (.str "a : b c x d e")) (aA (eC (.str "a = b c x d e; end")) (aA (eC (.str "times 2; end")) aD))))))))) zba)
noncomputable def zbc:DSt->R aG:=(aN (aY 0 (aC aI (aB 0) (aL (aP (aA (eC (.str "ends")) (aA (eC (.str "a = b c x d e;")) aD)))))) zbb)
noncomputable def zbd:DSt->R aG:=(aN (aY 0 (aC aI (aB 0) (aL (aP (aA (eC (.str "times")) (aA (eC (.str "times x")) (aA (eC (.str "times -1")) (aA (eC (.str "times 2 3")) (aA (eC (.str "times 100")) (aA (eC (.str "end end")) (aA (eC (.str "end 2")) (aA (eC (.str "END")) aD)))))))))))) zbc)
noncomputable def zbe:DSt->R aG:=(aN (aY 0 (aC aI (aB 0) (aL (aP (aA (eC (.str "a = b x c x d")) (aA (eC (.str "a = rule b")) (aA (eC (.str "a = b rule")) (aA (eC (.str "a = b c x end d")) (aA (eC (.str "a = times b")) (aA (eC (.str "rule = b c")) aD)))))))))) zbd)
noncomputable def zbf:DSt->R aG:=(aN (aY 0 (aC aI (aB 0) (aL (aP (aA (eC (.str "abcdefghi = b c x d e")) (aA (eC (.str "a = abcdefghi b")) (aA (eC (.str "a = b abcdefghi")) (aA (eC (.str "a = b c x x d e")) aD)))))))) zbe)
noncomputable def zbg:DSt->R aG:=(aN (aY 0 (aC aI (aB 0) (aL (aP (aA (eC (.str "a=b c x d e")) (aA (eC (.str "a = b,c x d e")) aD)))))) zbf)
noncomputable def zbh:DSt->R aG:=(aN (aY 0 (aC aI (aB 0) (aL (aP (aA (eC (.str "a  = b c x d e")) (aA (eC (.str "a = b  c x d e")) (aA (eC (.str " a = b c x d e")) (aA (eC (.str "a = b c x d e ")) aD)))))))) zbg)
noncomputable def zbi:DSt->R aG:=(aN (aY 0 (aC aI (aB 0) (aL (aP (aA (eC (.str "a == b c x d e")) aD))))) zbh)
noncomputable def zbj:DSt->R aG:=(aN (aY 0 (aC aI (aB 0) (aL (aP (aA (eC (.str "A = b c x d e")) (aA (eC (.str "a = b c x d E")) (aA (eC (.str "a = b 1 x d e")) (aA (eC (.str "a = b c x d times")) (aA (eC (.str "a = end b")) aD))))))))) zbi)
noncomputable def zbk:DSt->R aG:=(aN (aY 0 (aC aI (aB 0) (aL (aP (aA (eC (.str "a = x b c")) (aA (eC (.str "a = b x")) aD)))))) zbj)
noncomputable def zbl:DSt->R aG:=(aN (aY 0 (aC aI (aB 0) (aL (aP (aA (eC (.str "x = b c x d e")) (aA (eC (.str "rule = b c x d e")) (aA (eC (.str "end = b c x d e")) (aA (eC (.str "times = b c x d e")) aD)))))))) zbk)
noncomputable def zbm:DSt->R aG:=(aN (aY 0 (aC aI (aB 0) (aL (aP (aA (eC (.str "a b c x d e")) (aA (eC (.str "= b c x d e")) aD)))))) zbl)
noncomputable def A1:DSt->R aG:=(aN (aY 0 (aL (aP (aA (eC (.str "")) (aA (eC (.str " ")) (aA (eC (.str "a")) (aA (eC (.str "a =")) (aA (eC (.str "a = b")) (aA (eC (.str "a = b c x d")) (aA (eC (.str "a = b c x d e f")) (aA (eC (.str "a = b c X d e")) aD))))))))))) zbm)
noncomputable def mR:List D->R D:=b6 0 1 A1
theorem zbn:mR []=fin (A1 [none]):=dO (b:=A1) rfl rfl
noncomputable def zbo:DSt->R aG:=(cJ (aL (dN 1 [0] (fP eX (aA (aB 0) aD)) bX c9 (aC aI (aC aI (aC aI (eC (.str "rule ")) (aC jR (eC (.str "abcdefghijklmnopqrstu")) (aB 0))) (eC (.str "z p > p"))) (aB 2)))))
noncomputable def A3:DSt->R aG:=(aN (aY 1 (eC (.str "; p = p q x q p; end"))) zbo)
noncomputable def jC:List D->R D:=b6 1 2 A3
theorem zbp(a0:D):jC [a0]=fin (A3 [some a0,none]):=dO (b:=A3) rfl rfl
noncomputable def zbq:DSt->R aG:=(cJ (aC aI (aB 2) (aL (aP (aA (gZ (eC (.str "; ")) (aC aI (aB 3) (aL (aP (aA (eC (.str "a = b c")) aD))))) aD)))))
noncomputable def zbr:DSt->R aG:=(aN (aY 3 (aR jC (aA (eC (.int 21)) aD))) zbq)
noncomputable def zbs:DSt->R aG:=(aN (aY 2 (aC aI (aB 2) (aL (aP (aA (aC aI (aC aI (aC aI (eC (.str "rule r p > p")) (aB 0)) (eC (.str "; a = b c; rule s p > p"))) (aB 0)) aD))))) zbr)
noncomputable def zbt:DSt->R aG:=(aN (aY 2 (aC aI (aB 2) (aL (aP (aA (aC aI (aC aI (eC (.str "times 2; rule r p > p")) (aB 0)) (eC (.str "; a = b c; end"))) aD))))) zbs)
noncomputable def zbu:DSt->R aG:=(aN (aY 2 (aC aI (aB 2) (aL (aP (aA (aC aI (aC aI (aC aI (eC (.str "rule r p > p; rule s q > q")) (aB 0)) (aB 0)) (eC (.str "; a = b c"))) aD))))) zbt)
noncomputable def zbv:DSt->R aG:=(aN (aY 2 (aC aI (aB 2) (aL (aP (aA (aC aI (aC aI (eC (.str "a = b c; rule r p > p")) (aB 0)) (eC (.str "; a = b c"))) aD))))) zbu)
noncomputable def zbw:DSt->R aG:=(aN (aY 2 (aC aI (aB 2) (aL (aP (aA (eC (.str "a = b c\nb = a a")) (aA (eC (.str "a = b c; ")) (aA (eC (.str "; a = b c")) (aA (aC aI (aC aI (eC (.str "rule r p > p")) (aB 0)) (eC (.str "; end; a = b c"))) aD)))))))) zbv)
noncomputable def zbx:DSt->R aG:=(aN (aY 2 (aC aI (aB 2) (aL (aP (aA (eC (.str "a = b c ; b = a a")) (aA (eC (.str ";a = b c")) aD)))))) zbw)
noncomputable def zby:DSt->R aG:=(aN (aY 2 (aC aI (aB 2) (aL (aP (aA (aC aI (aC aI (aC aI (aC aI (eC (.str "rule r p > p")) (aB 0)) (eC (.str "; rule r q > q"))) (aB 0)) (eC (.str "; a = b c"))) (aA (eC (.str "a = b c;b = a a")) aD)))))) zbx)
noncomputable def zbz:DSt->R aG:=(aN (aY 2 (aC aI (aB 2) (aL (aP (aA (eC (.str "times 2; a = b c")) aD))))) zby)
noncomputable def zbA:DSt->R aG:=(aN (aY 2 (aC aI (aB 2) (aL (aP (aA (aC aI (eC (.str "rule r p > p")) (aB 0)) (aA (eC (.str "rule r p > p; end; a = b c")) (aA (eC (.str "rule r p > p; a = b c")) (aA (eC (.str "end")) aD)))))))) zbz)
noncomputable def zbB:DSt->R aG:=(aN (cW [] 2 (aL (dN 1 [0] (dJ (aB 1)) bX c9 (aC aI (aC aI (aB 0) (aB 1)) (eC (.str "; a = b c")))))) zbA)
noncomputable def zbC:DSt->R aG:=(aN (aY 1 (aC aI (aB 1) (aL (aP (aA (eC (.str "rule R p > p")) (aA (eC (.str "rule  r p > p")) aD)))))) zbB)
noncomputable def zbD:DSt->R aG:=(aN (aY 1 (aC aI (aB 1) (aL (aP (aA (eC (.str "rule r p > x")) (aA (eC (.str "rule r a b c d e f g h i > a")) (aA (eC (.str "rule end p > p")) (aA (eC (.str "rule r p >")) aD)))))))) zbC)
noncomputable def zbE:DSt->R aG:=(aN (aY 1 (aC aI (aB 1) (aL (aP (aA (eC (.str "rule x p > p")) (aA (eC (.str "rule r x > p")) aD)))))) zbD)
noncomputable def zbF:DSt->R aG:=(aN (aY 1 (aL (aP (aA (eC (.str "rule r > p")) (aA (eC (.str "rule r p p > p")) (aA (eC (.str "rule r p p")) (aA (eC (.str "rule r p > p q")) (aA (eC (.str "rule r p > > p")) aD)))))))) zbE)
noncomputable def A4:DSt->R aG:=(aN (aY 0 (eC (.str "; p = p q x q p; end"))) zbF)
noncomputable def s9:List D->R D:=b6 0 4 A4
theorem zbG:s9 []=fin (A4 [none,none,none,none]):=dO (b:=A4) rfl rfl
noncomputable def NO:DSt->R aG:=(cJ (aC a6 (aC aF (aB 1) (eC (.int 1))) (bQ (aA (bQ (aA (eC (.str "rule")) (aA (eC (.str "a")) (aA (eC (.str "b")) (aA (bQ (aA (eC (.str "c")) aD)) aD))))) aD))))
noncomputable def NP:DSt->R aG:=(aN (eY (dY (dI (aK (aJ (g2 bK) (aA (aB 1) (aA (eC (.ty "tuple")) aD))))) (dY (aK (aC bR (aJ aW (aA (aB 1) aD)) (eC (.int 2)))) (aK (aC bR (aJ aW (aA (aC aF (aB 1) (eC (.int 0))) aD)) (eC (.int 20)))))) (cJ (eC (.bl false))) gL) NO)
noncomputable def NQ:DSt->R aG:=(aN (aY 1 (aR dL (aA (aB 0) aD))) NP)
noncomputable def wL:DSt->R aG:=(aN (aY 0 (gZ (eC (.str "; ")) (aC aI (aR jC (aA (eC (.int 20)) aD)) (aL (aP (aA (eC (.str "a = b c")) aD)))))) NQ)
noncomputable def pU:List D->R D:=b6 0 2 wL
theorem zbH:pU []=fin (wL [none,none]):=dO (b:=wL) rfl rfl
noncomputable def NS:DSt->R aG:=(cJ (lP (aC rL (aB 1) (eC .non)) (lP (aJ (g2 bK) (aA (aB 1) (aA (eC (.cls "NoText")) aD))) (aR n8 (aA (aB 1) aD)))))
noncomputable def NT:DSt->R aG:=(aN (u6 2 "ChalkError" (yQ (u5 dL (aA (aB 0) aD))) (aY 1 (aB 2))) NS)
noncomputable def wM:DSt->R aG:=(aN (aY 1 (eC .non)) NT)
noncomputable def eO:List D->R D:=b6 1 3 wM
theorem zbI(a0:D):eO [a0]=fin (wM [some a0,none,none]):=dO (b:=wM) rfl rfl
noncomputable def NU:DSt->R aG:=(cJ (lP (aJ (g2 bK) (aA (aB 2) (aA (eC (.ty "tuple")) aD))) (aC a6 (aB 2) (bQ (aA (bQ aD) (aA (aC k9 (bQ (aA (bQ (aA (eC (.str "rule")) (aA (eC (.str "a")) (aA (eC (.str "b")) (aA (bQ (aA (eC (.str "c")) aD)) aD))))) aD)) (eC (.int 1500))) aD))))))
noncomputable def NV:DSt->R aG:=(aN (aY 2 (aR dL (aA (gZ (eC (.str "; ")) (aL (sD (aP (aA (eC (.str "a = b c")) aD)) (eC (.int 1500))))) aD))) NU)
noncomputable def NW:DSt->R aG:=(aN (eY (dY (dI (aK (aR eO (aA (aB 0) aD)))) (dY (dI (aK (aR eO (aA (aB 1) aD)))) (dI (aK (aR eO (aA (aC aI (eC (.str "a = b c")) (aC fT (eC (.str "; end")) (eC (.int 1900)))) aD)))))) (cJ (eC (.bl false))) gL) NV)
noncomputable def NX:DSt->R aG:=(aN (aY 1 (aC aI (aC aI (aC fT (eC (.str "times 1; ")) (eC (.int 1200))) (eC (.str "a = b c"))) (aC fT (eC (.str "; end")) (eC (.int 1200))))) NW)
noncomputable def wN:DSt->R aG:=(aN (aY 0 (aC aI (aC fT (eC (.str "times 1; ")) (eC (.int 1900))) (eC (.str "a = b c")))) NX)
noncomputable def n9:List D->R D:=b6 0 3 wN
theorem zbJ:n9 []=fin (wN [none,none,none]):=dO (b:=wN) rfl rfl
noncomputable def wO:DSt->R aG:=(cJ (gZ (eC (.str "; ")) (aC aI (aC aI (cC (aB 2) b7 (bG (aB 5))) (aL (aP (aA (aB 4) aD)))) (cC (aB 2) (bG (aB 5)) b7))))
noncomputable def wP:DSt->R aG:=(aN (eY (aK (aC a6 (i9 (aB 4) b7 (bG (eC (.int 4)))) (eC (.str "rule")))) (aY 5 (aJ aW (aA (aB 2) aD))) gL) wO)
noncomputable def NZ:DSt->R aG:=(aN (aY 5 (aC aV (aC iI (aB 1) (eC (.int 100))) (aC aI (aJ aW (aA (aB 2) aD)) (eC (.int 1))))) wP)
noncomputable def N0:DSt->R aG:=(aN (aY 4 (aC aF (aB 3) (aC aV (aB 1) (aJ aW (aA (aB 3) aD))))) NZ)
noncomputable def N1:DSt->R aG:=(aN (aY 3 (aR mR aD)) N0)
noncomputable def wQ:DSt->R aG:=(aN (aY 2 (aL (pB (aB 0) (eC (.str "; "))))) N1)
noncomputable def mS:List D->R D:=b6 2 6 wQ
theorem zbK(a0:D)(a1:D):mS [a0,a1]=fin (wQ [some a0,some a1,none,none,none,none]):=dO (b:=wQ) rfl rfl
noncomputable def N2:DSt->R aG:=(eY (dI (aK (aR eO (aA (aC aF (aL (aP (aA (eC .non) (aA (eC (.int 1)) (aA (eC (.bl true)) (aA (aL (aP (aA (eC (.str "a = b c")) aD))) (aA (bQ (aA (eC (.str "a = b c")) aD)) (aA (eC (.dct [] [])) (aA (aL (aP aD)) (aA (bQ aD) (aA (bQ (aA (bQ aD) (aA (bQ aD) aD))) (aA (eC (.bl false)) aD)))))))))))) (aC aV (aB 5) (eC (.int 10)))) aD)))) (cJ (eC (.bl false))) gL)
noncomputable def A5:DSt->R aG:=(aN (eY (dY (dI (aK (aR eO (aA (aR mS (aA (aB 1) (aA (aB 5) aD))) aD)))) (dI (aK (aR eO (aA (aC aF (aB 2) (aC aV (aC iI (aB 5) (eC (.int 7))) (aJ aW (aA (aB 2) aD)))) aD))))) (cJ (eC (.bl false))) gL) N2)
noncomputable def A6:DSt->R aG:=(aN (eY (aK (aC a6 (aC aV (aB 4) (eC (.int 2))) (eC (.int 1)))) (aY 5 (aR kF (aA (aB 4) (aA (aB 3) aD)))) gL) A5)
noncomputable def N3:DSt->R aG:=(aN (aY 5 (aC iI (aB 4) (eC (.int 2)))) A6)
noncomputable def pV:DSt->R aG:=(aN (aY 4 (aR fK (aA (aB 0) (aA (aB 3) aD)))) N3)
noncomputable def zbL:DSt->R aG:=(cJ (eC (.bl true)))
noncomputable def A7:DSt->R aG:=(aN (j6 [] [3] bX (fP nI (aA (eC (.int 40)) (aA (aJ rN (aA (eC (.int 41)) (aA (aJ rM (aA (aJ aW (aA (aB 0) aD)) (aA (eC (.int 60)) aD))) aD))) aD))) pV) zbL)
noncomputable def N4:DSt->R aG:=(aN (aY 2 (aR s9 aD)) A7)
noncomputable def N5:DSt->R aG:=(aN (eY (gH (aK (aC a6 (aC aV (aC aF (aR dF (aA (aR fK (aA (aB 0) (aA (eC (.int 0)) aD))) (aA (eC (.int 12)) aD))) (eC (.int 5))) (eC (.int 8))) (eC (.int 1)))) (dI (aK (aR n9 aD)))) (cJ (eC (.bl false))) gL) N4)
noncomputable def N6:DSt->R aG:=(aN (eY (dY (dI (aK (aJ (g2 bK) (aA (aR dL (aA (aB 1) aD)) (aA (eC (.ty "tuple")) aD))))) (dI (aK (aR pU aD)))) (cJ (eC (.bl false))) gL) N5)
noncomputable def wR:DSt->R aG:=(aN (aY 1 (aR mQ (aA (aC aF (aR n5 (aA (aB 0) aD)) (eC (.int 1))) aD))) N6)
noncomputable def wS:List D->R D:=b6 1 6 wR
theorem zbM(a0:D):wS [a0]=fin (wR [some a0,none,none,none,none,none]):=dO (b:=wR) rfl rfl
end Mir
section
open L2 DL Mir
local macro_rules | `(tactic| kd_p)=>`(tactic| simp only[bY,bU,FZ,GA,GB,GC,jM,GD,GF,i5,bS,cD,GH,GI,jN,zC,GJ,GL,GM,lZ,zD,GO,GP,zF,zG,cE,u8,GQ,nP,GS,GU,GV,GW,GX,GY,GZ,HA,o0,HB,HC,HD,HE,HF,HG,HH,gX,HI,dQ,u9,l5,o4,zH,fJ,HJ,gO,j9,vB,zJ,zK,HK,HL,HM,HN,HQ,HR,HS,HU,HV,eM,l6,gP,HX,HY,nQ,IB,IC,ID,l7,IF,IG,IH,II,IJ,o5,IK,vE,IL,zQ,zS,o6,IN,IP,IQ,IR,IT,IU,IW,IX,IY,IZ,I0,JB,JC,JD,JE,vF,JF,JG,JH,JI,JJ,JK,JL,zW,JM,JN,JP,JQ,JR,JS,JT,JU,JV,nK,JW,JX,JY,JZ,J0,J1,J2,J3,J4,J5,J6,J7,eq_self,decide_true,decide_false,Int.reduceEq,Int.reduceLT,Int.reduceLE,Int.reduceNeg,Int.reduceToNat,J8,J9,KA,KB,KC,KD,KF,KG,KH,KI,KJ,KK,KL,z0,KN,KO,KP,KQ,vG,rY,vI,AC,vH,KR,KS,KT,KU,l9,uL,mask,iX,List.contains_cons,List.contains_nil,Bool.or_false,Bool.false_or,Bool.true_or,Bool.or_true,Nat.reduceBEq,Nat.reduceAdd,xcl,cond_true,cond_false,List.set_cons_zero,List.set_cons_succ,Bool.not_true,Bool.not_false,Bool.not_not,xcw,Bool.false_and,xcx,Bool.and_false])
local macro_rules | `(tactic| walk_at "side")=>`(tactic| first|assumption|decide|omega|(refine iM ?_ ?_<;>omega)|(refine IE ?_ ?_ ?_<;>omega)|(refine rX ?_ ?_<;>omega)|(simp only[xad,xbi,xaa,xab];omega))
local macro_rules | `(tactic| walk_at "evd")=>`(tactic| simp(disch:=walk_at "side") only [bY,bU,FZ,GA,GB,GC,jM,GD,GF,i5,bS,cD,GH,GI,jN,zC,GJ,GL,GM,lZ,zD,GO,GP,zF,zG,cE,u8,GQ,nP,GS,GU,GV,GW,GX,GY,GZ,HA,o0,HB,HC,HD,HE,HF,HG,HH,gX,HI,dQ,u9,l5,o4,zH,fJ,HJ,gO,j9,vB,zJ,zK,HK,HL,HM,HN,HQ,HR,HS,HU,HV,eM,l6,gP,HX,HY,nQ,IB,IC,ID,l7,IF,IG,IH,II,IJ,o5,IK,vE,IL,zQ,zS,o6,IN,IP,IQ,IR,IT,IU,IW,IX,IY,IZ,I0,JB,JC,JD,JE,vF,JF,JG,JH,JI,JJ,JK,JL,zW,JM,JN,JP,JQ,JR,JS,JT,JU,JV,nK,JW,JX,JY,JZ,J0,J1,J2,J3,J4,J5,J6,J7,eq_self,decide_true,decide_false,Int.reduceEq,Int.reduceLT,Int.reduceLE,Int.reduceNeg,Int.reduceToNat,J8,J9,KA,KB,KC,KD,KF,KG,KH,KI,KJ,KK,KL,z0,KN,KO,KP,KQ,vG,rY,vI,AC,vH,KR,KS,KT,KU,l9,uL,mask,iX,List.contains_cons,List.contains_nil,Bool.or_false,Bool.false_or,Bool.true_or,Bool.or_true,Nat.reduceBEq,Nat.reduceAdd,xcl,cond_true,cond_false,List.set_cons_zero,List.set_cons_succ,Bool.not_true,Bool.not_false,Bool.not_not,xcw,Bool.false_and,xcx,Bool.and_false,kY,rV,e9,Y0,Y1,zY,KM,nS,YW,YY,YX])
open L2 DL Mir
namespace LmA
theorem eJ{i j:Int}(h:0<j):0<=i%j/\i%j<j:=⟨Int.emod_nonneg _ (by omega),Int.emod_lt_of_pos _ h⟩
theorem N7(c k:Int)(h0:0<=k)(h1:k<=1000):∃r,kF [.int c,.int k]=.ok (.int r)/\0<=r/\r<2305843009213693951:=by
 rw[zaU];unfold wB MA L9 L8;kd_p
 have m1:=eJ (i:=c) (j:=1000000007) (by decide)
 rw[e9 _ _ (by decide)];kd_p
 rw[kY _ _ (iM (by omega) (by omega)) (by decide +kernel),kY _ k (by decide +kernel) (iM (by omega) (by omega))];kd_p
 rw[kY _ k (iM (by omega) (by omega)) (iM (by omega) (by omega)),kY _ k (by decide +kernel) (iM (by omega) (by omega))];kd_p
 rw[e9 _ _ (by decide)];kd_p
 generalize ((c%1000000007+1)*6364136223846793005+7919*k*k+31*k)=v
 have m2:=eJ (i:=v) (j:=2305843009213693951) (by decide)
 generalize v%2305843009213693951=u at m2 ⊢
 rw[kY u u (iM (by omega) (by omega)) (iM (by omega) (by omega)),kY _ k (by decide +kernel) (iM (by omega) (by omega))];kd_p
 rw[kY _ k (iM (by omega) (by omega)) (iM (by omega) (by omega))];kd_p
 rw[e9 _ _ (by decide)];kd_p
 generalize (u*u+69621*k*k+k)=t
 have m3:=eJ (i:=t) (j:=2305843009213693951) (by decide)
 generalize t%2305843009213693951=q at m3 ⊢
 rw[kY q q (iM (by omega) (by omega)) (iM (by omega) (by omega))];kd_p
 rw[e9 _ _ (by decide)];kd_p
 exact⟨_,rfl,eJ (by decide)⟩
end LmA
open L2 DL Mir
namespace Lk31
open LmA
theorem zbN(f:DSt->R D)(Z:DSt):AH f Z=(f Z).bind AG:=rfl
def lD(i j:Str):Bool:=!(Builtin.Str.occurrences j i 0 j.length 1).isEmpty
def kept(z:Str):Bool:=gY (.str z) [.str "x",.str "rule",.str "times",.str "end"]
theorem zbO(z:Str):jQ (.str z) (.lst [.str "x",.str "rule",.str "times",.str "end"])=.ok (.bl (kept z)):=rfl
theorem zbP(z:Str):dE (.str z) (.tup [.str "x",.str "rule",.str "times",.str "end"])=.ok (.bl (!kept z)):=rfl
def cK(z:Str):Bool:=decide (1<=(z.length:Int))&&decide ((z.length:Int)<=8)&&(z.cps.toList.all fun c=>lD (iO c) "abcdefghijklmnopqrstuvwxyz") && !kept z
theorem zbQ{z:Str}(h:z.length<=1000):aW [.str z]=.ok (.int z.length):=by
 show (bif bD z.length then _ else _)=_
 rw[show bD z.length=true from xaf (xah h (by decide))];rfl
theorem A8(bs:List Bool):j8 [.lst (bs.map D.bl)]=.ok (.bl (bs.all id)):=by
 show rO (.lst (bs.map D.bl))=_
 simp only[rO,FO]
theorem zbR(z:Str):(i7 z).length=z.length:=by
 unfold i7
 rw[xab,xb2];rfl
def tD(z:Str):Bool:=decide (1<=(z.length:Int))&&decide ((z.length:Int)<=8)&&(z.cps.toList.all fun c=>lD (iO c) "abcdefghijklmnopqrstuvwxyz")
theorem zbS{z:Str}(h:z.length<=1000):pJ [.str z]=.ok (.bl (tD z)):=by
 rw[zaE];unfold vT;kd_p
 rw[show g2 bK [.str z,.ty "str"]=.ok (.bl true) from rfl];kd_p
 rw[zbQ h];kd_p
 rw[show vS=.int 8 from rfl];kd_p
 cases hc:(decide (1<=(z.length:Int))&&decide ((z.length:Int)<=8)) with
 |false=>
  kd_p
  unfold tD;rw[hc];rfl
 |true=>
  kd_p
  unfold LZ;kd_p
  rw[zbN];kd_p
  rw[show (R.ok (D.str z)).bind AG=.ok (i7 z) from rfl,nU (g:=fun d=>match d with|.str y=>.bl (lD y "abcdefghijklmnopqrstuvwxyz")|d=>d) (by rw[zbR];omega) (fun d hd=>?_)]
  ·kd_p
   rw[show (i7 z).map (fun d=>match d with|.str y=>D.bl (lD y "abcdefghijklmnopqrstuvwxyz")|d=>d)=(z.cps.toList.map fun c=>lD (iO c) "abcdefghijklmnopqrstuvwxyz").map D.bl from by unfold i7;rw[xbj,xbj];rfl,A8,List.all_map];kd_p
   unfold tD;rw[hc,xcw]
   rfl
  ·unfold i7 at hd
   obtain⟨c,_,rfl⟩:=xay.mp hd
   kd_p
   rfl
theorem N8{z:Str}(h:z.length<=1000):jT [.str z]=.ok (.bl (cK z)):=by
 rw[zaF];unfold vV;kd_p
 rw[zbS h]
 unfold cK
 rw[show (decide (1<=(z.length:Int))&&decide ((z.length:Int)<=8)&&(z.cps.toList.all fun c=>lD (iO c) "abcdefghijklmnopqrstuvwxyz"))=tD z from rfl]
 cases tD z with
 |false=>kd_p
 |true=>
  kd_p
  rw[show vU=.tup [.str "x",.str "rule",.str "times",.str "end"] from rfl,zbP];kd_p
end Lk31
open L2 DL Mir
open L2 DL Mir
open L2 DL Mir
namespace Lk42
open LmA
theorem eSl_to(fe f:DSt->R D)(Z:DSt)(ds:List D)(n:Nat)(h1:fe Z=.ok (.lst ds))(h2:f Z=.ok (.int (n:Int))):cC fe b7 (bG f) Z=.ok (.lst (ds.take n)):=by
 unfold cC b7 bG
 rw[h1,h2]
 show R.ok (D.lst (cX ds none (some (n:Int))))=_
 unfold cX
 rw[HT.sIx_none,HT.sIx_nat,List.drop_zero,Nat.sub_zero,<- List.take_eq_take_min]
end Lk42
open L2 DL Mir
namespace LmB
open LmA
theorem lc_mapP{α:Type}{xs:List α}{f:α->D}{e:DSt->R D}{Z:DSt}{g:α->D}(hl:xs.length<=1000000)(h:∀a∈xs,e (some (f a)::Z)=.ok (g a)):AD 1 [0] (.ok (xs.map f)) bX c9 e Z=.ok (xs.map g):=by
 have go:∀xs:List α,(∀a∈xs,e (some (f a)::Z)=.ok (g a))->iE [0] bX c9 e (List.replicate 1 none++Z) (xs.map f)=.ok (xs.map g):=by
  intro xs
  induction xs with
  |nil=>intro _;rfl
  |cons d ds ih=>
   intro h
   show (e (some (f d)::Z)).bind (fun y=>(iE [0] bX c9 e (List.replicate 1 none++Z) (ds.map f)).bind fun ys=>.ok (y::ys))=_
   rw[h d xaq,ih fun d' hd=>h d' (xae _ hd)];rfl
 show (bif most (xs.map f).length then _ else _)=_
 rw[o9 (by rw[xab];exact hl),go xs h];rfl
end LmB
open L2 DL Mir
open L2 DL Mir
open L2 DL Mir
open L2 DL Mir
open L2 DL Mir
open L2 DL Mir
open L2 DL Mir
open L2 DL Mir
open L2 DL Mir
namespace LmL
open LmA LmB
theorem eSl_to(fe f:DSt->R D)(Z:DSt)(ds:List D)(n:Nat)(h1:fe Z=.ok (.lst ds))(h2:f Z=.ok (.int (n:Int))):cC fe b7 (bG f) Z=.ok (.lst (ds.take n)):=Lk42.eSl_to fe f Z ds n h1 h2
theorem eSl_from(fe f:DSt->R D)(Z:DSt)(ds:List D)(n:Nat)(h1:fe Z=.ok (.lst ds))(h2:f Z=.ok (.int (n:Int))):cC fe (bG f) b7 Z=.ok (.lst (ds.drop n)):=by
 unfold cC b7 bG
 rw[h1,h2]
 show R.ok (D.lst (cX ds (some (n:Int)) none))=_
 unfold cX
 rw[HT.sIx_none,HT.sIx_nat]
 congr 2
 by_cases h:n<=ds.length
 ·rw[Nat.min_eq_left h,List.take_of_length_le (by rw[xbu];omega)]
 ·rw[Nat.min_eq_right (by omega),xct (by omega),xct (by omega)];simp
end LmL
open L2 DL Mir
namespace LmC
open LmA LmB
def cell(ns:List Int)(k:Nat):Int:=ns.getD k 0
theorem oA(ns:List Int)(k:Nat):fK [.lst (ns.map .int),.int (k:Int)]=.ok (.int (cell ns k)):=by
 rw[zaT];unfold wA L7;kd_p
 rw[xab]
 by_cases h:k<ns.length
 ·rw[xaf (by omega)];kd_p
  rw[jP (d:=.int ns[k]) (by simp[h])];kd_p
  simp[cell,h]
 ·rw[xag (by omega)];kd_p
  simp[cell,h]
end LmC
open L2 DL Mir
open L2 DL Mir
open L2 DL Mir
namespace LmW
open LmA LmB LmC
structure Dd where
 w:Bool
 a:Nat
 b:Nat
end LmW
open L2 DL Mir
namespace LmX
open LmA LmB LmC LmW
theorem eSl_mid(fe f g:DSt->R D)(Z:DSt)(ds:List D)(a b:Nat)(h1:fe Z=.ok (.lst ds))(h2:f Z=.ok (.int (a:Int)))(h3:g Z=.ok (.int (b:Int))):cC fe (bG f) (bG g) Z=.ok (.lst ((ds.drop (min a ds.length)).take (min b ds.length-min a ds.length))):=by
 unfold cC bG
 rw[h1,h2,h3]
 show R.ok (D.lst (cX ds (some (a:Int)) (some (b:Int))))=_
 unfold cX
 rw[HT.sIx_nat,HT.sIx_nat]
end LmX
open L2 DL Mir
open L2 DL Mir
namespace LmY
open LmA LmB LmW LmX TxtA
theorem N9{n:Nat}(h:n<10^70):iN [.int (n:Int)]=.ok (.str (aE (eD n))):=by
 show vJ (.int (n:Int))=_
 have hl:((n:Int)).natAbs.log2<1920:=by
  rw[Int.natAbs_natCast]
  have:n.log2<=n:=Nat.log2_le_self n
  by_cases h0:n=0
  ·rw[h0];decide
  ·exact(Nat.log2_lt h0).mpr (xau h (by decide))
 show (bif decide (((n:Int)).natAbs.log2<1920) then R.ok (D.str (toString ((n:Nat):Int))) else .bad)=_
 rw[xaf hl,cond_true]
 show R.ok (D.str (Str.ofString (toString ((n:Nat):Int))))=_
 rw[ofS]
theorem OA:∀ys:List Str,eN (ys.map D.str)=some ys
 |[]=>rfl
 |y::ys=>by
  show (eN (ys.map D.str)).map (y::·)=_
  rw[OA ys];rfl
theorem OB(z:Str)(ys:List Str):gC z ys=Str.join z ys:=by
 unfold gC
 split
 ·rfl
 ·exact StrLaws.glued_eq_join z ys
theorem zbT(z:Str)(ys:List Str):k6 z ys=(ys.map (·.length)).sum+ys.length*z.length:=StrLaws.joinTotal z ys
theorem join_ok{y:List Nat}{rows:List (List Nat)}{B:Nat}(hB:∀r∈rows,r.length<=B)(h:rows.length*B+rows.length*y.length<=10000000):fA (.str (aE y)) (.lst ((rows.map aE).map D.str))=.ok (.str (aE (TxtA.flat y rows))):=by
 have lo:∀l:List Nat,(aE l).length=l.length:=fun l=>by simp[aE,Str.length]
 have h1:k6 (aE y) (rows.map aE)<=10000000:=by
  rw[zbT,lo,xab]
  have:=StrLaws.sumLen_le (B:=B) (rows.map aE) (fun s hs=>by obtain⟨r,hr,rfl⟩:=xay.mp hs;rw[lo];exact hB r hr)
  rw[xab] at this
  omega
 have h2:(gC (aE y) (rows.map aE)).length<=10000000:=by
  rw[OB,yE,lo]
  have fl:∀rows:List (List Nat),(∀r∈rows,r.length<=B)->(TxtA.flat y rows).length<=rows.length*B+rows.length*y.length:=by
   intro rows
   induction rows with
   |nil=>intro _;simp[TxtA.flat]
   |cons r rs ih=>
    intro hr
    cases rs with
    |nil=>have:=hr r (by simp);simp[TxtA.flat];omega
    |cons r' rs=>
     have a1:=hr r (by simp)
     have a2:=ih fun q hq=>hr q (xae _ hq)
     rw[TxtA.flat]
     simp only[xaa,xad] at a2 ⊢
     rw[Nat.add_mul (rs.length+1) 1 B,Nat.add_mul (rs.length+1) 1 y.length]
     omega
  exact xah (fl rows hB) h
 unfold fA
 simp only[OA]
 rw[show (bD (k6 (aE y) (rows.map aE))&&bD (gC (aE y) (rows.map aE)).length)=true from by
  rw[xap];exact⟨xaf (xah h1 (by decide)),xaf (xah h2 (by decide))⟩,cond_true,OB,yE]
theorem wT(y:List Nat){B:Nat}:∀rows:List (List Nat),(∀r∈rows,r.length<=B)->(TxtA.flat y rows).length<=rows.length*B+rows.length*y.length
 |[],_=>by simp[TxtA.flat]
 |[r],h=>by have:=h r (by simp);simp[TxtA.flat];omega
 |r::r'::rs,h=>by
  have a1:=h r (by simp)
  have a2:=wT y (r'::rs) fun q hq=>h q (xae _ hq)
  rw[TxtA.flat]
  simp only[xaa,xad] at a2 ⊢
  rw[Nat.add_mul (rs.length+1) 1 B,Nat.add_mul (rs.length+1) 1 y.length]
  omega
theorem OC{y:List Nat}{c:Nat}:∀{rows:List (List Nat)},c∈TxtA.flat y rows->c∈y\/∃r∈rows,c∈r
 |[],h=>by simp[TxtA.flat] at h
 |[r],h=>.inr ⟨r,by simp,by simpa [TxtA.flat] using h⟩
 |r::r'::rs,h=>by
  rw[TxtA.flat] at h
  simp only[xa1] at h
  rcases h with (h|h)|h
  ·exact .inr ⟨r,by simp,h⟩
  ·exact .inl h
  ·rcases OC h with h|⟨q,hq,hc⟩
   ·exact .inl h
   ·exact .inr ⟨q,xae _ hq,hc⟩
theorem zbU{c:Nat}{t:List Nat}{rows:List (List Nat)}(hc:c∉t)(hk:∀k∈c::t,k<256)(hne:rows≠[])(hr:∀r∈rows,c∉r)(hl:(TxtA.flat (c::t) rows).length<=10000000):g6 (.str (aE (TxtA.flat (c::t) rows))) (.str (aE (c::t)))=.ok ((rows.map aE).map D.str):=by
 have lo:∀l:List Nat,(aE l).length=l.length:=fun l=>by simp[aE,Str.length]
 unfold g6
 show (bif (!((aE (c::t)).length==0))&&bD ((aE (TxtA.flat (c::t) rows)).length+2) then R.ok ((Txt.split _ _).map D.str) else .bad)=_
 rw[V2 hc hk hne hr,lo,lo]
 rw[show (!((c::t).length==0)&&bD ((TxtA.flat (c::t) rows).length+2))=true from by
  rw[xap];exact⟨by simp,xaf (by show _<=16777216;omega)⟩,cond_true]
end LmY
open L2 DL Mir
namespace LmWa
open LmA LmY TxtA
theorem wU(c:Int)(N:Nat)(hN:N<=1000):∃ns:List Int,dF [.int c,.int (N:Int)]=.ok (.lst (ns.map .int))/\ns.length=N/\∀n∈ns,0<=n/\n<1000000:=by
 rw[zaV];unfold wC;kd_p
 unfold MG;walk_at "evd"
 unfold MF;walk_at "evd"
 rw[xbm]
 have turn:∀(j:Nat) (d:D) (Z:DSt),(cH 0 N)[j]? = some d->(∃(ns:List Int) (v:Int) (a:Option D),Z=[some (.int c),some (.int (N:Int)),some (.lst (ns.map .int)),some (.int v),a]/\ns.length=j/\∀n∈ns,0<=n/\n<1000000)->∃Z',(sV (Z.set 4 (some d))=.ok (.nx Z')\/sV (Z.set 4 (some d))=.ok (.ct Z'))/\∃(ns:List Int) (v:Int) (a:Option D),Z'=[some (.int c),some (.int (N:Int)),some (.lst (ns.map .int)),some (.int v),a]/\ns.length=j+1/\∀n∈ns,0<=n/\n<1000000:=by
  rintro j d Z hd ⟨ns,v,a,rfl,hl,hb⟩
  have hj:j<N:=by
   have:=(xan.mp hd).1
   simpa [cH] using this
  obtain rfl:d=.int (j:Int):=by
   unfold cH at hd
   rw[xbl,xb3 hj] at hd
   simpa using hd.symm
  have put:∀x:Int,0<=x->x<1000000->(ns++[x]).length=j+1/\∀n∈ns++[x],0<=n/\n<1000000:=fun x h0 h1=>by
   refine⟨by simp[hl],fun n hn=>?_⟩
   rcases xa1.mp hn with hn|hn
   ·exact hb n hn
   ·rw[xbc.mp hn];exact⟨h0,h1⟩
  unfold sV;walk_at "evd"
  obtain⟨k,hk⟩:∃k,vA (.ok (decide (c%2=0))) (aK (aC fI (aB 3) (eC (.int 0)))) [some (.int c),some (.int (N:Int)),some (.lst (ns.map .int)),some (.int v),some (.int (j:Int))]=.ok k:=by
   cases decide (c%2=0)
   ·exact⟨_,rfl⟩
   ·kd_p;exact⟨_,rfl⟩
  rw[hk]
  cases k with
  |true=>
   kd_p
   unfold MC;walk_at "evd"
   have e:=eJ (i:=v) (j:=10^6) (by decide)
   unfold MB;walk_at "evd"
   obtain⟨p1,p2⟩:=put (v%10^6) (by omega) (by omega)
   exact⟨_,.inl rfl,ns++[v%10^6],v/10^6,some (.int (j:Int)),by rw[xav];rfl,p1,p2⟩
  |false=>
   kd_p
   obtain⟨r,er,r0,r1⟩:=N7 c (j:Int) (by omega) (by omega)
   rw[er];walk_at "evd"
   have e:=eJ (i:=r) (j:=10^6) (by decide)
   obtain⟨p1,p2⟩:=put (r%10^6) (by omega) (by omega)
   exact⟨_,.inl rfl,ns++[r%10^6],v,some (.int (j:Int)),by rw[xav];rfl,p1,p2⟩
 obtain⟨Z',e,ns,v,a,rfl,hl,hb⟩:=o8 (i:=4) (fb:=sV) _ _ turn [some (.int c),some (.int (N:Int)),some (.lst []),some (.int (c/2)),none] ⟨[],c/2,none,rfl,rfl,by simp⟩
 rw[e];kd_p
 unfold ME;kd_p
 exact⟨ns,rfl,by rw[hl];simp[cH],hb⟩
end LmWa
open L2 DL Mir
open L2 DL Mir
open L2 DL Mir
namespace LmDa
open LmA LmY Lk31 Rdr TxtA
mutual
inductive Rw
 |cross (n a b c d:Str)
 |rule (n f:Str) (as:List Str)
 |times (k:Nat) (rs:Rws)
inductive Rws
 |nil
 |cons (r:Rw) (rs:Rws)
end
mutual
def Rw.d:Rw->D
 |.cross n a b c d=>.tup [.str "cross",.str n,.str a,.str b,.str c,.str d]
 |.rule n f as=>.tup [.str "rule",.str n,.str f,.tup (as.map .str)]
 |.times k rs=>.tup [.str "times",.int (k:Int),.tup (Rws.ds rs)]
def Rws.ds:Rws->List D
 |.nil=>[]
 |.cons r rs=>Rw.d r::Rws.ds rs
end
def bE(k:Nat):Str:=aE (eD k)
mutual
def Rw.wd:Rw->List (List Str)
 |.cross n a b c d=>[[n,"=",a,b,"x",c,d]]
 |.rule n f as=>[[n,"=",f]++as]
 |.times k rs=>["times",bE k]::(Rws.wds rs++[(["end"]:List Str)])
def Rws.wds:Rws->List (List Str)
 |.nil=>[]
 |.cons r rs=>Rw.wd r++Rws.wds rs
end
abbrev wD(ws:List Str):D:=.lst (ws.map .str)
def Nm(x:Str):Prop:=cK x=true/\x.length<=1000
theorem names_ok{d:D}{xs:List Str}(hd:d=.lst (xs.map .str)\/d=.tup (xs.map .str))(hl:xs.length<=1000)(h:∀x∈xs,Nm x):gR [d]=.ok .non:=by
 rw[L3];unfold sJ
 have e1:dN 1 [0] (dJ (aB 0)) bX c9 (aR jT (aA (aB 0) aD)) [some d]=.ok (xs.map fun _=>D.bl true):=by
  rw[l9,show dJ (aB 0) [some d]=.ok (xs.map .str) from by rcases hd with rfl|rfl<;>rfl]
  rw[nU (g:=fun _=>D.bl true) (by rw[xab];omega) (fun d hd=>?_),xbj]
  ·rfl
  ·obtain⟨x,hx,rfl⟩:=xay.mp hd
   show jT [.str x]=_
   rw[N8 (h x hx).2,(h x hx).1]
 have e2:j8 [.lst (xs.map fun _=>D.bl true)]=.ok (.bl true):=by
  rw[show (xs.map fun _=>D.bl true)=(xs.map fun _=>true).map D.bl from by rw[xbj];rfl,A8]
  congr 2
  rw[xa2]
  intro b hb
  obtain⟨_,_,rfl⟩:=xay.mp hb
  rfl
 have e3:dI (aK (aJ j8 (aA (aL (dN 1 [0] (dJ (aB 0)) bX c9 (aR jT (aA (aB 0) aD)))) aD))) [some d]=.ok false:=by
  rw[j9,dQ,lZ,cE,gX,e1]
  show kX (c7 (j8 [.lst (xs.map fun _=>D.bl true)]).noerr)=_
  rw[e2];rfl
 rw[eM,e3];rfl
theorem pW{x y:Str}(h:Nm x)(hy:cK y=false):x≠y:=fun e=>by
 have z:=h.1
 rw[e,hy] at z
 cases z
theorem gD{rows:List D}{pre rest:List D}{w:D}(h:rows=pre++w::rest):cL rows (pre.length:Int)=w:=by
 unfold cL
 rw[h,xbm,xa9,xbe (xak _),Nat.sub_self];rfl
section
variable{t:TF}{f g:RF}{ef:EF}{rows:List D}{τ:DSt}{n n':Int}{d:D}{j:Nat}{ft:DSt->R Bool}{fe:DSt->R D}{b:Bool}
theorem dM(ht:t rows τ n=.ok (false,n')):rSeq (rIf t f rNext) g rows τ n=g rows τ n':=by unfold rSeq rIf;rw[ht];rfl
theorem OD(ht:t rows τ n=.ok (true,n')){x:D}{k:Int}(hf:f rows τ n'=.ok (.rt x k)):rSeq (rIf t f rNext) g rows τ n=.ok (.rt x k):=by
 unfold rSeq rIf;rw[ht]
 show ((f rows τ n').bind _)=_
 rw[hf];rfl
theorem fV(hf:ef rows τ n=.ok (d,n')):rSeq (rSet j ef) g rows τ n=g rows (τ.set j (some d)) n':=by unfold rSeq rSet;rw[hf];rfl
theorem oB(hf:ef rows τ n=.ok (d,n')):rSeq (rExpr ef) g rows τ n=g rows τ n':=by unfold rSeq rExpr;rw[hf];rfl
theorem b8(ht:ft τ=.ok b):rTst ft rows τ n=.ok (b,n):=by unfold rTst;rw[ht];rfl
theorem jD(he:fe τ=.ok d):rPure fe rows τ n=.ok (d,n):=by unfold rPure;rw[he];rfl
end
theorem pX(x y:Str):a6 (.str x) (.str y)=.ok (.bl (decide (x=y))):=by
 show R.ok (D.bl (bC (.str x) (.str y)))=_
 unfold bC;rfl
theorem neS(x y:Str):bR (.str x) (.str y)=.ok (.bl (!decide (x=y))):=by
 show R.ok (D.bl (!bC (.str x) (.str y)))=_
 unfold bC;rfl
theorem A9(m:RM){rows pre rest:List D}{n a b c d:Str}(h:rows=pre++wD [n,"=",a,b,"x",c,d]::rest)(hn:Nm n)(ha:Nm a)(hb:Nm b)(hc:Nm c)(hd:Nm d)(wi:Int) :
  hJ m rows (pre.length:Int) [.non,.int wi]=.ok ((Rw.cross n a b c d).d,(pre.length:Int)+1):=by
 show (iQ m rows [none,some (.int wi),none,none] (pre.length:Int)).bind cS=_
 have nt:n≠"times":=pW hn (by decide +kernel)
 have e0:iQ m rows [none,some (.int wi),none,none] (pre.length:Int)=jB m rows [none,some (.int wi),some (wD [n,"=",a,b,"x",c,d]),none] ((pre.length:Int)+1):=by
  unfold iQ
  rw[fV (d:=wD [n,"=",a,b,"x",c,d]) (n':=(pre.length:Int)+1) (by unfold rTake;rw[gD h])];rfl
 have t1:aK (aC a6 (aC aF (aB 2) (eC (.int 0))) (eC (.str "times"))) [none,some (.int wi),some (wD [n,"=",a,b,"x",c,d]),none]=.ok false:=by
  show c7 (a6 (.str n) (.str "times"))=_
  rw[pX,xag nt];rfl
 have t2:dY (aK (aC gA (aJ aW (aA (aB 2) aD)) (eC (.int 4)))) (aK (aC bR (aC aF (aB 2) (eC (.int 1))) (eC (.str "=")))) [none,some (.int wi),some (wD [n,"=",a,b,"x",c,d]),none]=.ok false:=by rfl
 have t3:gH (aK (aC a6 (aJ aW (aA (aB 2) aD)) (eC (.int 7)))) (aK (aC a6 (aC aF (aB 2) (eC (.int 4))) (eC (.str "x")))) [none,some (.int wi),some (wD [n,"=",a,b,"x",c,d]),none]=.ok true:=by rfl
 have l1:gR [.tup [.str n,.str a,.str b,.str c,.str d]]=.ok .non:=names_ok (xs:=[n,a,b,c,d]) (.inr rfl) (by show 5<=1000;decide) (fun x hx=>by
  simp only[xal,xbk,or_false] at hx
  rcases hx with rfl|rfl|rfl|rfl|rfl<;>assumption)
 rw[e0]
 unfold jB
 rw[dM (b8 t1)]
 unfold mI
 rw[dM (b8 t2)]
 unfold sN
 rw[OD (b8 t3) (x:=(Rw.cross n a b c d).d) (k:=(pre.length:Int)+1) ?_]
 ·rfl
 ·unfold AW
  rw[fV (d:=.tup [.str n,.str a,.str b,.str c,.str d]) (n':=(pre.length:Int)+1) (jD (by rfl))]
  unfold AV
  rw[oB (d:=.non) (n':=(pre.length:Int)+1) (jD (by exact l1))]
  unfold Rw.d
  rfl
theorem BA(m:RM){rows pre rest:List D}{n f a:Str}{as:List Str}(h:rows=pre++wD (n::"="::f::a::as)::rest)(hn:Nm n)(hf:Nm f)(ha:∀x∈a::as,Nm x)(hl:as.length<=900)(wi:Int) :
  hJ m rows (pre.length:Int) [.non,.int wi]=.ok ((Rw.rule n f (a::as)).d,(pre.length:Int)+1):=by
 show (iQ m rows [none,some (.int wi),none,none] (pre.length:Int)).bind cS=_
 have nt:n≠"times":=pW hn (by decide +kernel)
 have e0:iQ m rows [none,some (.int wi),none,none] (pre.length:Int)=jB m rows [none,some (.int wi),some (wD (n::"="::f::a::as)),none] ((pre.length:Int)+1):=by
  unfold iQ
  rw[fV (d:=wD (n::"="::f::a::as)) (n':=(pre.length:Int)+1) (by unfold rTake;rw[gD h])];rfl
 have ix:∀(k:Nat) (d:D),((n::"="::f::a::as).map D.str)[k]? = some d->aC aF (aB 2) (eC (.int (k:Int))) [none,some (.int wi),some (wD (n::"="::f::a::as)),none]=.ok d:=fun k d hd=>jP hd
 have i0:aC aF (aB 2) (eC (.int 0)) [none,some (.int wi),some (wD (n::"="::f::a::as)),none]=.ok (.str n):=ix 0 _ rfl
 have i1:aC aF (aB 2) (eC (.int 1)) [none,some (.int wi),some (wD (n::"="::f::a::as)),none]=.ok (.str "="):=ix 1 _ rfl
 have i2:aC aF (aB 2) (eC (.int 2)) [none,some (.int wi),some (wD (n::"="::f::a::as)),none]=.ok (.str f):=ix 2 _ rfl
 have t1:aK (aC a6 (aC aF (aB 2) (eC (.int 0))) (eC (.str "times"))) [none,some (.int wi),some (wD (n::"="::f::a::as)),none]=.ok false:=by
  rw[dQ,bS,i0]
  show c7 (a6 (.str n) (.str "times"))=_
  rw[pX,xag nt];rfl
 have hlen:aJ aW (aA (aB 2) aD) [none,some (.int wi),some (wD (n::"="::f::a::as)),none]=.ok (.int ((as.length+4:Nat):Int)):=by
  show R.ok (D.int (((n::"="::f::a::as).map D.str).length:Int))=_
  rw[xab];rfl
 have t2:dY (aK (aC gA (aJ aW (aA (aB 2) aD)) (eC (.int 4)))) (aK (aC bR (aC aF (aB 2) (eC (.int 1))) (eC (.str "=")))) [none,some (.int wi),some (wD (n::"="::f::a::as)),none]=.ok false:=by
  have e:aK (aC gA (aJ aW (aA (aB 2) aD)) (eC (.int 4))) [none,some (.int wi),some (wD (n::"="::f::a::as)),none]=.ok false:=by
   rw[dQ,bS,hlen]
   show R.ok (decide (((as.length+4:Nat):Int)<4))=_
   rw[xag (by omega)]
  rw[fJ,e,gO,dQ,bS,i1];rfl
 have t3:gH (aK (aC a6 (aJ aW (aA (aB 2) aD)) (eC (.int 7)))) (aK (aC a6 (aC aF (aB 2) (eC (.int 4))) (eC (.str "x")))) [none,some (.int wi),some (wD (n::"="::f::a::as)),none]=.ok false:=by
  have e:aK (aC a6 (aJ aW (aA (aB 2) aD)) (eC (.int 7))) [none,some (.int wi),some (wD (n::"="::f::a::as)),none]=.ok (decide (((as.length+4:Nat):Int)=7)):=by
   rw[dQ,bS,hlen];rfl
  rw[l5,e]
  by_cases h7:((as.length+4:Nat):Int)=7
  ·rw[xaf h7,o4]
   obtain⟨b,hb⟩:∃b,as[0]? = some b:=⟨as[0]'(by omega),xax (by omega)⟩
   have i4:aC aF (aB 2) (eC (.int 4)) [none,some (.int wi),some (wD (n::"="::f::a::as)),none]=.ok (.str b):=ix 4 _ (by
    show ((as.map D.str)[0]?)=_
    rw[xbl,hb];rfl)
   rw[dQ,bS,i4]
   show c7 (a6 (.str b) (.str "x"))=_
   rw[pX,xag (pW (ha b (xae _ (xbt hb))) (by decide +kernel))];rfl
  ·rw[xag h7];rfl
 have sl:∀(k:Nat),cC (aB 2) (bG (eC (.int (k:Int)))) b7 [none,some (.int wi),some (wD (n::"="::f::a::as)),none]=.ok (.lst (((n::"="::f::a::as).map D.str).drop k)):=fun k=>LmL.eSl_from _ _ _ _ k rfl rfl
 have hadd:aI (.lst [.str n]) (.lst ((f::a::as).map D.str))=.ok (.lst ((n::f::a::as).map D.str)):=by
  show (bif bD (1+((f::a::as).map D.str).length) then R.ok (D.lst (.str n::(f::a::as).map D.str)) else .bad)=_
  rw[show bD (1+((f::a::as).map D.str).length)=true from xaf (by rw[xab,xad,xad];exact xah (show _<=1000 by omega) (by decide))];rfl
 have l1:gR [.lst ((n::f::a::as).map .str)]=.ok .non:=names_ok (.inl rfl) (by rw[xad,xad,xad];omega) (fun x hx=>by
  rcases xal.mp hx with rfl|hx
  ·exact hn
  ·rcases xal.mp hx with rfl|hx
   ·exact hf
   ·exact ha x hx)
 rw[e0]
 unfold jB
 rw[dM (b8 t1)]
 unfold mI
 rw[dM (b8 t2)]
 unfold sN
 rw[dM (b8 t3)]
 unfold AX
 rw[oB (d:=.non) (n':=(pre.length:Int)+1) (jD ?_)]
 ·unfold L5
  have e5:bQ (aA (eC (.str "rule")) (aA (aC aF (aB 2) (eC (.int 0))) (aA (aC aF (aB 2) (eC (.int 2))) (aA (aJ iK (aA (cC (aB 2) (bG (eC (.int 3))) b7) aD)) aD)))) [none,some (.int wi),some (wD (n::"="::f::a::as)),none]=.ok (Rw.rule n f (a::as)).d:=by
   have e6:aJ iK (aA (cC (aB 2) (bG (eC (.int 3))) b7) aD) [none,some (.int wi),some (wD (n::"="::f::a::as)),none]=.ok (.tup ((a::as).map .str)):=by
    rw[lZ,cE,show cC (aB 2) (bG (eC (.int 3))) b7 [none,some (.int wi),some (wD (n::"="::f::a::as)),none]=_ from sl 3];rfl
   unfold Rw.d
   rw[nP,cE,cE,cE,cE,i0,i2,e6];rfl
  show (rRet (rPure _) rows [none,some (.int wi),some (wD (n::"="::f::a::as)),none] _).bind cS=_
  unfold rRet
  rw[jD e5];rfl
 ·rw[jN,cE,bS,show cC (aB 2) (bG (eC (.int 2))) b7 [none,some (.int wi),some (wD (n::"="::f::a::as)),none]=_ from sl 2,show aL (aP (aA (aC aF (aB 2) (eC (.int 0))) aD)) [none,some (.int wi),some (wD (n::"="::f::a::as)),none]=.ok (.lst [.str n]) from by rw[gX,o0,cE,i0];rfl,cD,show ((n::"="::f::a::as).map D.str).drop 2=(f::a::as).map D.str from rfl,hadd]
  exact l1
end LmDa
open L2 DL Mir
namespace LmDb
open LmA LmY Lk31 Rdr TxtA LmDa
abbrev ends:D:=.tup [.lst [],.lst [.str "end"]]
theorem BB(ws:List Str):bN 9 (wD ws)=true:=by
 rw[show bN 9 (wD ws)=(ws.map D.str).all (bN 8) from by unfold bN;rfl,xa2]
 intro d hd
 obtain⟨x,_,rfl⟩:=xay.mp hd
 rfl
theorem wV(ws:List Str):dE (wD ws) ends=.ok (.bl (!gY (wD ws) [.lst [],.lst [.str "end"]])):=by
 show (bif eI (wD ws) [.lst [],.lst [.str "end"]] then R.ok (D.bl (!gY (wD ws) [.lst [],.lst [.str "end"]])) else .bad)=_
 rw[show eI (wD ws) [.lst [],.lst [.str "end"]]=true from by unfold eI;rw[BB];rfl];rfl
theorem zbV(x y:Str)(zs:List Str):dE (wD (x::y::zs)) ends=.ok (.bl true):=by
 rw[wV]
 congr 2
 unfold gY
 simp[bC,eqDs]
theorem zbW:dE (wD []) ends=.ok (.bl false):=by rw[wV];rfl
theorem zbX:dE (wD ["end"]) ends=.ok (.bl false):=by rw[wV];rfl
abbrev hU:TF:=rCmp dE rAhead (bQ (aA (aL (aP aD)) (aA (aL (aP (aA (eC (.str "end")) aD))) aD)))
theorem wW{rows:List D}{τ:DSt}{n:Int}{ws:List Str}{b:Bool}(h:cL rows n=wD ws)(hb:dE (wD ws) ends=.ok (.bl b)):hU rows τ n=.ok (b,n):=by
 show ((dE (cL rows n) ends).bind fun z=>(fG z).bind fun b=>R.ok (b,n))=_
 rw[h,hb];rfl
def wX(rest:List D):Prop:=rest=[]\/∃r,rest=wD ["end"]::r
theorem BC{rows pre rest:List D}{τ:DSt}(h:rows=pre++rest)(hs:wX rest):hU rows τ (pre.length:Int)=.ok (false,(pre.length:Int)):=by
 rcases hs with rfl|⟨r,rfl⟩
 ·refine wW (ws:=[]) ?_ zbW
  unfold cL
  rw[h,xbm,xa8,xa9,xbx (xak _)];rfl
 ·exact wW (gD h) zbX
def Rws.All(P:Rw->Prop):Rws->Prop
 |.nil=>True
 |.cons r rs=>P r/\Rws.All P rs
def Rws.len:Rws->Nat
 |.nil=>0
 |.cons _ rs=>Rws.len rs+1
def Rd(m:RM)(rows:List D)(wi:Int)(r:Rw):Prop:=∀pre rest:List D,rows=pre++((Rw.wd r).map wD++rest)->m rows (pre.length:Int) [.non,.int wi]=.ok (Rw.d r,((pre.length+(Rw.wd r).length:Nat):Int))
theorem OF{m:RM}{rows:List D}{wi:Int}{a0:Option D}:∀(rs:Rws) (pre rest xs:List D) (k:Nat),rows=pre++((Rws.wds rs).map wD++rest)->wX rest->Rws.All (Rd m rows wi) rs->xs.length+Rws.len rs<=3000->Rws.len rs<k->
  bL hU (rCall m (aHere (aA (aB 1) aD))) rows [a0,some (.int wi),none] k (pre.length:Int) xs=.ok (xs++Rws.ds rs,((pre.length+(Rws.wds rs).length:Nat):Int))
 |.nil,pre,rest,xs,k,h,hs,_,_,hk=>by
  obtain⟨k,rfl⟩:∃j,k=j+1:=⟨k-1,by have:0<k:=hk;omega⟩
  unfold bL
  rw[BC (τ:=[a0,some (.int wi),none]) (show rows=pre++rest from h) hs]
  show R.ok (xs,(pre.length:Int))=_
  unfold Rws.ds Rws.wds
  rw[xa8,xbi,Nat.add_zero]
 |.cons r rs,pre,rest,xs,k,h,hs,ha,hl,hk=>by
  have hl:xs.length+(Rws.len rs+1)<=3000:=hl
  have hk:Rws.len rs+1<k:=hk
  obtain⟨k,rfl⟩:∃j,k=j+1:=⟨k-1,by omega⟩
  have hw:Rws.wds (.cons r rs)=Rw.wd r++Rws.wds rs:=by rw[Rws.wds]
  have hds:Rws.ds (.cons r rs)=Rw.d r::Rws.ds rs:=by rw[Rws.ds]
  have h1:rows=pre++((Rw.wd r).map wD++((Rws.wds rs).map wD++rest)):=by rw[h,hw,xav,xar]
  obtain⟨x,y,zs,t,ew⟩:∃x y zs t,Rw.wd r=(x::y::zs)::t:=by
   cases r with
   |cross n a b c d=>exact⟨n,"=",[a,b,"x",c,d],[],by unfold Rw.wd;rfl⟩
   |rule n f as=>exact⟨n,"=",f::as,[],by unfold Rw.wd;rfl⟩
   |times k rs=>exact⟨"times",bE k,[],_,by unfold Rw.wd;rfl⟩
  have hah:cL rows (pre.length:Int)=wD (x::y::zs):=gD (rest:=t.map wD++((Rws.wds rs).map wD++rest)) (by rw[h1,ew];rfl)
  have hr:=ha.1 pre _ h1
  unfold bL
  rw[wW hah (zbV x y zs)]
  show ((m rows (pre.length:Int) [.non,.int wi]).bind fun x=>bif most xs.length then bL hU (rCall m (aHere (aA (aB 1) aD))) rows [a0,some (.int wi),none] k x.2 (xs++[x.1]) else .bad)=_
  rw[hr]
  show (bif most xs.length then bL hU (rCall m (aHere (aA (aB 1) aD))) rows [a0,some (.int wi),none] k ((pre.length+(Rw.wd r).length:Nat):Int) (xs++[Rw.d r]) else .bad)=_
  rw[o9 (by omega),cond_true]
  have ih:=OF (a0:=a0) rs (pre++(Rw.wd r).map wD) rest (xs++[Rw.d r]) k (by rw[h1,xar]) hs ha.2 (by rw[xaa];show xs.length+1+_<=_;omega) (by omega)
  rw[xaa,xab] at ih
  rw[ih,hw,hds,xaa,xar,Nat.add_assoc]
  rfl
end LmDb
open L2 DL Mir
namespace LmDc
open LmA LmY Lk31 Rdr TxtA LmDa LmDb
theorem OG{m:RM}{rows:List D}{wi:Int}{r:Rw}{rs:Rws}{pre rest:List D}(h:rows=pre++((Rws.wds (.cons r rs)).map wD++rest))(hs:wX rest)(ha:Rws.All (Rd m rows wi) (.cons r rs))(hl:Rws.len (.cons r rs)<=3000) :
  pK m rows (pre.length:Int) [.non,.int wi]=.ok (.tup (Rws.ds (.cons r rs)),((pre.length+(Rws.wds (.cons r rs)).length:Nat):Int)):=by
 have hc:=OF (a0:=none) (.cons r rs) pre rest [] (Rws.len (.cons r rs)+1) h hs ha (by simpa using hl) (xb5 _)
 have hds:Rws.ds (.cons r rs)=Rw.d r::Rws.ds rs:=by rw[Rws.ds]
 rw[xbq] at hc
 show (vY m rows [none,some (.int wi),none] (pre.length:Int)).bind cS=_
 have e1:vY m rows [none,some (.int wi),none] (pre.length:Int)=mJ m rows [none,some (.int wi),some (.lst (Rws.ds (.cons r rs)))] ((pre.length+(Rws.wds (.cons r rs)).length:Nat):Int):=by
  show (lB hU (rCall m (aHere (aA (aB 1) aD))) rows [none,some (.int wi),none] (pre.length:Int)).bind _=_
  rw[nW hc (by simp)];rfl
 rw[e1]
 have t1:aK (aC a6 (aJ aW (aA (aB 2) aD)) (eC (.int 0))) [none,some (.int wi),some (.lst (Rws.ds (.cons r rs)))]=.ok false:=by
  rw[hds]
  show R.ok (decide (((Rw.d r::Rws.ds rs).length:Int)=0))=_
  rw[xag (by rw[xad];omega)]
 unfold mJ
 rw[dM (b8 t1)]
 rfl
theorem BD{rows pre rest:List D}(h:rows=pre++wD ["end"]::rest):gT rows (pre.length:Int) [.non]=.ok (.non,(pre.length:Int)+1):=by
 show (sK rows [none] (pre.length:Int)).bind cS=_
 unfold sK rIf
 have t:rCmp bR rTake (aL (aP (aA (eC (.str "end")) aD))) rows [none] (pre.length:Int)=.ok (false,(pre.length:Int)+1):=by
  show ((bR (cL rows (pre.length:Int)) (.lst [.str "end"])).bind fun z=>(fG z).bind fun b=>R.ok (b,(pre.length:Int)+1))=_
  rw[gD h];rfl
 rw[t];rfl
theorem OH(k:Nat)(hk:k<=60)(τ:DSt):dN 1 [0] (fP eX (aA (aC aI (eC nX) (eC (.int 1))) aD)) bX c9 (aJ iN (aA (aB 0) aD)) τ=.ok ((List.range 61).map fun i=>D.str (bE i)):=by
 rw[l9,show fP eX (aA (aC aI (eC nX) (eC (.int 1))) aD) τ=.ok ((List.range 61).map fun i:Nat=>D.int (i:Int)) from rfl]
 rw[nU (g:=fun d=>match d with|.int i=>.str (bE i.toNat)|d=>d) (by simp) (fun d hd=>?_),xbj]
 ·rfl
 ·obtain⟨i,hi,rfl⟩:=xay.mp hd
  show (iN [.int (i:Int)]).noerr=_
  rw[N9 (xau (xb9.mp hi) (by decide))];rfl
theorem zbY{k:Nat}(hk:k<=60):sC [.str (bE k)]=.ok (.int (k:Int)):=by
 have hk':k<10^10:=by omega
 have lo:=yF (by decide) hk'
 show pC (.str (aE (eD k)))=_
 unfold pC
 simp only[V7 (xau hk' (by decide))]
 rw[show decide ((aE (eD k)).length<=640)=true from xaf (by show (eD k).toArray.size<=640;rw[xao];omega)];rfl
theorem zbZ{k:Nat}(hk:k<=60):dE (.str (bE k)) (.lst ((List.range 61).map fun i=>D.str (bE i)))=.ok (.bl false):=by
 rw[K1 (by
  unfold eI
  rw[xap,xa2]
  refine⟨rfl,fun d hd=>?_⟩
  obtain⟨i,_,rfl⟩:=xay.mp hd
  rfl)]
 congr 2
 unfold gY
 rw[Bool.not_eq_false',List.any_eq_true]
 exact⟨_,xay.mpr ⟨k,xb9.mpr (by omega),rfl⟩,by unfold bC;simp⟩
theorem OI{m:RM}{rows pre rest:List D}{k:Nat}{rs:Rws}{wi:Int}(hk:k<=60)(hw:wi≠4)(h:rows=pre++((Rws.wds rs).map wD++wD ["end"]::rest))(hr:m rows (pre.length:Int) [.non,.int (wi+1)]=.ok (.tup (Rws.ds rs),((pre.length+(Rws.wds rs).length:Nat):Int))) :
  fC m rows (pre.length:Int) [wD ["times",bE k],.non,.int wi]=.ok ((Rw.times k rs).d,((pre.length+(Rws.wds rs).length+1:Nat):Int)):=by
 show (mH m rows [some (wD ["times",bE k]),none,some (.int wi),none] (pre.length:Int)).bind cS=_
 have t1:aK (aC a6 (aB 2) (eC sL)) [some (wD ["times",bE k]),none,some (.int wi),none]=.ok false:=by
  show R.ok (decide (wi=4))=_
  rw[xag hw]
 have t2:dY (aK (aC bR (aJ aW (aA (aB 0) aD)) (eC (.int 2)))) (aK (aC dE (aC aF (aB 0) (eC (.int 1))) (aL (dN 1 [0] (fP eX (aA (aC aI (eC nX) (eC (.int 1))) aD)) bX c9 (aJ iN (aA (aB 0) aD)))))) [some (wD ["times",bE k]),none,some (.int wi),none]=.ok false:=by
  rw[fJ,show aK (aC bR (aJ aW (aA (aB 0) aD)) (eC (.int 2))) [some (wD ["times",bE k]),none,some (.int wi),none]=.ok false from rfl,gO,dQ,bS,gX,OH k hk]
  show c7 (dE (.str (bE k)) (.lst ((List.range 61).map fun i=>D.str (bE i))))=_
  rw[zbZ hk];rfl
 have he:gT rows ((pre.length+(Rws.wds rs).length:Nat):Int) [.non]=.ok (.non,((pre.length+(Rws.wds rs).length+1:Nat):Int)):=by
  have:=BD (rows:=rows) (pre:=pre++(Rws.wds rs).map wD) (rest:=rest) (by rw[h,xar])
  rw[xaa,xab] at this
  exact this
 unfold mH
 rw[dM (b8 t1)]
 unfold sM
 rw[dM (b8 t2)]
 unfold vX
 rw[fV (d:=.tup (Rws.ds rs)) (n':=((pre.length+(Rws.wds rs).length:Nat):Int)) (show rCall m (aHere (aA (aC aI (aB 2) (eC (.int 1))) aD)) rows [some (wD ["times",bE k]),none,some (.int wi),none] (pre.length:Int)=_ from hr)]
 show (vW m rows [some (wD ["times",bE k]),none,some (.int wi),some (.tup (Rws.ds rs))] ((pre.length+(Rws.wds rs).length:Nat):Int)).bind cS=_
 unfold vW
 rw[oB (d:=.non) (n':=((pre.length+(Rws.wds rs).length+1:Nat):Int)) (show rCall gT aOnly rows [some (wD ["times",bE k]),none,some (.int wi),some (.tup (Rws.ds rs))] ((pre.length+(Rws.wds rs).length:Nat):Int)=_ from he)]
 unfold L4 rRet
 rw[jD (d:=(Rw.times k rs).d) ?_]
 ·rfl
 ·rw[Rw.d]
  show iL (cZ (.ok (.str "times")) (cZ (sC [.str (bE k)]).noerr (cZ (.ok (.tup (Rws.ds rs))) (.ok []))))=_
  rw[zbY hk];rfl
theorem zb0{m:RM}{rows pre rest:List D}{k:Nat}{rs:Rws}{wi:Int}(h:rows=pre++((Rw.wd (.times k rs)).map wD++rest))(hr:m rows ((pre.length:Int)+1) [wD ["times",bE k],.non,.int wi]=.ok ((Rw.times k rs).d,((pre.length+(Rw.wd (.times k rs)).length:Nat):Int))) :
  hJ m rows (pre.length:Int) [.non,.int wi]=.ok ((Rw.times k rs).d,((pre.length+(Rw.wd (.times k rs)).length:Nat):Int)):=by
 have hwd:Rw.wd (.times k rs)=(["times",bE k]:List Str)::(Rws.wds rs++[(["end"]:List Str)]):=by rw[Rw.wd]
 have hah:cL rows (pre.length:Int)=wD ["times",bE k]:=gD (rest:=(Rws.wds rs++[(["end"]:List Str)]).map wD++rest) (by rw[h,hwd];rfl)
 show (iQ m rows [none,some (.int wi),none,none] (pre.length:Int)).bind cS=_
 unfold iQ
 rw[fV (d:=wD ["times",bE k]) (n':=(pre.length:Int)+1) (by unfold rTake;rw[hah])]
 show (jB m rows [none,some (.int wi),some (wD ["times",bE k]),none] ((pre.length:Int)+1)).bind cS=_
 unfold jB
 rw[OD (x:=(Rw.times k rs).d) (k:=((pre.length+(Rw.wd (.times k rs)).length:Nat):Int)) (b8 (b:=true) (by rfl)) ?_]
 ·rfl
 ·unfold AU rRet
  rw[show rCall m (aMore (aB 2) (aHere (aA (aB 1) aD))) rows [none,some (.int wi),some (wD ["times",bE k]),none] ((pre.length:Int)+1)=_ from hr];rfl
end LmDc
open L2 DL Mir
namespace LmDd
open LmA LmY Lk31 Rdr TxtA LmDa LmDb LmDc
mutual
def dG:Rw->Nat->Prop
 |.cross n a b c e,_=>Nm n/\Nm a/\Nm b/\Nm c/\Nm e
 |.rule n f as,_=>Nm n/\Nm f/\as≠[]/\as.length<=900/\∀x∈as,Nm x
 |.times k rs,d=>k<=60/\0<d/\(∃r rs',rs=.cons r rs')/\Rws.len rs<=1000/\RsOk rs (d-1)
def RsOk:Rws->Nat->Prop
 |.nil,_=>True
 |.cons r rs,d=>dG r d/\RsOk rs d
end
theorem BE{P:Rw->Prop}{d:Nat}(h:∀r,dG r d->P r):∀rs,RsOk rs d->Rws.All P rs
 |.nil,_=>trivial
 |.cons r rs,hr=>by
  rw[RsOk] at hr
  exact⟨h r hr.1,BE h rs hr.2⟩
theorem wY(j:Nat):mK (j+1)=pK (hJ (fC (mK j))):=rfl
theorem OJ{rows:List D}:∀(d j:Nat) (wi:Int),wi+(d:Int)=4->d<=j->(∀r,dG r d->Rd (hJ (fC (mK j))) rows wi r)/\
  (∀r rs,RsOk (.cons r rs) d->Rws.len (.cons r rs)<=3000->∀pre rest:List D,rows=pre++((Rws.wds (.cons r rs)).map wD++rest)->wX rest->mK (j+1) rows (pre.length:Int) [.non,.int wi]=.ok (.tup (Rws.ds (.cons r rs)),((pre.length+(Rws.wds (.cons r rs)).length:Nat):Int))):=by
 intro d
 induction d with
 |zero=>
  intro j wi hwi hj
  have hrow:∀r,dG r 0->Rd (hJ (fC (mK j))) rows wi r:=fun r hr pre rest h=>by
   cases r with
   |cross n a b c e=>
    rw[dG] at hr
    have hw:Rw.wd (.cross n a b c e)=[([n,"=",a,b,"x",c,e]:List Str)]:=by rw[Rw.wd]
    rw[hw] at h ⊢
    exact A9 _ h hr.1 hr.2.1 hr.2.2.1 hr.2.2.2.1 hr.2.2.2.2 wi
   |rule n f as=>
    rw[dG] at hr
    have hw:Rw.wd (.rule n f as)=[([n,"=",f]++as:List Str)]:=by rw[Rw.wd]
    rw[hw] at h ⊢
    cases as with
    |nil=>exact xat rfl hr.2.2.1
    |cons a as=>exact BA _ h hr.1 hr.2.1 hr.2.2.2.2 (by have:=hr.2.2.2.1;rw[xad] at this;omega) wi
   |times k rs=>
    rw[dG] at hr
    exact xat hr.2.1 (xby _)
  exact⟨hrow,fun r rs hr hl pre rest h hs=>by rw[wY];exact OG h hs (BE hrow _ hr) hl⟩
 |succ d ih=>
  intro j wi hwi hj
  obtain⟨j,rfl⟩:∃i,j=i+1:=⟨j-1,by omega⟩
  have ih2:=(ih j (wi+1) (by omega) (by omega)).2
  have hrow:∀r,dG r (d+1)->Rd (hJ (fC (mK (j+1)))) rows wi r:=fun r hr pre rest h=>by
   cases r with
   |cross n a b c e=>
    rw[dG] at hr
    have hw:Rw.wd (.cross n a b c e)=[([n,"=",a,b,"x",c,e]:List Str)]:=by rw[Rw.wd]
    rw[hw] at h ⊢
    exact A9 _ h hr.1 hr.2.1 hr.2.2.1 hr.2.2.2.1 hr.2.2.2.2 wi
   |rule n f as=>
    rw[dG] at hr
    have hw:Rw.wd (.rule n f as)=[([n,"=",f]++as:List Str)]:=by rw[Rw.wd]
    rw[hw] at h ⊢
    cases as with
    |nil=>exact xat rfl hr.2.2.1
    |cons a as=>exact BA _ h hr.1 hr.2.1 hr.2.2.2.2 (by have:=hr.2.2.2.1;rw[xad] at this;omega) wi
   |times k rs=>
    rw[dG] at hr
    obtain⟨h1,_,⟨r1,rs1,rfl⟩,h3,h4⟩:=hr
    have hwd:Rw.wd (.times k (.cons r1 rs1))=(["times",bE k]:List Str)::(Rws.wds (.cons r1 rs1)++[(["end"]:List Str)]):=by rw[Rw.wd]
    have hrows:rows=(pre++[wD ["times",bE k]])++((Rws.wds (.cons r1 rs1)).map wD++wD ["end"]::rest):=by
     rw[h,hwd];simp
    have e1:=ih2 r1 rs1 h4 (xah h3 (by decide)) (pre++[wD ["times",bE k]]) (wD ["end"]::rest) hrows (.inr ⟨rest,rfl⟩)
    have e2:=OI (wi:=wi) h1 (by omega) hrows e1
    rw[xaa] at e2
    refine zb0 h ?_
    rw[hwd,xad,xaa]
    rw[show ((pre.length + [wD ["times",bE k]].length:Nat):Int)=(pre.length:Int)+1 from by simp] at e2
    rw[e2]
    congr 3
    show pre.length+1+(Rws.wds (.cons r1 rs1)).length+1=pre.length+((Rws.wds (.cons r1 rs1)).length+1+1)
    omega
  exact⟨hrow,fun r rs hr hl pre rest h hs=>by rw[wY];exact OG h hs (BE hrow _ hr) hl⟩
end LmDd
open L2 DL Mir
namespace LmDe
open LmA LmY Lk31 Rdr TxtA LmDa LmDb LmDc LmDd
theorem wZ{ds:List D}{k:Nat}{d:D}(hk:0<k)(hl:k<=ds.length)(h:ds[ds.length-k]? = some d):aF (.lst ds) (.int (-(k:Int)))=.ok d:=by
 have e:eU ds (-(k:Int))=some d:=by
  unfold eU j1
  rw[xaz (by omega),xa5 (by omega),show (-(k:Int)+(ds.length:Int)).toNat=ds.length-k by omega]
  exact h
 show (match eU ds (-(k:Int)) with|some d=>R.ok d|none=>R.bad)=_
 rw[e]
theorem OK{α:Type}(a b c d:α)(ps:List α):cX (a::b::(ps++[c,d])) (some 2) (some (-2))=ps:=by
 unfold cX HT.sIx
 have hl:(a::b::(ps++[c,d])).length=ps.length+4:=by simp
 rw[hl]
 simp only
 rw[xa5 (by decide),xaz (by decide),show ((-2:Int)+((ps.length+4:Nat):Int)).toNat=ps.length+2 by omega,show min (2:Int).toNat (ps.length+4)=2 by show min 2 _=2;omega]
 show (ps++[c,d]).take (ps.length+2-2)=ps
 rw[Nat.add_sub_cancel,List.take_left]
theorem OL(xs:List Str)(h:xs.Nodup):∀i,i<=xs.length->fB xs i=i
 |0,_=>rfl
 |i+1,hi=>by
  have ih:=OL xs h i (by omega)
  unfold fB
  rw[xaz,ih]
  intro hc
  rw[xa9,xax (show i<xs.length by omega)] at hc
  have hc:xs[i]∈xs.take i:=by simpa using hc
  obtain⟨j,hj,e⟩:=List.mem_iff_getElem.mp hc
  rw[xbh] at hj
  rw[List.getElem_take] at e
  have:=(List.getElem_inj h).mp e
  omega
theorem BF:∀xs:List Str,nV (xs.map .str)=some xs
 |[]=>rfl
 |x::xs=>by
  show (nV (xs.map .str)).map (x::·)=_
  rw[BF xs];rfl
theorem BG{xs:List Str}(h:xs.Nodup)(hl:xs.length<=1000):fD [.lst (xs.map .str)]=.ok (.bl true):=by
 rw[L6]
 unfold sO
 have e1:vR (aB 0) [some (.lst (xs.map .str))]=.ok (.int (xs.length:Int)):=by
  show mE (.lst (xs.map .str))=_
  unfold mE
  simp only[BF]
  rw[show Nat.ble xs.length 1000=true by simpa using hl,OL xs h _ (xak _)];rfl
 have e2:aJ aW (aA (aB 0) aD) [some (.lst (xs.map .str))]=.ok (.int (xs.length:Int)):=by
  show R.ok (D.int ((xs.map D.str).length:Int))=_
  rw[xab]
 rw[l7,bS,e1,e2]
 show fin (jO (R.ok (D.bl (decide ((xs.length:Int)=(xs.length:Int))))))=_
 rw[xaf rfl];rfl
structure Rl where
 nm:Str
 ps:List Str
 out:Str
 r:Rw
 rs:Rws
def Rl.d(l:Rl):D:=.tup [.str l.nm,.tup (l.ps.map .str),.str l.out,.tup (Rws.ds (.cons l.r l.rs))]
abbrev aS(nm:Str)(ps:List Str)(out:Str):List Str:=("rule":Str)::nm::(ps++[(">":Str),out])
def Rl.hd(l:Rl):List Str:=aS l.nm l.ps l.out
def Rl.wd(l:Rl):List (List Str):=l.hd::(Rws.wds (.cons l.r l.rs)++[(["end"]:List Str)])
structure oE(l:Rl):Prop where
 nm:Nm l.nm
 out:Nm l.out
 ps:∀x∈l.ps,Nm x
 nd:l.ps.Nodup
 p1:1<=l.ps.length
 p8:l.ps.length<=8
 ok:RsOk (.cons l.r l.rs) 4
 len:Rws.len (.cons l.r l.rs)<=1000
theorem zb1{l:Rl}(ok:oE l){rows pre rest:List D}(h:rows=pre++(l.wd.map wD++rest)):dR rows (pre.length:Int) [.non]=.ok (l.d,((pre.length+l.wd.length:Nat):Int)):=by
 obtain⟨nm,ps,out,r,rs⟩:=l
 obtain⟨h1,h2,h3,h4,h5,h6,h7,h8⟩:=ok
 simp only at h1 h2 h3 h4 h5 h6 h7 h8
 have hwd:Rl.wd ⟨nm,ps,out,r,rs⟩=(aS nm ps out)::(Rws.wds (.cons r rs)++[(["end"]:List Str)]):=rfl
 have hah:cL rows (pre.length:Int)=wD (aS nm ps out):=gD (rest:=(Rws.wds (.cons r rs)++[(["end"]:List Str)]).map wD++rest) (by rw[h,hwd];rfl)
 have hlen:((aS nm ps out).map D.str).length=ps.length+4:=by simp
 show (sQ rows [none,none,none,none] (pre.length:Int)).bind cS=_
 unfold sQ
 rw[fV (d:=wD (aS nm ps out)) (n':=(pre.length:Int)+1) (by unfold rTake;rw[hah])]
 show (sP rows [none,some (wD (aS nm ps out)),none,none] ((pre.length:Int)+1)).bind cS=_
 unfold sP
 have e1:cC (aB 1) (bG (eC (.int 2))) (bG (gJ gM (eC (.int 2)))) [none,some (wD (aS nm ps out)),none,none]=.ok (.lst (ps.map .str)):=by
  show R.ok (D.lst (cX ((aS nm ps out).map D.str) (some 2) (some (-2))))=_
  rw[show (aS nm ps out).map D.str=.str "rule"::.str nm::(ps.map D.str++[.str ">",.str out]) from by simp,OK]
 rw[fV (d:=.lst (ps.map .str)) (n':=(pre.length:Int)+1) (jD e1)]
 show (kE rows [none,some (wD (aS nm ps out)),some (.lst (ps.map .str)),none] ((pre.length:Int)+1)).bind cS=_
 have g1:aF (wD (aS nm ps out)) (.int (-2))=.ok (.str ">"):=wZ (k:=2) (by decide) (by rw[hlen];omega) (by
  rw[hlen,show ps.length+4-2=(ps.length+1+1:Nat) by omega,xbg,xbg,xbs,xbs,xav,xbe (by simp)]
  simp)
 have g2:aF (wD (aS nm ps out)) (.int (-1))=.ok (.str out):=wZ (k:=1) (by decide) (by rw[hlen];omega) (by
  rw[hlen,show ps.length+4-1=(ps.length+1+1+1:Nat) by omega,xbg,xbg,xbs,xbs,xav,xbe (by simp)]
  simp)
 have g3:aF (wD (aS nm ps out)) (.int 1)=.ok (.str nm):=jP (j:=1) (by rfl)
 have ad:aI (.lst [.str nm,.str out]) (.lst (ps.map D.str))=.ok (.lst ((nm::out::ps).map D.str)):=by
  show (bif bD (2+(ps.map D.str).length) then R.ok (D.lst (.str nm::.str out::ps.map D.str)) else .bad)=_
  rw[show bD (2+(ps.map D.str).length)=true from xaf (by rw[xab];exact xah (show _<=1000 by omega) (by decide))];rfl
 have l1:gR [.lst ((nm::out::ps).map .str)]=.ok .non:=names_ok (.inl rfl) (by rw[xad,xad];omega) (fun x hx=>by
  rcases xal.mp hx with rfl|hx
  ·exact h1
  ·rcases xal.mp hx with rfl|hx
   ·exact h2
   ·exact h3 x hx)
 have t1:dY (aK (aC gA (aJ aW (aA (aB 1) aD)) (eC (.int 5)))) (aK (aC bR (aC aF (aB 1) (gJ gM (eC (.int 2)))) (eC (.str ">")))) [none,some (wD (aS nm ps out)),some (.lst (ps.map .str)),none]=.ok false:=by
  have e:aK (aC gA (aJ aW (aA (aB 1) aD)) (eC (.int 5))) [none,some (wD (aS nm ps out)),some (.lst (ps.map .str)),none]=.ok false:=by
   show R.ok (decide ((((aS nm ps out).map D.str).length:Int)<5))=_
   rw[hlen,xag (by omega)]
  rw[fJ,e,gO]
  show c7 (bI bR (aF (wD (aS nm ps out)) (.int (-2))) (.ok (.str ">")))=_
  rw[g1];rfl
 have t2:dY (aK (aC fI (aJ aW (aA (aB 2) aD)) (eC pL))) (dI (aK (aR fD (aA (aB 2) aD)))) [none,some (wD (aS nm ps out)),some (.lst (ps.map .str)),none]=.ok false:=by
  have e:aK (aC fI (aJ aW (aA (aB 2) aD)) (eC pL)) [none,some (wD (aS nm ps out)),some (.lst (ps.map .str)),none]=.ok false:=by
   show R.ok (decide ((8:Int)<((ps.map D.str).length:Int)))=_
   rw[xab,xag (by omega)]
  rw[fJ,e,gO]
  show kX (c7 (fD [.lst (ps.map .str)]))=_
  rw[BG h4 (by omega)];rfl
 have hrows:rows=(pre++[wD (aS nm ps out)])++((Rws.wds (.cons r rs)).map wD++wD ["end"]::rest):=by
  rw[h,hwd];simp
 have hr:=(OJ (rows:=rows) 4 7 0 (by decide) (by decide)).2 r rs h7 (xah h8 (by decide)) _ _ hrows (.inr ⟨rest,rfl⟩)
 have he:=BD (rows:=rows) (pre:=pre++[wD (aS nm ps out)]++(Rws.wds (.cons r rs)).map wD) (rest:=rest) (by rw[hrows];simp)
 rw[xaa,xaa,xab] at he
 rw[xaa] at hr
 unfold kE
 rw[dM (b8 t1)]
 unfold pO
 rw[oB (d:=.non) (n':=(pre.length:Int)+1) (jD (by
  rw[jN,cE,bS,show aL (aP (aA (aC aF (aB 1) (eC (.int 1))) (aA (aC aF (aB 1) (gJ gM (eC (.int 1)))) aD))) [none,some (wD (aS nm ps out)),some (.lst (ps.map .str)),none]=.ok (.lst [.str nm,.str out]) from by
   show o3 (i6 (cZ (aF (wD (aS nm ps out)) (.int 1)) (cZ (aF (wD (aS nm ps out)) (.int (-1))) (.ok []))))=_
   rw[g3,g2];rfl,show aB 2 [none,some (wD (aS nm ps out)),some (.lst (ps.map .str)),none]=.ok (.lst (ps.map .str)) from rfl,cD,ad]
  exact l1))]
 unfold nY
 rw[dM (b8 t2)]
 unfold pN
 rw[fV (d:=.tup (Rws.ds (.cons r rs))) (n':=((pre.length+1+(Rws.wds (.cons r rs)).length:Nat):Int)) (show rCall jU (aHere (aA (eC (.int 0)) aD)) rows [none,some (wD (aS nm ps out)),some (.lst (ps.map .str)),none] ((pre.length:Int)+1)=_ from hr)]
 show (pM rows [none,some (wD (aS nm ps out)),some (.lst (ps.map .str)),some (.tup (Rws.ds (.cons r rs)))] ((pre.length+1+(Rws.wds (.cons r rs)).length:Nat):Int)).bind cS=_
 unfold pM
 rw[oB (d:=.non) (n':=((pre.length+1+(Rws.wds (.cons r rs)).length:Nat):Int)+1) (show rCall gT aOnly rows [none,some (wD (aS nm ps out)),some (.lst (ps.map .str)),some (.tup (Rws.ds (.cons r rs)))] ((pre.length+1+(Rws.wds (.cons r rs)).length:Nat):Int)=_ from he)]
 unfold AY rRet
 rw[jD (d:=Rl.d ⟨nm,ps,out,r,rs⟩) (by
  show iL (cZ (aF (wD (aS nm ps out)) (.int 1)) (cZ (.ok (.tup (ps.map .str))) (cZ (aF (wD (aS nm ps out)) (.int (-1))) (cZ (.ok (.tup (Rws.ds (.cons r rs)))) (.ok [])))))=_
  rw[g3,g2];rfl)]
 show R.ok (Rl.d ⟨nm,ps,out,r,rs⟩,((pre.length+1+(Rws.wds (.cons r rs)).length:Nat):Int)+1)=_
 rw[hwd,xad,xaa]
 congr 2
 simp only[xad,xbi]
 omega
end LmDe
open L2 DL Mir
namespace LmDf
open LmA LmY Lk31 Rdr TxtA LmDa LmDb LmDc LmDd LmDe
abbrev eP:TF:=rCmp a6 (rSl rAhead b7 (bG (eC (.int 1)))) (aL (aP (aA (eC (.str "rule")) aD)))
theorem w5{rows:List D}{τ:DSt}{n:Int}{x:Str}{ws:List Str}(h:cL rows n=wD (x::ws)):eP rows τ n=.ok (decide (x="rule"),n):=by
 have e:rSl rAhead b7 (bG (eC (.int 1))) rows τ n=.ok (.lst [.str x],n):=by
  show (match cL rows n with|.lst xs=>R.ok (D.lst (cX xs none (some 1)),n)|_=>.bad)=_
  rw[h]
  show R.ok (D.lst (cX (.str x::ws.map D.str) none (some 1)),n)=_
  congr 3
 unfold eP rCmp
 rw[e]
 show ((a6 (.lst [.str x]) (.lst [.str "rule"])).bind fun z=>(fG z).bind fun b=>R.ok (b,n))=_
 have e2:a6 (.lst [.str x]) (.lst [.str "rule"])=.ok (.bl (decide (x="rule"))):=by
  show R.ok (D.bl (bC (.lst [.str x]) (.lst [.str "rule"])))=_
  congr 2
  simp only[bC,eqDs,xcx]
  by_cases z:x="rule"
  ·rw[z,xaf rfl];exact beq_self_eq_true _
  ·rw[xag z];exact beq_eq_false_iff_ne.mpr z
 rw[e2];rfl
def a8(ls:List Rl):List (List Str):=ls.flatMap Rl.wd
theorem OM{rows:List D}{τ:DSt}{x:Str}{ws:List Str}(hx:x≠"rule"):∀(ls:List Rl) (pre rest xs:List D) (k:Nat),rows=pre++((a8 ls).map wD++wD (x::ws)::rest)->(∀l∈ls,oE l)->xs.length+ls.length<=1000->ls.length<k->
  bL eP (rCall dR aOnly) rows τ k (pre.length:Int) xs=.ok (xs++ls.map Rl.d,((pre.length+(a8 ls).length:Nat):Int))
 |[],pre,rest,xs,k,h,_,_,hk=>by
  obtain⟨k,rfl⟩:∃j,k=j+1:=⟨k-1,by have:0<k:=hk;omega⟩
  unfold bL
  rw[w5 (gD (show rows=pre++wD (x::ws)::rest from h)),xag hx]
  show R.ok (xs,(pre.length:Int))=_
  rw[xck,xa8];rfl
 |l::ls,pre,rest,xs,k,h,ha,hl,hk=>by
  rw[xad] at hl hk
  obtain⟨k,rfl⟩:∃j,k=j+1:=⟨k-1,by omega⟩
  have hw:a8 (l::ls)=l.wd++a8 ls:=rfl
  have h1:rows=pre++(l.wd.map wD++((a8 ls).map wD++wD (x::ws)::rest)):=by rw[h,hw,xav,xar]
  have hr:=zb1 (ha l xaq) h1
  unfold bL
  rw[w5 (x:="rule") (ws:=l.nm::(l.ps++[(">":Str),l.out])) (gD (rest:=(Rws.wds (.cons l.r l.rs)++[(["end"]:List Str)]).map wD++((a8 ls).map wD++wD (x::ws)::rest)) (by rw[h1];rfl)),xaf rfl]
  show ((dR rows (pre.length:Int) [.non]).bind fun x=>bif most xs.length then bL eP (rCall dR aOnly) rows τ k x.2 (xs++[x.1]) else .bad)=_
  rw[hr]
  show (bif most xs.length then bL eP (rCall dR aOnly) rows τ k ((pre.length+l.wd.length:Nat):Int) (xs++[l.d]) else .bad)=_
  rw[o9 (by omega),cond_true]
  have ih:=OM (rows:=rows) (τ:=τ) (ws:=ws) hx ls (pre++l.wd.map wD) rest (xs++[l.d]) k (by rw[h1,xar]) (fun q hq=>ha q (xae _ hq)) (by rw[xaa];show xs.length+1+_<=_;omega) (by omega)
  rw[xaa,xab] at ih
  rw[ih,hw,xaa,xar,Nat.add_assoc,xbg]
  rfl
theorem zb2:∀{r:Rw},dG r 4->∃x ws t,Rw.wd r=(x::ws)::t/\x≠"rule"
 |.cross n a b c d,h=>by
  rw[dG] at h
  exact⟨n,["=",a,b,"x",c,d],[],by rw[Rw.wd],pW h.1 (by decide +kernel)⟩
 |.rule n f as,h=>by
  rw[dG] at h
  exact⟨n,"="::f::as,[],by rw[Rw.wd];rfl,pW h.1 (by decide +kernel)⟩
 |.times k rs,h=>⟨"times",[bE k],_,by rw[Rw.wd],by decide⟩
theorem ON{T:D}{ls:List Rl}{r:Rw}{rs:Rws}(hT:g8 [T]=.ok (.lst ((a8 ls++Rws.wds (.cons r rs)).map wD)))(ha:∀l∈ls,oE l)(hn:(ls.map Rl.nm).Nodup)(hl:ls.length<=20)(hr:RsOk (.cons r rs) 4)(hrl:Rws.len (.cons r rs)<=3000) :
  dL [T]=.ok (.tup [.tup (ls.map Rl.d),.tup (Rws.ds (.cons r rs))]):=by
 have hr1:dG r 4:=by rw[RsOk] at hr;exact hr.1
 obtain⟨x,ws,t,ew,hx⟩:=zb2 hr1
 have hwr:Rws.wds (.cons r rs)=(x::ws)::(t++Rws.wds rs):=by rw[Rws.wds,ew];rfl
 rw[AZ]
 unfold pQ sReader
 rw[show aR g8 (aA (aB 0) aD) [some T,none,none,none]=_ from hT]
 show fin ((sU ((a8 ls++Rws.wds (.cons r rs)).map wD) [some T,none,none,none] 0).bind sH)=_
 generalize hR:(a8 ls++Rws.wds (.cons r rs)).map wD=rows
 have h0:rows=[]++((a8 ls).map wD++wD (x::ws)::(t++Rws.wds rs).map wD):=by rw[<- hR,xav,hwr];rfl
 have hc:=OM (rows:=rows) (τ:=[some T,none,none,none]) hx ls [] _ [] (ls.length+1) h0 ha (by simp;omega) (xb5 _)
 rw[xbq,xbi,xcl] at hc
 have h2:rows=(a8 ls).map wD++((Rws.wds (.cons r rs)).map wD++[]):=by rw[<- hR,xav,xa8]
 have hq:=(OJ (rows:=rows) 4 7 0 (by decide) (by decide)).2 r rs hr hrl _ _ h2 (.inl rfl)
 rw[xab] at hq
 have e1:sU rows [some T,none,none,none] 0=mL rows [some T,none,some (.lst (ls.map Rl.d)),none] (((a8 ls).length:Nat):Int):=by
  show (lB eP (rCall dR aOnly) rows [some T,none,none,none] 0).bind _=_
  rw[nW (show bL eP (rCall dR aOnly) rows [some T,none,none,none] (ls.length+1) 0 []=_ from hc) (by simp)];rfl
 have t1:aK (aC fI (aJ aW (aA (aB 2) aD)) (eC sR)) [some T,none,some (.lst (ls.map Rl.d)),none]=.ok false:=by
  show R.ok (decide ((20:Int)<((ls.map Rl.d).length:Int)))=_
  rw[xab,xag (by omega)]
 have e2:dN 1 [0] (dJ (aB 2)) bX c9 (aC aF (aB 0) (eC (.int 0))) [some T,none,some (.lst (ls.map Rl.d)),none]=.ok ((ls.map Rl.nm).map .str):=by
  rw[l9,show dJ (aB 2) [some T,none,some (.lst (ls.map Rl.d)),none]=.ok (ls.map Rl.d) from rfl,nU (g:=fun d=>match d with|.tup (a::_)=>a|d=>d) (by rw[xab];omega) (fun d hd=>?_),xbj,xbj]
  ·rfl
  ·obtain⟨l,_,rfl⟩:=xay.mp hd
   rfl
 have t2:dI (aK (aR fD (aA (aL (dN 1 [0] (dJ (aB 2)) bX c9 (aC aF (aB 0) (eC (.int 0))))) aD))) [some T,none,some (.lst (ls.map Rl.d)),none]=.ok false:=by
  rw[j9,dQ,jN,cE,gX,e2]
  show kX (c7 (fD [.lst ((ls.map Rl.nm).map .str)]))=_
  rw[BG hn (by rw[xab];omega)];rfl
 have t3:rCmp bR rAhead (aL (aP aD)) rows [some T,none,some (.lst (ls.map Rl.d)),some (.tup (Rws.ds (.cons r rs)))] (((a8 ls).length+(Rws.wds (.cons r rs)).length:Nat):Int)=.ok (false,(((a8 ls).length+(Rws.wds (.cons r rs)).length:Nat):Int)):=by
  have:cL rows (((a8 ls).length+(Rws.wds (.cons r rs)).length:Nat):Int)=.lst []:=by
   unfold cL
   rw[xbm,xa9,xbx (by rw[<- hR,xab,xaa];omega)];rfl
  show ((bR (cL rows (((a8 ls).length+(Rws.wds (.cons r rs)).length:Nat):Int)) (.lst [])).bind fun z=>(fG z).bind fun b=>R.ok (b,_))=_
  rw[this];rfl
 rw[e1]
 unfold mL
 rw[dM (b8 t1)]
 unfold pP
 rw[dM (b8 t2)]
 unfold sS
 rw[fV (d:=.tup (Rws.ds (.cons r rs))) (n':=(((a8 ls).length+(Rws.wds (.cons r rs)).length:Nat):Int)) (show rCall jU (aHere (aA (eC (.int 0)) aD)) rows [some T,none,some (.lst (ls.map Rl.d)),none] (((a8 ls).length:Nat):Int)=_ from hq)]
 show fin ((vZ rows [some T,none,some (.lst (ls.map Rl.d)),some (.tup (Rws.ds (.cons r rs)))] (((a8 ls).length+(Rws.wds (.cons r rs)).length:Nat):Int)).bind sH)=_
 unfold vZ
 rw[dM t3]
 rfl
end LmDf
open L2 DL Mir
namespace LmEa
open LmA LmY Lk31 Rdr TxtA LmDa LmDb LmDc
abbrev no:D:=.exc "NoText" []
structure Wk(w:List Str):Prop where
 ne:w≠[]
 len:w.length<=900
 ok:∀x∈w,x.length<=1000
mutual
def RG:Rw->Nat->Prop
 |.cross n a b c e,_=>Nm n/\Nm a/\Nm b/\Nm c/\Nm e
 |.rule n f as,_=>Nm n/\Nm f/\as≠[]/\∀x∈as,Nm x
 |.times k rs,d=>k<=60/\0<d/\(∃r rs',rs=.cons r rs')/\RsG rs (d-1)
def RsG:Rws->Nat->Prop
 |.nil,_=>True
 |.cons r rs,d=>RG r d/\RsG rs d
end
abbrev wE:List Str:=["end"]
theorem BH:∀(u v:List Str),bC (wD u) (wD v)=decide (u=v):=by
 have go:∀(u v:List Str),eqDs (u.map D.str) (v.map D.str)=decide (u=v):=by
  intro u
  induction u with
  |nil=>intro v;cases v with
   |nil=>rfl
   |cons y v=>rfl
  |cons x u ih=>intro v;cases v with
   |nil=>rfl
   |cons y v=>
    show (bC (.str x) (.str y)&&eqDs (u.map D.str) (v.map D.str))=_
    rw[ih,show bC (.str x) (.str y)=decide (x=y) from by unfold bC;rfl,<- Bool.decide_and]
    congr 1
    simp
 intro u v
 rw[<- go];unfold wD bC;rfl
theorem zb3(w:List Str):dE (wD w) ends=.ok (.bl (!(decide (w=[])||decide (w=wE)))):=by
 rw[wV]
 congr 3
 show (bC (wD []) (wD w)||(bC (wD wE) (wD w)||false))=_
 rw[BH,BH,Bool.or_false]
 congr 1<;>exact decide_eq_decide.mpr eq_comm
theorem zb4(w:List Str):bR (wD w) (.lst [.str "end"])=.ok (.bl (!decide (w=wE))):=by
 rw[show (D.lst [.str "end"])=wD wE from rfl,rW (by unfold iJ;rw[BB,BB];rfl),BH]
theorem BI{d:D}{xs:List Str}(hd:d=.lst (xs.map .str)\/d=.tup (xs.map .str))(hl:xs.length<=1000)(h:∀x∈xs,x.length<=1000) :
  (gR [d]=.ok .non/\∀x∈xs,Nm x)\/gR [d]=.err no:=by
 by_cases ha:∀x∈xs,Nm x
 ·exact .inl ⟨names_ok hd hl ha,ha⟩
 refine .inr ?_
 rw[L3];unfold sJ
 have e1:dN 1 [0] (dJ (aB 0)) bX c9 (aR jT (aA (aB 0) aD)) [some d]=.ok ((xs.map cK).map D.bl):=by
  rw[l9,show dJ (aB 0) [some d]=.ok (xs.map .str) from by rcases hd with rfl|rfl<;>rfl]
  rw[nU (g:=fun d=>match d with|.str x=>D.bl (cK x)|d=>d) (by rw[xab];omega) (fun d hd=>?_),xbj,xbj]
  ·rfl
  ·obtain⟨x,hx,rfl⟩:=xay.mp hd
   show jT [.str x]=_
   rw[N8 (h x hx)]
 have e2:(xs.map cK).all id=false:=by
  rw[<- Bool.not_eq_true,xa2]
  intro z
  exact ha fun x hx=>⟨z _ (xay.mpr ⟨x,hx,rfl⟩),h x hx⟩
 have e3:dI (aK (aJ j8 (aA (aL (dN 1 [0] (dJ (aB 0)) bX c9 (aR jT (aA (aB 0) aD)))) aD))) [some d]=.ok true:=by
  rw[j9,dQ,lZ,cE,gX,e1]
  show kX (c7 (j8 [.lst ((xs.map cK).map D.bl)]).noerr)=_
  rw[A8,e2];rfl
 rw[eM,e3];rfl
section
variable{t:TF}{f g:RF}{ef:EF}{rows:List D}{τ:DSt}{n n':Int}{e:D}{j:Nat}{fe:DSt->R D}
theorem iR(ht:t rows τ n=.ok (true,n'))(hf:f rows τ n'=.err e):rSeq (rIf t f rNext) g rows τ n=.err e:=by
 unfold rSeq rIf;rw[ht]
 show ((f rows τ n').bind _)=_
 rw[hf];rfl
theorem BJ(hf:ef rows τ n=.err e):rSeq (rSet j ef) g rows τ n=.err e:=by unfold rSeq rSet;rw[hf];rfl
theorem tF(hf:ef rows τ n=.err e):rSeq (rExpr ef) g rows τ n=.err e:=by unfold rSeq rExpr;rw[hf];rfl
theorem BK(he:fe τ=.err e):rPure fe rows τ n=.err e:=by unfold rPure;rw[he];rfl
end
theorem OO{rows pre:List D}{rest:List (List Str)}(h:rows=pre++rest.map wD):(∃r,rest=wE::r/\gT rows (pre.length:Int) [.non]=.ok (.non,(pre.length:Int)+1))\/gT rows (pre.length:Int) [.non]=.err no:=by
 have go:∀w,cL rows (pre.length:Int)=wD w->w≠wE->gT rows (pre.length:Int) [.non]=.err no:=fun w ha hw=>by
  show (sK rows [none] (pre.length:Int)).bind cS=_
  unfold sK rIf
  have t:rCmp bR rTake (aL (aP (aA (eC (.str "end")) aD))) rows [none] (pre.length:Int)=.ok (true,(pre.length:Int)+1):=by
   show ((bR (cL rows (pre.length:Int)) (.lst [.str "end"])).bind fun z=>(fG z).bind fun b=>R.ok (b,(pre.length:Int)+1))=_
   rw[ha,zb4,xag hw];rfl
  rw[t];rfl
 cases rest with
 |nil=>
  refine .inr (go [] ?_ (by decide))
  unfold cL
  rw[h,xbm,xck,xa8,xa9,xbx (xak _)];rfl
 |cons w rest=>
  by_cases hw:w=wE
  ·subst hw
   exact .inl ⟨rest,rfl,BD h⟩
  ·exact .inr (go w (gD h) hw)
theorem zb5(m:RM){rows pre rest:List D}{w:List Str}(h:rows=pre++wD w::rest)(hk:Wk w)(hw:w.head?≠some "times")(wi:Int) :
  (∃r,(∀d,RG r d)/\Rw.wd r=[w]/\hJ m rows (pre.length:Int) [.non,.int wi]=.ok (Rw.d r,(pre.length:Int)+1))\/hJ m rows (pre.length:Int) [.non,.int wi]=.err no:=by
 have e0:hJ m rows (pre.length:Int) [.non,.int wi]=(jB m rows [none,some (.int wi),some (wD w),none] ((pre.length:Int)+1)).bind cS:=by
  show (iQ m rows [none,some (.int wi),none,none] (pre.length:Int)).bind cS=_
  unfold iQ
  rw[fV (d:=wD w) (n':=(pre.length:Int)+1) (by unfold rTake;rw[gD h])];rfl
 obtain⟨x,xs,rfl⟩:∃x xs,w=x::xs:=by cases w with
  |nil=>exact xat rfl hk.ne
  |cons x xs=>exact⟨x,xs,rfl⟩
 have hx:x≠"times":=fun e=>hw (by rw[e];rfl)
 have i0:aC aF (aB 2) (eC (.int 0)) [none,some (.int wi),some (wD (x::xs)),none]=.ok (.str x):=jP (j:=0) rfl
 have t1:aK (aC a6 (aC aF (aB 2) (eC (.int 0))) (eC (.str "times"))) [none,some (.int wi),some (wD (x::xs)),none]=.ok false:=by
  rw[dQ,bS,i0]
  show c7 (a6 (.str x) (.str "times"))=_
  rw[pX,xag hx];rfl
 have hlen:aJ aW (aA (aB 2) aD) [none,some (.int wi),some (wD (x::xs)),none]=.ok (.int ((x::xs).length:Int)):=by
  show R.ok (D.int (((x::xs).map D.str).length:Int))=_
  rw[xab]
 have t2:aK (aC gA (aJ aW (aA (aB 2) aD)) (eC (.int 4))) [none,some (.int wi),some (wD (x::xs)),none]=.ok (decide (((x::xs).length:Int)<4)):=by
  rw[dQ,bS,hlen];rfl
 have e1:jB m rows [none,some (.int wi),some (wD (x::xs)),none] ((pre.length:Int)+1)=mI m rows [none,some (.int wi),some (wD (x::xs)),none] ((pre.length:Int)+1):=by
  unfold jB
  rw[dM (b8 t1)]
 rw[e0,e1]
 by_cases h4:((x::xs).length:Int)<4
 ·refine .inr ?_
  unfold mI
  rw[iR (b8 (b:=true) (by rw[fJ,t2,xaf h4];rfl)) (e:=no) rfl];rfl
 rw[xag h4] at t2
 obtain⟨e,f,a,as,rfl⟩:∃e f a as,xs=e::f::a::as:=by
  match xs,h4 with
  |[],h=>exact xat (show ((1:Nat):Int)<4 by decide) h
  |[_],h=>exact xat (show ((2:Nat):Int)<4 by decide) h
  |[_,_],h=>exact xat (show ((3:Nat):Int)<4 by decide) h
  |e::f::a::as,_=>exact⟨e,f,a,as,rfl⟩
 have i1:aC aF (aB 2) (eC (.int 1)) [none,some (.int wi),some (wD (x::e::f::a::as)),none]=.ok (.str e):=jP (j:=1) rfl
 have t2':dY (aK (aC gA (aJ aW (aA (aB 2) aD)) (eC (.int 4)))) (aK (aC bR (aC aF (aB 2) (eC (.int 1))) (eC (.str "=")))) [none,some (.int wi),some (wD (x::e::f::a::as)),none]=.ok (!decide (e="=")):=by
  rw[fJ,t2,gO,dQ,bS,i1]
  show c7 (bR (.str e) (.str "="))=_
  rw[neS];rfl
 by_cases he:e="="
 rotate_left
 ·refine .inr ?_
  unfold mI
  rw[iR (b8 (b:=true) (by rw[t2',xag he];rfl)) (e:=no) rfl];rfl
 subst he
 have hokw:=hk.ok
 have hkl:=hk.len
 by_cases hc:∃c d:Str,as=[("x":Str),c,d]
 ·obtain⟨c,d,rfl⟩:=hc
  have l1:=BI (d:=.tup [.str x,.str f,.str a,.str c,.str d]) (xs:=[x,f,a,c,d]) (.inr rfl) (by show 5<=1000;decide) (fun z hz=>hokw z (by
   simp only[xal,xbk,or_false] at hz ⊢
   rcases hz with rfl|rfl|rfl|rfl|rfl<;>simp))
  rcases l1 with⟨l1,hN⟩|l1
  ·refine .inl ⟨.cross x f a c d,fun _=>?_,by rw[Rw.wd],?_⟩
   ·rw[RG]
    simp only[xal,xbk,or_false,forall_eq_or_imp,forall_eq] at hN
    exact hN
   ·rw[<- e1,<- e0]
    simp only[xal,xbk,or_false,forall_eq_or_imp,forall_eq] at hN
    exact A9 m h hN.1 hN.2.1 hN.2.2.1 hN.2.2.2.1 hN.2.2.2.2 wi
  ·refine .inr ?_
   unfold mI
   rw[dM (b8 (by rw[t2'];rfl))]
   unfold sN
   rw[iR (b8 (b:=true) (by rfl)) (e:=no) ?_]
   ·rfl
   ·unfold AW
    rw[fV (d:=.tup [.str x,.str f,.str a,.str c,.str d]) (n':=(pre.length:Int)+1) (jD (by rfl))]
    unfold AV
    rw[tF (BK (by exact l1))]
 ·have l1:=BI (d:=.lst ((x::f::a::as).map .str)) (xs:=x::f::a::as) (.inl rfl) (by simp only[xad] at hkl ⊢;omega) (fun z hz=>hokw z (by
   rcases xal.mp hz with rfl|hz
   ·exact xaq
   ·exact xae _ (xae _ hz)))
  rcases l1 with⟨l1,hN⟩|l1
  ·refine .inl ⟨.rule x f (a::as),fun _=>?_,by rw[Rw.wd];rfl,?_⟩
   ·rw[RG]
    exact⟨hN x xaq,hN f (xae _ xaq),by simp,fun z hz=>hN z (xae _ (xae _ hz))⟩
   ·rw[<- e1,<- e0]
    exact BA m h (hN x xaq) (hN f (xae _ xaq)) (fun z hz=>hN z (xae _ (xae _ hz))) (by simp only[xad] at hkl;omega) wi
  ·refine .inr ?_
   have ix:∀(k:Nat) (d:D),((x::"="::f::a::as).map D.str)[k]? = some d->aC aF (aB 2) (eC (.int (k:Int))) [none,some (.int wi),some (wD (x::"="::f::a::as)),none]=.ok d:=fun k d hd=>jP hd
   have t3:gH (aK (aC a6 (aJ aW (aA (aB 2) aD)) (eC (.int 7)))) (aK (aC a6 (aC aF (aB 2) (eC (.int 4))) (eC (.str "x")))) [none,some (.int wi),some (wD (x::"="::f::a::as)),none]=.ok false:=by
    have e:aK (aC a6 (aJ aW (aA (aB 2) aD)) (eC (.int 7))) [none,some (.int wi),some (wD (x::"="::f::a::as)),none]=.ok (decide (((x::"="::f::a::as).length:Int)=7)):=by
     rw[dQ,bS,hlen];rfl
    rw[l5,e]
    by_cases h7:((x::"="::f::a::as).length:Int)=7
    ·rw[xaf h7,o4]
     obtain⟨b,c,d,rfl⟩:∃b c d,as=[b,c,d]:=by
      simp only[xad] at h7
      match as,h7 with
      |[b,c,d],_=>exact⟨b,c,d,rfl⟩
      |[],h=>simp at h
      |[_],h=>simp at h
      |[_,_],h=>simp at h
      |_::_::_::_::l,h=>simp at h;omega
     rw[dQ,bS,show aC aF (aB 2) (eC (.int 4)) [none,some (.int wi),some (wD (x::"="::f::a::[b,c,d])),none]=.ok (.str b) from ix 4 _ rfl]
     show c7 (a6 (.str b) (.str "x"))=_
     rw[pX,xag (fun e=>hc ⟨c,d,by rw[e]⟩)];rfl
    ·rw[xag h7];rfl
   unfold mI
   rw[dM (b8 (by rw[t2'];rfl))]
   unfold sN
   rw[dM (b8 t3)]
   unfold AX
   have sl:cC (aB 2) (bG (eC (.int 2))) b7 [none,some (.int wi),some (wD (x::"="::f::a::as)),none]=.ok (.lst ((f::a::as).map D.str)):=LmL.eSl_from _ _ _ ((x::("=":Str)::f::a::as).map D.str) 2 rfl rfl
   have hadd:aI (.lst [.str x]) (.lst ((f::a::as).map D.str))=.ok (.lst ((x::f::a::as).map D.str)):=by
    show (bif bD (1+((f::a::as).map D.str).length) then R.ok (D.lst (.str x::(f::a::as).map D.str)) else .bad)=_
    rw[show bD (1+((f::a::as).map D.str).length)=true from xaf (by simp only[xad] at hkl;rw[xab,xad,xad];exact xah (show _<=1000 by omega) (by decide))];rfl
   rw[tF (e:=no) (BK ?_)]
   ·rfl
   ·rw[jN,cE,bS,sl,show aL (aP (aA (aC aF (aB 2) (eC (.int 0))) aD)) [none,some (.int wi),some (wD (x::"="::f::a::as)),none]=.ok (.lst [.str x]) from by rw[gX,o0,cE,i0];rfl,cD,hadd]
    exact l1
end LmEa
open L2 DL Mir
namespace LmEb
open LmA LmY Lk31 Rdr TxtA LmDa LmDb LmDc LmDd LmEa
def mT(y:Str):Bool:=(List.range 61).any fun k=>decide (bE k=y)
theorem zb6(y:Str):dE (.str y) (.lst ((List.range 61).map fun i=>D.str (bE i)))=.ok (.bl (!mT y)):=by
 rw[K1 (by
  unfold eI
  rw[xap,xa2]
  refine⟨rfl,fun d hd=>?_⟩
  obtain⟨i,_,rfl⟩:=xay.mp hd
  rfl)]
 congr 3
def w6(m:RM)(rows:List D)(wi:Int)(d:Nat):Prop:=∀(pre:List D) (rest:List (List Str)),rows=pre++rest.map wD->(∀w∈rest,Wk w)->rest.length<=3000->
 (∃r rs rest',rest=Rws.wds (.cons r rs)++rest'/\RsG (.cons r rs) d/\(rest'=[]\/∃z,rest'=wE::z)/\m rows (pre.length:Int) [.non,.int wi]=.ok (.tup (Rws.ds (.cons r rs)),((pre.length+(Rws.wds (.cons r rs)).length:Nat):Int)))\/m rows (pre.length:Int) [.non,.int wi]=.err no
theorem zb7{m:RM}{rows:List D}{wi:Int}{d:Nat}(hm:wi≠4->w6 m rows (wi+1) (d-1))(hd:wi≠4->0<d){pre:List D}{w':List Str}{rest:List (List Str)}(h:rows=pre++wD (("times":Str)::w')::rest.map wD)(hk:∀w∈rest,Wk w)(hl:rest.length<=3000) :
  (∃k rs rest',(("times":Str)::w')::rest=Rw.wd (.times k rs)++rest'/\RG (.times k rs) d/\fC m rows ((pre.length:Int)+1) [wD (("times":Str)::w'),.non,.int wi]=.ok ((Rw.times k rs).d,((pre.length+(Rw.wd (.times k rs)).length:Nat):Int)))\/fC m rows ((pre.length:Int)+1) [wD (("times":Str)::w'),.non,.int wi]=.err no:=by
 have e0:fC m rows ((pre.length:Int)+1) [wD (("times":Str)::w'),.non,.int wi]=(mH m rows [some (wD (("times":Str)::w')),none,some (.int wi),none] ((pre.length:Int)+1)).bind cS:=rfl
 have t1:aK (aC a6 (aB 2) (eC sL)) [some (wD (("times":Str)::w')),none,some (.int wi),none]=.ok (decide (wi=4)):=rfl
 by_cases h4:wi=4
 ·refine .inr ?_
  rw[e0]
  unfold mH
  rw[iR (b8 (b:=true) (by rw[t1,xaf h4])) (e:=no) rfl];rfl
 rw[xag h4] at t1
 have hw1:rows=(pre++[wD (("times":Str)::w')])++rest.map wD:=by rw[h];simp
 have t2:∃b,dY (aK (aC bR (aJ aW (aA (aB 0) aD)) (eC (.int 2)))) (aK (aC dE (aC aF (aB 0) (eC (.int 1))) (aL (dN 1 [0] (fP eX (aA (aC aI (eC nX) (eC (.int 1))) aD)) bX c9 (aJ iN (aA (aB 0) aD)))))) [some (wD (("times":Str)::w')),none,some (.int wi),none]=.ok b/\(b=false->∃k,k<=60/\w'=[bE k]):=by
  have e:aK (aC bR (aJ aW (aA (aB 0) aD)) (eC (.int 2))) [some (wD (("times":Str)::w')),none,some (.int wi),none]=.ok (!decide (((("times":Str)::w').length:Int)=2)):=by
   show c7 (bR (.int ((((("times":Str)::w').map D.str).length:Nat):Int)) (.int 2))=_
   rw[xab,zW];rfl
  rw[fJ,e]
  by_cases h2:((("times":Str)::w').length:Int)=2
  ·rw[xaf h2]
   obtain⟨y,rfl⟩:∃y,w'=[y]:=by
    match w',h2 with
    |[y],_=>exact⟨y,rfl⟩
    |[],h=>simp at h
    |_::_::l,h=>simp only[xad] at h;omega
   rw[show (!true)=false from rfl,gO,dQ,bS,gX,OH 0 (by decide)]
   refine⟨_,(show c7 (dE (.str y) (.lst ((List.range 61).map fun i=>D.str (bE i))))=.ok (!mT y) from by rw[zb6];rfl),fun hb=>?_⟩
   have hq:mT y=true:=by cases hq:mT y with
    |true=>rfl
    |false=>rw[hq] at hb;cases hb
   obtain⟨k,hk,e⟩:=List.any_eq_true.mp hq
   obtain rfl:bE k=y:=xas e
   have hk:=xb9.mp hk
   exact⟨k,by omega,rfl⟩
  ·rw[xag h2]
   exact⟨true,rfl,by simp⟩
 obtain⟨b,t2,hb⟩:=t2
 cases b with
 |true=>
  refine .inr ?_
  rw[e0]
  unfold mH
  rw[dM (b8 t1)]
  unfold sM
  rw[iR (b8 t2) (e:=no) rfl];rfl
 |false=>
  obtain⟨k,hk60,rfl⟩:=hb rfl
  have hpl:((pre++[wD [("times":Str),bE k]]).length:Int)=(pre.length:Int)+1:=by simp
  have er:∀e,m rows ((pre.length:Int)+1) [.non,.int (wi+1)]=.err e->fC m rows ((pre.length:Int)+1) [wD [("times":Str),bE k],.non,.int wi]=.err e:=fun e he=>by
   rw[e0]
   unfold mH
   rw[dM (b8 t1)]
   unfold sM
   rw[dM (b8 t2)]
   unfold vX
   rw[BJ (e:=e) (show rCall m (aHere (aA (aC aI (aB 2) (eC (.int 1))) aD)) rows [some (wD [("times":Str),bE k]),none,some (.int wi),none] ((pre.length:Int)+1)=_ from he)];rfl
  rcases hm h4 (pre++[wD [("times":Str),bE k]]) rest hw1 hk hl with⟨r,rs,rest',hr,hg,hs,ok⟩|bad
  ·rw[hpl] at ok
   have hw2:rows=(pre++[wD [("times":Str),bE k]]++(Rws.wds (.cons r rs)).map wD)++rest'.map wD:=by rw[hw1,hr,xav,<- xar]
   rcases OO hw2 with⟨z,rfl,ez⟩|bad
   ·have hok:=OI (m:=m) (rows:=rows) (pre:=pre++[wD [("times":Str),bE k]]) (rest:=z.map wD) (k:=k) (rs:=.cons r rs) (wi:=wi) hk60 h4 (by rw[hw2];simp) (by rw[hpl];exact ok)
    rw[hpl] at hok
    refine .inl ⟨k,.cons r rs,z,?_,?_,?_⟩
    ·rw[Rw.wd,hr];simp
    ·rw[RG]
     exact⟨hk60,hd h4,⟨r,rs,rfl⟩,hg⟩
    ·rw[hok,Rw.wd]
     congr 2
     simp only[xaa,xad,xbi]
     omega
   ·refine .inr ?_
    have hpl2:((pre++[wD [("times":Str),bE k]]++(Rws.wds (.cons r rs)).map wD).length:Int)=(((pre++[wD [("times":Str),bE k]]).length+(Rws.wds (.cons r rs)).length:Nat):Int):=by rw[xaa,xab]
    rw[hpl2] at bad
    rw[e0]
    unfold mH
    rw[dM (b8 t1)]
    unfold sM
    rw[dM (b8 t2)]
    unfold vX
    rw[fV (d:=.tup (Rws.ds (.cons r rs))) (n':=(((pre++[wD [("times":Str),bE k]]).length+(Rws.wds (.cons r rs)).length:Nat):Int)) (show rCall m (aHere (aA (aC aI (aB 2) (eC (.int 1))) aD)) rows [some (wD [("times":Str),bE k]),none,some (.int wi),none] ((pre.length:Int)+1)=_ from ok)]
    unfold vW
    rw[tF (e:=no) (show rCall gT aOnly rows _ _=_ from bad)];rfl
  ·rw[hpl] at bad
   exact .inr (er _ bad)
def BL(m:RM)(rows:List D)(wi:Int)(d:Nat):Prop:=∀(pre:List D) (w:List Str) (rest:List (List Str)),rows=pre++wD w::rest.map wD->w≠wE->Wk w->(∀w∈rest,Wk w)->rest.length<=3000->
 (∃r rest',w::rest=Rw.wd r++rest'/\RG r d/\m rows (pre.length:Int) [.non,.int wi]=.ok (Rw.d r,((pre.length+(Rw.wd r).length:Nat):Int)))\/m rows (pre.length:Int) [.non,.int wi]=.err no
theorem OP{m:RM}{rows:List D}{wi:Int}{d:Nat}(hm:wi≠4->w6 m rows (wi+1) (d-1))(hd:wi≠4->0<d):BL (hJ (fC m)) rows wi d:=by
 intro pre w rest h hw hk hks hl
 by_cases ht:w.head? = some "times"
 ·obtain⟨w',rfl⟩:∃w',w=("times":Str)::w':=by
   cases w with
   |nil=>cases ht
   |cons x w'=>exact⟨w',by rw[xbp ht]⟩
  have go:hJ (fC m) rows (pre.length:Int) [.non,.int wi]=fC m rows ((pre.length:Int)+1) [wD (("times":Str)::w'),.non,.int wi]:=by
   have hah:cL rows (pre.length:Int)=wD (("times":Str)::w'):=gD h
   show (iQ (fC m) rows [none,some (.int wi),none,none] (pre.length:Int)).bind cS=_
   unfold iQ
   rw[fV (d:=wD (("times":Str)::w')) (n':=(pre.length:Int)+1) (by unfold rTake;rw[hah])]
   show (jB (fC m) rows [none,some (.int wi),some (wD (("times":Str)::w')),none] ((pre.length:Int)+1)).bind cS=_
   have i0:aC aF (aB 2) (eC (.int 0)) [none,some (.int wi),some (wD (("times":Str)::w')),none]=.ok (.str "times"):=jP (j:=0) rfl
   have t1:aK (aC a6 (aC aF (aB 2) (eC (.int 0))) (eC (.str "times"))) [none,some (.int wi),some (wD (("times":Str)::w')),none]=.ok true:=by
    rw[dQ,bS,i0];rfl
   unfold jB rSeq rIf
   rw[b8 t1]
   unfold AU rRet
   show ((((fC m rows ((pre.length:Int)+1) [wD (("times":Str)::w'),.non,.int wi]).bind fun x=>R.ok (sF.rt x.1 x.2)).bind _).bind cS)=_
   cases fC m rows ((pre.length:Int)+1) [wD (("times":Str)::w'),.non,.int wi]<;>rfl
  rw[go]
  rcases zb7 hm hd h hks hl with⟨k,rs,rest',h1,h2,h3⟩|bad
  ·exact .inl ⟨_,rest',h1,h2,h3⟩
  ·exact .inr bad
 ·rcases zb5 (fC m) h hk ht wi with⟨r,h1,h2,h3⟩|bad
  ·exact .inl ⟨r,rest,by rw[h2];rfl,h1 d,by rw[h3,h2];rfl⟩
  ·exact .inr bad
theorem zb8{m:RM}{rows:List D}{wi:Int}{d:Nat}{a0:Option D}(hm:BL m rows wi d):∀(n:Nat) (pre:List D) (rest:List (List Str)) (xs:List D) (k:Nat),rest.length<=n->rows=pre++rest.map wD->(∀w∈rest,Wk w)->xs.length+rest.length<=3000->rest.length<k->
  (∃rs rest',rest=Rws.wds rs++rest'/\RsG rs d/\(rest'=[]\/∃z,rest'=wE::z)/\bL hU (rCall m (aHere (aA (aB 1) aD))) rows [a0,some (.int wi),none] k (pre.length:Int) xs=.ok (xs++Rws.ds rs,((pre.length+(Rws.wds rs).length:Nat):Int)))\/bL hU (rCall m (aHere (aA (aB 1) aD))) rows [a0,some (.int wi),none] k (pre.length:Int) xs=.err no:=by
 intro n
 induction n with
 |zero=>
  intro pre rest xs k hn h hw hl hk
  obtain rfl:rest=[]:=xb0.mp (by omega)
  obtain⟨k,rfl⟩:∃j,k=j+1:=⟨k-1,by omega⟩
  refine .inl ⟨.nil,[],by rw[Rws.wds];rfl,by rw[RsG];trivial,.inl rfl,?_⟩
  unfold bL
  rw[BC (τ:=[a0,some (.int wi),none]) h (.inl rfl)]
  show R.ok (xs,(pre.length:Int))=_
  unfold Rws.ds Rws.wds
  rw[xa8,xbi,Nat.add_zero]
 |succ n ih=>
  intro pre rest xs k hn h hw hl hk
  obtain⟨k,rfl⟩:∃j,k=j+1:=⟨k-1,by omega⟩
  have stop:(rest=[]\/∃z,rest=wE::z)->(∃rs rest',rest=Rws.wds rs++rest'/\RsG rs d/\(rest'=[]\/∃z,rest'=wE::z)/\bL hU (rCall m (aHere (aA (aB 1) aD))) rows [a0,some (.int wi),none] (k+1) (pre.length:Int) xs=.ok (xs++Rws.ds rs,((pre.length+(Rws.wds rs).length:Nat):Int))):=fun hs=>by
   refine⟨.nil,rest,by rw[Rws.wds];rfl,by rw[RsG];trivial,hs,?_⟩
   unfold bL
   rw[BC (τ:=[a0,some (.int wi),none]) h (by
    rcases hs with rfl|⟨z,rfl⟩
    ·exact .inl rfl
    ·exact .inr ⟨_,rfl⟩)]
   show R.ok (xs,(pre.length:Int))=_
   unfold Rws.ds Rws.wds
   rw[xa8,xbi,Nat.add_zero]
  cases rest with
  |nil=>exact .inl (stop (.inl rfl))
  |cons w rest=>
   by_cases he:w=wE
   ·subst he;exact .inl (stop (.inr ⟨_,rfl⟩))
   have hwk:=hw w xaq
   have hah:cL rows (pre.length:Int)=wD w:=gD h
   have go:∀j,bL hU (rCall m (aHere (aA (aB 1) aD))) rows [a0,some (.int wi),none] (j+1) (pre.length:Int) xs=(m rows (pre.length:Int) [.non,.int wi]).bind fun x=>bif most xs.length then bL hU (rCall m (aHere (aA (aB 1) aD))) rows [a0,some (.int wi),none] j x.2 (xs++[x.1]) else .bad:=fun j=>by
    rw[bL]
    rw[wW hah (b:=true) (by rw[zb3,xag hwk.ne,xag he];rfl)]
    rfl
   rw[go]
   rw[xad] at hl hn hk
   rcases hm pre w rest h he hwk (fun q hq=>hw q (xae _ hq)) (by omega) with⟨r,rest',hr,hg,ok⟩|bad
   ·rw[ok]
    show (∃rs rest'',_/\_/\_/\(bif most xs.length then bL hU (rCall m (aHere (aA (aB 1) aD))) rows [a0,some (.int wi),none] k ((pre.length+(Rw.wd r).length:Nat):Int) (xs++[Rw.d r]) else .bad)=_)\/(bif most xs.length then bL hU (rCall m (aHere (aA (aB 1) aD))) rows [a0,some (.int wi),none] k ((pre.length+(Rw.wd r).length:Nat):Int) (xs++[Rw.d r]) else .bad)=_
    rw[o9 (by omega),cond_true]
    have hwl:1<=(Rw.wd r).length:=by cases r<;>(rw[Rw.wd];simp only[xad];omega)
    have hlen:(Rw.wd r).length+rest'.length=rest.length+1:=by rw[<- xaa,<- hr,xad]
    have hrow:rows=(pre++(Rw.wd r).map wD)++rest'.map wD:=by rw[h,hr,xav,xar]
    have hmem:∀q∈rest',Wk q:=fun q hq=>hw q (by rw[hr];exact xbb _ hq)
    have:=ih (pre++(Rw.wd r).map wD) rest' (xs++[Rw.d r]) k (by omega) hrow hmem (by rw[xaa];show xs.length+1+_<=_;omega) (by omega)
    rw[xaa,xab] at this
    rcases this with⟨rs,rest'',e1,e2,e3,e4⟩|bad
    ·refine .inl ⟨.cons r rs,rest'',?_,?_,e3,?_⟩
     ·rw[hr,e1,Rws.wds,xar]
     ·rw[RsG];exact⟨hg,e2⟩
     ·rw[e4,Rws.ds,Rws.wds,xaa,xar,Nat.add_assoc];rfl
    ·exact .inr bad
   ·rw[bad]
    exact .inr rfl
theorem OQ{m:RM}{rows:List D}{wi:Int}{d:Nat}(hm:BL m rows wi d):w6 (pK m) rows wi d:=by
 intro pre rest h hw hl
 have fin':∀z,lB hU (rCall m (aHere (aA (aB 1) aD))) rows [none,some (.int wi),none] (pre.length:Int)=z->pK m rows (pre.length:Int) [.non,.int wi]=(z.bind fun x=>mJ m rows [none,some (.int wi),some (.lst x.1)] x.2).bind cS:=fun z hz=>by
  show (vY m rows [none,some (.int wi),none] (pre.length:Int)).bind cS=_
  rw[<- hz];rfl
 rcases zb8 (a0:=none) hm rest.length pre rest [] (rest.length+1) (xak _) h hw (by simpa using hl) (xb5 _) with⟨rs,rest',e1,e2,e3,e4⟩|bad
 ·rw[xbq] at e4
  rw[fin' _ (nW e4 (by simp))]
  cases rs with
  |nil=>
   refine .inr ?_
   have t1:aK (aC a6 (aJ aW (aA (aB 2) aD)) (eC (.int 0))) [none,some (.int wi),some (.lst (Rws.ds .nil))]=.ok true:=by rw[Rws.ds];rfl
   show (mJ m rows [none,some (.int wi),some (.lst (Rws.ds .nil))] _).bind cS=_
   unfold mJ
   rw[iR (b8 t1) (e:=no) rfl];rfl
  |cons r rs=>
   refine .inl ⟨r,rs,rest',e1,e2,e3,?_⟩
   have hds:Rws.ds (.cons r rs)=Rw.d r::Rws.ds rs:=by rw[Rws.ds]
   have t1:aK (aC a6 (aJ aW (aA (aB 2) aD)) (eC (.int 0))) [none,some (.int wi),some (.lst (Rws.ds (.cons r rs)))]=.ok false:=by
    rw[hds]
    show R.ok (decide (((Rw.d r::Rws.ds rs).length:Int)=0))=_
    rw[xag (by rw[xad];omega)]
   show (mJ m rows [none,some (.int wi),some (.lst (Rws.ds (.cons r rs)))] _).bind cS=_
   unfold mJ
   rw[dM (b8 t1)]
   rfl
 ·rw[fin' _ (nW bad (by simp))]
  exact .inr rfl
theorem OR{rows:List D}:∀(d j:Nat) (wi:Int),wi+(d:Int)=4->d<=j->w6 (mK (j+1)) rows wi d:=by
 intro d
 induction d with
 |zero=>
  intro j wi hwi hj
  rw[wY]
  exact OQ (OP (fun h=>xat (by omega) h) (fun h=>xat (by omega) h))
 |succ d ih=>
  intro j wi hwi hj
  obtain⟨j,rfl⟩:∃i,j=i+1:=⟨j-1,by omega⟩
  rw[wY]
  exact OQ (OP (fun _=>ih j (wi+1) (by omega) (by omega)) (fun _=>Nat.succ_pos d))
end LmEb
open L2 DL Mir
namespace LmEc
open LmA LmY Lk31 Rdr TxtA LmDa LmDb LmDc LmDd LmDe LmDf LmEa LmEb
theorem OS(xs:List Str):∀i,i<=xs.length->fB xs i=i->(xs.take i).Nodup
 |0,_,_=>by simp
 |i+1,hi,h=>by
  have h1:=vQ xs i
  unfold fB at h
  split at h
  ·omega
  rename_i hn
  have ih:=OS xs i (by omega) (by omega)
  have hx:i<xs.length:=by omega
  rw[List.take_succ_eq_append_getElem hx,List.nodup_append]
  refine⟨ih,by simp,fun a ha b hb e=>?_⟩
  rw[xbc] at hb
  rw[xa9,xax hx] at hn
  apply hn
  have:xs[i]∈xs.take i:=by rw[<- hb,<- e];exact ha
  simpa using this
theorem OT{xs:List Str}(hl:xs.length<=1000):(fD [.lst (xs.map .str)]=.ok (.bl true)/\xs.Nodup)\/fD [.lst (xs.map .str)]=.ok (.bl false):=by
 by_cases h:xs.Nodup
 ·exact .inl ⟨BG h hl,h⟩
 refine .inr ?_
 rw[L6]
 unfold sO
 have e1:vR (aB 0) [some (.lst (xs.map .str))]=.ok (.int (fB xs xs.length:Int)):=by
  show mE (.lst (xs.map .str))=_
  unfold mE
  simp only[BF]
  rw[show Nat.ble xs.length 1000=true by simpa using hl];rfl
 have e2:aJ aW (aA (aB 0) aD) [some (.lst (xs.map .str))]=.ok (.int (xs.length:Int)):=by
  show R.ok (D.int ((xs.map D.str).length:Int))=_
  rw[xab]
 rw[l7,bS,e1,e2]
 show fin (jO (R.ok (D.bl (decide ((fB xs xs.length:Int)=(xs.length:Int))))))=_
 rw[xag (fun e=>h (by
  have:=OS xs xs.length (xak _) (by omega)
  rwa [xc0] at this))];rfl
structure oF(l:Rl):Prop where
 nm:Nm l.nm
 out:Nm l.out
 ps:∀x∈l.ps,Nm x
 nd:l.ps.Nodup
 p1:1<=l.ps.length
 p8:l.ps.length<=8
 ok:RsG (.cons l.r l.rs) 4
theorem zb9{w:List Str}(h:5<=w.length):∃x nm ps g out,w=x::nm::(ps++[g,out])/\1<=ps.length:=by
 obtain⟨x,nm,t,rfl⟩:∃x nm t,w=x::nm::t:=by
  match w,h with
  |x::nm::t,_=>exact⟨x,nm,t,rfl⟩
  |[x],h=>simp at h
  |[],h=>simp at h
 simp only[xad] at h
 have h1:t≠[]:=fun e=>by rw[e] at h;simp at h
 have h2:t.dropLast≠[]:=fun e=>by
  have:=congrArg List.length e
  rw[xc4] at this
  simp at this
  omega
 refine⟨x,nm,t.dropLast.dropLast,t.dropLast.getLast h2,t.getLast h1,?_,?_⟩
 ·congr 2
  rw[show [t.dropLast.getLast h2,t.getLast h1]=[t.dropLast.getLast h2]++[t.getLast h1] from rfl,<- xar,List.dropLast_concat_getLast,List.dropLast_concat_getLast]
 ·rw[xc4,xc4];omega
theorem zca{rows pre:List D}{w':List Str}{rest:List (List Str)}(h:rows=pre++wD (("rule":Str)::w')::rest.map wD)(hw:Wk (("rule":Str)::w'))(hk:∀w∈rest,Wk w)(hl:rest.length<=3000) :
  (∃l rest',(("rule":Str)::w')::rest=Rl.wd l++rest'/\oF l/\dR rows (pre.length:Int) [.non]=.ok (l.d,((pre.length+l.wd.length:Nat):Int)))\/dR rows (pre.length:Int) [.non]=.err no:=by
 have hah:cL rows (pre.length:Int)=wD (("rule":Str)::w'):=gD h
 have hkl:=hw.len
 have e0:∀P:D,cC (aB 1) (bG (eC (.int 2))) (bG (gJ gM (eC (.int 2)))) [none,some (wD (("rule":Str)::w')),none,none]=.ok P->dR rows (pre.length:Int) [.non]=(kE rows [none,some (wD (("rule":Str)::w')),some P,none] ((pre.length:Int)+1)).bind cS:=fun P hP=>by
  show (sQ rows [none,none,none,none] (pre.length:Int)).bind cS=_
  unfold sQ
  rw[fV (d:=wD (("rule":Str)::w')) (n':=(pre.length:Int)+1) (by unfold rTake;rw[hah])]
  show (sP rows [none,some (wD (("rule":Str)::w')),none,none] ((pre.length:Int)+1)).bind cS=_
  unfold sP
  rw[fV (d:=P) (n':=(pre.length:Int)+1) (jD hP)];rfl
 have t0:∀P:Option D,aK (aC gA (aJ aW (aA (aB 1) aD)) (eC (.int 5))) [none,some (wD (("rule":Str)::w')),P,none]=.ok (decide (((("rule":Str)::w').length:Int)<5)):=fun P=>by
  show R.ok (decide (((((("rule":Str)::w').map D.str).length:Nat):Int)<5))=_
  rw[xab]
 by_cases h5:((("rule":Str)::w').length:Int)<5
 ·refine .inr ?_
  rw[e0 (.lst (cX ((("rule":Str)::w').map D.str) (some 2) (some (-2)))) rfl]
  unfold kE
  rw[iR (b8 (b:=true) (by rw[fJ,t0,xaf h5];rfl)) (e:=no) rfl];rfl
 obtain⟨x,nm,ps,g,out,ew,hp1⟩:=zb9 (w:=("rule":Str)::w') (by omega)
 obtain⟨rfl,rfl⟩:x=("rule":Str)/\w'=nm::(ps++[g,out]):=by
  injection ew with a b
  exact⟨a.symm,b⟩
 have hlen:((("rule":Str)::nm::(ps++[g,out])).map D.str).length=ps.length+4:=by simp
 have hps:ps.length+4<=900:=by
  have:(("rule":Str)::nm::(ps++[g,out])).length=ps.length+4:=by simp
  omega
 have e1:cC (aB 1) (bG (eC (.int 2))) (bG (gJ gM (eC (.int 2)))) [none,some (wD (("rule":Str)::nm::(ps++[g,out]))),none,none]=.ok (.lst (ps.map .str)):=by
  show R.ok (D.lst (cX ((("rule":Str)::nm::(ps++[g,out])).map D.str) (some 2) (some (-2))))=_
  rw[show (("rule":Str)::nm::(ps++[g,out])).map D.str=.str "rule"::.str nm::(ps.map D.str++[.str g,.str out]) from by simp,OK]
 have g1:aF (wD (("rule":Str)::nm::(ps++[g,out]))) (.int (-2))=.ok (.str g):=wZ (k:=2) (by decide) (by rw[hlen];omega) (by
  rw[hlen,show ps.length+4-2=(ps.length+1+1:Nat) by omega,xbg,xbg,xbs,xbs,xav,xbe (by simp)]
  simp)
 have t1:dY (aK (aC gA (aJ aW (aA (aB 1) aD)) (eC (.int 5)))) (aK (aC bR (aC aF (aB 1) (gJ gM (eC (.int 2)))) (eC (.str ">")))) [none,some (wD (("rule":Str)::nm::(ps++[g,out]))),some (.lst (ps.map .str)),none]=.ok (!decide (g=">")):=by
  rw[fJ,t0,xag h5,gO]
  show c7 (bI bR (aF (wD (("rule":Str)::nm::(ps++[g,out]))) (.int (-2))) (.ok (.str ">")))=_
  rw[g1,cD,neS];rfl
 rw[e0 _ e1]
 by_cases hg:g=">"
 rotate_left
 ·refine .inr ?_
  unfold kE
  rw[iR (b8 (b:=true) (by rw[t1,xag hg];rfl)) (e:=no) rfl];rfl
 subst hg
 have g2:aF (wD (aS nm ps out)) (.int (-1))=.ok (.str out):=wZ (k:=1) (by decide) (by rw[hlen];omega) (by
  rw[hlen,show ps.length+4-1=(ps.length+1+1+1:Nat) by omega,xbg,xbg,xbs,xbs,xav,xbe (by simp)]
  simp)
 have g3:aF (wD (aS nm ps out)) (.int 1)=.ok (.str nm):=jP (j:=1) (by rfl)
 have ad:aI (.lst [.str nm,.str out]) (.lst (ps.map D.str))=.ok (.lst ((nm::out::ps).map D.str)):=by
  show (bif bD (2+(ps.map D.str).length) then R.ok (D.lst (.str nm::.str out::ps.map D.str)) else .bad)=_
  rw[show bD (2+(ps.map D.str).length)=true from xaf (by rw[xab];exact xah (show _<=1000 by omega) (by decide))];rfl
 have hcall:aR gR (aA (aC aI (aL (aP (aA (aC aF (aB 1) (eC (.int 1))) (aA (aC aF (aB 1) (gJ gM (eC (.int 1)))) aD)))) (aB 2)) aD) [none,some (wD (aS nm ps out)),some (.lst (ps.map .str)),none]=gR [.lst ((nm::out::ps).map .str)]:=by
  rw[jN,cE,bS,show aL (aP (aA (aC aF (aB 1) (eC (.int 1))) (aA (aC aF (aB 1) (gJ gM (eC (.int 1)))) aD))) [none,some (wD (aS nm ps out)),some (.lst (ps.map .str)),none]=.ok (.lst [.str nm,.str out]) from by
   show o3 (i6 (cZ (aF (wD (aS nm ps out)) (.int 1)) (cZ (aF (wD (aS nm ps out)) (.int (-1))) (.ok []))))=_
   rw[g3,g2];rfl,show aB 2 [none,some (wD (aS nm ps out)),some (.lst (ps.map .str)),none]=.ok (.lst (ps.map .str)) from rfl,cD,ad]
  rfl
 have h2:kE rows [none,some (wD (aS nm ps out)),some (.lst (ps.map .str)),none] ((pre.length:Int)+1)=pO rows [none,some (wD (aS nm ps out)),some (.lst (ps.map .str)),none] ((pre.length:Int)+1):=by
  unfold kE
  rw[dM (b8 (by rw[t1];rfl))]
 show (∃l rest',_/\_/\(kE rows [none,some (wD (aS nm ps out)),some (.lst (ps.map .str)),none] ((pre.length:Int)+1)).bind cS=_)\/(kE rows [none,some (wD (aS nm ps out)),some (.lst (ps.map .str)),none] ((pre.length:Int)+1)).bind cS=_
 rw[h2]
 have l1:=BI (d:=.lst ((nm::out::ps).map .str)) (xs:=nm::out::ps) (.inl rfl) (by rw[xad,xad];omega) (fun z hz=>hw.ok z (by
  rcases xal.mp hz with rfl|hz
  ·simp
  ·rcases xal.mp hz with rfl|hz
   ·simp
   ·simp[hz]))
 rcases l1 with⟨l1,hN⟩|l1
 rotate_left
 ·refine .inr ?_
  unfold pO
  rw[tF (e:=no) (BK (by rw[hcall,l1]))];rfl
 have h3:pO rows [none,some (wD (aS nm ps out)),some (.lst (ps.map .str)),none] ((pre.length:Int)+1)=nY rows [none,some (wD (aS nm ps out)),some (.lst (ps.map .str)),none] ((pre.length:Int)+1):=by
  unfold pO
  rw[oB (d:=.non) (n':=(pre.length:Int)+1) (jD (by rw[hcall,l1]))]
 rw[h3]
 have t2:aK (aC fI (aJ aW (aA (aB 2) aD)) (eC pL)) [none,some (wD (aS nm ps out)),some (.lst (ps.map .str)),none]=.ok (decide ((8:Int)<(ps.length:Int))):=by
  show R.ok (decide ((8:Int)<((ps.map D.str).length:Int)))=_
  rw[xab]
 by_cases h8:(8:Int)<(ps.length:Int)
 ·refine .inr ?_
  unfold nY
  rw[iR (b8 (b:=true) (by rw[fJ,t2,xaf h8];rfl)) (e:=no) rfl];rfl
 rcases OT (xs:=ps) (by omega) with⟨lu,hnd⟩|lu
 rotate_left
 ·refine .inr ?_
  unfold nY
  rw[iR (b8 (b:=true) (by
   rw[fJ,t2,xag h8,gO]
   show kX (c7 (fD [.lst (ps.map .str)]))=_
   rw[lu];rfl)) (e:=no) rfl];rfl
 have h4:nY rows [none,some (wD (aS nm ps out)),some (.lst (ps.map .str)),none] ((pre.length:Int)+1)=pN rows [none,some (wD (aS nm ps out)),some (.lst (ps.map .str)),none] ((pre.length:Int)+1):=by
  unfold nY
  rw[dM (b8 (by
   rw[fJ,t2,xag h8,gO]
   show kX (c7 (fD [.lst (ps.map .str)]))=_
   rw[lu];rfl))]
 rw[h4]
 have hrows:rows=(pre++[wD (aS nm ps out)])++rest.map wD:=by rw[h];simp
 have hpl:((pre++[wD (aS nm ps out)]).length:Int)=(pre.length:Int)+1:=by simp
 rcases OR (rows:=rows) 4 7 0 (by decide) (by decide) _ rest hrows hk hl with⟨r,rs,rest',hr,hg,hs,ok⟩|bad
 rotate_left
 ·rw[hpl] at bad
  refine .inr ?_
  unfold pN
  rw[BJ (e:=no) (show rCall jU (aHere (aA (eC (.int 0)) aD)) rows [none,some (wD (aS nm ps out)),some (.lst (ps.map .str)),none] ((pre.length:Int)+1)=_ from bad)];rfl
 rw[hpl] at ok
 have h5':pN rows [none,some (wD (aS nm ps out)),some (.lst (ps.map .str)),none] ((pre.length:Int)+1)=pM rows [none,some (wD (aS nm ps out)),some (.lst (ps.map .str)),some (.tup (Rws.ds (.cons r rs)))] (((pre++[wD (aS nm ps out)]).length+(Rws.wds (.cons r rs)).length:Nat):Int):=by
  unfold pN
  rw[fV (d:=.tup (Rws.ds (.cons r rs))) (n':=(((pre++[wD (aS nm ps out)]).length+(Rws.wds (.cons r rs)).length:Nat):Int)) (show rCall jU (aHere (aA (eC (.int 0)) aD)) rows [none,some (wD (aS nm ps out)),some (.lst (ps.map .str)),none] ((pre.length:Int)+1)=_ from ok)];rfl
 rw[h5']
 have hrows2:rows=(pre++[wD (aS nm ps out)]++(Rws.wds (.cons r rs)).map wD)++rest'.map wD:=by rw[hrows,hr,xav,<- xar]
 have hend:=OO hrows2
 rw[show ((pre++[wD (aS nm ps out)]++(Rws.wds (.cons r rs)).map wD).length:Int)=(((pre++[wD (aS nm ps out)]).length+(Rws.wds (.cons r rs)).length:Nat):Int) from by rw[xaa,xab]] at hend
 rcases hend with⟨z,rfl,ez⟩|bad
 rotate_left
 ·refine .inr ?_
  unfold pM
  rw[tF (e:=no) (show rCall gT aOnly rows _ _=_ from bad)];rfl
 refine .inl ⟨⟨nm,ps,out,r,rs⟩,z,?_,⟨hN nm xaq,hN out (xae _ xaq),fun q hq=>hN q (xae _ (xae _ hq)),hnd,hp1,by show ps.length<=8;omega,hg⟩,?_⟩
 ·rw[hr]
  show aS nm ps out::(Rws.wds (.cons r rs)++wE::z)=aS nm ps out::(Rws.wds (.cons r rs)++[(["end"]:List Str)])++z
  simp
 ·unfold pM
  rw[oB (d:=.non) (n':=(((pre++[wD (aS nm ps out)]).length+(Rws.wds (.cons r rs)).length:Nat):Int)+1) (show rCall gT aOnly rows [none,some (wD (aS nm ps out)),some (.lst (ps.map .str)),some (.tup (Rws.ds (.cons r rs)))] _=_ from ez)]
  unfold AY rRet
  rw[jD (d:=Rl.d ⟨nm,ps,out,r,rs⟩) (by
   show iL (cZ (aF (wD (aS nm ps out)) (.int 1)) (cZ (.ok (.tup (ps.map .str))) (cZ (aF (wD (aS nm ps out)) (.int (-1))) (cZ (.ok (.tup (Rws.ds (.cons r rs)))) (.ok [])))))=_
   rw[g3,g2];rfl)]
  show R.ok (Rl.d ⟨nm,ps,out,r,rs⟩,(((pre++[wD (aS nm ps out)]).length+(Rws.wds (.cons r rs)).length:Nat):Int)+1)=_
  congr 2
  show _=(((pre.length+(aS nm ps out::(Rws.wds (.cons r rs)++[(["end"]:List Str)])).length:Nat)):Int)
  simp only[xad,xaa,xbi]
  omega
end LmEc
open L2 DL Mir
open L2 DL Mir
open L2 DL Mir
namespace LmWf
open LmA LmY LmWa TxtA
theorem kH(ns:List Int)(hb:∀n∈ns,0<=n/\n<1000000)(j:Nat)(h:j<ns.length):∃d:Int,aF (.lst (ns.map .int)) (.int (j:Int))=.ok (.int d)/\0<=d/\d<1000000:=
 ⟨ns[j],jP (by rw[xbl,xax h];rfl),(hb _ (xcd h)).1,(hb _ (xcd h)).2⟩
end LmWf
open L2 DL Mir
namespace LmWg
open LmA LmY LmWa LmWf TxtA
def jV:Str:="abcdefghijklmnopqrstuvwxyz"
theorem BM(r:Int)(h0:0<=r)(h1:r<26):jR (.str jV) (.int r)=.ok (.str (aE [97+r.toNat])):=by
 obtain⟨j,rfl⟩:∃j:Nat,r=(j:Int):=⟨r.toNat,by omega⟩
 have hj:j<26:=by omega
 have hc:jV.cps=((List.range 26).map (97 + ·)).toArray:=by rfl
 show (bif decide (0<=(j:Int))&&Nat.blt (j:Int).natAbs 1073741824 then (match jV.cps[(j:Int).toNat]? with
  |some c=>R.ok (D.str (iO c))
  |none=>.bad) else .bad)=_
 rw[xaf h0,show Nat.blt (j:Int).natAbs 1073741824=true from by rw[Nat.blt_eq];omega,hc,xbm]
 rw[List.getElem?_toArray,xbl,xb3 hj]
 rfl
theorem zcb(a b:List Nat):(aE a:Str)++aE b=aE (a++b):=by
 show (⟨(aE a).cps++(aE b).cps⟩:Str)=_
 unfold aE
 simp
theorem add_ok{a b:List Nat}(h:a.length+b.length<=1000000):aI (.str (aE a)) (.str (aE b))=.ok (.str (aE (a++b))):=by
 show (bif bD ((aE a).length+(aE b).length) then R.ok (D.str (aE a++aE b)) else .bad)=_
 rw[show bD ((aE a).length+(aE b).length)=true from xaf (by show a.toArray.size+b.toArray.size<=_;rw[xao,xao];exact xah h (by decide)),zcb];rfl
theorem ofL_inj{a b:List Nat}(h:aE a=aE b):a=b:=by
 have:=congrArg (fun z:Str=>z.cps.toList) h
 simpa [aE] using this
end LmWg
open L2 DL Mir
namespace LmDg
open LmA LmY Lk31 Rdr TxtA LmDa LmDb LmDc LmDd LmDe LmDf
def cl(x:Str):List Nat:=x.cps.toList
theorem kI(x:Str):aE (cl x)=x:=by unfold aE cl;simp
theorem pY(l:List Nat):cl (aE l)=l:=by unfold aE cl;simp
theorem w9(x:Str):(cl x).length=x.length:=by unfold cl;simp[Str.length]
def bT(ws:List Str):List Nat:=TxtA.flat [32] (ws.map cl)
abbrev rT(ws:List Str):D:=.str (aE (bT ws))
theorem BN{ws:List Str}(h:∀x∈ws,x.length<=1000)(hl:ws.length<=1000):fA (.str " ") (.lst (ws.map .str))=.ok (rT ws):=by
 have:=LmY.join_ok (y:=[32]) (rows:=ws.map cl) (B:=1000) (fun r hr=>by
  obtain⟨x,hx,rfl⟩:=xay.mp hr
  rw[w9];exact h x hx) (by rw[xab];show _+_*1<=_;omega)
 rw[xbj,xbj] at this
 rw[show (ws.map ((D.str ∘ aE) ∘ cl))=ws.map D.str from xco fun x _=>by show D.str (aE (cl x))=_;rw[kI]] at this
 exact this
theorem zcc{k:Nat}(hk:k<=60):aI (.str "times ") (.str (bE k))=.ok (rT ["times",bE k]):=by
 have lo:=yF (by decide) (show k<10^10 by omega)
 have:=LmWg.add_ok (a:=[116,105,109,101,115,32]) (b:=eD k) (by show 6+(eD k).length<=_;omega)
 rw[show (D.str "times ")=.str (aE [116,105,109,101,115,32]) from rfl]
 show aI _ (.str (aE (eD k)))=_
 rw[this]
 unfold rT bT
 rw[xbg,xbg,xck,show cl (bE k)=eD k from pY _]
 congr 3
def a7(wss:List (List Str)):List D:=wss.map rT
theorem OU{Z:DSt}{A:Option D}{xs:List D}{z:Option D}{fe:DSt->R D}{d:D}(he:fe [A,none,z]=.ok d)(hl:xs.length<=1000000):iH [1] 1 fe [A,some (.lst xs),z]=.ok (.nx [A,some (.lst (xs++[d])),z]):=by
 rw[nQ,show fR [A,some (.lst xs),z] 1=.ok xs from rfl,show mask [1] [A,some (.lst xs),z]=[A,none,z] from rfl,he,nS _ _ _ _ hl];rfl
end LmDg
open L2 DL Mir
namespace LmDh
open LmA LmY Lk31 Rdr TxtA LmDa LmDb LmDc LmDd LmDe LmDf LmDg
theorem OV:∀us:List (List Str),imms (a7 us)=true
 |[]=>rfl
 |u::us=>by
  show (imm (rT u)&&imms (a7 us))=true
  rw[OV us];rfl
theorem zcd{m:List D->R D}{A:Option D}{d:Nat}(hm:0<d->∀rs,RsOk rs (d-1)->(Rws.wds rs).length<=1000->m [.tup (Rws.ds rs)]=.ok (.lst (a7 (Rws.wds rs)))){r:Rw}(hr:dG r d){ys:List (List Str)}(hl:ys.length+(Rw.wd r).length<=1000) :
  mO m [A,some (.lst (a7 ys)),some (Rw.d r)]=.ok (.nx [A,some (.lst (a7 (ys++Rw.wd r))),some (Rw.d r)]):=by
 cases r with
 |cross n a b c e=>
  rw[dG] at hr
  have hw:Rw.wd (.cross n a b c e)=[([n,"=",a,b,"x",c,e]:List Str)]:=by rw[Rw.wd]
  have hd:Rw.d (.cross n a b c e)=.tup [.str "cross",.str n,.str a,.str b,.str c,.str e]:=by rw[Rw.d]
  rw[hw,hd]
  have ej:gZ (eC (.str " ")) (aL (aP (aA (aC aF (aB 2) (eC (.int 1))) (aA (eC (.str "=")) (aA (aC aF (aB 2) (eC (.int 2))) (aA (aC aF (aB 2) (eC (.int 3))) (aA (eC (.str "x")) (aA (aC aF (aB 2) (eC (.int 4))) (aA (aC aF (aB 2) (eC (.int 5))) aD))))))))) [A,none,some (.tup [.str "cross",.str n,.str a,.str b,.str c,.str e])]=.ok (rT [n,"=",a,b,"x",c,e]):=by
   show fA (.str " ") (.lst (([n,"=",a,b,"x",c,e]:List Str).map .str))=_
   refine BN (fun x hx=>?_) (by show 7<=1000;decide)
   simp only[xal,xbk,or_false] at hx
   rcases hx with rfl|rfl|rfl|rfl|rfl|rfl|rfl
   ·exact hr.1.2
   ·decide
   ·exact hr.2.1.2
   ·exact hr.2.2.1.2
   ·decide
   ·exact hr.2.2.2.1.2
   ·exact hr.2.2.2.2.2
  unfold mO
  rw[eM,show aK (aC a6 (aC aF (aB 2) (eC (.int 0))) (eC (.str "times"))) [A,some (.lst (a7 ys)),some (.tup [.str "cross",.str n,.str a,.str b,.str c,.str e])]=.ok false from rfl,gP,eM,show aK (aC a6 (aC aF (aB 2) (eC (.int 0))) (eC (.str "cross"))) [A,some (.lst (a7 ys)),some (.tup [.str "cross",.str n,.str a,.str b,.str c,.str e])]=.ok true from rfl,l6,OU (Z:=[]) ej (by unfold a7;rw[xab];omega)]
  unfold a7
  rw[xav];rfl
 |rule n f as=>
  rw[dG] at hr
  have hw:Rw.wd (.rule n f as)=[([n,"=",f]++as:List Str)]:=by rw[Rw.wd]
  have hd:Rw.d (.rule n f as)=.tup [.str "rule",.str n,.str f,.tup (as.map .str)]:=by rw[Rw.d]
  rw[hw,hd]
  have hadd:aI (.lst [.str n,.str "=",.str f]) (.lst (as.map D.str))=.ok (.lst (([n,"=",f]++as:List Str).map D.str)):=by
   show (bif bD (3+(as.map D.str).length) then R.ok (D.lst ([.str n,.str "=",.str f]++as.map D.str)) else .bad)=_
   rw[show bD (3+(as.map D.str).length)=true from xaf (by rw[xab];have:=hr.2.2.2.1;exact xah (show _<=1000 by omega) (by decide)),xav];rfl
  have ej:gZ (eC (.str " ")) (aC aI (aL (aP (aA (aC aF (aB 2) (eC (.int 1))) (aA (eC (.str "=")) (aA (aC aF (aB 2) (eC (.int 2))) aD))))) (aL (rP uY (aA (aC aF (aB 2) (eC (.int 3))) aD)))) [A,none,some (.tup [.str "rule",.str n,.str f,.tup (as.map .str)])]=.ok (rT ([n,"=",f]++as)):=by
   show ((aI (.lst [.str n,.str "=",.str f]) (.lst (as.map D.str))).bind fun d=>fA (.str " ") d)=_
   rw[hadd]
   show fA (.str " ") (.lst (([n,"=",f]++as:List Str).map .str))=_
   refine BN (fun x hx=>?_) (by rw[xaa];have:=hr.2.2.2.1;show 3+_<=_;omega)
   rcases xa1.mp hx with hx|hx
   ·simp only[xal,xbk,or_false] at hx
    rcases hx with rfl|rfl|rfl
    ·exact hr.1.2
    ·decide
    ·exact hr.2.1.2
   ·exact(hr.2.2.2.2 x hx).2
  unfold mO
  rw[eM,show aK (aC a6 (aC aF (aB 2) (eC (.int 0))) (eC (.str "times"))) [A,some (.lst (a7 ys)),some (.tup [.str "rule",.str n,.str f,.tup (as.map .str)])]=.ok false from rfl,gP,eM,show aK (aC a6 (aC aF (aB 2) (eC (.int 0))) (eC (.str "cross"))) [A,some (.lst (a7 ys)),some (.tup [.str "rule",.str n,.str f,.tup (as.map .str)])]=.ok false from rfl,gP,OU (Z:=[]) ej (by unfold a7;rw[xab];omega)]
  unfold a7
  rw[xav];rfl
 |times k rs=>
  rw[dG] at hr
  obtain⟨h1,h0,_,_,h5⟩:=hr
  have hw:Rw.wd (.times k rs)=(["times",bE k]:List Str)::(Rws.wds rs++[(["end"]:List Str)]):=by rw[Rw.wd]
  have hd:Rw.d (.times k rs)=.tup [.str "times",.int (k:Int),.tup (Rws.ds rs)]:=by rw[Rw.d]
  rw[hw,xad,xaa] at hl
  rw[hw,hd]
  have hm:=hm h0 rs h5 (by omega)
  have e1:aC aI (eC (.str "times ")) (aJ iN (aA (aC aF (aB 2) (eC (.int 1))) aD)) [A,some (.lst (a7 ys)),some (.tup [.str "times",.int (k:Int),.tup (Rws.ds rs)])]=.ok (rT ["times",bE k]):=by
   show bI aI (.ok (.str "times ")) (iN [.int (k:Int)]).noerr=_
   rw[N9 (xci h1 (by decide))]
   exact zcc h1
  have ad:∀(us vs:List (List Str)),us.length+vs.length<=10000->aI (.lst (a7 us)) (.lst (a7 vs))=.ok (.lst (a7 (us++vs))):=fun us vs hq=>by
   show (bif bD ((a7 us).length+(a7 vs).length) then R.ok (D.lst (a7 us++a7 vs)) else .bad)=_
   unfold a7
   rw[xab,xab,show bD (us.length+vs.length)=true from xaf (xah hq (by decide)),xav];rfl
  have e2:pA (aC aI (aC aI (aB 1) (aL (aP (aA (aC aI (eC (.str "times ")) (aJ iN (aA (aC aF (aB 2) (eC (.int 1))) aD))) aD)))) (aR m (aA (aC aF (aB 2) (eC (.int 2))) aD))) (aL (aP (aA (eC (.str "end")) aD))) [A,some (.lst (a7 ys)),some (.tup [.str "times",.int (k:Int),.tup (Rws.ds rs)])]=.ok (a7 (ys++((["times",bE k]:List Str)::(Rws.wds rs++[(["end"]:List Str)])))):=by
   have f1:aC aI (aC aI (aB 1) (aL (aP (aA (aC aI (eC (.str "times ")) (aJ iN (aA (aC aF (aB 2) (eC (.int 1))) aD))) aD)))) (aR m (aA (aC aF (aB 2) (eC (.int 2))) aD)) [A,some (.lst (a7 ys)),some (.tup [.str "times",.int (k:Int),.tup (Rws.ds rs)])]=.ok (.lst (a7 (ys++[(["times",bE k]:List Str)]++Rws.wds rs))):=by
    rw[bS,bS,gX,o0,cE,e1]
    show bI aI (aI (.lst (a7 ys)) (.lst (a7 [(["times",bE k]:List Str)]))) (m [.tup (Rws.ds rs)])=_
    rw[ad ys _ (by show _+1<=_;omega),hm,cD,ad _ _ (by rw[xaa];show _+1+_<=_;omega)]
   unfold pA
   rw[f1]
   show rZ (.lst (a7 (ys++[(["times",bE k]:List Str)]++Rws.wds rs))) (.lst (a7 [(["end"]:List Str)]))=_
   show (bif bD ((a7 (ys++[(["times",bE k]:List Str)]++Rws.wds rs)).length+1) then R.ok (a7 (ys++[(["times",bE k]:List Str)]++Rws.wds rs)++a7 [(["end"]:List Str)]) else .bad)=_
   rw[show bD ((a7 (ys++[(["times",bE k]:List Str)]++Rws.wds rs)).length+1)=true from xaf (by unfold a7;rw[xab,xaa,xaa];exact xah (show ys.length+1+_+1<=2000 by omega) (by decide))]
   show R.ok (a7 (ys++[(["times",bE k]:List Str)]++Rws.wds rs)++a7 [(["end"]:List Str)])=_
   unfold a7
   simp
  unfold mO
  rw[eM,show aK (aC a6 (aC aF (aB 2) (eC (.int 0))) (eC (.str "times"))) [A,some (.lst (a7 ys)),some (.tup [.str "times",.int (k:Int),.tup (Rws.ds rs)])]=.ok true from rfl,l6]
  unfold uM
  rw[e2]
  show (bif imms (a7 (ys++((["times",bE k]:List Str)::(Rws.wds rs++[(["end"]:List Str)])))) then R.ok (aG.nx [A,some (.lst (a7 (ys++((["times",bE k]:List Str)::(Rws.wds rs++[(["end"]:List Str)]))))),some (.tup [.str "times",.int (k:Int),.tup (Rws.ds rs)])]) else .bad)=_
  rw[OV];rfl
theorem OW{m:List D->R D}{A:Option D}{d:Nat}(hm:0<d->∀rs,RsOk rs (d-1)->(Rws.wds rs).length<=1000->m [.tup (Rws.ds rs)]=.ok (.lst (a7 (Rws.wds rs)))):∀(rs:Rws) (ys:List (List Str)) (z:Option D),RsOk rs d->ys.length+(Rws.wds rs).length<=1000->
  ∃z',eZ [2] bX (mO m) (Rws.ds rs) [A,some (.lst (a7 ys)),z]=.ok (.nx [A,some (.lst (a7 (ys++Rws.wds rs))),z'])
 |.nil,ys,z,_,_=>⟨z,by rw[Rws.ds,Rws.wds,AC,xa8]⟩
 |.cons r rs,ys,z,hr,hl=>by
  rw[RsOk] at hr
  have hw:Rws.wds (.cons r rs)=Rw.wd r++Rws.wds rs:=by rw[Rws.wds]
  rw[hw,xaa] at hl
  obtain⟨z',e⟩:=OW (A:=A) hm rs (ys++Rw.wd r) (some (Rw.d r)) hr.2 (by rw[xaa];omega)
  refine⟨z',?_⟩
  rw[show Rws.ds (.cons r rs)=Rw.d r::Rws.ds rs by rw[Rws.ds],vI]
  show kZ (mO m [A,some (.lst (a7 ys)),some (Rw.d r)]) _=_
  rw[zcd hm hr.1 (by omega),vH,e,hw,xar]
theorem BO:∀(n d:Nat) (rs:Rws),d<n->RsOk rs d->(Rws.wds rs).length<=1000->mP n [.tup (Rws.ds rs)]=.ok (.lst (a7 (Rws.wds rs)))
 |0,_,_,h,_,_=>xat h (Nat.not_lt_zero _)
 |n+1,d,rs,h,hr,hl=>by
  rw[za2]
  unfold pT NG NF
  have hm:0<d->∀rs,RsOk rs (d-1)->(Rws.wds rs).length<=1000->mP n [.tup (Rws.ds rs)]=.ok (.lst (a7 (Rws.wds rs))):=fun h0 rs hr hl=>BO n (d-1) rs (by omega) hr hl
  obtain⟨z',e⟩:=OW (A:=some (.tup (Rws.ds rs))) hm rs [] none hr (by simpa using hl)
  rw[xbq] at e
  show fin (kW (eZ [2] bX (mO (mP n)) (Rws.ds rs) [some (.tup (Rws.ds rs)),some (.lst (a7 [])),none]) _)=_
  rw[e];rfl
end LmDh
open L2 DL Mir
namespace LmDi
open LmA LmY Lk31 Rdr TxtA LmDa LmDb LmDc LmDd LmDe LmDf LmDg LmDh
abbrev dD(ls:List Rl)(r:Rw)(rs:Rws):D:=.tup [.tup (ls.map Rl.d),.tup (Rws.ds (.cons r rs))]
theorem appS{A b c d e:Option D}{xs:List D}{fe:DSt->R D}{v:D}(he:fe [A,none,b,c,d,e]=.ok v)(hl:xs.length<=1000000):iH [1] 1 fe [A,some (.lst xs),b,c,d,e]=.ok (.nx [A,some (.lst (xs++[v])),b,c,d,e]):=by
 rw[nQ,show fR [A,some (.lst xs),b,c,d,e] 1=.ok xs from rfl,show mask [1] [A,some (.lst xs),b,c,d,e]=[A,none,b,c,d,e] from rfl,he,nS _ _ _ _ hl];rfl
def eQ(wss:List (List Str)):List Nat:=TxtA.flat [59,32] (wss.map bT)
theorem zcf{wss:List (List Str)}(h:∀ws∈wss,(bT ws).length<=1000)(hl:wss.length<=1000):fA (.str "; ") (.lst (a7 wss))=.ok (.str (aE (eQ wss))):=by
 have:=LmY.join_ok (y:=[59,32]) (rows:=wss.map bT) (B:=1000) (fun r hr=>by
  obtain⟨x,hx,rfl⟩:=xay.mp hr
  exact h x hx) (by rw[xab];show _+_*2<=_;omega)
 rw[xbj,xbj] at this
 exact this
end LmDi
open L2 DL Mir
namespace LmEd
open LmA LmY Lk31 Rdr TxtA LmDa LmDb LmDc LmDd LmDe LmDf LmDi LmEa LmEb LmEc
theorem OX{rows pre:List D}(h:rows=pre):cL rows (pre.length:Int)=wD []:=by
 unfold cL
 rw[h,xbm,xa9,xbx (xak _)];rfl
theorem OY{rows:List D}{τ:DSt}{n:Int}(h:cL rows n=wD []):eP rows τ n=.ok (false,n):=by
 have e:rSl rAhead b7 (bG (eC (.int 1))) rows τ n=.ok (.lst [],n):=by
  show (match cL rows n with|.lst xs=>R.ok (D.lst (cX xs none (some 1)),n)|_=>.bad)=_
  rw[h]
  rfl
 unfold eP rCmp
 rw[e];rfl
theorem zcg{rows:List D}{τ:DSt}:∀(n:Nat) (pre:List D) (rest:List (List Str)) (xs:List D) (k:Nat),rest.length<=n->rows=pre++rest.map wD->(∀w∈rest,Wk w)->xs.length+rest.length<=3000->rest.length<k->
  (∃ls rest',rest=a8 ls++rest'/\(∀l∈ls,oF l)/\bL eP (rCall dR aOnly) rows τ k (pre.length:Int) xs=.ok (xs++ls.map Rl.d,((pre.length+(a8 ls).length:Nat):Int)))\/bL eP (rCall dR aOnly) rows τ k (pre.length:Int) xs=.err no:=by
 intro n
 induction n with
 |zero=>
  intro pre rest xs k hn h hw hl hk
  obtain rfl:rest=[]:=xb0.mp (by omega)
  obtain⟨k,rfl⟩:∃j,k=j+1:=⟨k-1,by omega⟩
  refine .inl ⟨[],[],rfl,by simp,?_⟩
  unfold bL
  rw[OY (OX (by rw[h];simp))]
  show R.ok (xs,(pre.length:Int))=_
  rw[xck,xa8];rfl
 |succ n ih=>
  intro pre rest xs k hn h hw hl hk
  obtain⟨k,rfl⟩:∃j,k=j+1:=⟨k-1,by omega⟩
  have stop:eP rows τ (pre.length:Int)=.ok (false,(pre.length:Int))->(∃ls rest',rest=a8 ls++rest'/\(∀l∈ls,oF l)/\bL eP (rCall dR aOnly) rows τ (k+1) (pre.length:Int) xs=.ok (xs++ls.map Rl.d,((pre.length+(a8 ls).length:Nat):Int))):=fun ht=>by
   refine⟨[],rest,rfl,by simp,?_⟩
   unfold bL
   rw[ht]
   show R.ok (xs,(pre.length:Int))=_
   rw[xck,xa8];rfl
  cases rest with
  |nil=>exact .inl (stop (OY (OX (by rw[h];simp))))
  |cons w rest=>
   have hwk:=hw w xaq
   obtain⟨x,w',rfl⟩:∃x w',w=x::w':=by cases w with
    |nil=>exact xat rfl hwk.ne
    |cons x w'=>exact⟨x,w',rfl⟩
   have hah:cL rows (pre.length:Int)=wD (x::w'):=gD h
   by_cases hx:x="rule"
   rotate_left
   ·exact .inl (stop (by rw[w5 hah,xag hx]))
   subst hx
   have go:bL eP (rCall dR aOnly) rows τ (k+1) (pre.length:Int) xs=(dR rows (pre.length:Int) [.non]).bind fun x=>bif most xs.length then bL eP (rCall dR aOnly) rows τ k x.2 (xs++[x.1]) else .bad:=by
    rw[bL,w5 hah,xaf rfl];rfl
   rw[go]
   rw[xad] at hl hn hk
   rcases zca h hwk (fun q hq=>hw q (xae _ hq)) (by omega) with⟨l,rest',hr,hg,ok⟩|bad
   ·rw[ok]
    show (∃ls rest'',_/\_/\(bif most xs.length then bL eP (rCall dR aOnly) rows τ k ((pre.length+l.wd.length:Nat):Int) (xs++[l.d]) else .bad)=_)\/(bif most xs.length then bL eP (rCall dR aOnly) rows τ k ((pre.length+l.wd.length:Nat):Int) (xs++[l.d]) else .bad)=_
    rw[o9 (by omega),cond_true]
    have hwl:1<=l.wd.length:=by show 1<=(_::_).length;rw[xad];omega
    have hlen:l.wd.length+rest'.length=rest.length+1:=by rw[<- xaa,<- hr,xad]
    have:=ih (pre++l.wd.map wD) rest' (xs++[l.d]) k (by omega) (by rw[h,hr,xav,xar]) (fun q hq=>hw q (by rw[hr];exact xbb _ hq)) (by rw[xaa];show xs.length+1+_<=_;omega) (by omega)
    rw[xaa,xab] at this
    rcases this with⟨ls,rest'',e1,e2,e3⟩|bad
    ·refine .inl ⟨l::ls,rest'',?_,fun q hq=>?_,?_⟩
     ·rw[hr,e1]
      show l.wd++(a8 ls++rest'')=(l.wd++a8 ls)++rest''
      rw[xar]
     ·rcases xal.mp hq with rfl|hq
      ·exact hg
      ·exact e2 q hq
     ·rw[e3,show a8 (l::ls)=l.wd++a8 ls from rfl,xaa,xar,Nat.add_assoc,xbg];rfl
    ·exact .inr bad
   ·rw[bad];exact .inr rfl
theorem zch{T:D}{ws:List (List Str)}(hT:g8 [T]=.ok (.lst (ws.map wD)))(hw:∀w∈ws,Wk w)(hl:ws.length<=3000) :
  (∃ls r rs,ws=a8 ls++Rws.wds (.cons r rs)/\(∀l∈ls,oF l)/\(ls.map Rl.nm).Nodup/\ls.length<=20/\RsG (.cons r rs) 4)\/dL [T]=.err no:=by
 have e0:dL [T]=fin ((sU (ws.map wD) [some T,none,none,none] 0).bind sH):=by
  rw[AZ]
  unfold pQ sReader
  rw[show aR g8 (aA (aB 0) aD) [some T,none,none,none]=_ from hT]
  rfl
 generalize hR:ws.map wD=rows at e0
 have e1:∀z,lB eP (rCall dR aOnly) rows [some T,none,none,none] 0=z->sU rows [some T,none,none,none] 0=z.bind fun x=>mL rows [some T,none,some (.lst x.1),none] x.2:=fun z hz=>by
  rw[<- hz];rfl
 rcases zcg (rows:=rows) (τ:=[some T,none,none,none]) ws.length [] ws [] (ws.length+1) (xak _) hR.symm hw (by simpa using hl) (xb5 _) with⟨ls,rest,h1,h2,h3⟩|bad
 rotate_left
 ·refine .inr ?_
  rw[e0,e1 _ (nW (show bL eP (rCall dR aOnly) rows [some T,none,none,none] (ws.length+1) 0 []=_ from bad) (by simp))];rfl
 rw[xbq,xbi,xcl] at h3
 rw[e0,e1 _ (nW (show bL eP (rCall dR aOnly) rows [some T,none,none,none] (ws.length+1) 0 []=_ from h3) (by simp))]
 show _\/fin ((mL rows [some T,none,some (.lst (ls.map Rl.d)),none] (((a8 ls).length:Nat):Int)).bind sH)=_
 have t1:aK (aC fI (aJ aW (aA (aB 2) aD)) (eC sR)) [some T,none,some (.lst (ls.map Rl.d)),none]=.ok (decide ((20:Int)<(ls.length:Int))):=by
  show R.ok (decide ((20:Int)<((ls.map Rl.d).length:Int)))=_
  rw[xab]
 by_cases h20:(20:Int)<(ls.length:Int)
 ·refine .inr ?_
  unfold mL
  rw[iR (b8 (b:=true) (by rw[t1,xaf h20])) (e:=no) rfl];rfl
 have e2:dN 1 [0] (dJ (aB 2)) bX c9 (aC aF (aB 0) (eC (.int 0))) [some T,none,some (.lst (ls.map Rl.d)),none]=.ok ((ls.map Rl.nm).map .str):=by
  rw[l9,show dJ (aB 2) [some T,none,some (.lst (ls.map Rl.d)),none]=.ok (ls.map Rl.d) from rfl,nU (g:=fun d=>match d with|.tup (a::_)=>a|d=>d) (by rw[xab];omega) (fun d hd=>?_),xbj,xbj]
  ·rfl
  ·obtain⟨l,_,rfl⟩:=xay.mp hd
   rfl
 have t2:∀b,fD [.lst ((ls.map Rl.nm).map .str)]=.ok (.bl b)->dI (aK (aR fD (aA (aL (dN 1 [0] (dJ (aB 2)) bX c9 (aC aF (aB 0) (eC (.int 0))))) aD))) [some T,none,some (.lst (ls.map Rl.d)),none]=.ok (!b):=fun b hb=>by
  rw[j9,dQ,jN,cE,gX,e2]
  show kX (c7 (fD [.lst ((ls.map Rl.nm).map .str)]))=_
  rw[hb];rfl
 have g1:mL rows [some T,none,some (.lst (ls.map Rl.d)),none] (((a8 ls).length:Nat):Int)=pP rows [some T,none,some (.lst (ls.map Rl.d)),none] (((a8 ls).length:Nat):Int):=by
  unfold mL
  rw[dM (b8 (by rw[t1,xag h20]))]
 rw[g1]
 rcases OT (xs:=ls.map Rl.nm) (by rw[xab];omega) with⟨lu,hnd⟩|lu
 rotate_left
 ·refine .inr ?_
  unfold pP
  rw[iR (b8 (t2 _ lu)) (e:=no) rfl];rfl
 have g2:pP rows [some T,none,some (.lst (ls.map Rl.d)),none] (((a8 ls).length:Nat):Int)=sS rows [some T,none,some (.lst (ls.map Rl.d)),none] (((a8 ls).length:Nat):Int):=by
  unfold pP
  rw[dM (b8 (t2 _ lu))]
 rw[g2]
 have hrow:rows=(a8 ls).map wD++rest.map wD:=by rw[<- hR,h1,xav]
 have hws:ws.length=(a8 ls).length+rest.length:=by rw[h1,xaa]
 have hq:=OR (rows:=rows) 4 7 0 (by decide) (by decide) ((a8 ls).map wD) rest hrow (fun q hq=>hw q (by rw[h1];exact xbb _ hq)) (by omega)
 rw[xab] at hq
 rcases hq with⟨r,rs,rest',hr,hg,hs,ok⟩|bad
 rotate_left
 ·refine .inr ?_
  unfold sS
  rw[BJ (e:=no) (show rCall jU (aHere (aA (eC (.int 0)) aD)) rows [some T,none,some (.lst (ls.map Rl.d)),none] (((a8 ls).length:Nat):Int)=_ from bad)];rfl
 rcases hs with rfl|⟨z,rfl⟩
 ·refine .inl ⟨ls,r,rs,?_,h2,hnd,by omega,hg⟩
  rw[h1,hr,xa8]
 ·refine .inr ?_
  unfold sS
  rw[fV (d:=.tup (Rws.ds (.cons r rs))) (n':=(((a8 ls).length+(Rws.wds (.cons r rs)).length:Nat):Int)) (show rCall jU (aHere (aA (eC (.int 0)) aD)) rows [some T,none,some (.lst (ls.map Rl.d)),none] (((a8 ls).length:Nat):Int)=_ from ok)]
  unfold vZ
  have t3:∀τ,rCmp bR rAhead (aL (aP aD)) rows τ (((a8 ls).length+(Rws.wds (.cons r rs)).length:Nat):Int)=.ok (true,(((a8 ls).length+(Rws.wds (.cons r rs)).length:Nat):Int)):=fun τ=>by
   have ha:cL rows (((a8 ls).length+(Rws.wds (.cons r rs)).length:Nat):Int)=wD wE:=by
    have:=gD (rows:=rows) (pre:=(a8 ls).map wD++(Rws.wds (.cons r rs)).map wD) (w:=wD wE) (rest:=z.map wD) (by rw[hrow,hr,xav,xar];rfl)
    rw[xaa,xab,xab] at this
    exact this
   show ((bR (cL rows (((a8 ls).length+(Rws.wds (.cons r rs)).length:Nat):Int)) (.lst [])).bind fun z=>(fG z).bind fun b=>R.ok (b,_))=_
   rw[ha];rfl
  rw[iR (t3 _) (e:=no) rfl];rfl
end LmEd
open L2 DL Mir
namespace LmEe
open LmA LmY Lk31 Rdr TxtA LmDa LmDb LmDd LmDe LmDf LmEa LmEb LmEc
def BP:List Str->Bool
 |[a,x,c,d]=>decide (x="x")&&cK a&&cK c&&cK d
 |_=>false
def tH:List Str->Bool
 |n::e::f::as=>decide (e="=")&&cK n&&cK f&&(!as.isEmpty&&as.all cK||BP as)
 |_=>false
def dS:List Str->Bool
 |[t,y]=>decide (t="times")&&mT y
 |_=>false
def kJ:List Str->Str
 |_::nm::_=>nm
 |_=>""
abbrev fW:Str:=">"
def lE:List Str->Bool
 |r::nm::t=>decide (r="rule")&&decide (3<=t.length)&&decide (t.dropLast.getLast? = some fW)&&cK nm&&(t.getLast?.any cK)&&(t.dropLast.dropLast.all cK&&decide (t.dropLast.dropLast.Nodup)&&decide (t.dropLast.dropLast.length<=8))
 |_=>false
structure SE where
 ru:Bool
 dp:Nat
 fr:Bool
 mn:Bool
 sn:List Str
def cA(s:SE)(w:List Str):Option SE:=
 bif decide (w=wE) then (bif s.fr then none else match s.dp with
  |d+1=>some ⟨s.ru,d,false,s.mn,s.sn⟩
  |0=>bif s.ru then some ⟨false,0,false,s.mn,s.sn⟩ else none)
 else bif dS w then (bif decide (s.dp<4) then some ⟨s.ru,s.dp+1,true,s.mn || !s.ru,s.sn⟩ else none)
 else bif lE w then (bif s.ru || !decide (s.dp=0)||s.mn||s.sn.contains (kJ w)||decide (20<=s.sn.length) then none else some ⟨true,0,true,false,kJ w::s.sn⟩)
 else bif tH w then some ⟨s.ru,s.dp,false,s.mn || !s.ru,s.sn⟩ else none
def bO:SE->List (List Str)->Option SE
 |s,[]=>some s
 |s,w::l=>match cA s w with
  |some s'=>bO s' l
  |none=>none
def s0:SE:=⟨false,0,true,false,[]⟩
def BQ(s:SE):Bool:=!s.ru&&decide (s.dp=0)&&s.mn
def BR(l:List (List Str)):Bool:=match bO s0 l with
 |some s=>BQ s
 |none=>false
theorem mU:∀(u v:List (List Str)) (s:SE),bO s (u++v)=(bO s u).bind fun s'=>bO s' v
 |[],v,s=>rfl
 |w::u,v,s=>by
  show (match cA s w with|some s'=>bO s' (u++v)|none=>none)=(match cA s w with|some s'=>bO s' u|none=>none).bind _
  cases cA s w with
  |none=>rfl
  |some s'=>exact mU u v s'
theorem zci{x y:Str}(h:Nm x)(hy:cK y=false):decide (x=y)=false:=xag (pW h hy)
theorem OZ{xs:List Str}(h:∀x∈xs,Nm x):xs.all cK=true:=xa2.mpr fun x hx=>(h x hx).1
theorem O0(s:SE){n f:Str}{as:List Str}(hn:Nm n)(hf:Nm f)(ha:as≠[])(hok:(!as.isEmpty&&as.all cK||BP as)=true):cA s (n::"="::f::as)=some ⟨s.ru,s.dp,false,s.mn || !s.ru,s.sn⟩:=by
 unfold cA
 have h1:decide ((n::"="::f::as:List Str)=wE)=false:=xag (by intro h;injection h with _ h;cases h)
 have h2:dS (n::"="::f::as)=false:=rfl
 have h3:lE (n::"="::f::as)=false:=by
  show (decide (n=("rule":Str))&&_&&_&&_&&_&&_)=false
  rw[zci hn (by decide +kernel)];rfl
 have h4:tH (n::"="::f::as)=true:=by
  show (decide (("=":Str)="=")&&cK n&&cK f&&(!as.isEmpty&&as.all cK||BP as))=true
  rw[hn.1,hf.1,hok];rfl
 rw[h1,h2,h3,h4];rfl
theorem k_in{k:Nat}(h:k<=60):mT (bE k)=true:=by
 unfold mT
 exact List.any_eq_true.mpr ⟨k,xb9.mpr (by omega),xaf rfl⟩
theorem zck(s:SE){k:Nat}(h:k<=60)(hd:s.dp<4):cA s ["times",bE k]=some ⟨s.ru,s.dp+1,true,s.mn || !s.ru,s.sn⟩:=by
 unfold cA
 have h1:decide ((["times",bE k]:List Str)=wE)=false:=xag (by intro h;injection h with _ h;cases h)
 have h2:dS ["times",bE k]=true:=by
  show (decide (("times":Str)="times")&&mT (bE k))=true
  rw[k_in h];rfl
 rw[h1,h2,xaf hd];rfl
theorem zcl(s:SE)(d:Nat)(m:Bool):cA ⟨s.ru,d+1,false,m,s.sn⟩ wE=some ⟨s.ru,d,false,m,s.sn⟩:=by
 unfold cA
 rw[xaf rfl];rfl
mutual
theorem O3:∀(r:Rw) (d:Nat) (s:SE),RG r d->s.dp+d<=4->bO s (Rw.wd r)=some ⟨s.ru,s.dp,false,s.mn || !s.ru,s.sn⟩
 |.cross n a b c e,d,s,h,_=>by
  rw[RG] at h
  rw[Rw.wd]
  show (match cA s (n::"="::a::[b,"x",c,e]) with|some s'=>bO s' []|none=>none)=_
  rw[O0 s h.1 h.2.1 (by simp) (by
   show (_||(decide (("x":Str)="x")&&cK b&&cK c&&cK e))=true
   rw[h.2.2.1.1,h.2.2.2.1.1,h.2.2.2.2.1];simp)]
  rfl
 |.rule n f as,d,s,h,_=>by
  rw[RG] at h
  rw[Rw.wd]
  show (match cA s (n::"="::f::as) with|some s'=>bO s' []|none=>none)=_
  rw[O0 s h.1 h.2.1 h.2.2.1 (by
   rw[OZ h.2.2.2]
   cases as with
   |nil=>exact xat rfl h.2.2.1
   |cons a as=>rfl)]
  rfl
 |.times k rs,d,s,h,hd=>by
  rw[RG] at h
  obtain⟨h1,h2,⟨r,rs',rfl⟩,h4⟩:=h
  rw[Rw.wd]
  show (match cA s ["times",bE k] with|some s'=>bO s' (Rws.wds (.cons r rs')++[(["end"]:List Str)])|none=>none)=_
  rw[zck s h1 (by omega)]
  show bO ⟨s.ru,s.dp+1,true,s.mn || !s.ru,s.sn⟩ (Rws.wds (.cons r rs')++[(["end"]:List Str)])=_
  rw[mU,run_rs r rs' (d-1) _ h4 (by show s.dp+1+(d-1)<=4;omega)]
  show (match cA ⟨s.ru,s.dp+1,false,(s.mn || !s.ru) || !s.ru,s.sn⟩ wE with|some s'=>bO s' []|none=>none)=_
  rw[zcl]
  show some (SE.mk s.ru s.dp false ((s.mn || !s.ru) || !s.ru) s.sn)=_
  rw[Bool.or_assoc,Bool.or_self]
theorem run_rs:∀(r:Rw) (rs:Rws) (d:Nat) (s:SE),RsG (.cons r rs) d->s.dp+d<=4->bO s (Rws.wds (.cons r rs))=some ⟨s.ru,s.dp,false,s.mn || !s.ru,s.sn⟩
 |r,.nil,d,s,h,hd=>by
  rw[RsG] at h
  rw[Rws.wds,show Rws.wds .nil=[] from by rw[Rws.wds],xa8]
  exact O3 r d s h.1 hd
 |r,.cons r2 rs,d,s,h,hd=>by
  rw[RsG] at h
  rw[Rws.wds,mU,O3 r d s h.1 hd]
  show bO ⟨s.ru,s.dp,false,s.mn || !s.ru,s.sn⟩ (Rws.wds (.cons r2 rs))=_
  rw[run_rs r2 rs d ⟨s.ru,s.dp,false,s.mn || !s.ru,s.sn⟩ h.2 hd]
  show some (SE.mk s.ru s.dp false ((s.mn || !s.ru) || !s.ru) s.sn)=_
  rw[Bool.or_assoc,Bool.or_self]
end
theorem zcm{nm out:Str}{ps:List Str}(h1:Nm nm)(h2:Nm out)(h3:∀x∈ps,Nm x)(h4:ps.Nodup)(h5:1<=ps.length)(h8:ps.length<=8):lE (aS nm ps out)=true:=by
 have e1:(ps++[fW,out]).dropLast=ps++[fW]:=by
  rw[show ps++[fW,out]=(ps++[fW])++[out] from by simp,List.dropLast_concat]
 have e2:(ps++[fW]).dropLast=ps:=List.dropLast_concat
 show (decide (("rule":Str)="rule")&&decide (3<=(ps++[fW,out]).length)&&decide ((ps++[fW,out]).dropLast.getLast? = some fW)&&cK nm&&((ps++[fW,out]).getLast?.any cK)&&((ps++[fW,out]).dropLast.dropLast.all cK&&decide ((ps++[fW,out]).dropLast.dropLast.Nodup)&&decide ((ps++[fW,out]).dropLast.dropLast.length<=8)))=true
 rw[e1,e2,h1.1,OZ h3,xaf h4,xaf h8]
 rw[show (ps++[fW]).getLast? = some fW from by simp,show (ps++[fW,out]).getLast? = some out from by simp]
 rw[xaf (show 3<=(ps++[fW,out]).length by simp;omega),show Option.any cK (some out)=cK out from rfl,h2.1]
 rfl
theorem zcn{l:Rl}(h:oF l){f:Bool}{sn:List Str}(hn:l.nm∉sn)(hl:sn.length<20):bO ⟨false,0,f,false,sn⟩ l.wd=some ⟨false,0,false,false,l.nm::sn⟩:=by
 have e:l.wd=aS l.nm l.ps l.out::(Rws.wds (.cons l.r l.rs)++[(["end"]:List Str)]):=rfl
 have hs:cA ⟨false,0,f,false,sn⟩ (aS l.nm l.ps l.out)=some ⟨true,0,true,false,l.nm::sn⟩:=by
  unfold cA
  have a1:decide ((aS l.nm l.ps l.out)=wE)=false:=xag (by intro h;injection h with _ h;cases h)
  have a2:dS (aS l.nm l.ps l.out)=false:=by
   unfold aS dS
   cases hp:l.ps with
   |nil=>rfl
   |cons a as=>rfl
  rw[a1,a2,zcm h.nm h.out h.ps h.nd h.p1 h.p8]
  show (bif (false || !decide ((0:Nat)=0)||false||sn.contains l.nm||decide (20<=sn.length)) then none else some (SE.mk true 0 true false (l.nm::sn)))=_
  rw[show sn.contains l.nm=false from by simpa using hn,xag (by omega:¬20<=sn.length)];rfl
 rw[e]
 show (match cA ⟨false,0,f,false,sn⟩ (aS l.nm l.ps l.out) with|some s'=>bO s' (Rws.wds (.cons l.r l.rs)++[(["end"]:List Str)])|none=>none)=_
 rw[hs]
 show bO ⟨true,0,true,false,l.nm::sn⟩ (Rws.wds (.cons l.r l.rs)++[(["end"]:List Str)])=_
 rw[mU,run_rs l.r l.rs 4 _ h.ok (by show 0+4<=4;decide)]
 rfl
theorem O4:∀(ls:List Rl) (f:Bool) (sn:List Str),(∀l∈ls,oF l)->(ls.map Rl.nm).Nodup->(∀l∈ls,l.nm∉sn)->sn.length+ls.length<=20->∃f' sn',bO ⟨false,0,f,false,sn⟩ (a8 ls)=some ⟨false,0,f',false,sn'⟩
 |[],f,sn,_,_,_,_=>⟨f,sn,rfl⟩
 |l::ls,f,sn,h,hn,hs,hl=>by
  rw[xbg,xcp] at hn
  rw[xad] at hl
  obtain⟨f',sn',e⟩:=O4 ls false (l.nm::sn) (fun q hq=>h q (xae _ hq)) hn.2 (fun q hq hm=>by
   rcases xal.mp hm with hm|hm
   ·exact hn.1 (by rw[<- hm];exact xay.mpr ⟨q,hq,rfl⟩)
   ·exact hs q (xae _ hq) hm) (by rw[xad];omega)
  refine⟨f',sn',?_⟩
  rw[show a8 (l::ls)=l.wd++a8 ls from rfl,mU,zcn (h l xaq) (hs l xaq) (by omega)]
  exact e
theorem O5{ls:List Rl}{r:Rw}{rs:Rws}(h:∀l∈ls,oF l)(hn:(ls.map Rl.nm).Nodup)(hl:ls.length<=20)(hr:RsG (.cons r rs) 4):∃s,bO s0 (a8 ls++Rws.wds (.cons r rs))=some s/\s.ru=false/\s.dp=0/\s.mn=true:=by
 obtain⟨f',sn',e⟩:=O4 ls true [] h hn (by simp) (by simpa using hl)
 rw[mU,show bO s0 (a8 ls)=_ from e]
 show ∃s,bO ⟨false,0,f',false,sn'⟩ (Rws.wds (.cons r rs))=some s/\_
 rw[run_rs r rs 4 _ hr (by show 0+4<=4;decide)]
 exact⟨_,rfl,rfl,rfl,rfl⟩
def hV(s:SE):Int:=(s.dp:Int)+(bif s.ru then 1 else 0)
def wt(w:List Str):Int:=bif decide (w=wE) then -1 else bif dS w then 1 else bif lE w then 1 else 0
def jW(l:List (List Str)):Int:=(l.map wt).sum
theorem zco{s s':SE}{w:List Str}(h:cA s w=some s'):hV s'=hV s+wt w:=by
 obtain⟨ru,dp,fr,mn,sn⟩:=s
 unfold cA at h
 unfold wt hV
 cases h1:decide (w=wE) with
 |true=>
  rw[h1] at h
  cases fr with
  |true=>cases h
  |false=>
   cases dp with
   |zero=>
    cases ru with
    |true=>
     have h:some (SE.mk false 0 false mn sn)=some s':=h
     injection h with h;subst h;rfl
    |false=>cases h
   |succ d=>
    have h:some (SE.mk ru d false mn sn)=some s':=h
    injection h with h;subst h
    simp only[cond_true]
    omega
 |false=>
  rw[h1] at h
  cases h2:dS w with
  |true=>
   rw[h2] at h
   have h:(bif decide (dp<4) then some (SE.mk ru (dp+1) true (mn || !ru) sn) else none)=some s':=h
   cases h3:decide (dp<4) with
   |true=>
    rw[h3] at h
    have h:some (SE.mk ru (dp+1) true (mn || !ru) sn)=some s':=h
    injection h with h;subst h
    simp only[cond_true,cond_false]
    omega
   |false=>rw[h3] at h;cases h
  |false=>
   rw[h2] at h
   cases h3:lE w with
   |true=>
    rw[h3] at h
    have h:(bif ru || !decide (dp=0)||mn||sn.contains (kJ w)||decide (20<=sn.length) then none else some (SE.mk true 0 true false (kJ w::sn)))=some s':=h
    cases ru with
    |true=>cases h
    |false=>
     cases hd:decide (dp=0) with
     |false=>rw[hd] at h;cases h
     |true=>
      rw[hd] at h
      obtain rfl:=xas hd
      cases hm:(mn||sn.contains (kJ w)||decide (20<=sn.length)) with
      |true=>
       have h:(bif (mn||sn.contains (kJ w)||decide (20<=sn.length)) then none else some (SE.mk true 0 true false (kJ w::sn)))=some s':=by
        rw[<- h];cases mn<;>rfl
       rw[hm] at h;cases h
      |false=>
       have h:(bif (mn||sn.contains (kJ w)||decide (20<=sn.length)) then none else some (SE.mk true 0 true false (kJ w::sn)))=some s':=by
        rw[<- h];cases mn<;>rfl
       rw[hm] at h
       have h:some (SE.mk true 0 true false (kJ w::sn))=some s':=h
       injection h with h;subst h;rfl
   |false=>
    rw[h3] at h
    have h:(bif tH w then some (SE.mk ru dp false (mn || !ru) sn) else none)=some s':=h
    cases h4:tH w with
    |false=>rw[h4] at h;cases h
    |true=>
     rw[h4] at h
     have h:some (SE.mk ru dp false (mn || !ru) sn)=some s':=h
     injection h with h;subst h
     simp only[cond_false]
     omega
theorem xA:∀(l:List (List Str)) (s s':SE),bO s l=some s'->hV s'=hV s+jW l
 |[],s,s',h=>by
  injection h with h;subst h
  show hV s=hV s+0
  omega
 |w::l,s,s',h=>by
  have h:(match cA s w with|some s1=>bO s1 l|none=>none)=some s':=h
  cases hs:cA s w with
  |none=>rw[hs] at h;cases h
  |some s1=>
   rw[hs] at h
   have:=xA l s1 s' h
   have:=zco hs
   show hV s'=hV s+(wt w+jW l)
   omega
theorem O6(u v:List (List Str)):jW (u++v)=jW u+jW v:=by unfold jW;rw[xav,List.sum_append]
end LmEe
open L2 DL Mir
namespace LmDj
open LmA LmY Lk31 Rdr TxtA LmDa LmDb LmDc LmDd LmDe LmDf LmDg LmDh LmDi
theorem flat_app(y:List Nat)(z:List Nat)(zs:List (List Nat)):∀(xs:List (List Nat)),xs≠[]->TxtA.flat y (xs++z::zs)=TxtA.flat y xs++y++TxtA.flat y (z::zs)
 |[],h=>xat rfl h
 |[x],_=>rfl
 |x::x'::xs,_=>by
  have ih:=flat_app y z zs (x'::xs) (by simp)
  show x++y++TxtA.flat y (x'::xs++z::zs)=x++y++TxtA.flat y (x'::xs)++y++TxtA.flat y (z::zs)
  rw[ih]
  simp
theorem O7(nm out:Str)(ps:List Str)(h:ps≠[]):bT (aS nm ps out)=[114,117,108,101,32]++cl nm++[32]++bT ps++[32,62,32]++cl out:=by
 unfold bT
 have e1:(aS nm ps out).map cl=[cl "rule",cl nm]++(ps.map cl++[cl ">",cl out]):=by simp[aS]
 have e2:TxtA.flat [32] (ps.map cl++[cl ">",cl out])=TxtA.flat [32] (ps.map cl)++[32]++TxtA.flat [32] [cl ">",cl out]:=flat_app _ _ _ _ (by simpa using h)
 cases hp:ps.map cl++[cl ">",cl out] with
 |nil=>simp at hp
 |cons z zs=>
  rw[e1,hp,flat_app _ _ _ _ (by simp),<- hp,e2]
  show (cl "rule"++[32]++cl nm)++[32]++(TxtA.flat [32] (ps.map cl)++[32]++(cl ">"++[32]++cl out))=_
  rw[show cl "rule"=[114,117,108,101] from rfl,show cl ">"=[62] from rfl]
  simp
end LmDj
open L2 DL Mir
namespace LmDk
open LmA LmY Lk31 Rdr TxtA LmDa LmDb LmDc LmDd LmDe LmDf LmDg LmDh LmDi LmDj
theorem tJ{a b:List Nat}(h:a.length+b.length<=1000000):aI (.str (aE a)) (.str (aE b))=.ok (.str (aE (a++b))):=by
 show (bif bD ((aE a).length+(aE b).length) then R.ok (D.str ((aE a)++(aE b))) else .bad)=_
 have e:(aE a).length+(aE b).length=a.length+b.length:=by simp[aE,Str.length]
 rw[e,show bD (a.length+b.length)=true from xaf (xah h (by decide))]
 show R.ok (D.str ((aE a)++(aE b)))=_
 rw[show (aE a:Str)++aE b=aE (a++b) from by
  show (⟨(aE a).cps++(aE b).cps⟩:Str)=_
  unfold aE
  simp]
theorem zcp{nm out:Str}{ps:List Str}(h3:∀x∈ps,Nm x)(h8:ps.length<=8)(h0:ps≠[])(ht:(bT (aS nm ps out)).length<=1000)(A e:Option D) :
  aC aI (aC aI (aC aI (aC aI (aC aI (eC (.str "rule ")) (aB 2)) (eC (.str " "))) (AL (eC (.str " ")) (aB 3))) (eC (.str " > "))) (aB 4) [A,none,some (.str nm),some (.tup (ps.map .str)),some (.str out),e]=.ok (rT (aS nm ps out)):=by
 have ej:k7 (.str " ") (.tup (ps.map .str))=.ok (rT ps):=(show k7 (.str " ") (.tup (ps.map .str))=fA (.str " ") (.lst (ps.map .str)) from rfl).trans (BN (fun x hx=>(h3 x hx).2) (by omega))
 have er:rT (aS nm ps out)=.str (aE ([114,117,108,101,32]++cl nm++[32]++bT ps++[32,62,32]++cl out)):=by
  show D.str (aE (bT (aS nm ps out)))=_
  rw[O7 _ _ _ h0]
 rw[er]
 rw[O7 _ _ _ h0] at ht
 simp only[xaa] at ht
 show bI aI (bI aI (bI aI (bI aI (aI (.str "rule ") (.str nm)) (.ok (.str " "))) (k7 (.str " ") (.tup (ps.map .str)))) (.ok (.str " > "))) (.ok (.str out))=_
 have a1:aI (.str "rule ") (.str nm)=.ok (.str (aE ([114,117,108,101,32]++cl nm))):=by
  have:=tJ (a:=[114,117,108,101,32]) (b:=cl nm) (by show 5+_<=_;omega)
  rw[kI] at this
  exact this
 have a2:∀z,z.length<=2000->aI (.str (aE z)) (.str " ")=.ok (.str (aE (z++[32]))):=fun z hz=>tJ (a:=z) (b:=[32]) (by show _+1<=_;omega)
 have a3:∀z,z.length<=2000->aI (.str (aE z)) (.str " > ")=.ok (.str (aE (z++[32,62,32]))):=fun z hz=>tJ (a:=z) (b:=[32,62,32]) (by show _+3<=_;omega)
 have a4:∀z,z.length<=2000->aI (.str (aE z)) (.str out)=.ok (.str (aE (z++cl out))):=fun z hz=>by
  have:=tJ (a:=z) (b:=cl out) (by omega)
  rw[kI] at this
  exact this
 rw[a1,ej,cD,a2 _ (by simp only[xaa];omega),cD,tJ (by simp only[xaa];omega),cD,a3 _ (by simp only[xaa];omega),cD,a4 _ (by simp only[xaa];omega)]
theorem O8{us vs:List (List Str)}(hq:us.length+vs.length<=10000):aI (.lst (a7 us)) (.lst (a7 vs))=.ok (.lst (a7 (us++vs))):=by
 show (bif bD ((a7 us).length+(a7 vs).length) then R.ok (D.lst (a7 us++a7 vs)) else .bad)=_
 unfold a7
 rw[xab,xab,show bD (us.length+vs.length)=true from xaf (xah hq (by decide)),xav];rfl
theorem zcq{l:Rl}(ok:oE l){A:Option D}{ys:List (List Str)}(hl:ys.length+l.wd.length<=1000)(ht:(bT (aS l.nm l.ps l.out)).length<=1000):n6 [A,some (.lst (a7 ys)),some (.str l.nm),some (.tup (l.ps.map .str)),some (.str l.out),some (.tup (Rws.ds (.cons l.r l.rs)))]=.ok (.nx [A,some (.lst (a7 (ys++l.wd))),some (.str l.nm),some (.tup (l.ps.map .str)),some (.str l.out),some (.tup (Rws.ds (.cons l.r l.rs)))]):=by
 have hw:l.wd=aS l.nm l.ps l.out::(Rws.wds (.cons l.r l.rs)++[(["end"]:List Str)]):=rfl
 rw[hw,xad,xaa] at hl
 have hs:lC [.tup (Rws.ds (.cons l.r l.rs))]=.ok (.lst (a7 (Rws.wds (.cons l.r l.rs)))):=BO 64 4 _ (by decide) ok.ok (by omega)
 have h0:l.ps≠[]:=fun e=>by have:=ok.p1;rw[e] at this;cases this
 unfold n6
 rw[bY,appS (zcp ok.ps ok.p8 h0 ht A _) (by unfold a7;rw[xab];omega),bU]
 rw[show a7 ys++[rT (aS l.nm l.ps l.out)]=a7 (ys++[aS l.nm l.ps l.out]) from by unfold a7;simp]
 unfold NH
 rw[zQ,ZC]
 show zP 1 (AF (bI aI (.ok (.lst (a7 (ys++[aS l.nm l.ps l.out])))) (lC [.tup (Rws.ds (.cons l.r l.rs))])) (.ok (.lst (a7 [(["end"]:List Str)])))) _=_
 rw[hs,cD,O8 (by rw[xaa];show _+1+_<=_;omega),ZD _ _ (by unfold a7;rw[xab,xaa,xaa];show _+1+_+1<=_;omega),zS,hw]
 rw[show a7 (ys++[aS l.nm l.ps l.out]++Rws.wds (.cons l.r l.rs))++a7 [(["end"]:List Str)]=a7 (ys++aS l.nm l.ps l.out::(Rws.wds (.cons l.r l.rs)++[(["end"]:List Str)])) from by unfold a7;simp]
 rfl
theorem O9{A:Option D}:∀(ls:List Rl) (ys:List (List Str)) (z2 z3 z4 z5:Option D),(∀l∈ls,oE l)->(∀l∈ls,(bT (aS l.nm l.ps l.out)).length<=1000)->ys.length+(a8 ls).length<=1000->∃y2 y3 y4 y5,eZ [2,3,4,5] (eG 4) n6 (ls.map Rl.d) [A,some (.lst (a7 ys)),z2,z3,z4,z5]=.ok (.nx [A,some (.lst (a7 (ys++a8 ls))),y2,y3,y4,y5])
 |[],ys,z2,z3,z4,z5,_,_,_=>⟨z2,z3,z4,z5,by
  show R.ok (aG.nx [A,some (.lst (a7 ys)),z2,z3,z4,z5])=_
  unfold a8
  simp⟩
 |l::ls,ys,z2,z3,z4,z5,h,ht,hl=>by
  have hw:a8 (l::ls)=l.wd++a8 ls:=rfl
  rw[hw,xaa] at hl
  obtain⟨y2,y3,y4,y5,e⟩:=O9 (A:=A) ls (ys++l.wd) (some (.str l.nm)) (some (.tup (l.ps.map .str))) (some (.str l.out)) (some (.tup (Rws.ds (.cons l.r l.rs)))) (fun q hq=>h q (xae _ hq)) (fun q hq=>ht q (xae _ hq)) (by rw[xaa];omega)
  refine⟨y2,y3,y4,y5,?_⟩
  show kZ (n6 [A,some (.lst (a7 ys)),some (.str l.nm),some (.tup (l.ps.map .str)),some (.str l.out),some (.tup (Rws.ds (.cons l.r l.rs)))]) (eZ [2,3,4,5] (eG 4) n6 (ls.map Rl.d))=_
  rw[zcq (h l xaq) (by omega) (ht l xaq),vH,e,hw,xar]
theorem zcr{ls:List Rl}{r:Rw}{rs:Rws}(h:∀l∈ls,oE l)(hr:RsOk (.cons r rs) 4)(hl:(a8 ls++Rws.wds (.cons r rs)).length<=1000)(ht:∀ws∈a8 ls++Rws.wds (.cons r rs),(bT ws).length<=1000):mQ [dD ls r rs]=.ok (.str (aE (eQ (a8 ls++Rws.wds (.cons r rs))))):=by
 have hl':=hl
 rw[xaa] at hl'
 have hh:∀l∈ls,(bT (aS l.nm l.ps l.out)).length<=1000:=fun l q=>ht _ (xc2 _ (List.mem_flatMap.mpr ⟨l,q,xaq⟩))
 obtain⟨y2,y3,y4,y5,e⟩:=O9 (A:=some (dD ls r rs)) ls [] none none none none h hh (by simp;omega)
 have hs:lC [.tup (Rws.ds (.cons r rs))]=.ok (.lst (a7 (Rws.wds (.cons r rs)))):=BO 64 4 _ (by decide) hr (by omega)
 rw[za3]
 unfold wJ NI
 show fin (kW (eZ [2,3,4,5] (eG 4) n6 (ls.map Rl.d) [some (dD ls r rs),some (.lst (a7 [])),none,none,none,none]) A0)=_
 rw[e,bU,xbq]
 unfold A0
 show fin (jO ((bI aI (.ok (.lst (a7 (a8 ls)))) (lC [.tup (Rws.ds (.cons r rs))])).bind fun d=>fA (.str "; ") d))=_
 rw[hs,cD,O8 (by omega)]
 show fin (jO (fA (.str "; ") (.lst (a7 (a8 ls++Rws.wds (.cons r rs))))))=_
 rw[zcf ht hl];rfl
end LmDk
open L2 DL Mir
open L2 DL Mir
open L2 DL Mir
namespace LmO
open LmA LmB LmW LmX LmY TxtA
def cutW:List Nat->List (List Nat)
 |[]=>[[]]
 |c::r=>if c=32 then []::cutW r else match cutW r with
  |w::ws=>(c::w)::ws
  |[]=>[[c]]
theorem oG:∀r,cutW r≠[]
 |[]=>by simp[cutW]
 |c::r=>by
  unfold cutW
  split
  ·simp
  ·split<;>simp
theorem BS:∀r,∀w∈cutW r,(32:Nat)∉w
 |[],w,h=>by simp[cutW] at h;simp[h]
 |c::r,w,h=>by
  have ih:=BS r
  unfold cutW at h
  split at h
  ·rcases xal.mp h with rfl|h
   ·simp
   ·exact ih w h
  ·rename_i hc
   split at h
   ·rename_i w' ws e
    rw[e] at ih
    rcases xal.mp h with rfl|h
    ·intro q
     rcases xal.mp q with q|q
     ·exact hc q.symm
     ·exact ih w' (by simp) q
    ·exact ih w (xae _ h)
   ·rename_i e
    exact xat e (oG r)
theorem flat_cons(y r:List Nat){rs:List (List Nat)}(h:rs≠[]):TxtA.flat y (r::rs)=r++y++TxtA.flat y rs:=by
 obtain⟨q,qs,rfl⟩:=List.exists_cons_of_ne_nil h
 rfl
theorem xB:∀r,TxtA.flat [32] (cutW r)=r
 |[]=>rfl
 |c::r=>by
  have ih:=xB r
  unfold cutW
  split
  ·rename_i hc
   rw[flat_cons _ _ (oG r),ih,hc];rfl
  ·split
   ·rename_i w ws e
    rw[e] at ih
    cases ws with
    |nil=>rw[<- ih];rfl
    |cons q qs=>rw[<- ih];rfl
   ·rename_i e
    exact xat e (oG r)
theorem zcs{w:List Nat}(h:(32:Nat)∉w)(r:List Nat):cutW (w++32::r)=w::cutW r:=by
 induction w with
 |nil=>simp[cutW]
 |cons c w ih=>
  have hc:¬c=32:=fun z=>h (by rw[z];exact xaq)
  rw[xcm,cutW,xaz hc,ih fun q=>h (xae _ q)]
theorem zct{w:List Nat}(h:(32:Nat)∉w):cutW w=[w]:=by
 induction w with
 |nil=>rfl
 |cons c w ih=>
  have hc:¬c=32:=fun z=>h (by rw[z];exact xaq)
  rw[cutW,xaz hc,ih fun q=>h (xae _ q)]
theorem cutW_flat:∀{ws:List (List Nat)},ws≠[]->(∀w∈ws,(32:Nat)∉w)->cutW (TxtA.flat [32] ws)=ws
 |[],h,_=>xat rfl h
 |[w],_,h=>zct (h w (by simp))
 |w::w'::ws,_,h=>by
  rw[TxtA.flat,xar,List.singleton_append,zcs (h w (by simp)),cutW_flat (by simp) fun q hq=>h q (xae _ hq)]
def wl(ws:List (List Nat)):D:=.lst ((ws.map aE).map D.str)
def Fr(r:List Nat):Prop:=∀i,r[i]? = some 59->r[i+1]?≠some 32
theorem Fr.free{r:List Nat}(h:Fr r):oU 59 [32] r:=fun i hi p hp q=>by
 have h0:=qI q
 rw[xbn hi] at h0
 have h1:(r++p)[i+1]? = some 32:=by
  unfold jJ at q
  have:(((r++p).drop i).take ([59,32]:List Nat).length)[1]? = some 32:=by rw[q];rfl
  rw[List.getElem?_take,xa5 (by decide),List.getElem?_drop] at this
  exact this
 by_cases hl:i+1<r.length
 ·rw[xbn hl] at h1
  exact h i h0 h1
 ·rw[xbe (by omega),show i+1-r.length=0 by omega] at h1
  rcases hp with rfl|hp
  ·simp at h1
  ·rw[<- List.head?_eq_getElem?,hp] at h1
   exact xat h1 (by decide)
theorem fr_no{r:List Nat}(h:(59:Nat)∉r):Fr r:=fun i hi=>xat (xbt hi) h
theorem lo(l:List Nat):(aE l).length=l.length:=by simp[aE,Str.length]
theorem split_okF{rows:List (List Nat)}(hne:rows≠[])(hr:∀r∈rows,Fr r)(hl:(TxtA.flat [59,32] rows).length<=10000000):g6 (.str (aE (TxtA.flat [59,32] rows))) (.str (aE [59,32]))=.ok ((rows.map aE).map D.str):=by
 unfold g6
 show (bif (!((aE [59,32]).length==0))&&bD ((aE (TxtA.flat [59,32] rows)).length+2) then R.ok ((Txt.split _ _).map D.str) else .bad)=_
 rw[ES (by decide) (by decide) hne fun r h=>(hr r h).free,lo,lo]
 rw[show (!(([59,32]:List Nat).length==0)&&bD ((TxtA.flat [59,32] rows).length+2))=true from by
  rw[xap];exact⟨by simp,xaf (by show _<=16777216;omega)⟩,cond_true]
theorem zcu(r:List Nat)(hl:r.length<=10000000):g6 (.str (aE r)) (.str " ")=.ok (((cutW r).map aE).map D.str):=by
 have e:=zbU (c:=32) (t:=[]) (rows:=cutW r) (by simp) (by decide) (oG r) (BS r) (by rw[xB];exact hl)
 rw[xB] at e
 exact e
theorem rows_okF{rows:List (List Nat)}(hne:rows≠[])(hr:∀r∈rows,Fr r/\r.length<=1000)(hl:rows.length<=3000):g8 [.str (aE (TxtA.flat [59,32] rows))]=.ok (.lst (rows.map fun r=>wl (cutW r))):=by
 have ht:=wT [59,32] (B:=1000) rows fun r h=>(hr r h).2
 have e2:([59,32]:List Nat).length=2:=rfl
 rw[e2] at ht
 rw[LY];unfold sI;kd_p
 rw[show ∀x:Str,g2 bK [.str x,.ty "str"]=.ok (.bl true) from fun _=>rfl];kd_p
 unfold LX
 have e:pB (aB 0) (eC (.str "; ")) [some (.str (aE (TxtA.flat [59,32] rows)))]=.ok ((rows.map aE).map D.str):=by
  show g6 (.str (aE (TxtA.flat [59,32] rows))) (.str "; ")=_
  exact split_okF hne (fun r h=>(hr r h).1) (by omega)
 kd_p
 rw[e];kd_p
 rw[xbj,LmB.lc_mapP (g:=fun r=>wl (cutW r)) (by omega) (fun r h=>?_)]
 ·kd_p
 ·show ((g6 (.str (aE r)) (.str " ")).bind fun l=>R.ok (D.lst l))=_
  rw[zcu r (by have:=(hr r h).2;omega)];rfl
end LmO
open L2 DL Mir
namespace LmDm
open LmA LmY Lk31 Rdr TxtA LmDa LmDb LmDc LmDd LmDe LmDf LmDg LmDh LmDi LmDj LmDk
structure Gd(ws:List Str):Prop where
 ne:ws≠[]
 l13:ws.length<=13
 ok:∀x∈ws,x.length<=8/\(32:Nat)∉cl x/\(59:Nat)∉cl x
theorem Gd.len{ws:List Str}(h:Gd ws):(bT ws).length<=200:=by
 have:=wT [32] (B:=8) (ws.map cl) (fun r hr=>by
  obtain⟨x,hx,rfl⟩:=xay.mp hr
  rw[w9];exact(h.ok x hx).1)
 rw[xab] at this
 have:=h.l13
 unfold bT
 simp only[xad,xbi] at *
 omega
theorem Gd.no{ws:List Str}(h:Gd ws):(59:Nat)∉bT ws:=fun hc=>by
 rcases OC hc with hc|⟨r,hr,hc⟩
 ·simp at hc
 ·obtain⟨x,hx,rfl⟩:=xay.mp hr
  exact(h.ok x hx).2.2 hc
theorem Gd.cut{ws:List Str}(h:Gd ws):LmO.wl (LmO.cutW (bT ws))=wD ws:=by
 unfold bT
 rw[LmO.cutW_flat (by simpa using h.ne) (fun w hw=>by
  obtain⟨x,hx,rfl⟩:=xay.mp hw
  exact(h.ok x hx).2.1)]
 unfold LmO.wl wD
 congr 2
 rw[xbj,show (aE ∘ cl)=id from funext fun x=>kI x,List.map_id]
theorem PB{wss:List (List Str)}(hne:wss≠[])(h:∀ws∈wss,Gd ws)(hl:wss.length<=3000):g8 [.str (aE (eQ wss))]=.ok (.lst (wss.map wD)):=by
 unfold eQ
 rw[LmO.rows_okF (by simpa using hne) (fun r hr=>by
  obtain⟨ws,hw,rfl⟩:=xay.mp hr
  exact⟨LmO.fr_no (h ws hw).no,xah (h ws hw).len (by decide)⟩) (by rw[xab];exact hl),xbj]
 congr 2
 exact xco fun ws hw=>(h ws hw).cut
def Lt(l:List Nat):Prop:=∀c∈l,97<=c/\c<=122
theorem zcv:∀c:Nat,97<=c/\c<=122->lD (iO c) "abcdefghijklmnopqrstuvwxyz"=true:=by
 intro c h
 have:∀k:Fin 26,lD (iO (97+k.val)) "abcdefghijklmnopqrstuvwxyz"=true:=by decide +kernel
 have:=this ⟨c-97,by omega⟩
 rw[show 97+(⟨c-97,by omega⟩:Fin 26).val=c by show 97+(c-97)=c;omega] at this
 exact this
theorem PD{c:Nat}(h:lD (iO c) "abcdefghijklmnopqrstuvwxyz"=true):c≠32/\c≠59:=by
 refine⟨fun e=>?_,fun e=>?_⟩<;>(subst e;revert h;decide +kernel)
theorem BT{l:List Nat}(h1:l≠[])(h8:l.length<=8)(hL:Lt l)(hk:kept (aE l)=false):Nm (aE l):=by
 have hlen:(aE l).length=l.length:=LmO.lo l
 have hp:=xc6.mpr h1
 refine⟨?_,by omega⟩
 unfold cK
 rw[hk,hlen,xaf (show 1<=(l.length:Int) by omega),xaf (show (l.length:Int)<=8 by omega)]
 show (true&&true&&(cl (aE l)).all _&&true)=true
 rw[pY,xcx,xcw,xcw,xa2]
 exact fun c hc=>zcv c (hL c hc)
theorem xC{x:Str}(h:Nm x):1<=(cl x).length/\x.length<=8/\(32:Nat)∉cl x/\(59:Nat)∉cl x:=by
 have z:=h.1
 unfold cK at z
 simp only[xap,decide_eq_true_eq] at z
 obtain⟨⟨⟨a,b⟩,c⟩,d⟩:=z
 rw[xa2] at c
 refine⟨by rw[w9];omega,by omega,fun hc=>?_,fun hc=>?_⟩
 ·exact(PD (c _ hc)).1 rfl
 ·exact(PD (c _ hc)).2 rfl
theorem zcw(z:Str):kept z=decide (z="x"\/z="rule"\/z="times"\/z="end"):=by
 unfold Lk31.kept
 unfold gY
 rw[xcr,decide_eq_true_eq,xcg,xcg,xcg,xcg,List.any_nil]
 simp only[bC,Bool.or_false,xb1,beq_iff_eq]
 constructor<;>(rintro(h|h|h|h)<;>simp[h])
theorem BU(l:List Nat):kept (aE l)=decide (l=[120]\/l=[114,117,108,101]\/l=[116,105,109,101,115]\/l=[101,110,100]):=by
 rw[zcw]
 have e:∀r:List Nat,(aE l=aE r)=(l=r):=fun r=>propext ⟨fun h=>LmWg.ofL_inj h,fun h=>by rw[h]⟩
 have:=e [120];have:=e [114,117,108,101];have:=e [116,105,109,101,115];have:=e [101,110,100]
 rw[show ("x":Str)=aE [120] from rfl,show ("rule":Str)=aE [114,117,108,101] from rfl,show ("times":Str)=aE [116,105,109,101,115] from rfl,show ("end":Str)=aE [101,110,100] from rfl]
 simp only[e]
end LmDm
open L2 DL Mir
namespace LmDn
open LmA LmY Lk31 Rdr TxtA LmWa LmWf LmDa LmDg LmDm
open LmWg (jV BM add_ok ofL_inj)
structure Ns(ns:List Str):Prop where
 len:ns.length=9
 ok:∀x∈ns,Nm x
 lt:∀x∈ns,Lt (cl x)
 first:∀(i j:Nat) (a b:Str),ns[i]? = some a->ns[j]? = some b->(cl a)[0]? = (cl b)[0]?->i=j
def jE(l:List Nat):List Nat:=bif kept (aE l) then l++[97] else l
theorem BV{c:Nat}{l:List Nat}(hL:Lt (c::l))(h7:l.length<=7):Nm (aE (jE (c::l)))/\(jE (c::l))[0]? = some c:=by
 unfold jE
 cases hk:kept (aE (c::l)) with
 |false=>exact⟨BT (by simp) (by simp;omega) hL hk,rfl⟩
 |true=>
  refine⟨?_,rfl⟩
  rw[BU,decide_eq_true_eq] at hk
  show Nm (aE (c::l++[97]))
  have k2:∀r:List Nat,r.length<=6->r≠[]->Lt r->kept (aE (r++[97]))=false->Nm (aE (r++[97])):=fun r h1 h2 h3 h4=>BT (by simp) (by simp;omega) (fun x hx=>by
   rcases xa1.mp hx with h|h
   ·exact h3 x h
   ·rw[xbc.mp h];omega) h4
  rcases hk with e|e|e|e<;>(rw[e] at hL ⊢;exact k2 _ (by decide) (by decide) hL (by rw[BU];decide))
theorem zcx{l:List Nat}(hL:Lt l):Lt (jE l):=by
 unfold jE
 cases kept (aE l) with
 |false=>exact hL
 |true=>
  intro x hx
  rcases xa1.mp hx with h|h
  ·exact hL x h
  ·rw[xbc.mp h];omega
theorem zcy(z:Str):k8 (.str "a") (.int (if kept z=true then 1 else 0))=.ok (.str (aE (bif kept z then [97] else []))):=by
 cases kept z<;>rfl
theorem names_ok(c:Int):∃ns:List Str,sY [.int c,.int 9]=.ok (.lst (ns.map .str))/\Ns ns:=by
 obtain⟨ns,e,hl,hb⟩:=wU c 12 (by decide)
 have e:dF [.int c,.int 12]=.ok (.lst (ns.map .int)):=e
 obtain⟨d9,g9,a9,b9⟩:=kH ns hb 9 (by omega)
 obtain⟨d10,g10,a10,b10⟩:=kH ns hb 10 (by omega)
 obtain⟨d11,g11,a11,b11⟩:=kH ns hb 11 (by omega)
 have g9:aF (.lst (ns.map .int)) (.int 9)=.ok (.int d9):=g9
 have g10:aF (.lst (ns.map .int)) (.int 10)=.ok (.int d10):=g10
 have g11:aF (.lst (ns.map .int)) (.int 11)=.ok (.int d11):=g11
 rw[zaW];unfold wF MN MM ML;kd_p
 rw[e];kd_p
 rw[g10];walk_at "evd"
 have m10:=eJ (i:=d10) (j:=8) (by decide)
 rw[show ("abcdefghijklmnopqrstuvwxyz":Str)=jV from rfl,show (D.str "")=.str (aE []) from rfl]
 have turn:∀(j:Nat) (d:D) (Z:DSt),(cH 0 (d10%8).toNat)[j]? = some d->(∃(l:List Nat) (z:Option D),Z=[some (.int c),some (.int 9),some (.str jV),some (.lst (ns.map .int)),some (.str (aE l)),z,none,none,none]/\l.length=j/\∀c∈l,97<=c/\c<=122)->
   ∃Z',(sW (Z.set 5 (some d))=.ok (.nx Z')\/sW (Z.set 5 (some d))=.ok (.ct Z'))/\∃(l:List Nat) (z:Option D),Z'=[some (.int c),some (.int 9),some (.str jV),some (.lst (ns.map .int)),some (.str (aE l)),z,none,none,none]/\l.length=j+1/\∀c∈l,97<=c/\c<=122:=by
  rintro j d Z hd ⟨l,z,rfl,hl,hc⟩
  have hj:j<(d10%8).toNat:=by
   have:=(xan.mp hd).1
   simpa [cH] using this
  obtain rfl:d=.int (j:Int):=by
   unfold cH at hd
   rw[xbl,xb3 hj] at hd
   simpa using hd.symm
  unfold sW;kd_p
  rw[g11]
  rw[show i6 (.ok [D.int 1,.int 26,.int 676,.int 17576,.int 5,.int 9,.int 77])=.ok [D.int 1,.int 26,.int 676,.int 17576,.int 5,.int 9,.int 77] from rfl];kd_p
  obtain⟨q,hq,hq0,hq1⟩:∃q:Int,aF (.lst [.int 1,.int 26,.int 676,.int 17576,.int 5,.int 9,.int 77]) (.int (j:Int))=.ok (.int q)/\0<q/\q<=20000:=by
   have:j=0\/j=1\/j=2\/j=3\/j=4\/j=5\/j=6:=by omega
   rcases this with rfl|rfl|rfl|rfl|rfl|rfl|rfl
   ·exact⟨1,rfl,by decide,by decide⟩
   ·exact⟨26,rfl,by decide,by decide⟩
   ·exact⟨676,rfl,by decide,by decide⟩
   ·exact⟨17576,rfl,by decide,by decide⟩
   ·exact⟨5,rfl,by decide,by decide⟩
   ·exact⟨9,rfl,by decide,by decide⟩
   ·exact⟨77,rfl,by decide,by decide⟩
  rw[hq];kd_p
  rw[rV _ _ (IE (by omega) (by omega) (by omega)) hq0];kd_p
  rw[e9 _ _ (by decide)];kd_p
  have m:=eJ (i:=d11/q) (j:=26) (by decide)
  rw[BM _ m.1 m.2];kd_p
  rw[add_ok (by simp;omega)];kd_p
  refine⟨_,.inl rfl,l++[97+(d11/q%26).toNat],_,rfl,by simp[hl],fun x hx=>?_⟩
  rcases xa1.mp hx with h|h
  ·exact hc x h
  ·rw[xbc.mp h];omega
 obtain⟨Z',e2,l,z,rfl,hl2,hc⟩:=o8 (i:=5) (fb:=sW) _ _ turn [some (.int c),some (.int 9),some (.str jV),some (.lst (ns.map .int)),some (.str (aE [])),none,none,none,none] ⟨[],none,rfl,rfl,by simp⟩
 have hl7:l.length<=7:=by
  have:(cH 0 (d10%8).toNat).length=(d10%8).toNat:=by simp[cH]
  omega
 rw[e2];kd_p
 unfold MK;kd_p
 unfold MJ;walk_at "evd"
 let hd:Nat->Nat:=fun k=>97+((d9+(k:Int))%26).toNat
 have hL:∀k,Lt (hd k::l):=fun k x hx=>by
  rcases xal.mp hx with rfl|hx
  ·have:=eJ (i:=d9+(k:Int)) (j:=26) (by decide)
   show 97<=97+((d9+(k:Int))%26).toNat/\97+((d9+(k:Int))%26).toNat<=122
   omega
  ·exact hc x hx
 have turn2:∀(j:Nat) (d:D) (Z:DSt),(cH 0 9)[j]? = some d->(∃(a b:Option D),Z=[some (.int c),some (.int 9),some (.str jV),some (.lst (ns.map .int)),some (.str (aE l)),z,some (.lst (((List.range j).map fun k=>aE (jE (hd k::l))).map .str)),a,b])->
   ∃Z',(sX (Z.set 7 (some d))=.ok (.nx Z')\/sX (Z.set 7 (some d))=.ok (.ct Z'))/\∃(a b:Option D),Z'=[some (.int c),some (.int 9),some (.str jV),some (.lst (ns.map .int)),some (.str (aE l)),z,some (.lst (((List.range (j+1)).map fun k=>aE (jE (hd k::l))).map .str)),a,b]:=by
  rintro j d Z hd' ⟨a,b,rfl⟩
  have hj:j<9:=by
   have:=(xan.mp hd').1
   simpa [cH] using this
  obtain rfl:d=.int (j:Int):=by
   unfold cH at hd'
   rw[xbl,xb3 hj] at hd'
   simpa using hd'.symm
  have m:=eJ (i:=d9+(j:Int)) (j:=26) (by decide)
  unfold sX;kd_p
  rw[g9];walk_at "evd"
  rw[BM _ m.1 m.2];kd_p
  rw[add_ok (by simp;omega)];kd_p
  unfold MH;kd_p
  rw[zbO];kd_p
  rw[show ([97+((d9+(j:Int))%26).toNat]++l)=hd j::l from rfl]
  rw[zcy];kd_p
  rw[add_ok (by cases kept (aE (hd j::l))<;>simp<;>omega),nS _ _ _ _ (by simp;omega)]
  refine⟨_,.inl rfl,some (.int (j:Int)),some (.str (aE (hd j::l))),?_⟩
  have en:hd j::l++(bif kept (aE (hd j::l)) then [97] else [])=jE (hd j::l):=by
   unfold jE
   cases kept (aE (hd j::l))<;>simp
  rw[en,List.range_succ,xav,xav];rfl
 obtain⟨Z',e3,a,b,rfl⟩:=o8 (i:=7) (fb:=sX) _ _ turn2 [some (.int c),some (.int 9),some (.str jV),some (.lst (ns.map .int)),some (.str (aE l)),z,some (.lst []),none,none] ⟨none,none,rfl⟩
 rw[show (cH 0 9).length=9 from rfl] at e3
 rw[e3];kd_p
 unfold MI;kd_p
 have hat:∀i x,((List.range 9).map fun k=>aE (jE (hd k::l)))[i]? = some x->i<9/\x=aE (jE (hd i::l)):=fun i x h=>by
  have hi:=(xan.mp h).1
  rw[xab,List.length_range] at hi
  rw[xbl,xb3 hi] at h
  exact⟨hi,by simpa using h.symm⟩
 refine⟨(List.range 9).map fun k=>aE (jE (hd k::l)),rfl,by simp,fun x hx=>?_,fun x hx=>?_,fun i j x y hx hy he=>?_⟩
 ·obtain⟨k,_,rfl⟩:=xay.mp hx
  exact(BV (hL k) hl7).1
 ·obtain⟨k,_,rfl⟩:=xay.mp hx
  rw[pY]
  exact zcx (hL k)
 ·obtain⟨hi,rfl⟩:=hat i x hx
  obtain⟨hj,rfl⟩:=hat j y hy
  rw[pY,pY,(BV (hL i) hl7).2,(BV (hL j) hl7).2] at he
  have he:97+((d9+(i:Int))%26).toNat=97+((d9+(j:Int))%26).toNat:=xbp he
  have:=eJ (i:=d9+(i:Int)) (j:=26) (by decide)
  have:=eJ (i:=d9+(j:Int)) (j:=26) (by decide)
  omega
def rn(a:Str):Str:=aE ((cl a).take 7++[114])
theorem BW{a:Str}(h:Nm a)(hL:Lt (cl a)):Nm (rn a)/\(cl (rn a))[0]? = (cl a)[0]?:=by
 have hp:=(xC h).1
 have hl:((cl a).take 7).length<=7:=by rw[xbh];omega
 refine⟨BT (by simp) (by simp;omega) (fun x hx=>?_) ?_,?_⟩
 ·rcases xa1.mp hx with h|h
  ·exact hL x (xb6 h)
  ·rw[xbc.mp h];omega
 ·rw[BU,decide_eq_false_iff_not]
  intro h
  rcases h with h|h|h|h<;>(have:=congrArg List.getLast? h;simp at this)
 ·unfold rn
  rw[pY]
  cases hc:cl a with
  |nil=>rw[hc] at hp;simp at hp
  |cons x xs=>rfl
end LmDn
open L2 DL Mir
namespace LmDo
open LmA LmY Lk31 Rdr TxtA LmWa LmWf LmDa LmDb LmDd LmDg LmDm LmDn
theorem PF{ds:List Int}(h:ds.length=12):∃d0 d1 d2 d3 d4 d5 d6 d7 d8 d9 d10 d11,ds=[d0,d1,d2,d3,d4,d5,d6,d7,d8,d9,d10,d11]:=by
 match ds,h with
 |[d0,d1,d2,d3,d4,d5,d6,d7,d8,d9,d10,d11],_=>exact⟨d0,d1,d2,d3,d4,d5,d6,d7,d8,d9,d10,d11,rfl⟩
abbrev za:Str:="a"
def pk{α:Type}(z:α)(xs:List α)(d:Int):α:=xs.getD (d%(xs.length:Int)).toNat z
section
variable{α:Type}(z:α)(f:α->D){xs:List α}(hne:xs≠[])
include hne
theorem pZ(d:Int):pk z xs d∈xs:=by
 have hp:=xc6.mpr hne
 have m:=eJ (i:=d) (j:=(xs.length:Int)) (by omega)
 unfold pk
 rw[xa9,xax (show (d%(xs.length:Int)).toNat<xs.length by omega)]
 exact xcd _
theorem oH(d:Int):bI aF (.ok (.lst (xs.map f))) (bI aV (.ok (.int d)) (.ok (.int ((xs.map f).length:Int))))=.ok (f (pk z xs d)):=by
 have hp:=xc6.mpr hne
 have m:=eJ (i:=d) (j:=(xs.length:Int)) (by omega)
 rw[xab,cD,e9 _ _ (by omega),cD]
 obtain⟨j,hj⟩:∃j:Nat,d%(xs.length:Int)=(j:Int):=⟨(d%(xs.length:Int)).toNat,by omega⟩
 rw[hj]
 refine jP ?_
 have hlt:j<xs.length:=by omega
 unfold pk
 rw[hj,xbm,xbl,xa9,xax hlt];rfl
end
abbrev kD(k:Str×Nat):D:=.tup [.str k.1,.int (k.2:Int)]
structure oI(k:Str×Nat):Prop where
 nm:Nm k.1
 l1:1<=k.2
 l8:k.2<=8
theorem xD{ws:List Str}(ne:ws≠[])(l:ws.length<=13)(h:∀x∈ws,Nm x\/x="="\/x="x"\/x="rule"\/x=">"\/x="times"\/x="end"):Gd ws:=by
 refine⟨ne,l,fun x hx=>?_⟩
 rcases h x hx with h|rfl|rfl|rfl|rfl|rfl|rfl
 ·exact⟨(xC h).2.1,(xC h).2.2.1,(xC h).2.2.2⟩
 all_goals decide
structure tK(r:Rw):Prop where
 ok:∀d,dG r d
 wd:∃ws,Rw.wd r=[ws]/\Gd ws
theorem PH{n a b c e:Str}(h1:Nm n)(h2:Nm a)(h3:Nm b)(h4:Nm c)(h5:Nm e):tK (.cross n a b c e):=by
 refine⟨fun d=>by rw[dG];exact⟨h1,h2,h3,h4,h5⟩,[n,"=",a,b,"x",c,e],by rw[Rw.wd],xD (by simp) (by simp) fun x hx=>?_⟩
 simp only[xal,xbk,or_false] at hx
 rcases hx with rfl|rfl|rfl|rfl|rfl|rfl|rfl
 ·exact .inl h1
 ·exact .inr (.inl rfl)
 ·exact .inl h2
 ·exact .inl h3
 ·exact .inr (.inr (.inl rfl))
 ·exact .inl h4
 ·exact .inl h5
theorem PJ{n f:Str}{as:List Str}(h1:Nm n)(h2:Nm f)(h0:as≠[])(h9:as.length<=9)(h3:∀x∈as,Nm x):tK (.rule n f as):=by
 refine⟨fun d=>by rw[dG];exact⟨h1,h2,h0,by omega,h3⟩,[n,"=",f]++as,by rw[Rw.wd],xD (by simp) (by simp;omega) fun x hx=>?_⟩
 rcases xa1.mp hx with hx|hx
 ·simp only[xal,xbk,or_false] at hx
  rcases hx with rfl|rfl|rfl
  ·exact .inl h1
  ·exact .inr (.inl rfl)
  ·exact .inl h2
 ·exact .inl (h3 x hx)
theorem zcz{ds:List Int}(hd:ds.length=12){xs:List Str}(hne:xs≠[])(hx:∀x∈xs,Nm x){ks:List (Str×Nat)}(hk:∀k∈ks,oI k) :
  ∃r,nZ [.lst (ds.map .int),.lst (xs.map .str),.lst (ks.map kD)]=.ok (Rw.d r)/\tK r:=by
 obtain⟨d0,d1,d2,d3,d4,d5,d6,d7,d8,d9,d10,d11,rfl⟩:=PF hd
 have pm:∀d,Nm (pk za xs d):=fun d=>hx _ (pZ za hne d)
 have po:∀d,bI aF (.ok (.lst (xs.map .str))) (bI aV (.ok (.int d)) (.ok (.int ((xs.map D.str).length:Int))))=.ok (.str (pk za xs d)):=oH za .str hne
 let W:List D:=[.int d0,.int d1,.int d2,.int d3,.int d4,.int d5,.int d6,.int d7,.int d8,.int d9,.int d10,.int d11]
 have eW:[d0,d1,d2,d3,d4,d5,d6,d7,d8,d9,d10,d11].map D.int=W:=rfl
 rw[eW,zaX]
 let A:Option D:=some (.lst W)
 let B:Option D:=some (.lst (xs.map .str))
 let C:Option D:=some (.lst (ks.map kD))
 let some8:List Str:=[d3,d4,d5,d6,d7,d8,d9,d10].map (pk za xs)
 have s0:aY 3 (aC aF (aB 1) (aC aV (aC aF (aB 0) (eC (.int 1))) (aJ aW (aA (aB 1) aD)))) [A,B,C,none,none,none,none]=.ok (.nx [A,B,C,some (.str (pk za xs d1)),none,none,none]):=by
  show ((bI aF (.ok (.lst (xs.map .str))) (bI aV (.ok (.int d1)) (.ok (.int ((xs.map D.str).length:Int))))).bind fun d=>R.ok (aG.nx ([A,B,C,none,none,none,none].set 3 (some d))))=_
  rw[po];rfl
 have s1:dN 1 [0] (dJ (cC (aB 0) (bG (eC (.int 3))) (bG (eC (.int 11))))) bX c9 (aC aF (aB 2) (aC aV (aB 0) (aJ aW (aA (aB 2) aD)))) [A,B,C,some (.str (pk za xs d1)),none,none,none]=.ok (some8.map .str):=by
  rw[l9,show dJ (cC (aB 0) (bG (eC (.int 3))) (bG (eC (.int 11)))) [A,B,C,some (.str (pk za xs d1)),none,none,none]=.ok ([d3,d4,d5,d6,d7,d8,d9,d10].map .int) from rfl,
   nU (g:=fun d=>match d with|.int d=>.str (pk za xs d)|d=>d) (by simp) (fun d hd=>?_)]
  ·rfl
  ·obtain⟨i,_,rfl⟩:=xay.mp hd
   exact po i
 have s1':cW [] 4 (aL (dN 1 [0] (dJ (cC (aB 0) (bG (eC (.int 3))) (bG (eC (.int 11))))) bX c9 (aC aF (aB 2) (aC aV (aB 0) (aJ aW (aA (aB 2) aD)))))) [A,B,C,some (.str (pk za xs d1)),none,none,none]=.ok (.nx [A,B,C,some (.str (pk za xs d1)),some (.lst (some8.map .str)),none,none]):=by
  show ((aL _ [A,B,C,some (.str (pk za xs d1)),none,none,none]).bind fun d=>R.ok (aG.nx ([A,B,C,some (.str (pk za xs d1)),none,none,none].set 4 (some d))))=_
  rw[gX,s1];rfl
 have hs8:∀x∈some8,Nm x:=fun x hx=>by
  obtain⟨d,_,rfl⟩:=xay.mp hx
  exact pm d
 unfold wG
 rw[bY,s0,bU]
 unfold MS
 rw[bY,s1',bU]
 unfold MR
 rw[bY,eM]
 have hc:∃b,gH (aK (aC fI (aC aV (aC aF (aB 0) (eC (.int 0))) (eC (.int 8))) (eC (.int 4)))) (aK (aC bR (aB 2) (aL (aP aD)))) [A,B,C,some (.str (pk za xs d1)),some (.lst (some8.map .str)),none,none]=.ok b/\(b=true->ks≠[]):=by
  have t1:aK (aC fI (aC aV (aC aF (aB 0) (eC (.int 0))) (eC (.int 8))) (eC (.int 4))) [A,B,C,some (.str (pk za xs d1)),some (.lst (some8.map .str)),none,none]=.ok (decide (4<d0%8)):=by
   show c7 (bI fI (aV (.int d0) (.int 8)) (.ok (.int 4)))=_
   rw[e9 _ _ (by decide)];rfl
  rw[l5,t1]
  cases decide (4<d0%8) with
  |false=>exact⟨false,rfl,by simp⟩
  |true=>
   cases ks with
   |nil=>exact⟨false,rfl,by simp⟩
   |cons k ks=>
    refine⟨true,?_,by simp⟩
    show c7 (bR (.lst ((k::ks).map kD)) (.lst []))=_
    rw[rW (by
     show (bN 9 (.lst ((k::ks).map kD))&&true)=true
     rw[xcx,show bN 9 (.lst ((k::ks).map kD))=((k::ks).map kD).all (bN 8) from by unfold bN;rfl,xa2]
     intro d hd
     obtain⟨x,_,rfl⟩:=xay.mp hd
     rfl)]
    rfl
 obtain⟨b,hb,hkn⟩:=hc
 rw[hb]
 cases b with
 |false=>
  rw[gP,jM,bU]
  unfold MQ
  refine⟨.cross (pk za xs d1) (pk za xs d3) (pk za xs d4) (pk za xs d5) (pk za xs d6),?_,PH (pm _) (pm _) (pm _) (pm _) (pm _)⟩
  rw[Rw.d];rfl
 |true=>
  have hk0:=hkn rfl
  have hK:=hk _ (pZ (za,1) hk0 d2)
  have e2:j5 [] [5,6] (eG 2) (aC aF (aB 2) (aC aV (aC aF (aB 0) (eC (.int 2))) (aJ aW (aA (aB 2) aD)))) [A,B,C,some (.str (pk za xs d1)),some (.lst (some8.map .str)),none,none]=.ok (.nx [A,B,C,some (.str (pk za xs d1)),some (.lst (some8.map .str)),some (.str (pk (za,1) ks d2).1),some (.int ((pk (za,1) ks d2).2:Int))]):=by
   rw[o6,show aC aF (aB 2) (aC aV (aC aF (aB 0) (eC (.int 2))) (aJ aW (aA (aB 2) aD))) (mask [] [A,B,C,some (.str (pk za xs d1)),some (.lst (some8.map .str)),none,none])=.ok (kD (pk (za,1) ks d2)) from oH (za,1) kD hk0 d2]
   rfl
  rw[l6]
  unfold MP
  rw[bY,e2,bU]
  unfold MO
  refine⟨.rule (pk za xs d1) (pk (za,1) ks d2).1 (some8.take (pk (za,1) ks d2).2),?_,PJ (pm _) hK.nm (fun h=>?_) (by rw[xbh];show min _ 8<=9;omega) (fun x hx=>hs8 x (xb6 hx))⟩
  ·rw[l7,nP,cE,cE,cE,cE,lZ,cE,LmL.eSl_to _ _ _ (some8.map .str) (pk (za,1) ks d2).2 rfl rfl,Rw.d,xch]
   rfl
  ·have:=congrArg List.length h
   rw[xbh] at this
   have:min (pk (za,1) ks d2).2 8=0:=this
   have:=hK.l1
   omega
end LmDo
open L2 DL Mir
namespace LmDp
open LmA LmY Lk31 Rdr TxtA LmWa LmWf LmDa LmDb LmDd LmDg LmDm LmDn LmDo
def hZ:Rws->Rw->Rws
 |.nil,r=>.cons r .nil
 |.cons a rs,r=>.cons a (hZ rs r)
theorem tL:∀(rs:Rws) (r:Rw),Rws.ds (hZ rs r)=Rws.ds rs++[Rw.d r]
 |.nil,r=>by rw[hZ,Rws.ds,Rws.ds];rfl
 |.cons a rs,r=>by rw[hZ,Rws.ds,Rws.ds,tL rs r];rfl
theorem tM:∀(rs:Rws) (r:Rw),Rws.wds (hZ rs r)=Rws.wds rs++Rw.wd r
 |.nil,r=>by rw[hZ,Rws.wds,Rws.wds,Rws.wds];simp
 |.cons a rs,r=>by rw[hZ,Rws.wds,Rws.wds,tM rs r,xar]
theorem BX:∀(rs:Rws) (r:Rw),Rws.len (hZ rs r)=Rws.len rs+1
 |.nil,r=>rfl
 |.cons a rs,r=>by
  show Rws.len (hZ rs r)+1=_
  rw[BX rs r];rfl
theorem BY:∀(rs:Rws) (r:Rw) (d:Nat),RsOk rs d->dG r d->RsOk (hZ rs r) d
 |.nil,r,d,_,h=>by rw[hZ,RsOk];exact⟨h,by rw[RsOk];trivial⟩
 |.cons a rs,r,d,h1,h=>by
  rw[RsOk] at h1
  rw[hZ,RsOk]
  exact⟨h1.1,BY rs r d h1.2 h⟩
theorem zcA:∀{rs:Rws},1<=Rws.len rs->∃r rs',rs=.cons r rs'
 |.nil,h=>by cases h
 |.cons r rs,_=>⟨r,rs,rfl⟩
theorem zcB{k:Nat}(hk:k<=60):Gd ["times",bE k]:=by
 refine⟨by simp,by simp,fun x hx=>?_⟩
 simp only[xal,xbk,or_false] at hx
 rcases hx with rfl|rfl
 ·decide
 ·have:∀j:Fin 61,(bE j.val).length<=8/\(32:Nat)∉cl (bE j.val)/\(59:Nat)∉cl (bE j.val):=by decide +kernel
  exact this ⟨k,by omega⟩
theorem BZ:Gd ["end"]:=xD (by simp) (by simp) fun x hx=>by
 rw[xbc.mp hx];simp
structure Bd(rs:Rws)(d a a':Nat):Prop where
 ok:RsOk rs d
 le:a<=a'
 up:a'<=max a 40+3*(d+1)
 wl:(Rws.wds rs).length<=2*(a'-a)
 len:Rws.len rs<=3
 gd:∀ws∈Rws.wds rs,Gd ws
section
variable{cs:List Int}(hcs:cs≠[])
include hcs
theorem B0{fc fa:DSt->R D}{Z:DSt}{a:Int}(h0:fc Z=.ok (.lst (cs.map .int)))(h1:fa Z=.ok (.int a)):∃ds:List Int,aR dF (aA (aC aF fc (aC aV fa (aJ aW (aA fc aD)))) (aA (eC (.int 12)) aD)) Z=.ok (.lst (ds.map .int))/\ds.length=12/\∀n∈ds,0<=n/\n<1000000:=by
 obtain⟨ds,e,hl,hb⟩:=wU (pk 0 cs a) 12 (by decide)
 refine⟨ds,?_,hl,hb⟩
 rw[jN,cE,bS,bS,lZ,cE,h0,h1]
 show rR dF (cZ (bI aF (.ok (.lst (cs.map .int))) (bI aV (.ok (.int a)) (.ok (.int ((cs.map D.int).length:Int))))) (.ok [.int 12]))=_
 rw[oH 0 D.int hcs]
 exact e
variable{xs:List Str}(hne:xs≠[])(hx:∀x∈xs,Nm x){ks:List (Str×Nat)}(hk:∀k∈ks,oI k)
include hne hx hk
abbrev cT(cs:List Int)(a:Nat)(xs:List Str)(ks:List (Str×Nat))(d:Nat)(rs:Rws)(z6 z7 z8:Option D):DSt:=[some (.lst (cs.map .int)),some (.int (a:Int)),some (.lst (xs.map .str)),some (.lst (ks.map kD)),some (.int (d:Int)),some (.lst (Rws.ds rs)),z6,z7,z8]
theorem zcC{m:List D->R D}{d:Nat}
  (hm:∀d' a:Nat,d=d'+1->∃r rs a',m [.lst (cs.map .int),.int (a:Int),.lst (xs.map .str),.lst (ks.map kD),.int (d':Int)]=.ok (.tup [.tup (Rws.ds (.cons r rs)),.int ((a':Nat):Int)])/\Bd (.cons r rs) d' a a')
  (a0 a:Nat) (rs:Rws) (j:Nat) (hj:j<3) (h1:RsOk rs d) (h2:a0<=a) (h3:a<=max (a0+j) (40+3*d+j)) (h4:(Rws.wds rs).length<=2*(a-a0)) (h5:Rws.len rs=j) (h6:∀ws∈Rws.wds rs,Gd ws) (hL:(Rws.ds rs).length<=1000000) (z6 z7 z8:Option D) :
  ∃a' rs' z7' z8',pR m (cT cs a xs ks d rs z6 z7 z8)=.ok (.nx (cT cs a' xs ks d rs' z6 z7' z8'))/\RsOk rs' d/\a0<=a'/\a'<=max (a0+(j+1)) (40+3*d+(j+1))/\(Rws.wds rs').length<=2*(a'-a0)/\Rws.len rs'=j+1/\(∀ws∈Rws.wds rs',Gd ws)/\(Rws.ds rs').length=(Rws.ds rs).length+1:=by
 obtain⟨ds,e,hl,hb⟩:=B0 hcs (Z:=mask [5] (cT cs (a+1) xs ks d rs z6 z7 z8)) (fc:=aB 0) (fa:=aB 1) (a:=((a+1:Nat):Int)) rfl rfl
 obtain⟨d0,d1,d2,d3,d4,d5,d6,d7,d8,d9,d10,d11,rfl⟩:=PF hl
 have s1:cW [5] 1 (aC aI (aB 1) (eC (.int 1))) (cT cs a xs ks d rs z6 z7 z8)=.ok (.nx (cT cs (a+1) xs ks d rs z6 z7 z8)):=rfl
 generalize hW:[d0,d1,d2,d3,d4,d5,d6,d7,d8,d9,d10,d11]=W at e hl hb
 have s2:cW [5] 7 (aR dF (aA (aC aF (aB 0) (aC aV (aB 1) (aJ aW (aA (aB 0) aD)))) (aA (eC (.int 12)) aD))) (cT cs (a+1) xs ks d rs z6 z7 z8)=.ok (.nx (cT cs (a+1) xs ks d rs z6 (some (.lst (W.map .int))) z8)):=by
  show (aR dF _ (mask [5] (cT cs (a+1) xs ks d rs z6 z7 z8))).bind _=_
  rw[e];rfl
 have i0:aF (.lst (W.map .int)) (.int 0)=.ok (.int d0):=by rw[<- hW];rfl
 have i1:aF (.lst (W.map .int)) (.int 1)=.ok (.int d1):=by rw[<- hW];rfl
 have i2:aF (.lst (W.map .int)) (.int 2)=.ok (.int d2):=by rw[<- hW];rfl
 have b2:0<=d2:=(hb d2 (by rw[<- hW];simp)).1
 unfold pR
 rw[bY,s1,bU]
 unfold MW
 rw[bY,s2,bU]
 unfold MV
 rw[eM]
 have hc:gH (aK (aC a6 (aC aV (aC aF (aB 7) (eC (.int 0))) (eC (.int 8))) (eC (.int 0)))) (gH (aK (aC fI (aB 4) (eC (.int 0)))) (aK (aC gA (aB 1) (eC (.int 40))))) (cT cs (a+1) xs ks d rs z6 (some (.lst (W.map .int))) z8)=.ok (decide (d0%8=0)&&(decide ((0:Int)<(d:Int))&&decide (((a+1:Nat):Int)<40))):=by
  have t1:aK (aC a6 (aC aV (aC aF (aB 7) (eC (.int 0))) (eC (.int 8))) (eC (.int 0))) (cT cs (a+1) xs ks d rs z6 (some (.lst (W.map .int))) z8)=.ok (decide (d0%8=0)):=by
   show c7 (bI a6 (bI aV (aF (.lst (W.map .int)) (.int 0)) (.ok (.int 8))) (.ok (.int 0)))=_
   rw[i0,cD,e9 _ _ (by decide)];rfl
  rw[l5,t1]
  cases decide (d0%8=0) with
  |false=>rfl
  |true=>
   rw[o4,l5,show aK (aC fI (aB 4) (eC (.int 0))) (cT cs (a+1) xs ks d rs z6 (some (.lst (W.map .int))) z8)=.ok (decide ((0:Int)<(d:Int))) from rfl]
   cases decide ((0:Int)<(d:Int)) with
   |false=>rfl
   |true=>rfl
 rw[hc]
 cases hB:(decide (d0%8=0)&&(decide ((0:Int)<(d:Int))&&decide (((a+1:Nat):Int)<40))) with
 |false=>
  obtain⟨r,er,hr⟩:=zcz hl hne hx hk
  obtain⟨ws,ew,hg⟩:=hr.wd
  rw[gP,nQ,show fR (cT cs (a+1) xs ks d rs z6 (some (.lst (W.map .int))) z8) 5=.ok (Rws.ds rs) from rfl,show aR nZ (aA (aB 7) (aA (aB 2) (aA (aB 3) aD))) (mask [5] (cT cs (a+1) xs ks d rs z6 (some (.lst (W.map .int))) z8))=.ok (Rw.d r) from er,nS _ _ _ _ hL]
  refine⟨a+1,hZ rs r,some (.lst (W.map .int)),z8,?_,BY rs r d h1 (hr.ok d),by omega,by omega,?_,by rw[BX,h5],fun w hw=>?_,?_⟩
  ·unfold cT
   rw[tL];rfl
  ·rw[tM,xaa,ew]
   simp only[xad,xbi]
   omega
  ·rw[tM,ew] at hw
   rcases xa1.mp hw with h|h
   ·exact h6 w h
   ·rw[xbc.mp h];exact hg
  ·rw[tL,xaa];rfl
 |true=>
  simp only[xap,decide_eq_true_eq] at hB
  obtain⟨_,hd0,ha40⟩:=hB
  obtain⟨d',rfl⟩:∃d',d=d'+1:=⟨d-1,by omega⟩
  obtain⟨r,rs1,a',em,bd⟩:=hm d' (a+1) rfl
  have sA:j5 [5] [8,1] (eG 2) (aR m (aA (aB 0) (aA (aB 1) (aA (aB 2) (aA (aB 3) (aA (aC gSub (aB 4) (eC (.int 1))) aD)))))) (cT cs (a+1) xs ks (d'+1) rs z6 (some (.lst (W.map .int))) z8)=.ok (.nx (cT cs a' xs ks (d'+1) rs z6 (some (.lst (W.map .int))) (some (.tup (Rws.ds (.cons r rs1)))))):=by
   rw[o6,show aR m (aA (aB 0) (aA (aB 1) (aA (aB 2) (aA (aB 3) (aA (aC gSub (aB 4) (eC (.int 1))) aD))))) (mask [5] (cT cs (a+1) xs ks (d'+1) rs z6 (some (.lst (W.map .int))) z8))=m [.lst (cs.map .int),.int ((a+1:Nat):Int),.lst (xs.map .str),.lst (ks.map kD),.int (((d'+1:Nat):Int)-1)] from rfl,show ((d'+1:Nat):Int)-1=(d':Int) by omega,em]
   rfl
  obtain⟨k,ek,hk60⟩:∃k:Nat,aC aF (aL (aP (aA (aC aV (aC aF (aB 7) (eC (.int 2))) (eC (.int 4))) (aA (aC aV (aC aF (aB 7) (eC (.int 2))) (eC (.int 61))) aD)))) (aJ cY (aA (aC a6 (aC aV (aC aF (aB 7) (eC (.int 1))) (eC (.int 16))) (eC (.int 1))) aD)) (mask [5] (cT cs a' xs ks (d'+1) rs z6 (some (.lst (W.map .int))) (some (.tup (Rws.ds (.cons r rs1))))))=.ok (.int (k:Int))/\k<=60:=by
   have m4:=eJ (i:=d2) (j:=4) (by decide)
   have m61:=eJ (i:=d2) (j:=61) (by decide)
   have e0:aC aF (aL (aP (aA (aC aV (aC aF (aB 7) (eC (.int 2))) (eC (.int 4))) (aA (aC aV (aC aF (aB 7) (eC (.int 2))) (eC (.int 61))) aD)))) (aJ cY (aA (aC a6 (aC aV (aC aF (aB 7) (eC (.int 1))) (eC (.int 16))) (eC (.int 1))) aD)) (mask [5] (cT cs a' xs ks (d'+1) rs z6 (some (.lst (W.map .int))) (some (.tup (Rws.ds (.cons r rs1))))))=aF (.lst [.int (d2%4),.int (d2%61)]) (.int (bif decide (d1%16=1) then 1 else 0)):=by
    show bI aF (o3 (i6 (cZ (bI aV (aF (.lst (W.map .int)) (.int 2)) (.ok (.int 4))) (cZ (bI aV (aF (.lst (W.map .int)) (.int 2)) (.ok (.int 61))) (.ok []))))) (lY cY (cZ (bI a6 (bI aV (aF (.lst (W.map .int)) (.int 1)) (.ok (.int 16))) (.ok (.int 1))) (.ok [])))=_
    rw[i2,i1,cD,cD,cD,e9 _ _ (by decide),e9 _ _ (by decide),e9 _ _ (by decide)]
    show bI aF (.ok (.lst [.int (d2%4),.int (d2%61)])) (lY cY (.ok [.bl (decide (d1%16=1))]))=_
    cases decide (d1%16=1)<;>rfl
   rw[e0]
   cases decide (d1%16=1) with
   |false=>exact⟨(d2%4).toNat,by show R.ok (D.int (d2%4))=_;congr 2;omega,by omega⟩
   |true=>exact⟨(d2%61).toNat,by show R.ok (D.int (d2%61))=_;congr 2;omega,by omega⟩
  rw[l6]
  unfold MU
  rw[bY,sA,bU]
  unfold MT
  rw[nQ,show fR (cT cs a' xs ks (d'+1) rs z6 (some (.lst (W.map .int))) (some (.tup (Rws.ds (.cons r rs1))))) 5=.ok (Rws.ds rs) from rfl,nP,cE,cE,cE,ek]
  rw[show iL (cZ (eC (.str "times") (mask [5] (cT cs a' xs ks (d'+1) rs z6 (some (.lst (W.map .int))) (some (.tup (Rws.ds (.cons r rs1))))))) (cZ (.ok (.int (k:Int))) (cZ (aB 8 (mask [5] (cT cs a' xs ks (d'+1) rs z6 (some (.lst (W.map .int))) (some (.tup (Rws.ds (.cons r rs1))))))) (aD (mask [5] (cT cs a' xs ks (d'+1) rs z6 (some (.lst (W.map .int))) (some (.tup (Rws.ds (.cons r rs1))))))))))=.ok (Rw.d (.times k (.cons r rs1))) from by rw[Rw.d];rfl,nS _ _ _ _ hL]
  have b1:=bd.le
  have b2:=bd.up
  have b3:=bd.wl
  refine⟨a',hZ rs (.times k (.cons r rs1)),some (.lst (W.map .int)),some (.tup (Rws.ds (.cons r rs1))),?_,BY rs _ _ h1 ?_,by omega,by omega,?_,by rw[BX,h5],fun w hw=>?_,?_⟩
  ·unfold cT
   rw[tL];rfl
  ·rw[dG]
   exact⟨hk60,by omega,⟨r,rs1,rfl⟩,xah bd.len (by decide),bd.ok⟩
  ·rw[tM,xaa,Rw.wd]
   simp only[xad,xaa,xbi]
   omega
  ·rw[tM,Rw.wd] at hw
   rcases xa1.mp hw with h|h
   ·exact h6 w h
   ·rcases xal.mp h with rfl|h
    ·exact zcB hk60
    ·rcases xa1.mp h with h|h
     ·exact bd.gd w h
     ·rw[xbc.mp h];exact BZ
  ·rw[tL,xaa];rfl
theorem B2:∀(n d a:Nat),d<n->∃r rs a',kG n [.lst (cs.map .int),.int (a:Int),.lst (xs.map .str),.lst (ks.map kD),.int (d:Int)]=.ok (.tup [.tup (Rws.ds (.cons r rs)),.int ((a':Nat):Int)])/\Bd (.cons r rs) d a a'
 |0,d,a,h=>xat h (Nat.not_lt_zero _)
 |n+1,d,a,h=>by
  have hm:∀d' a:Nat,d=d'+1->∃r rs a',kG n [.lst (cs.map .int),.int (a:Int),.lst (xs.map .str),.lst (ks.map kD),.int (d':Int)]=.ok (.tup [.tup (Rws.ds (.cons r rs)),.int ((a':Nat):Int)])/\Bd (.cons r rs) d' a a':=fun d' a hd=>B2 n d' a (by omega)
  obtain⟨ds,e,hl,hb⟩:=B0 hcs (Z:=mask [5] (cT cs a xs ks d .nil none none none)) (fc:=aB 0) (fa:=aB 1) (a:=(a:Int)) rfl rfl
  obtain⟨d11,g11,a11,b11⟩:=kH ds hb 11 (by omega)
  have g11:aF (.lst (ds.map .int)) (.int 11)=.ok (.int d11):=g11
  have m3:=eJ (i:=d11) (j:=3) (by decide)
  have turn:∀(j:Nat) (x:D) (Z:DSt),(cH 0 (1+d11%3).toNat)[j]? = some x->(∃(a':Nat) (rs:Rws) (z6 z7 z8:Option D),Z=cT cs a' xs ks d rs z6 z7 z8/\RsOk rs d/\a<=a'/\a'<=max (a+j) (40+3*d+j)/\(Rws.wds rs).length<=2*(a'-a)/\Rws.len rs=j/\(∀ws∈Rws.wds rs,Gd ws)/\(Rws.ds rs).length=j)->
    ∃Z',(pR (kG n) (Z.set 6 (some x))=.ok (.nx Z')\/pR (kG n) (Z.set 6 (some x))=.ok (.ct Z'))/\∃(a':Nat) (rs:Rws) (z6 z7 z8:Option D),Z'=cT cs a' xs ks d rs z6 z7 z8/\RsOk rs d/\a<=a'/\a'<=max (a+(j+1)) (40+3*d+(j+1))/\(Rws.wds rs).length<=2*(a'-a)/\Rws.len rs=j+1/\(∀ws∈Rws.wds rs,Gd ws)/\(Rws.ds rs).length=j+1:=by
   rintro j x Z hd ⟨a',rs,z6,z7,z8,rfl,h1,h2,h3,h4,h5,h6,h7⟩
   have hj:j<(1+d11%3).toNat:=by
    have:=(xan.mp hd).1
    simpa [cH] using this
   obtain⟨a2,rs2,y7,y8,e2,q1,q2,q3,q4,q5,q6,q7⟩:=zcC hcs hne hx hk hm a a' rs j (by omega) h1 h2 h3 h4 h5 h6 (by omega) (some x) z7 z8
   exact⟨_,.inl e2,a2,rs2,_,y7,y8,rfl,q1,q2,q3,q4,q5,q6,by rw[q7,h7]⟩
  obtain⟨Z',e2,a',rs,z6,z7,z8,rfl,h1,h2,h3,h4,h5,h6,h7⟩:=o8 (i:=6) (fb:=pR (kG n)) _ _ turn (cT cs a xs ks d .nil none none none) ⟨a,.nil,none,none,none,rfl,by rw[RsOk];trivial,xak _,by omega,by rw[Rws.wds];simp,rfl,(fun ws hw=>by rw[Rws.wds] at hw;cases hw),by rw[Rws.ds];rfl⟩
  have hN:(cH 0 (1+d11%3).toNat).length=(1+d11%3).toNat:=by simp[cH]
  rw[hN] at h3 h5 h7
  obtain⟨r,rs',rfl⟩:=zcA (show 1<=Rws.len rs by omega)
  refine⟨r,rs',a',?_,h1,h2,by omega,h4,by omega,h6⟩
  rw[zaY]
  unfold pS
  have s0:jL [] 5 (aP aD) [some (.lst (cs.map .int)),some (.int (a:Int)),some (.lst (xs.map .str)),some (.lst (ks.map kD)),some (.int (d:Int)),none,none,none,none]=.ok (.nx (cT cs a xs ks d .nil none none none)):=by unfold cT;rw[Rws.ds];rfl
  rw[bY,s0,bU]
  unfold MY
  have er:fP eX (aA (aC aI (eC (.int 1)) (aC aV (aC aF (aR dF (aA (aC aF (aB 0) (aC aV (aB 1) (aJ aW (aA (aB 0) aD)))) (aA (eC (.int 12)) aD))) (eC (.int 11))) (eC (.int 3)))) aD) (mask [5] (cT cs a xs ks d .nil none none none))=.ok (cH 0 (1+d11%3).toNat):=by
   rw[z0,cE,bS,bS,bS,e]
   show zZ eX (cZ (bI aI (.ok (.int 1)) (bI aV (aF (.lst (ds.map .int)) (.int 11)) (.ok (.int 3)))) (.ok []))=_
   rw[g11,cD,e9 _ _ (by decide),cD,vF,u8]
   show eX [.int (1+d11%3)]=_
   exact zY _ (rX (by omega) (by omega))
  rw[bY,vG,er,rY,e2,bU]
  unfold MX
  rfl
end
end LmDp
open L2 DL Mir
open L2 DL Mir
open L2 DL Mir
open L2 DL Mir
open L2 DL Mir
namespace LmWl
open LmA LmY LmWa LmWf LmWg TxtA
theorem lo(l:List Nat):(aE l).length=l.length:=by simp[aE,Str.length]
end LmWl
open L2 DL Mir
namespace LmWm
open LmA LmY LmWa LmWf LmWg LmWl TxtA
abbrev nt:D:=.exc "NoText" []
end LmWm
open L2 DL Mir
open L2 DL Mir
open L2 DL Mir
open L2 DL Mir
open L2 DL Mir
open L2 DL Mir
open L2 DL Mir
open L2 DL Mir
open L2 DL Mir
open L2 DL Mir
namespace LmXg
open LmA LmY LmWa LmWf LmWg LmWl LmWm TxtA
theorem PK(n d:Nat)(o:Option Int)(hd:d<=n):(match o with|none=>(d:Int)|some i=>max 0 (min (if i<0 then i+(n:Int) else i) (n:Int)))=((HT.sIx n d o:Nat):Int):=by
 cases o with
 |none=>rfl
 |some i=>
  show max 0 (min (if i<0 then i+(n:Int) else i) (n:Int))=(((if i<0 then (i+(n:Int)).toNat else min i.toNat n):Nat):Int)
  by_cases h:i<0
  ·rw[xa5 h,xa5 h];omega
  ·rw[xaz h,xaz h];omega
theorem zcD(n:Nat)(lo hi:Option Int):Builtin.Str.strSliceIndices lo hi 1 n=(List.range (HT.sIx n n hi-HT.sIx n 0 lo)).map (fun k=>HT.sIx n 0 lo+k):=by
 have h1:=PK n 0 lo (xbz _)
 have h2:=PK n n hi (xak _)
 have l1:=HT.sIx_le n 0 (xbz _) lo
 have l2:=HT.sIx_le n n (xak _) hi
 generalize HT.sIx n 0 lo=a at *
 generalize HT.sIx n n hi=b at *
 have e:Builtin.Str.strSliceIndices lo hi 1 n=sliceRange (a:Int) (b:Int) 1:=by
  rw[<- h1,<- h2]
  unfold Builtin.Str.strSliceIndices
  simp only[show (1:Int)>0 by decide,if_true]
  rfl
 rw[e]
 unfold sliceRange
 simp only[show (1:Int)>0 by decide,if_true]
 by_cases h:(a:Int)<b
 ·rw[xa5 h,show (((b:Int)-a+1-1)/1).toNat=b-a by rw[Int.ediv_one];omega]
  refine xco fun k _=>?_
  omega
 ·rw[xaz h,show b-a=0 by omega];rfl
theorem zcE(l:List Nat)(lo hi:Option Int):kA (aE l) lo hi=aE (cX l lo hi):=by
 have hp:slicePicked (aE l) (i8 lo) (i8 hi) none=(List.range (HT.sIx l.length l.length hi-HT.sIx l.length 0 lo)).map (fun k=>HT.sIx l.length 0 lo+k):=by
  rw[<- zcD,<- LmWl.lo l]
  unfold slicePicked i8
  cases lo<;>cases hi<;>rfl
 have l1:=HT.sIx_le l.length 0 (xbz _) lo
 have l2:=HT.sIx_le l.length l.length (xak _) hi
 unfold kA cX
 rw[hp,xab,List.length_range,LmWl.lo l]
 generalize HT.sIx l.length 0 lo=a at *
 generalize HT.sIx l.length l.length hi=b at *
 by_cases h:(b-a==l.length)=true
 ·rw[xa5 h]
  have h:=eq_of_beq h
  rcases Nat.eq_zero_or_pos l.length with hz|hz
  ·rw[xb0.mp hz];simp
  ·rw[show a=0 by omega,show b-0=l.length by omega,List.drop_zero,xc0]
 ·rw[xaz h]
  have:((List.range (b-a)).map (fun k=>a+k)).filterMap ((aE l).cps[·]?)=(l.drop a).take (b-a):=by
   rcases Nat.lt_or_ge b a with hab|hab
   ·rw[show b-a=0 by omega];simp
   ·have:=StrLaws.picks l (b-a) a (by omega)
    simpa [aE] using this
  rw[this];rfl
theorem zcF(l:List Nat)(h:l.length<=1000000)(lo hi:Option Int):vM (.str (aE l)) lo hi=.ok (.str (aE (cX l lo hi))):=by
 show (bif bD (kA (aE l) lo hi).length then _ else _)=_
 rw[zcE,show bD (aE (cX l lo hi)).length=true from xaf (by
  rw[LmWl.lo _]
  refine xah ?_ (xah h (by decide))
  unfold cX
  rw[xbh,xbu]
  omega)];rfl
theorem slS{fe:DSt->R D}{fl fh:DSt->R (Option Int)}{Z:DSt}{l:List Nat}{lo hi:Option Int}(h1:fe Z=.ok (.str (aE l)))(h2:fl Z=.ok lo)(h3:fh Z=.ok hi)(h:l.length<=1000000):i9 fe fl fh Z=.ok (.str (aE (cX l lo hi))):=by
 unfold i9
 rw[h1,R.ok_bind,h2,R.ok_bind,h3,R.ok_bind,zcF l h]
theorem cut_take(l:List Nat)(n:Nat):cX l none (some (n:Int))=l.take n:=by
 unfold cX
 rw[HT.sIx_none,HT.sIx_nat,List.drop_zero,Nat.sub_zero,<- List.take_eq_take_min]
end LmXg
open L2 DL Mir
namespace LmDq
open LmA LmY Lk31 Rdr TxtA LmWa LmWf LmDa LmDb LmDd LmDe LmDf LmDg LmDi LmDm LmDn LmDo LmDp
theorem rn_t{fe:DSt->R D}{Z:DSt}{a:Str}(h:fe Z=.ok (.str a))(hl:a.length<=1000):aC aI (i9 fe b7 (bG (eC (.int 7)))) (eC (.str "r")) Z=.ok (.str (rn a)):=by
 have e:i9 fe b7 (bG (eC (.int 7))) Z=.ok (.str (aE ((cl a).take 7))):=by
  rw[LmXg.slS (l:=cl a) (lo:=none) (hi:=some ((7:Nat):Int)) (by rw[h,kI]) rfl rfl (by rw[w9];omega),LmXg.cut_take]
 rw[bS,e]
 show aI (.str (aE ((cl a).take 7))) (.str (aE [114]))=_
 rw[LmWg.add_ok (by rw[xbh];show min 7 _+1<=_;omega)];rfl
theorem zcH{α:Type}(xs:List α)(t:Nat)(x:α):x∈xs.drop t++xs.take t↔x∈xs:=by
 rw[xa1,or_comm,<- xa1,xc1]
theorem zcI{α:Type}{xs:List α}(h:xs.Nodup)(t:Nat):(xs.drop t++xs.take t).Nodup:=
 (List.perm_append_comm.trans (by rw[xc1])).nodup_iff.mpr h
theorem zcJ{ns:List Str}(h:Ns ns):ns.Nodup:=by
 unfold List.Nodup
 rw[List.pairwise_iff_getElem]
 intro i j hi hj hij he
 have:=h.first i j _ _ (xax hi) (xax hj) (by rw[he])
 omega
structure xE(l:Rl):Prop where
 ok:oE l
 gd:∀ws∈l.wd,Gd ws
theorem PL{nm out:Str}{ps:List Str}(h1:Nm nm)(h2:Nm out)(h3:∀x∈ps,Nm x)(h8:ps.length<=8):Gd (aS nm ps out):=
 xD (by simp) (by simp;omega) fun x hx=>by
  rcases xal.mp hx with rfl|hx
  ·simp
  ·rcases xal.mp hx with rfl|hx
   ·exact .inl h1
   ·rcases xa1.mp hx with hx|hx
    ·exact .inl (h3 x hx)
    ·simp only[xal,xbk,or_false] at hx
     rcases hx with rfl|rfl
     ·simp
     ·exact .inl h2
abbrev cP(cs:List Int)(N:Int)(ns:List Str)(ls:List Rl)(ks:List (Str×Nat))(a:Nat)(z6 z7 z8 z9 z10 z11:Option D):DSt:=[some (.lst (cs.map .int)),some (.int N),some (.lst (ns.map .str)),some (.lst (ls.map Rl.d)),some (.lst (ks.map kD)),some (.int (a:Int)),z6,z7,z8,z9,z10,z11]
section
variable{cs:List Int}(hcs:cs≠[]){ns:List Str}(hn:Ns ns)
include hcs hn
theorem zcK{N:Int}(ls:List Rl)(ks:List (Str×Nat))(a j:Nat)(hj:j<3)(hks:∀k∈ks,oI k)(hl:ls.length=j)(hkl:ks.length=j)(x:Str)(hx:ns[j]? = some x)(z7 z8 z9 z10 z11:Option D) :
  ∃l k a' y7 y8 y9 y10 y11,n4 (cP cs N ns ls ks a (some (.int (j:Int))) z7 z8 z9 z10 z11)=.ok (.nx (cP cs N ns (ls++[l]) (ks++[k]) a' (some (.int (j:Int))) y7 y8 y9 y10 y11))/\xE l/\oI k/\l.nm=rn x/\a<=a'/\a'<=max (a+3) 40+15/\l.wd.length<=2*(a'-a)+2:=by
 have hxm:x∈ns:=xbt hx
 have hxN:=hn.ok x hxm
 obtain⟨hr1,hr2⟩:=BW hxN (hn.lt x hxm)
 have h9:=hn.len
 obtain⟨ds,e,hl12,hb⟩:=B0 hcs (Z:=mask [3] (cP cs N ns ls ks a (some (.int (j:Int))) z7 z8 z9 z10 z11)) (fc:=aB 0) (fa:=aC aI (aB 5) (aB 6)) (a:=(a:Int)+(j:Int)) rfl rfl
 obtain⟨d0,g0,a0,b0⟩:=kH ds hb 0 (by omega)
 obtain⟨d1,g1,a1,b1⟩:=kH ds hb 1 (by omega)
 obtain⟨d2,g2,a2,b2⟩:=kH ds hb 2 (by omega)
 obtain⟨d3,g3,a3,b3⟩:=kH ds hb 3 (by omega)
 have g0:aF (.lst (ds.map .int)) (.int 0)=.ok (.int d0):=g0
 have g1:aF (.lst (ds.map .int)) (.int 1)=.ok (.int d1):=g1
 have g2:aF (.lst (ds.map .int)) (.int 2)=.ok (.int d2):=g2
 have g3:aF (.lst (ds.map .int)) (.int 3)=.ok (.int d3):=g3
 let W:Option D:=some (.lst (ds.map .int))
 let J:Option D:=some (.int (j:Int))
 have s0:cW [3] 7 (aR dF (aA (aC aF (aB 0) (aC aV (aC aI (aB 5) (aB 6)) (aJ aW (aA (aB 0) aD)))) (aA (eC (.int 12)) aD))) (cP cs N ns ls ks a J z7 z8 z9 z10 z11)=.ok (.nx (cP cs N ns ls ks a J W z8 z9 z10 z11)):=by
  show (aR dF _ (mask [3] (cP cs N ns ls ks a J z7 z8 z9 z10 z11))).bind _=_
  rw[e];rfl
 have m8:=eJ (i:=d0) (j:=8) (by decide)
 obtain⟨p,hp⟩:∃p:Nat,1+d0%8=(p:Int):=⟨(1+d0%8).toNat,by omega⟩
 have s1:cW [3] 8 (cC (aB 2) b7 (bG (aC aI (eC (.int 1)) (aC aV (aC aF (aB 7) (eC (.int 0))) (eC (.int 8)))))) (cP cs N ns ls ks a J W z8 z9 z10 z11)=.ok (.nx (cP cs N ns ls ks a J W (some (.lst ((ns.take p).map .str))) z9 z10 z11)):=by
  show (cC (aB 2) b7 (bG _) (mask [3] (cP cs N ns ls ks a J W z8 z9 z10 z11))).bind _=_
  rw[LmL.eSl_to _ _ _ (ns.map .str) p rfl (by
   show bI aI (.ok (.int 1)) (bI aV (aF (.lst (ds.map .int)) (.int 0)) (.ok (.int 8)))=_
   rw[g0,cD,e9 _ _ (by decide),cD,vF,hp]),<- xch]
  rfl
 have pl:(ns.take p).length=p:=by rw[xbh];omega
 have m1:=eJ (i:=d1) (j:=(p:Int)) (by omega)
 obtain⟨t,ht⟩:∃t:Nat,d1%(p:Int)=(t:Int):=⟨(d1%(p:Int)).toNat,by omega⟩
 have s2:cW [3] 9 (aC aV (aC aF (aB 7) (eC (.int 1))) (aJ aW (aA (aB 8) aD))) (cP cs N ns ls ks a J W (some (.lst ((ns.take p).map .str))) z9 z10 z11)=.ok (.nx (cP cs N ns ls ks a J W (some (.lst ((ns.take p).map .str))) (some (.int (t:Int))) z10 z11)):=by
  show ((bI aV (aF (.lst (ds.map .int)) (.int 1)) (.ok (.int (((ns.take p).map D.str).length:Int)))).bind _)=_
  rw[g1,xab,pl,cD,e9 _ _ (by omega),ht];rfl
 let ps:List Str:=(ns.take p).drop t++(ns.take p).take t
 have hps:∀x∈ps,Nm x:=fun x hx=>hn.ok x (xb6 ((zcH _ t x).mp hx))
 have hpn:ps.Nodup:=zcI ((zcJ hn).sublist (List.take_sublist _ _)) t
 have hpl:ps.length=p:=by
  show ((ns.take p).drop t++(ns.take p).take t).length=p
  rw[xaa,xbu,pl,xbh,pl];omega
 have hpne:ps≠[]:=fun h=>by rw[h] at hpl;simp at hpl;omega
 have s3:cW [3] 8 (aC aI (cC (aB 8) (bG (aB 9)) b7) (cC (aB 8) b7 (bG (aB 9)))) (cP cs N ns ls ks a J W (some (.lst ((ns.take p).map .str))) (some (.int (t:Int))) z10 z11)=.ok (.nx (cP cs N ns ls ks a J W (some (.lst (ps.map .str))) (some (.int (t:Int))) z10 z11)):=by
  show (aC aI _ _ (mask [3] (cP cs N ns ls ks a J W (some (.lst ((ns.take p).map .str))) (some (.int (t:Int))) z10 z11))).bind _=_
  rw[bS,LmL.eSl_from _ _ _ ((ns.take p).map .str) t rfl rfl,LmL.eSl_to _ _ _ ((ns.take p).map .str) t rfl rfl,cD,<- xcy,<- xch]
  have ea:aI (.lst (((ns.take p).drop t).map .str)) (.lst (((ns.take p).take t).map .str))=.ok (.lst (ps.map .str)):=by
   show (bif bD ((((ns.take p).drop t).map D.str).length+(((ns.take p).take t).map D.str).length) then R.ok (D.lst (((ns.take p).drop t).map D.str++((ns.take p).take t).map D.str)) else .bad)=_
   rw[show bD ((((ns.take p).drop t).map D.str).length+(((ns.take p).take t).map D.str).length)=true from xaf (by rw[xab,xab,xbu,pl,xbh,pl];exact xah (show _<=1000 by omega) (by decide)),<- xav];rfl
  rw[ea];rfl
 obtain⟨is,hi1,hi2,hi3,s4⟩:∃is:List Str,is≠[]/\(∀x∈is,Nm x)/\is.length<=9/\cW [3] 10 (aC aF (aL (aP (aA (aB 8) (aA (aB 2) aD)))) (aJ cY (aA (aC a6 (aC aV (aC aF (aB 7) (eC (.int 3))) (eC (.int 4))) (eC (.int 1))) aD))) (cP cs N ns ls ks a J W (some (.lst (ps.map .str))) (some (.int (t:Int))) z10 z11)=.ok (.nx (cP cs N ns ls ks a J W (some (.lst (ps.map .str))) (some (.int (t:Int))) (some (.lst (is.map .str))) z11)):=by
  have e0:cW [3] 10 (aC aF (aL (aP (aA (aB 8) (aA (aB 2) aD)))) (aJ cY (aA (aC a6 (aC aV (aC aF (aB 7) (eC (.int 3))) (eC (.int 4))) (eC (.int 1))) aD))) (cP cs N ns ls ks a J W (some (.lst (ps.map .str))) (some (.int (t:Int))) z10 z11)=(aF (.lst [.lst (ps.map .str),.lst (ns.map .str)]) (.int (bif decide (d3%4=1) then 1 else 0))).bind fun d=>.ok (.nx (cP cs N ns ls ks a J W (some (.lst (ps.map .str))) (some (.int (t:Int))) (some d) z11)):=by
   show (bI aF (.ok (.lst [.lst (ps.map .str),.lst (ns.map .str)])) (lY cY (cZ (bI a6 (bI aV (aF (.lst (ds.map .int)) (.int 3)) (.ok (.int 4))) (.ok (.int 1))) (.ok [])))).bind _=_
   rw[g3,cD,e9 _ _ (by decide)]
   show (bI aF (.ok (.lst [.lst (ps.map .str),.lst (ns.map .str)])) (lY cY (.ok [.bl (decide (d3%4=1))]))).bind _=_
   cases decide (d3%4=1)<;>rfl
  rw[e0]
  cases decide (d3%4=1) with
  |false=>exact⟨ps,hpne,hps,by omega,rfl⟩
  |true=>exact⟨ns,fun h=>by rw[h] at h9;simp at h9,hn.ok,by omega,rfl⟩
 obtain⟨r,rs,a',eb,bd⟩:=B2 hcs hi1 hi2 hks 64 4 (a+3) (by decide)
 have s5:j5 [3] [11,5] (eG 2) (aR mM (aA (aB 0) (aA (aC aI (aB 5) (eC (.int 3))) (aA (aB 10) (aA (aB 4) (aA (eC (.int 4)) aD)))))) (cP cs N ns ls ks a J W (some (.lst (ps.map .str))) (some (.int (t:Int))) (some (.lst (is.map .str))) z11)=.ok (.nx (cP cs N ns ls ks a' J W (some (.lst (ps.map .str))) (some (.int (t:Int))) (some (.lst (is.map .str))) (some (.tup (Rws.ds (.cons r rs)))))):=by
  rw[o6,show aR mM (aA (aB 0) (aA (aC aI (aB 5) (eC (.int 3))) (aA (aB 10) (aA (aB 4) (aA (eC (.int 4)) aD))))) (mask [3] (cP cs N ns ls ks a J W (some (.lst (ps.map .str))) (some (.int (t:Int))) (some (.lst (is.map .str))) z11))=_ from eb];rfl
 have ex:∀Z:DSt,aB 2 Z=.ok (.lst (ns.map .str))->aB 6 Z=.ok (.int (j:Int))->aC aI (i9 (aC aF (aB 2) (aB 6)) b7 (bG (eC (.int 7)))) (eC (.str "r")) Z=.ok (.str (rn x)):=fun Z h2 h6=>rn_t (by
  rw[bS,h2,h6,cD]
  exact jP (by rw[xbl,hx];rfl)) hxN.2
 let l:Rl:=⟨rn x,ps,pk za is d2,r,rs⟩
 have hout:Nm (pk za is d2):=hi2 _ (pZ za hi1 d2)
 have e6:bQ (aA (aC aI (i9 (aC aF (aB 2) (aB 6)) b7 (bG (eC (.int 7)))) (eC (.str "r"))) (aA (aJ iK (aA (aB 8) aD)) (aA (aC aF (aB 10) (aC aV (aC aF (aB 7) (eC (.int 2))) (aJ aW (aA (aB 10) aD)))) (aA (aB 11) aD)))) (mask [3] (cP cs N ns ls ks a' J W (some (.lst (ps.map .str))) (some (.int (t:Int))) (some (.lst (is.map .str))) (some (.tup (Rws.ds (.cons r rs))))))=.ok (Rl.d l):=by
  rw[nP,cE,cE,cE,cE,ex _ rfl rfl,show aC aF (aB 10) (aC aV (aC aF (aB 7) (eC (.int 2))) (aJ aW (aA (aB 10) aD))) (mask [3] (cP cs N ns ls ks a' J W (some (.lst (ps.map .str))) (some (.int (t:Int))) (some (.lst (is.map .str))) (some (.tup (Rws.ds (.cons r rs))))))=bI aF (.ok (.lst (is.map .str))) (bI aV (aF (.lst (ds.map .int)) (.int 2)) (.ok (.int ((is.map D.str).length:Int)))) from rfl,g2,oH za .str hi1 d2]
  rfl
 have e7:aC aI (aB 4) (aL (aP (aA (bQ (aA (aC aI (i9 (aC aF (aB 2) (aB 6)) b7 (bG (eC (.int 7)))) (eC (.str "r"))) (aA (aJ aW (aA (aB 8) aD)) aD))) aD))) (mask [3] (cP cs N ns (ls++[l]) ks a' J W (some (.lst (ps.map .str))) (some (.int (t:Int))) (some (.lst (is.map .str))) (some (.tup (Rws.ds (.cons r rs))))))=.ok (.lst ((ks++[(rn x,p)]).map kD)):=by
  rw[bS,gX,o0,cE,nP,cE,cE,ex _ rfl rfl]
  show aI (.lst (ks.map kD)) (.lst [.tup [.str (rn x),.int ((ps.map D.str).length:Int)]])=_
  rw[xab,hpl]
  show (bif bD ((ks.map kD).length+1) then R.ok (D.lst (ks.map kD++[kD (rn x,p)])) else .bad)=_
  rw[show bD ((ks.map kD).length+1)=true from xaf (by rw[xab];exact xah (show _<=1000 by omega) (by decide)),xav];rfl
 have b1:=bd.le
 have b2:=bd.up
 have b3:=bd.wl
 refine⟨l,(rn x,p),a',W,some (.lst (ps.map .str)),some (.int (t:Int)),some (.lst (is.map .str)),some (.tup (Rws.ds (.cons r rs))),?_,⟨⟨hr1,hout,hps,hpn,by show 1<=ps.length;omega,by show ps.length<=8;omega,bd.ok,xah bd.len (by decide)⟩,fun ws hw=>?_⟩,⟨hr1,by show 1<=p;omega,by show p<=8;omega⟩,rfl,by omega,by omega,?_⟩
 rotate_left
 ·rcases xal.mp hw with rfl|hw
  ·exact PL hr1 hout hps (by show ps.length<=8;omega)
  ·rcases xa1.mp hw with hw|hw
   ·exact bd.gd ws hw
   ·rw[xbc.mp hw];exact BZ
 ·show (aS _ _ _::(Rws.wds (.cons r rs)++[(["end"]:List Str)])).length<=_
  rw[xad,xaa]
  simp only[xad,xbi]
  omega
 ·unfold n4
  rw[bY,s0,bU]
  unfold M5
  rw[bY,s1,bU]
  unfold M4
  rw[bY,s2,bU]
  unfold M3
  rw[bY,s3,bU]
  unfold M2
  rw[bY,s4,bU]
  unfold M1
  rw[bY,s5,bU]
  unfold M0
  rw[bY,nQ,show fR (cP cs N ns ls ks a' J W (some (.lst (ps.map .str))) (some (.int (t:Int))) (some (.lst (is.map .str))) (some (.tup (Rws.ds (.cons r rs))))) 3=.ok (ls.map Rl.d) from rfl,e6,nS _ _ _ _ (by rw[xab];omega),bU]
  have es:∀z:List D,([some (.lst (cs.map .int)),some (.int N),some (.lst (ns.map .str)),some (.lst (ls.map Rl.d)),some (.lst (ks.map kD)),some (.int (a':Int)),J,W,some (.lst (ps.map .str)),some (.int (t:Int)),some (.lst (is.map .str)),some (.tup (Rws.ds (.cons r rs)))]:DSt).set 3 (some (.lst (ls.map Rl.d++[Rl.d l])))=cP cs N ns (ls++[l]) ks a' J W (some (.lst (ps.map .str))) (some (.int (t:Int))) (some (.lst (is.map .str))) (some (.tup (Rws.ds (.cons r rs)))):=fun _=>by
   unfold cP
   rw[show (ls++[l]).map Rl.d=ls.map Rl.d++[Rl.d l] from xav];rfl
  rw[es []]
  unfold MZ
  show (aC aI _ _ (mask [3] (cP cs N ns (ls++[l]) ks a' J W (some (.lst (ps.map .str))) (some (.int (t:Int))) (some (.lst (is.map .str))) (some (.tup (Rws.ds (.cons r rs))))))).bind _=_
  rw[e7];rfl
end
end LmDq
open L2 DL Mir
namespace LmDr
open LmA LmY Lk31 Rdr TxtA LmWa LmWf LmDa LmDb LmDd LmDe LmDf LmDg LmDi LmDm LmDn LmDo LmDp LmDq
open LmC (cell oA)
theorem zcL(ls:List Rl)(l:Rl):a8 (ls++[l])=a8 ls++l.wd:=by unfold a8;simp
structure p0(ns:List Str)(ls:List Rl)(m:Nat):Prop where
 ok:∀l∈ls,xE l
 nm:∀(i:Nat) (l:Rl),ls[i]? = some l->∃x,ns[i]? = some x/\l.nm=rn x
 len:ls.length<=m
theorem p0.nodup{ns:List Str}(hn:Ns ns){ls:List Rl}{m:Nat}(h:p0 ns ls m):(ls.map Rl.nm).Nodup:=by
 unfold List.Nodup
 rw[List.pairwise_iff_getElem]
 intro i j hi hj hij he
 rw[xab] at hi hj
 obtain⟨x,hx,ex⟩:=h.nm i _ (xax hi)
 obtain⟨y,hy,ey⟩:=h.nm j _ (xax hj)
 have he:ls[i].nm=ls[j].nm:=by simpa using he
 have hxm:=xbt hx
 have hym:=xbt hy
 have:=hn.first i j x y hx hy (by rw[<- (BW (hn.ok x hxm) (hn.lt x hxm)).2,<- (BW (hn.ok y hym) (hn.lt y hym)).2,<- ex,<- ey,he])
 omega
section
variable{cs:List Int}(hcs:cs≠[]){ns:List Str}(hn:Ns ns)
include hcs hn
theorem zcM(N:Nat)(hN:N<=3):∃(ls:List Rl) (ks:List (Str×Nat)) (a:Nat),sZ [.lst (cs.map .int),.int (N:Int),.lst (ns.map .str)]=.ok (.tup [.lst (ls.map Rl.d),.lst (ks.map kD),.int ((a:Nat):Int)])/\p0 ns ls 3/\(∀k∈ks,oI k)/\a<=200/\(a8 ls).length<=406:=by
 have h9:=hn.len
 have turn:∀(j:Nat) (x:D) (Z:DSt),(cH 0 N)[j]? = some x->(∃(ls:List Rl) (ks:List (Str×Nat)) (a:Nat) (z6 z7 z8 z9 z10 z11:Option D),Z=cP cs (N:Int) ns ls ks a z6 z7 z8 z9 z10 z11/\p0 ns ls j/\ls.length=j/\ks.length=j/\(∀k∈ks,oI k)/\a<=60*j/\(a8 ls).length<=2*a+2*j)->
   ∃Z',(n4 (Z.set 6 (some x))=.ok (.nx Z')\/n4 (Z.set 6 (some x))=.ok (.ct Z'))/\∃(ls:List Rl) (ks:List (Str×Nat)) (a:Nat) (z6 z7 z8 z9 z10 z11:Option D),Z'=cP cs (N:Int) ns ls ks a z6 z7 z8 z9 z10 z11/\p0 ns ls (j+1)/\ls.length=j+1/\ks.length=j+1/\(∀k∈ks,oI k)/\a<=60*(j+1)/\(a8 ls).length<=2*a+2*(j+1):=by
  rintro j x Z hd ⟨ls,ks,a,z6,z7,z8,z9,z10,z11,rfl,h1,h2,h3,h4,h5,h6⟩
  have hj:j<N:=by
   have:=(xan.mp hd).1
   simpa [cH] using this
  obtain rfl:x=.int (j:Int):=by
   unfold cH at hd
   rw[xbl,xb3 hj] at hd
   simpa using hd.symm
  obtain⟨l,k,a',y7,y8,y9,y10,y11,e,q1,q2,q3,q4,q5,q6⟩:=zcK hcs hn (N:=(N:Int)) ls ks a j (by omega) h4 h2 h3 ns[j] (xax (by omega)) z7 z8 z9 z10 z11
  refine⟨_,.inl e,ls++[l],ks++[k],a',_,y7,y8,y9,y10,y11,rfl,⟨fun q hq=>?_,fun i q hq=>?_,by simp;omega⟩,by simp[h2],by simp[h3],fun q hq=>?_,by omega,?_⟩
  ·rcases xa1.mp hq with h|h
   ·exact h1.ok q h
   ·rw[xbc.mp h];exact q1
  ·rcases Nat.lt_or_ge i ls.length with hi|hi
   ·rw[xbn hi] at hq
    exact h1.nm i q hq
   ·rw[xbe hi] at hq
    obtain⟨rfl,rfl⟩:i=j/\l=q:=by
     cases hz:i-ls.length with
     |zero=>rw[hz] at hq;exact⟨by omega,by simpa using hq⟩
     |succ n=>rw[hz] at hq;simp at hq
    exact⟨_,xax (by omega),q3⟩
  ·rcases xa1.mp hq with h|h
   ·exact h4 q h
   ·rw[xbc.mp h];exact q2
  ·rw[zcL,xaa];omega
 obtain⟨Z',e2,ls,ks,a,z6,z7,z8,z9,z10,z11,rfl,h1,h2,h3,h4,h5,h6⟩:=o8 (i:=6) (fb:=n4) _ _ turn (cP cs (N:Int) ns [] [] 0 none none none none none none) ⟨[],[],0,none,none,none,none,none,none,rfl,⟨by simp,by simp,by simp⟩,rfl,rfl,by simp,by omega,by simp[a8]⟩
 have hL:(cH 0 N).length=N:=by simp[cH]
 rw[hL] at h1 h2 h3 h5 h6
 refine⟨ls,ks,a,?_,⟨h1.ok,h1.nm,by omega⟩,h4,by omega,by omega⟩
 rw[zaZ]
 unfold wH M9 M8 M7
 show fin (kW (AB [6] bX n4 (eX [.int (N:Int)]) (cP cs (N:Int) ns [] [] 0 none none none none none none)) M6)=_
 rw[zY _ (rX (by omega) (by omega)),xbm,rY,e2,bU]
 rfl
end
structure xF(ns:List Str)(ls:List Rl)(r:Rw)(rs:Rws):Prop where
 rl:p0 ns ls 3
 ok:RsOk (.cons r rs) 4
 len:Rws.len (.cons r rs)<=3
 gd:∀ws∈Rws.wds (.cons r rs),Gd ws
 l1:(a8 ls).length<=406
 l2:(Rws.wds (.cons r rs)).length<=200
theorem zcN(S:List Int)(hS:S.length<=63):∃(ns:List Str) (ls:List Rl) (r:Rw) (rs:Rws),n5 [.lst (S.map .int)]=.ok (.tup [.lst (ns.map .str),dD ls r rs])/\Ns ns/\xF ns ls r rs:=by
 have c0:fK [.lst (S.map .int),.int 0]=.ok (.int (cell S 0)):=oA S 0
 obtain⟨ds,e,hl,hb⟩:=wU (cell S 0) 12 (by decide)
 have e:dF [.int (cell S 0),.int 12]=.ok (.lst (ds.map .int)):=e
 obtain⟨d0,g0,a0,b0⟩:=kH ds hb 0 (by omega)
 have g0:aF (.lst (ds.map .int)) (.int 0)=.ok (.int d0):=g0
 obtain⟨ns,en,hn⟩:=LmDn.names_ok (cell S 0)
 have m4:=eJ (i:=d0) (j:=4) (by decide)
 obtain⟨N,hN⟩:∃N:Nat,d0%4=(N:Int):=⟨(d0%4).toNat,by omega⟩
 obtain⟨cs,ec,hc⟩:∃cs:List Int,((S.map D.int).drop (min 1 (S.map D.int).length)).take (min 40 (S.map D.int).length-min 1 (S.map D.int).length)=cs.map D.int/\cs.length<=40:=by
  refine⟨(S.drop (min 1 (S.map D.int).length)).take (min 40 (S.map D.int).length-min 1 (S.map D.int).length),by rw[xch,xcy],?_⟩
  rw[xbh,xbu,xab]
  omega
 have hcs:cs++[0,1]≠[]:=by simp
 obtain⟨ls,ks,a,er,h1,h2,h3,h4⟩:=zcM hcs hn N (by omega)
 obtain⟨r,rs,a',eb,bd⟩:=B2 hcs (show ns≠[] from fun h=>by have:=hn.len;rw[h] at this;simp at this) hn.ok h2 64 4 (a+2) (by decide)
 have bu:=bd.up
 have bl:=bd.le
 have bw:=bd.wl
 refine⟨ns,ls,r,rs,?_,hn,h1,bd.ok,bd.len,bd.gd,h4,by omega⟩
 rw[za1];unfold wI ND NC;kd_p
 rw[c0];kd_p
 rw[e];kd_p
 rw[c0];kd_p
 rw[en];kd_p
 rw[LmX.eSl_mid _ _ _ _ (S.map D.int) 1 40 rfl rfl rfl,ec];kd_p
 rw[show aI (.lst (cs.map D.int)) (.lst [.int 0,.int 1])=.ok (.lst ((cs++[0,1]).map .int)) from by
  show (bif bD ((cs.map D.int).length+2) then R.ok (D.lst (cs.map D.int++[.int 0,.int 1])) else .bad)=_
  rw[show bD ((cs.map D.int).length+2)=true from xaf (by rw[xab];exact xah (show cs.length+2<=63 by omega) (by decide)),xav];rfl];kd_p
 unfold NB;kd_p
 rw[g0];walk_at "evd"
 rw[hN,er];kd_p
 unfold NA
 rw[bY,o6]
 have eq:∀z1 z4 z7:Option D,aR mM (aA (aB 3) (aA (aC aI (aB 6) (eC (.int 2))) (aA (aB 2) (aA (aB 5) (aA (eC (.int 4)) aD))))) (mask [] [some (.lst (S.map .int)),z1,some (.lst (ns.map .str)),some (.lst ((cs++[0,1]).map .int)),z4,some (.lst (ks.map kD)),some (.int (a:Int)),z7])=.ok (.tup [.tup (Rws.ds (.cons r rs)),.int ((a':Nat):Int)]):=fun z1 z4 z7=>eb
 rw[eq]
 rfl
end LmDr
open L2 DL Mir
namespace LmDs
open LmA LmY Lk31 Rdr TxtA LmWa LmWf LmDa LmDb LmDd LmDe LmDf LmDg LmDi LmDm LmDn LmDo LmDp LmDq LmDr
structure Dr(ls:List Rl)(r:Rw)(rs:Rws):Prop where
 rl:∀l∈ls,xE l
 nd:(ls.map Rl.nm).Nodup
 l3:ls.length<=20
 ok:RsOk (.cons r rs) 4
 len:Rws.len (.cons r rs)<=1000
 gd:∀ws∈Rws.wds (.cons r rs),Gd ws
 ln:(a8 ls++Rws.wds (.cons r rs)).length<=1000
theorem xF.dr{ns:List Str}(hn:Ns ns){ls:List Rl}{r:Rw}{rs:Rws}(h:xF ns ls r rs):Dr ls r rs:=
 ⟨h.rl.ok,h.rl.nodup hn,by have:=h.rl.len;omega,h.ok,by have:=h.len;omega,h.gd,by have:=h.l1;have:=h.l2;rw[xaa];omega⟩
theorem B3:∀rs:Rws,(Rws.ds rs).length=Rws.len rs
 |.nil=>by rw[Rws.ds];rfl
 |.cons r rs=>by rw[Rws.ds,xad,B3 rs];rfl
theorem zcO(r:Rw):1<=(Rw.wd r).length:=by
 cases r<;>(rw[Rw.wd];simp only[xad];omega)
theorem B4:∀rs:Rws,(Rws.ds rs).length<=(Rws.wds rs).length
 |.nil=>by rw[Rws.ds,Rws.wds];exact xak _
 |.cons r rs=>by
  have:=B4 rs
  have:=zcO r
  rw[Rws.ds,Rws.wds,xad,xaa];omega
end LmDs
open L2 DL Mir
namespace Lk32
open LmA LmY Lk31 Rdr TxtA LmWa LmWf LmDa LmDb LmDd LmDe LmDf LmDg LmDi LmDk LmDm LmDn LmDo LmDp LmDq LmDr LmDs
open LmC (cell oA)
section
variable{ls:List Rl}{r:Rw}{rs:Rws}(h:Dr ls r rs)
include h
theorem all_gd:∀ws∈a8 ls++Rws.wds (.cons r rs),Gd ws:=fun ws hw=>by
 rcases xa1.mp hw with hw|hw
 ·obtain⟨l,hl,hw⟩:=List.mem_flatMap.mp hw
  exact(h.rl l hl).gd ws hw
 ·exact h.gd ws hw
theorem texted:mQ [dD ls r rs]=.ok (.str (aE (eQ (a8 ls++Rws.wds (.cons r rs))))):=
 zcr (fun l hl=>(h.rl l hl).ok) h.ok h.ln fun ws hw=>xah (all_gd h ws hw).len (by decide)
theorem read:dL [.str (aE (eQ (a8 ls++Rws.wds (.cons r rs))))]=.ok (dD ls r rs):=
 ON (PB (fun e=>by
  have:=B4 (.cons r rs)
  rw[B3] at this
  have:=congrArg List.length e
  rw[xaa,xbi] at this
  have:1<=Rws.len (.cons r rs):=by show 1<=Rws.len rs+1;omega
  omega) (all_gd h) (xah h.ln (by decide))) (fun l hl=>(h.rl l hl).ok) h.nd h.l3 h.ok (xah h.len (by decide))
end
end Lk32
open L2 DL Mir
namespace Lk56
open LmA LmY LmWa LmWf LmWg LmWl LmWm TxtA
open LmC (cell oA)
theorem alone_ok:n8 [nt]=.ok (.bl true):=by
 rw[za4];unfold wK NN NM NL NK NJ;kd_p
 simp only[fS (show cR "NoText" "NoPlace"=some false by decide +kernel),fS (show cR "NoText" "Same"=some false by decide +kernel),fS (show cR "NoText" "NoFloor"=some false by decide +kernel),fS (show cR "NoText" "Endless"=some false by decide +kernel),fS (show cR "NoText" "NoDeed"=some false by decide +kernel),fS (show cR "NoText" "NoText"=some true by decide +kernel),fS (show cR "NoText" "NoName"=some false by decide +kernel),fS (show cR "NoText" "TooMany"=some false by decide +kernel),fS (show cR "NoText" "NoChange"=some false by decide +kernel),fS (show cR "NoText" "NoFrame"=some false by decide +kernel),fS (show cR "NoText" "NoValue"=some false by decide +kernel),fS (show cR "NoText" "Unlike"=some false by decide +kernel),fS (show cR "NoText" "NoRatio"=some false by decide +kernel),fS (show cR "NoText" "NoBow"=some false by decide +kernel),fS (show cR "NoText" "NoRow"=some false by decide +kernel),fS (show cR "NoText" "ChalkError"=some true by decide +kernel)]
 kd_p
 rfl
end Lk56
open L2 DL Mir
namespace LmEf
open LmA LmY Lk31 Rdr TxtA LmDa LmDb LmDd LmDe LmDf LmDg LmDi LmDm LmEa LmEb LmEc LmEd LmEe
open LmO (cutW oG BS xB Fr)
def dU(r:List Nat):List Str:=(cutW r).map aE
theorem PM:∀r,(cutW r).length<=r.length+1/\∀w∈cutW r,w.length<=r.length
 |[]=>⟨by simp[cutW],by simp[cutW]⟩
 |c::r=>by
  obtain⟨h1,h2⟩:=PM r
  unfold cutW
  split
  ·refine⟨by rw[xad,xad];omega,fun w hw=>?_⟩
   rcases xal.mp hw with rfl|hw
   ·simp
   ·have:=h2 w hw;rw[xad];omega
  ·cases hc:cutW r with
   |nil=>exact xat hc (oG r)
   |cons w ws=>
    rw[hc] at h1 h2
    refine⟨by show (_::ws).length<=_;rw[xad] at h1 ⊢;rw[xad];omega,fun v hv=>?_⟩
    rcases xal.mp hv with rfl|hv
    ·have:=h2 w xaq;rw[xad,xad];omega
    ·have:=h2 v (xae _ hv);rw[xad];omega
theorem zcP{r:List Nat}(h:r.length<=800):Wk (dU r):=by
 obtain⟨h1,h2⟩:=PM r
 refine⟨fun e=>oG r (List.map_eq_nil_iff.mp e),by unfold dU;rw[xab];omega,fun x hx=>?_⟩
 obtain⟨w,hw,rfl⟩:=xay.mp hx
 have:=h2 w hw
 rw[LmO.lo];omega
def p7(l:List (List Str)):Prop:=∀s,bO s0 l=some s->s.ru=false->s.dp=0->s.mn=true->False
theorem B5{R:List (List Nat)}(hne:R≠[])(hr:∀r∈R,Fr r/\r.length<=800)(hl:R.length<=3000)(hb:p7 (R.map dU)):dL [.str (aE (TxtA.flat [59,32] R))]=.err no:=by
 have hT:=LmO.rows_okF hne (fun r h=>⟨(hr r h).1,xah (hr r h).2 (by decide)⟩) hl
 have hT:g8 [.str (aE (TxtA.flat [59,32] R))]=.ok (.lst ((R.map dU).map wD)):=by
  rw[hT,xbj];rfl
 rcases zch hT (fun w hw=>by
  obtain⟨r,h,rfl⟩:=xay.mp hw
  exact zcP (hr r h).2) (by rw[xab];exact hl) with⟨ls,r,rs,e,h1,h2,h3,h4⟩|h
 ·obtain⟨s,e1,e2,e3,e4⟩:=O5 h1 h2 h3 h4
  rw[<- e] at e1
  exact(hb s e1 e2 e3 e4).elim
 ·exact h
theorem zcQ{l:List (List Str)}(h:BR l=false):p7 l:=fun s e h1 h2 h3=>by
 unfold BR at h
 rw[e] at h
 have h:BQ s=false:=h
 unfold BQ at h
 rw[h1,h2,h3] at h
 cases h
def iA:List Nat->List (List Nat)
 |[]=>[[]]
 |c::t=>match iA t with
  |r::rs=>bif decide (c=59)&&(match r with|d::_=>decide (d=32) | []=>false) then []::r.tail::rs else (c::r)::rs
  |[]=>[[c]]
def tN:List Nat->Bool
 |[]=>true
 |c::t=>!(decide (c=59)&&(match t with|d::_=>decide (d=32) | []=>false))&&tN t
theorem B6:∀{r:List Nat},tN r=true->Fr r
 |[],_,i,h=>by simp at h
 |c::t,h,i,hi=>by
  unfold tN at h
  rw[xap] at h
  cases i with
  |zero=>
   have hc:c=59:=by simpa using hi
   cases t with
   |nil=>simp
   |cons d t=>
    intro e
    have hd:d=32:=by simpa using e
    have h1:=h.1
    rw[hc,hd] at h1
    simp at h1
  |succ i=>
   have:=B6 h.2 i (by simpa using hi)
   simpa using this
def B7(t:Str):Bool:=decide (TxtA.flat [59,32] (iA (cl t))=cl t) && !(iA (cl t)).isEmpty&&(iA (cl t)).all (fun r=>tN r&&Nat.ble r.length 800)&&Nat.ble (iA (cl t)).length 3000 && !BR ((iA (cl t)).map dU)
theorem zcR{t:Str}(h:B7 t=true):dL [.str t]=.err no:=by
 unfold B7 at h
 simp only[xap,decide_eq_true_eq,xb8,List.isEmpty_eq_false_iff,xa2,Nat.ble_eq] at h
 obtain⟨⟨⟨⟨h1,h2⟩,h3⟩,h4⟩,h5⟩:=h
 have:=B5 h2 (fun r hr=>⟨B6 (h3 r hr).1,(h3 r hr).2⟩) h4 (zcQ h5)
 rw[h1,kI] at this
 exact this
def xG(w:List Str):Bool:=!decide (w=wE) && !dS w && !lE w && !tH w
theorem zcS{w:List Str}(h:xG w=true)(s:SE):cA s w=none:=by
 unfold xG at h
 simp only[xap,xb8,decide_eq_false_iff_not] at h
 obtain⟨⟨⟨h1,h2⟩,h3⟩,h4⟩:=h
 unfold cA
 rw[xag h1,h2,h3,h4];rfl
theorem PN:∀{l:List (List Str)} (s:SE),l.any xG=true->bO s l=none
 |[],s,h=>by cases h
 |w::l,s,h=>by
  rw[xcg,xb1] at h
  show (match cA s w with|some s'=>bO s' l|none=>none)=none
  rcases h with h|h
  ·rw[zcS h]
  ·cases cA s w with
   |none=>rfl
   |some s'=>exact PN s' h
theorem B8{w:List Str}(h:dS w=true)(s:SE):cA s w=none\/∃s',cA s w=some s'/\s'.dp=s.dp+1/\s'.fr=true/\s.dp<4:=by
 have h1:decide (w=wE)=false:=xag fun e=>by rw[e] at h;cases h
 unfold cA
 rw[h1,h]
 show (bif decide (s.dp<4) then some (SE.mk s.ru (s.dp+1) true (s.mn || !s.ru) s.sn) else none)=none\/∃s',(bif decide (s.dp<4) then some (SE.mk s.ru (s.dp+1) true (s.mn || !s.ru) s.sn) else none)=some s'/\_
 by_cases h4:s.dp<4
 ·rw[xaf h4];exact .inr ⟨_,rfl,rfl,rfl,h4⟩
 ·rw[xag h4];exact .inl rfl
theorem xH{w:List Str}(h:dS w=true)(l:List (List Str))(n:Nat)(hl:∀s,n+1<=s.dp->bO s l=none)(s:SE)(hs:n<=s.dp):bO s (w::l)=none:=by
 show (match cA s w with|some s'=>bO s' l|none=>none)=none
 rcases B8 h s with e|⟨s',e,e1,_,_⟩
 ·rw[e]
 ·rw[e];exact hl s' (by omega)
theorem PP{a b c d e:List Str}(ha:dS a=true)(hb:dS b=true)(hc:dS c=true)(hd:dS d=true)(he:dS e=true)(l:List (List Str))(s:SE):bO s (a::b::c::d::e::l)=none:=by
 refine xH ha _ 0 (xH hb _ 1 (xH hc _ 2 (xH hd _ 3 fun s hs=>?_))) s (xbz _)
 show (match cA s e with|some s'=>bO s' l|none=>none)=none
 rcases B8 he s with e1|⟨s',e1,_,_,h4⟩
 ·rw[e1]
 ·omega
theorem zcT{a:List Str}(ha:dS a=true)(l:List (List Str))(s:SE):bO s (a::wE::l)=none:=by
 show (match cA s a with|some s'=>bO s' (wE::l)|none=>none)=none
 rcases B8 ha s with e|⟨s',e,_,hf,_⟩
 ·rw[e]
 ·rw[e]
  show (match cA s' wE with|some s'=>bO s' l|none=>none)=none
  have:cA s' wE=none:=by
   unfold cA
   rw[xaf rfl,hf];rfl
  rw[this]
theorem zcU{a:List Str}(ha:lE a=true)(l:List (List Str))(s:SE)(hm:s.mn=true):bO s (a::l)=none:=by
 have:cA s a=none:=by
  unfold cA
  cases h1:decide (a=wE) with
  |true=>
   have:=xas h1
   rw[this] at ha;cases ha
  |false=>
   cases h2:dS a with
   |true=>
    match a,h2,ha with
    |[t,y],h2,ha=>
     exfalso
     unfold lE at ha
     simp at ha
   |false=>
    rw[ha,hm]
    cases s.ru<;>cases (decide (s.dp=0))<;>rfl
 show (match cA s a with|some s'=>bO s' l|none=>none)=none
 rw[this]
def kind(B:List (List Str)):Bool:=B.any xG || !decide (jW B=0)||(match B with|a::e::_=>dS a&&decide (e=wE)|_=>false)||(match B with|a::b::c::d::e::_=>dS a&&dS b&&dS c&&dS d&&dS e|_=>false)
def PQ(B:List (List Str)):Bool:=match B with|a::_=>lE a|_=>false
theorem zcV{Y B:List (List Str)}{s1:SE}(hY:bO s0 Y=some s1)(h1:s1.ru=false)(h2:s1.dp=0)(h3:s1.mn=true)(a:Nat)(h:kind B=true\/PQ B=true/\a=Y.length):p7 (Y.take a++B++Y.drop a):=fun s e e1 e2 e3=>by
 rw[xar,mU] at e
 cases ht:bO s0 (Y.take a) with
 |none=>rw[ht] at e;cases e
 |some s2=>
  rw[ht] at e
  have e:bO s2 (B++Y.drop a)=some s:=e
  have none_B:(∀l,bO s2 (B++l)=none)->False:=fun z=>by rw[z] at e;cases e
  have none_B':bO s2 B=none->False:=fun z=>none_B fun l=>by rw[mU,z];rfl
  rcases h with h|⟨h,ha⟩
  ·unfold kind at h
   rw[xb1,xb1,xb1] at h
   rcases h with ((h|h)|h)|h
   ·exact none_B' (PN s2 h)
   ·have b1:=xA _ _ _ hY
    have b2:=xA _ _ _ ht
    have b3:=xA _ _ _ e
    rw[O6] at b3
    have b4:jW Y=jW (Y.take a)+jW (Y.drop a):=by rw[<- O6,xc1]
    have l0:hV s0=0:=rfl
    have l1:hV s1=0:=by unfold hV;rw[h1,h2];rfl
    have l2:hV s=0:=by unfold hV;rw[e1,e2];rfl
    have:jW B≠0:=by simpa using h
    omega
   ·match B,h with
    |x::y::l,h=>
     rw[xap] at h
     have hy:=xas h.2
     subst hy
     exact none_B' (zcT h.1 l s2)
   ·match B,h with
    |x::y::z::u::v::l,h=>
     simp only[xap] at h
     exact none_B' (PP h.1.1.1.1 h.1.1.1.2 h.1.1.2 h.1.2 h.2 l s2)
  ·rw[ha,xc0] at ht
   rw[hY] at ht
   injection ht with ht
   subst ht
   match B,h with
   |x::l,h=>exact none_B' (zcU h l s1 h3)
theorem PR(y:List Nat){v:List (List Nat)}(hv:v≠[])(w:List (List Nat)):∀u:List (List Nat),TxtA.flat y (u++TxtA.flat y v::w)=TxtA.flat y (u++(v++w))
 |[]=>by
  cases w with
  |nil=>rw[xbq,xbq,xa8];rfl
  |cons z zs=>
   rw[xbq,xbq,LmO.flat_cons _ _ (by simp),LmDj.flat_app _ _ _ _ hv]
 |a::u=>by
  rw[xcm,xcm,LmO.flat_cons _ _ (by simp),LmO.flat_cons _ _ (by cases v with
   |nil=>exact xat rfl hv
   |cons z zs=>simp),PR y hv w u]
end LmEf
open L2 DL Mir
namespace LmEg
open LmA LmY Lk31 Rdr TxtA LmDa LmDb LmDd LmDe LmDf LmDg LmDi LmDm LmEa LmEb LmEc LmEd LmEe LmEf
theorem xI{d:D}(h:dL [d]=.err no):eO [d]=.ok (.bl true):=by
 rw[zbI];unfold wM NT NS;kd_p
 rw[h];kd_p
 rw[YZ _ _ _ _ _ _ (show cR "NoText" "ChalkError"=some true by decide +kernel)];kd_p
 rw[fS (show cR "NoText" "NoText"=some true by decide +kernel)];kd_p
 rw[show n8 [no]=.ok (.bl true) from Lk56.alone_ok];kd_p
def badR:List Str:=([""," ","a","a =","a = b","a = b c x d","a = b c x d e f","a = b c X d e"]:List Str)++
 (["a b c x d e","= b c x d e","x = b c x d e","rule = b c x d e","end = b c x d e","times = b c x d e","a = x b c","a = b x"]:List Str)++
 (["A = b c x d e","a = b c x d E","a = b 1 x d e","a = b c x d times","a = end b","a == b c x d e","a  = b c x d e","a = b  c x d e"]:List Str)++
 ([" a = b c x d e","a = b c x d e ","a=b c x d e","a = b,c x d e","abcdefghi = b c x d e","a = abcdefghi b","a = b abcdefghi","a = b c x x d e"]:List Str)++
 (["a = b x c x d","a = rule b","a = b rule","a = b c x end d","a = times b","rule = b c","times","times x"]:List Str)++
 (["times -1","times 2 3","times 100","end end","end 2","END","ends","a = b c x d e;"]:List Str)++
 (["rule r p > p","rule","a : b c x d e","a = b c x d e; end","times 2; end","times 61; a = b c x d e; end","times 01; a = b c x d e; end","times 00; a = b c x d e; end"]:List Str)++
 (["times 2; a = b c x d e; end; end","rule r p > p; a = b c x d e; end","times 2; times 2; times 2; times 2; times 2; a = b c; end; end; end; end; end"]:List Str)
theorem zcW:mR []=.ok (.lst (badR.map .str)):=by
 rw[zbn];kernel_rfl
def PU(t:Str):Bool:=decide (TxtA.flat [59,32] (iA (cl t))=cl t) && !(iA (cl t)).isEmpty&&(iA (cl t)).all (fun r=>tN r&&Nat.ble r.length 200)&&Nat.ble (iA (cl t)).length 30&&(kind ((iA (cl t)).map dU)||PQ ((iA (cl t)).map dU)&&decide (aE ((cl t).take 4)="rule"))
theorem zcX:badR.all PU=true:=by decide +kernel
def jX:Str:="; p = p q x q p; end"
def B9(n:Nat):List (List Nat):=(List.range n).map fun k=>cl "rule "++[97+k]++cl "z p > p"++cl "; p = p q x q p; end"
def mV:List Str:=(["rule r > p","rule r p p > p","rule r p p","rule r p > p q","rule r p > > p","rule x p > p","rule r x > p","rule r p > x","rule r a b c d e f g h i > a","rule end p > p","rule r p >","rule R p > p","rule  r p > p"]:List Str).map (fun h=>h++jX++"; a = b c")++
 [("rule r p > p":Str)++jX,"rule r p > p; end; a = b c","rule r p > p; a = b c","end","times 2; a = b c",
 ("rule r p > p":Str)++jX++"; rule r q > q"++jX++"; a = b c","a = b c;b = a a","a = b c ; b = a a",";a = b c",
 "a = b c\nb = a a","a = b c; ","; a = b c",("rule r p > p":Str)++jX++"; end; a = b c",
 ("a = b c; rule r p > p":Str)++jX++"; a = b c",("rule r p > p; rule s q > q":Str)++jX++jX++"; a = b c",
 ("times 2; rule r p > p":Str)++jX++"; a = b c; end",("rule r p > p":Str)++jX++"; a = b c; rule s p > p"++jX,
 aE (TxtA.flat [59,32] (B9 21++[cl "a = b c"]))]
theorem zcY:s9 []=.ok (.lst (mV.map .str)):=by
 rw[zbG];kernel_rfl
theorem zcZ:mV.all B7=true:=by decide +kernel
theorem zc0:jC [.int 20]=.ok (.lst (((B9 20).map aE).map .str)):=by
 rw[zbp];kernel_rfl
end LmEg
open L2 DL Mir
namespace LmEh
open LmA LmY Lk31 Rdr TxtA LmDa LmDb LmDd LmDe LmDf LmDg LmDi LmDm LmDo LmDp LmDq LmDs LmEa LmEb LmEc LmEd LmEe LmEf LmEg
open LmO (cutW cutW_flat Fr fr_no)
mutual
theorem zc1:∀(r:Rw) (d:Nat),dG r d->RG r d
 |.cross n a b c e,d,h=>by rw[dG] at h;rw[RG];exact h
 |.rule n f as,d,h=>by rw[dG] at h;rw[RG];exact⟨h.1,h.2.1,h.2.2.1,h.2.2.2.2⟩
 |.times k rs,d,h=>by
  rw[dG] at h
  rw[RG]
  exact⟨h.1,h.2.1,h.2.2.1,rsg_of rs (d-1) h.2.2.2.2⟩
theorem rsg_of:∀(rs:Rws) (d:Nat),RsOk rs d->RsG rs d
 |.nil,d,_=>by rw[RsG];trivial
 |.cons r rs,d,h=>by
  rw[RsOk] at h
  rw[RsG]
  exact⟨zc1 r d h.1,rsg_of rs d h.2⟩
end
theorem zc2{ws:List Str}(h:Gd ws):dU (bT ws)=ws:=by
 unfold dU bT
 rw[cutW_flat (by simpa using h.ne) (fun w hw=>by
  obtain⟨x,hx,rfl⟩:=xay.mp hw
  exact(h.ok x hx).2.1),xbj,show (aE ∘ cl)=id from funext fun x=>kI x,List.map_id]
theorem PV{Y:List (List Str)}(h:∀ws∈Y,Gd ws):(Y.map bT).map dU=Y:=by
 rw[xbj]
 conv=>rhs;rw[<- List.map_id Y]
 exact xco fun ws hw=>zc2 (h ws hw)
theorem zc3:badR.all (fun t=>Nat.ble (cl t).length 200)=true:=by decide +kernel
theorem four{fe:DSt->R D}{Z:DSt}{t:Str}(h:fe Z=.ok (.str t))(hl:(cl t).length<=200):aK (aC a6 (i9 fe b7 (bG (eC (.int 4)))) (eC (.str "rule"))) Z=.ok (decide (aE ((cl t).take 4)="rule")):=by
 rw[dQ,bS,LmXg.slS (l:=cl t) (lo:=none) (hi:=some ((4:Nat):Int)) (by rw[h,kI]) rfl rfl (by omega),LmXg.cut_take]
 show c7 (a6 (.str (aE ((cl t).take 4))) (.str "rule"))=_
 rw[pX];rfl
section
variable{Y:List (List Str)}(hne:Y≠[])(hg:∀ws∈Y,Gd ws)(hl:Y.length<=1000)
include hne hg hl
theorem zc5(n:Int):∃t a,t∈badR/\a<=Y.length/\(decide (aE ((cl t).take 4)="rule")=true->a=Y.length)/\mS [.str (aE (eQ Y)),.int n]=.ok (.str (aE (TxtA.flat [59,32] ((Y.take a).map bT++cl t::(Y.drop a).map bT)))):=by
 have hb:badR≠[]:=by decide
 let t:Str:=pk za badR n
 have ht:t∈badR:=pZ za hb n
 have htl:(cl t).length<=200:=by
  have:=xa2.mp zc3 t ht
  simpa using this
 let L:List D:=((Y.map bT).map aE).map D.str
 have hL:L.length=Y.length:=by show (((Y.map bT).map aE).map D.str).length=_;simp
 let A:Option D:=some (.str (aE (eQ Y)))
 let B:Option D:=some (.int n)
 have s0':aY 2 (aL (pB (aB 0) (eC (.str "; ")))) [A,B,none,none,none,none]=.ok (.nx [A,B,some (.lst L),none,none,none]):=by
  have e:=LmO.split_okF (rows:=Y.map bT) (by simpa using hne) (fun r hr=>by
   obtain⟨ws,hw,rfl⟩:=xay.mp hr
   exact fr_no (hg ws hw).no) (by
   have:=wT [59,32] (B:=200) (Y.map bT) (fun r hr=>by
    obtain⟨ws,hw,rfl⟩:=xay.mp hr
    exact(hg ws hw).len)
   rw[xab] at this
   simp only[xad,xbi] at this
   omega)
  show (o3 (g6 (.str (aE (eQ Y))) (.str "; "))).bind _=_
  rw[show g6 (.str (aE (eQ Y))) (.str "; ")=.ok L from e];rfl
 have s1:aY 3 (aR mR aD) [A,B,some (.lst L),none,none,none]=.ok (.nx [A,B,some (.lst L),some (.lst (badR.map .str)),none,none]):=by
  show (mR []).bind _=_
  rw[zcW];rfl
 have s2:aY 4 (aC aF (aB 3) (aC aV (aB 1) (aJ aW (aA (aB 3) aD)))) [A,B,some (.lst L),some (.lst (badR.map .str)),none,none]=.ok (.nx [A,B,some (.lst L),some (.lst (badR.map .str)),some (.str t),none]):=by
  show (bI aF (.ok (.lst (badR.map .str))) (bI aV (.ok (.int n)) (.ok (.int ((badR.map D.str).length:Int))))).bind _=_
  rw[oH za .str hb n];rfl
 have m:=eJ (i:=n/100) (j:=(Y.length:Int)+1) (by omega)
 obtain⟨a0,ha0⟩:∃a:Nat,n/100%((Y.length:Int)+1)=(a:Int):=⟨(n/100%((Y.length:Int)+1)).toNat,by omega⟩
 have s3:aY 5 (aC aV (aC iI (aB 1) (eC (.int 100))) (aC aI (aJ aW (aA (aB 2) aD)) (eC (.int 1)))) [A,B,some (.lst L),some (.lst (badR.map .str)),some (.str t),none]=.ok (.nx [A,B,some (.lst L),some (.lst (badR.map .str)),some (.str t),some (.int (a0:Int))]):=by
  show (bI aV (iI (.int n) (.int 100)) (.ok (.int ((L.length:Int)+1)))).bind _=_
  rw[rV _ _ (by decide +kernel) (by decide),hL,cD,e9 _ _ (by omega),ha0];rfl
 have fin':∀a:Nat,a<=Y.length->wO [A,B,some (.lst L),some (.lst (badR.map .str)),some (.str t),some (.int (a:Int))]=.ok (.rt (.str (aE (TxtA.flat [59,32] ((Y.take a).map bT++cl t::(Y.drop a).map bT))))):=fun a ha=>by
  have e1:aC aI (aC aI (cC (aB 2) b7 (bG (aB 5))) (aL (aP (aA (aB 4) aD)))) (cC (aB 2) (bG (aB 5)) b7) [A,B,some (.lst L),some (.lst (badR.map .str)),some (.str t),some (.int (a:Int))]=.ok (.lst ((((Y.take a).map bT++cl t::(Y.drop a).map bT).map aE).map D.str)):=by
   rw[bS,bS,LmL.eSl_to _ _ _ L a rfl rfl,LmL.eSl_from _ _ _ L a rfl rfl]
   have hl1:(L.take a).length=a:=by rw[xbh,hL];omega
   have hl2:(L.drop a).length=Y.length-a:=by rw[xbu,hL]
   have a1:aI (.lst (L.take a)) (.lst [D.str t])=.ok (.lst (L.take a++[D.str t])):=by
    show (bif bD ((L.take a).length+1) then R.ok (D.lst (L.take a++[D.str t])) else .bad)=_
    rw[hl1,show bD (a+1)=true from xaf (xah (show _<=2000 by omega) (by decide))];rfl
   have a2:aI (.lst (L.take a++[D.str t])) (.lst (L.drop a))=.ok (.lst (L.take a++[D.str t]++L.drop a)):=by
    show (bif bD ((L.take a++[D.str t]).length+(L.drop a).length) then R.ok (D.lst (L.take a++[D.str t]++L.drop a)) else .bad)=_
    rw[xaa,hl1,hl2,show bD (a+([D.str t]:List D).length+(Y.length-a))=true from xaf (xah (show a+1+(Y.length-a)<=2000 by omega) (by decide))];rfl
   show bI aI (aI (.lst (L.take a)) (.lst [D.str t])) (.ok (.lst (L.drop a)))=_
   rw[a1,cD,a2]
   congr 2
   show (((Y.map bT).map aE).map D.str).take a++[D.str t]++(((Y.map bT).map aE).map D.str).drop a=_
   rw[<- xch,<- xch,<- xch,<- xcy,<- xcy,<- xcy,xav,xav,xbg,xbg,kI]
   simp
  unfold wO
  have ej:=LmY.join_ok (y:=[59,32]) (rows:=(Y.take a).map bT++cl t::(Y.drop a).map bT) (B:=200) (fun r hr=>by
   rcases xa1.mp hr with hr|hr
   ·obtain⟨ws,hw,rfl⟩:=xay.mp hr
    exact(hg ws (xb6 hw)).len
   ·rcases xal.mp hr with rfl|hr
    ·exact htl
    ·obtain⟨ws,hw,rfl⟩:=xay.mp hr
     exact(hg ws (xc5 hw)).len) (by
   rw[xaa,xad,xab,xab,xbh,xbu]
   simp only[xad,xbi]
   omega)
  rw[l7]
  show jO ((aC aI (aC aI (cC (aB 2) b7 (bG (aB 5))) (aL (aP (aA (aB 4) aD)))) (cC (aB 2) (bG (aB 5)) b7) [A,B,some (.lst L),some (.lst (badR.map .str)),some (.str t),some (.int (a:Int))]).bind fun d=>fA (.str "; ") d)=_
  rw[e1,R.ok_bind,show (D.str "; ")=.str (aE [59,32]) from rfl,ej];rfl
 have tst:=four (fe:=aB 4) (Z:=[A,B,some (.lst L),some (.lst (badR.map .str)),some (.str t),some (.int (a0:Int))]) rfl htl
 have go:∀a:Nat,a<=Y.length->wP [A,B,some (.lst L),some (.lst (badR.map .str)),some (.str t),some (.int (a0:Int))]=wO [A,B,some (.lst L),some (.lst (badR.map .str)),some (.str t),some (.int (a:Int))]->mS [.str (aE (eQ Y)),.int n]=.ok (.str (aE (TxtA.flat [59,32] ((Y.take a).map bT++cl t::(Y.drop a).map bT)))):=fun a ha he=>by
  rw[zbK]
  unfold wQ
  rw[bY,s0',bU]
  unfold N1
  rw[bY,s1,bU]
  unfold N0
  rw[bY,s2,bU]
  unfold NZ
  rw[bY,s3,bU,he,fin' a ha];rfl
 cases hd:decide (aE ((cl t).take 4)="rule") with
 |true=>
  refine⟨t,Y.length,ht,xak _,fun _=>rfl,go Y.length (xak _) ?_⟩
  unfold wP
  rw[bY,eM,tst,hd,l6,show aY 5 (aJ aW (aA (aB 2) aD)) [A,B,some (.lst L),some (.lst (badR.map .str)),some (.str t),some (.int (a0:Int))]=.ok (.nx [A,B,some (.lst L),some (.lst (badR.map .str)),some (.str t),some (.int (L.length:Int))]) from rfl,bU,hL]
 |false=>
  refine⟨t,a0,ht,by omega,fun z=>(xa7 (hd.symm.trans z)).elim,go a0 (by omega) ?_⟩
  unfold wP
  rw[bY,eM,tst,hd,gP,jM,bU]
theorem zc6{s1:SE}(hY:bO s0 Y=some s1)(h1:s1.ru=false)(h2:s1.dp=0)(h3:s1.mn=true)(n:Int):∃T,mS [.str (aE (eQ Y)),.int n]=.ok T/\dL [T]=.err no:=by
 obtain⟨t,a,ht,ha,hr,e⟩:=zc5 hne hg hl n
 refine⟨_,e,?_⟩
 have hc:=xa2.mp zcX t ht
 unfold PU at hc
 simp only[xap,decide_eq_true_eq,xb8,List.isEmpty_eq_false_iff,xa2,Nat.ble_eq,xb1] at hc
 obtain⟨⟨⟨⟨c1,c2⟩,c3⟩,c4⟩,c5⟩:=hc
 have ef:TxtA.flat [59,32] ((Y.take a).map bT++cl t::(Y.drop a).map bT)=TxtA.flat [59,32] ((Y.take a).map bT++(iA (cl t)++(Y.drop a).map bT)):=by
  conv=>lhs;rw[<- c1]
  exact PR _ c2 _ _
 rw[ef]
 refine B5 (by cases hq:iA (cl t) with
  |nil=>exact xat hq c2
  |cons x xs=>simp) (fun r hr=>?_) ?_ ?_
 ·rcases xa1.mp hr with hr|hr
  ·obtain⟨ws,hw,rfl⟩:=xay.mp hr
   have g:=hg ws (xb6 hw)
   exact⟨fr_no g.no,xah g.len (by decide)⟩
  ·rcases xa1.mp hr with hr|hr
   ·exact⟨B6 (c3 r hr).1,xah (c3 r hr).2 (by decide)⟩
   ·obtain⟨ws,hw,rfl⟩:=xay.mp hr
    have g:=hg ws (xc5 hw)
    exact⟨fr_no g.no,xah g.len (by decide)⟩
 ·rw[xaa,xaa,xab,xab,xbh,xbu];omega
 ·rw[xav,xav,PV (fun ws hw=>hg ws (xb6 hw)),PV (fun ws hw=>hg ws (xc5 hw)),<- xar]
  refine zcV hY h1 h2 h3 a ?_
  rcases c5 with c5|⟨c5,c6⟩
  ·exact .inl c5
  ·exact .inr ⟨c5,hr (xaf c6)⟩
end
end LmEh
open L2 DL Mir
namespace LmEi
open LmA LmY Lk31 Rdr TxtA LmDa LmDb LmDd LmDe LmDf LmDg LmDi LmDm LmDo LmDp LmDq LmDs LmEa LmEb LmEc LmEd LmEe LmEf LmEg LmEh
open LmO (fr_no)
def oJ(k:Nat):Rl:=⟨aE [97+k,122],["p"],"p",.cross "p" "p" "q" "q" "p",.nil⟩
def xJ:List Rl:=(List.range 20).map oJ
def cM:Rw:=.rule "a" "b" ["c"]
theorem tP:Nm "a"/\Nm "b"/\Nm "c"/\Nm "p"/\Nm "q":=⟨⟨by decide +kernel,by decide⟩,⟨by decide +kernel,by decide⟩,⟨by decide +kernel,by decide⟩,⟨by decide +kernel,by decide⟩,⟨by decide +kernel,by decide⟩⟩
theorem xK:tK cM:=PJ tP.1 tP.2.1 (by simp) (by simp) (fun x hx=>by rw[xbc.mp hx];exact tP.2.2.1)
theorem PX:(xJ.map Rl.nm).all cK=true/\(xJ.map Rl.nm).Nodup:=by decide +kernel
theorem rl20{k:Nat}(hk:k<20):xE (oJ k):=by
 have hp:=tP.2.2.2.1
 have hq:=tP.2.2.2.2
 have c1:tK (.cross "p" "p" "q" "q" "p"):=PH hp hp hq hq hp
 obtain⟨ws,ew,hg⟩:=c1.wd
 have hn:Nm (aE [97+k,122]):=⟨xa2.mp PX.1 _ (xay.mpr ⟨oJ k,xay.mpr ⟨k,xb9.mpr hk,rfl⟩,rfl⟩),by show 2<=1000;decide⟩
 have hps:∀x∈(["p"]:List Str),Nm x:=fun x hx=>by rw[xbc.mp hx];exact hp
 refine⟨⟨hn,hp,hps,by simp[oJ],by simp[oJ],by simp[oJ],?_,by show 1<=1000;decide⟩,fun w hw=>?_⟩
 ·show RsOk (.cons (.cross "p" "p" "q" "q" "p") .nil) 4
  rw[RsOk]
  exact⟨c1.ok 4,by rw[RsOk];trivial⟩
 ·have hwd:Rl.wd (oJ k)=aS (aE [97+k,122]) ["p"] "p"::(Rws.wds (.cons (.cross "p" "p" "q" "q" "p") .nil)++[(["end"]:List Str)]):=rfl
  rw[hwd,Rws.wds,ew,show Rws.wds .nil=[] from by rw[Rws.wds]] at hw
  simp only[xal,xa1,xbk,or_false] at hw
  rcases hw with rfl|rfl|rfl
  ·exact PL hn hp hps (by simp)
  ·exact hg
  ·exact BZ
theorem dr20:Dr xJ cM .nil:=by
 obtain⟨ws,ew,hg⟩:=xK.wd
 refine⟨fun l hl=>?_,PX.2,by decide,?_,by show 1<=1000;decide,fun w hw=>?_,by decide +kernel⟩
 ·obtain⟨k,hk,rfl⟩:=xay.mp hl
  exact rl20 (xb9.mp hk)
 ·rw[RsOk]
  exact⟨xK.ok 4,by rw[RsOk];trivial⟩
 ·rw[Rws.wds,ew,show Rws.wds .nil=[] from by rw[Rws.wds]] at hw
  simp only[xa1,xbc,xbk,or_false] at hw
  rw[hw];exact hg
theorem zc9:TxtA.flat [59,32] (B9 20++[cl "a = b c"])=eQ (a8 xJ++Rws.wds (.cons cM .nil)):=by decide +kernel
theorem ds1:Rws.ds (.cons cM .nil)=[.tup [.str "rule",.str "a",.str "b",.tup [.str "c"]]]:=by
 rw[Rws.ds,Rws.ds,cM,Rw.d];rfl
theorem add1{xs:List D}{d:D}(h:xs.length<=1000):aI (.lst xs) (.lst [d])=.ok (.lst (xs++[d])):=by
 show (bif bD (xs.length+1) then R.ok (D.lst (xs++[d])) else .bad)=_
 rw[show bD (xs.length+1)=true from xaf (xah (show _<=2000 by omega) (by decide))];rfl
theorem PY{F:DSt->R D}{Z:DSt}{d:D}(h:F Z=.ok d):gZ (eC (.str "; ")) F Z=fA (.str "; ") d:=by
 show ((F Z).bind fun d=>fA (.str "; ") d)=_
 rw[h];rfl
theorem zdc{M:List (List Nat)}{c:List Nat}(hc:("a = b c":Str)=aE c){ls:List Rl}{r:Rw}{rs:Rws}(hM:jC [.int 20]=.ok (.lst ((M.map aE).map .str)))(hl:M.length<=100)(hb:∀r∈M++[c],r.length<=100)(hr:dL [.str (aE (TxtA.flat [59,32] (M++[c])))]=.ok (dD ls r rs))(h20:ls.length=20)(hds:Rws.ds (.cons r rs)=[.tup [.str "rule",.str "a",.str "b",.tup [.str "c"]]]):pU []=.ok (.bl true):=by
 have ej:=LmY.join_ok (y:=[59,32]) (rows:=M++[c]) (B:=100) hb (by rw[xaa];simp only[xad,xbi];omega)
 rw[zbH]
 unfold wL
 have s1:aY 0 (gZ (eC (.str "; ")) (aC aI (aR jC (aA (eC (.int 20)) aD)) (aL (aP (aA (eC (.str "a = b c")) aD))))) [none,none]=.ok (.nx [some (.str (aE (TxtA.flat [59,32] (M++[c])))),none]):=by
  have e1:aR jC (aA (eC (.int 20)) aD) [none,none]=.ok (.lst ((M.map aE).map .str)):=by
   rw[jN,cE,i5,zG,u8,zC];exact hM
  have e2:aC aI (aR jC (aA (eC (.int 20)) aD)) (aL (aP (aA (eC (.str "a = b c")) aD))) [none,none]=.ok (.lst (((M++[c]).map aE).map D.str)):=by
   rw[bS,e1,hc,show aL (aP (aA (eC (.str (aE c))) aD)) [none,none]=.ok (.lst [.str (aE c)]) from rfl,cD,add1 (by rw[xab,xab];omega)]
   congr 2
   simp
  rw[o5,PY e2,show (D.str "; ")=.str (aE [59,32]) from rfl,ej];rfl
 rw[bY,s1,bU]
 generalize TxtA.flat [59,32] (M++[c])=T at hr ⊢
 unfold NQ
 rw[bY,show aY 1 (aR dL (aA (aB 0) aD)) [some (.str (aE T)),none]=.ok (.nx [some (.str (aE T)),some (dD ls r rs)]) from by
  show (dL [.str (aE T)]).bind _=_
  rw[hr];rfl,bU]
 unfold NP
 have t1:dY (dI (aK (aJ (g2 bK) (aA (aB 1) (aA (eC (.ty "tuple")) aD))))) (dY (aK (aC bR (aJ aW (aA (aB 1) aD)) (eC (.int 2)))) (aK (aC bR (aJ aW (aA (aC aF (aB 1) (eC (.int 0))) aD)) (eC (.int 20))))) [some (.str (aE T)),some (dD ls r rs)]=.ok false:=by
  show c7 (bI bR (lY aW (cZ (aF (dD ls r rs) (.int 0)) (.ok []))) (.ok (.int 20)))=_
  rw[show aF (dD ls r rs) (.int 0)=.ok (.tup (ls.map Rl.d)) from rfl]
  show c7 (bR (.int ((ls.map Rl.d).length:Int)) (.int 20))=_
  rw[xab,h20];rfl
 rw[bY,eM,t1,gP,jM,bU]
 unfold NO
 rw[l7]
 show fin (jO (a6 (.tup (Rws.ds (.cons r rs))) (.tup [.tup [.str "rule",.str "a",.str "b",.tup [.str "c"]]])))=_
 rw[hds,o7 (by rfl),uO 9 _ (by rfl)];rfl
theorem zdd:pU []=.ok (.bl true):=
 zdc (c:=cl "a = b c") (kI _).symm zc0 (by decide +kernel) (by decide +kernel) (by rw[zc9];exact Lk32.read dr20) (by decide +kernel) ds1
theorem PZ(y a b:List Nat)(bs:List (List Nat)):∀n,TxtA.flat y (List.replicate n a++b::bs)=(List.replicate n (a++y)).flatten++TxtA.flat y (b::bs)
 |0=>rfl
 |n+1=>by
  rw[xba,xba,xcm,LmO.flat_cons _ _ (by simp),PZ y a b bs n,xbw]
  simp
theorem P0(y e:List Nat):∀(n:Nat) (b:List Nat),TxtA.flat y (b::List.replicate n e)=b++(List.replicate n (y++e)).flatten
 |0,b=>by simp[TxtA.flat]
 |n+1,b=>by
  rw[xba,LmO.flat_cons _ _ (by simp),P0 y e n e,xba,xbw]
  simp
theorem P1(z:List Nat)(k:Nat)(h1:1<=z.length)(h2:2<=k)(h3:z.length*k<=100000):fT (.str (aE z)) (.int (k:Int))=.ok (.str (aE (List.replicate k z).flatten)):=by
 have er:kB (aE z) k=aE (List.replicate k z).flatten:=by
  have:=LF (aE z) k
  have e:(aE z).cps.toList=z:=by simp[aE]
  rw[e] at this
  show (⟨(kB (aE z) k).cps⟩:Str)=⟨(List.replicate k z).flatten.toArray⟩
  congr 1
  apply xcz.mp
  rw[this]
 show (bif decide (1<=(aE z).length/\2<=(k:Int)/\(aE z).length*(k:Int).toNat<=100000) then R.ok (D.str (kB (aE z) (k:Int).toNat)) else .bad)=_
 rw[LmO.lo,xbm,xaf ⟨h1,by omega,h3⟩,er];rfl
abbrev zT:List Nat:=[116,105,109,101,115,32,49]
abbrev zR:List Nat:=[97,32,61,32,98,32,99]
abbrev zE:List Nat:=[101,110,100]
theorem zde:∀r,r=zT\/r=zR\/r=zE->LmO.Fr r/\r.length<=800:=fun r h=>by
 rcases h with rfl|rfl|rfl<;>exact⟨fr_no (by decide),by decide⟩
theorem P2(n:Nat)(l:List (List Nat)):p7 ((List.replicate (n+5) zT++l).map dU):=fun s e=>by
 have ht:dS (dU zT)=true:=by decide +kernel
 have:bO s0 ((List.replicate (n+5) zT++l).map dU)=none:=PP ht ht ht ht ht ((List.replicate n zT++l).map dU) s0
 rw[this] at e;cases e
theorem mem3{n m:Nat}{r:List Nat}(h:r∈List.replicate n zT++zR::List.replicate m zE):r=zT\/r=zR\/r=zE:=by
 rcases xa1.mp h with h|h
 ·exact .inl (xb7 h)
 ·rcases xal.mp h with h|h
  ·exact .inr (.inl h)
  ·exact .inr (.inr (xb7 h))
theorem CA{n m:Nat}(hn:n+m<=2900)(hb:p7 ((List.replicate n zT++zR::List.replicate m zE).map dU)):eO [.str (aE ((List.replicate n (zT++[59,32])).flatten++(zR++(List.replicate m ([59,32]++zE)).flatten)))]=.ok (.bl true):=by
 refine xI ?_
 rw[<- P0 [59,32] zE m zR,<- PZ [59,32] zT zR _ n]
 exact B5 (by simp) (fun r hr=>zde r (mem3 hr)) (by rw[xaa,xbr,xad,xbr];omega) hb
theorem zdg(m:Nat):p7 ((List.replicate 0 zT++zR::List.replicate (m+1) zE).map dU):=fun s e=>by
 have h1:cA s0 (dU zR)=some ⟨false,0,false,true,[]⟩:=by kernel_rfl
 have h2:cA ⟨false,0,false,true,[]⟩ (dU zE)=none:=by kernel_rfl
 have:bO s0 ((List.replicate 0 zT++zR::List.replicate (m+1) zE).map dU)=none:=by
  show (match cA s0 (dU zR) with|some s'=>bO s' (dU zE::(List.replicate m zE).map dU)|none=>none)=none
  rw[h1]
  show (match cA ⟨false,0,false,true,[]⟩ (dU zE) with|some s'=>bO s' ((List.replicate m zE).map dU)|none=>none)=none
  rw[h2]
 rw[this] at e;cases e
def eE:Nat->Rws
 |0=>.nil
 |n+1=>.cons cM (eE n)
theorem CB:∀n,RsOk (eE n) 4/\Rws.len (eE n)=n/\Rws.ds (eE n)=List.replicate n (Rw.d cM)/\Rws.wds (eE n)=List.replicate n (["a","=","b","c"]:List Str)
 |0=>⟨by show RsOk .nil 4;rw[RsOk];trivial,rfl,by show Rws.ds .nil=_;rw[Rws.ds];rfl,by show Rws.wds .nil=_;rw[Rws.wds];rfl⟩
 |n+1=>by
  obtain⟨h1,h2,h3,h4⟩:=CB n
  refine⟨by show RsOk (.cons cM (eE n)) 4;rw[RsOk];exact⟨xK.ok 4,h1⟩,by show Rws.len (eE n)+1=_;rw[h2],by show Rws.ds (.cons cM (eE n))=_;rw[Rws.ds,h3];rfl,?_⟩
  show Rws.wds (.cons cM (eE n))=_
  rw[Rws.wds,h4,cM,Rw.wd];rfl
theorem zdh(n:Nat)(hn:n+1<=3000):dL [.str (aE (TxtA.flat [59,32] (List.replicate (n+1) zR)))]=.ok (dD [] cM (eE n)):=by
 obtain⟨h1,h2,h3,h4⟩:=CB (n+1)
 have hc:eE (n+1)=.cons cM (eE n):=rfl
 rw[hc] at h1 h2 h3 h4
 have hg:Gd ["a","=","b","c"]:=by
  obtain⟨ws,ew,hg⟩:=xK.wd
  rw[cM,Rw.wd] at ew
  injection ew with ew _
  rw[<- ew] at hg
  exact hg
 have er:bT ["a","=","b","c"]=zR:=by decide +kernel
 have e:TxtA.flat [59,32] (List.replicate (n+1) zR)=eQ (a8 []++Rws.wds (.cons cM (eE n))):=by
  show _=TxtA.flat [59,32] ((Rws.wds (.cons cM (eE n))).map bT)
  rw[h4,List.map_replicate,er]
 rw[e]
 refine ON (PB ?_ (fun w hw=>?_) ?_) (by simp) (by simp) (by simp) h1 (by rw[h2];exact hn)
 ·show Rws.wds (.cons cM (eE n))≠[]
  rw[h4];simp
 ·have hw:w∈Rws.wds (.cons cM (eE n)):=hw
  rw[h4] at hw
  rw[xb7 hw]
  exact hg
 ·show (Rws.wds (.cons cM (eE n))).length<=3000
  rw[h4,xbr];exact hn
end LmEi
open L2 DL Mir
namespace Lk33
open LmA LmY Lk31 Rdr TxtA LmWa LmWf LmDa LmDb LmDd LmDe LmDf LmDg LmDi LmDm LmDo LmDp LmDq LmDr LmDs LmEa LmEb LmEc LmEd LmEe LmEf LmEg LmEh LmEi
open LmC (cell oA)
theorem CC(m:List D->R D)(Z:DSt):aR m aD Z=m []:=rfl
theorem tQ(m:List D->R D){f:DSt->R D}{Z:DSt}{d:D}(h:f Z=.ok d):aR m (aA f aD) Z=m [d]:=by
 rw[jN,cE,h];rfl
theorem p9{m:List D->R D}{f:DSt->R D}{Z:DSt}{d:D}(h:f Z=.ok d)(hm:m [d]=.ok (.bl true)):dI (aK (aR m (aA f aD))) Z=.ok false:=by
 rw[j9,dQ,tQ m h,hm];rfl
theorem zdi{A B C T Q F:D}(hA:aC aI (aC fT (eC (.str "times 1; ")) (eC (.int 1900))) (eC (.str "a = b c"))=eC A)
  (hB:aC aI (aC aI (aC fT (eC (.str "times 1; ")) (eC (.int 1200))) (eC (.str "a = b c"))) (aC fT (eC (.str "; end")) (eC (.int 1200)))=eC B)
  (hC:aC aI (eC (.str "a = b c")) (aC fT (eC (.str "; end")) (eC (.int 1900)))=eC C)
  (hT:gZ (eC (.str "; ")) (aL (sD (aP (aA (eC (.str "a = b c")) aD)) (eC (.int 1500))))=eC T)
  (hQ:aC k9 (bQ (aA (bQ (aA (eC (.str "rule")) (aA (eC (.str "a")) (aA (eC (.str "b")) (aA (bQ (aA (eC (.str "c")) aD)) aD))))) aD)) (eC (.int 1500))=eC Q)
  (rA:eO [A]=.ok (.bl true)) (rB:eO [B]=.ok (.bl true)) (rC:eO [C]=.ok (.bl true)) (hr:dL [T]=.ok F) (hF:g2 bK [F,.ty "tuple"]=.ok (.bl true)) (hq:a6 F (.tup [.tup [],Q])=.ok (.bl true)):n9 []=.ok (.bl true):=by
 rw[zbJ]
 unfold wN
 rw[hA,bY,show aY 0 (eC A) [none,none,none]=.ok (.nx [some A,none,none]) from rfl,bU]
 unfold NX
 rw[hB,bY,show aY 1 (eC B) [some A,none,none]=.ok (.nx [some A,some B,none]) from rfl,bU]
 unfold NW
 rw[hC,bY,eM,fJ,p9 (f:=aB 0) (d:=A) rfl rA,gO,fJ,p9 (f:=aB 1) (d:=B) rfl rB,gO,p9 (f:=eC C) (d:=C) rfl rC,gP,jM,bU]
 unfold NV
 rw[hT,bY,o5,tQ dL (f:=eC T) (d:=T) rfl,hr,vE,bU]
 unfold NU
 rw[hQ,l7,zJ]
 show fin (jO (vC (lY (g2 bK) (.ok [F,.ty "tuple"])) (aC a6 (aB 2) (bQ (aA (bQ aD) (aA (eC Q) aD)))) [some A,some B,some F]))=_
 rw[zD,hF,zF,zK]
 show fin (jO (a6 F (.tup [.tup [],Q])))=_
 rw[hq];rfl
theorem P3(n:Nat)(h2:2<=n)(hn:n<=2000):aC aI (aC fT (eC (.str (aE (zT++[59,32])))) (eC (.int (n:Int)))) (eC (.str (aE zR)))=eC (.str (aE ((List.replicate n (zT++[59,32])).flatten++zR))):=by
 funext Z
 rw[bS,bS,i5,i5,i5,cD,P1 _ _ (by decide) h2 (by show 9*n<=_;omega),cD,LmWg.add_ok (by rw[oR];show n*9+7<=_;omega)];rfl
theorem P4(n:Nat)(h2:2<=n)(hn:n<=2000){l:List Nat}(hl:l.length<=20000){f:DSt->R D}(hf:f=eC (.str (aE l))):aC aI f (aC fT (eC (.str (aE ([59,32]++zE)))) (eC (.int (n:Int))))=eC (.str (aE (l++(List.replicate n ([59,32]++zE)).flatten))):=by
 funext Z
 rw[hf,bS,bS,i5,i5,i5,cD,P1 _ _ (by decide) h2 (by show 5*n<=_;omega),cD,LmWg.add_ok (by rw[oR];show _+n*5<=_;omega)];rfl
theorem refA(n:Nat)(hn:n+5<=2900):eO [.str (aE ((List.replicate (n+5) (zT++[59,32])).flatten++zR))]=.ok (.bl true):=by
 have:=CA (n:=n+5) (m:=0) (by omega) (P2 n _)
 rw[show (List.replicate 0 ([59,32]++zE)).flatten=[] from rfl,xa8] at this
 exact this
theorem refB(n m:Nat)(hn:n+5+m<=2900):eO [.str (aE ((List.replicate (n+5) (zT++[59,32])).flatten++zR++(List.replicate m ([59,32]++zE)).flatten))]=.ok (.bl true):=by
 have:=CA (n:=n+5) (m:=m) (by omega) (P2 n _)
 rw[<- xar] at this
 exact this
theorem refC(m:Nat)(hn:m+1<=2900):eO [.str (aE (zR++(List.replicate (m+1) ([59,32]++zE)).flatten))]=.ok (.bl true):=by
 have:=CA (n:=0) (m:=m+1) (by omega) (zdg m)
 rw[show (List.replicate 0 (zT++[59,32])).flatten=[] from rfl,xbq] at this
 exact this
theorem CD(d:D):∀n,(List.replicate n [d]).flatten=List.replicate n d
 |0=>rfl
 |n+1=>by rw[xba,xbw,CD d n,xba];rfl
theorem zdm(n:Nat)(hn:n<=3000):gZ (eC (.str "; ")) (aL (sD (aP (aA (eC (.str (aE zR))) aD)) (eC (.int (n:Int)))))=eC (.str (aE (TxtA.flat [59,32] (List.replicate n zR)))):=by
 funext Z
 have e1:sD (aP (aA (eC (.str (aE zR))) aD)) (eC (.int (n:Int))) Z=.ok (List.replicate n (D.str (aE zR))):=by
  show vP [.str (aE zR)] (.int (n:Int))=_
  show (bif decide (0<=(n:Int)/\(n:Int)<=100000)&&bD (1*(n:Int).toNat) then R.ok (List.replicate (n:Int).toNat [D.str (aE zR)]).flatten else .bad)=_
  rw[xbm,xaf ⟨by omega,by omega⟩,show bD (1*n)=true from xaf (xah (show _<=3000 by omega) (by decide)),CD];rfl
 have ej:=LmY.join_ok (y:=[59,32]) (rows:=List.replicate n zR) (B:=7) (fun r hr=>by rw[xb7 hr];decide) (by rw[xbr];show n*7+n*2<=_;omega)
 rw[PY (d:=.lst (List.replicate n (D.str (aE zR)))) (by rw[gX,e1];rfl),show (D.str "; ")=.str (aE [59,32]) from rfl]
 rw[List.map_replicate,List.map_replicate] at ej
 exact ej
theorem mulU(n:Nat)(h2:2<=n)(hn:n<=3000)(d:D){f:DSt->R D}(hf:f=eC (.tup [d])):aC k9 f (eC (.int (n:Int)))=eC (.tup (List.replicate n d)):=by
 funext Z
 rw[hf,bS,i5,i5,cD]
 show (bif decide (2<=(n:Int)/\(n:Int)<100000/\1*(n:Int).toNat<=100000)&&true then R.ok (D.tup (List.replicate (n:Int).toNat [d]).flatten) else .bad)=_
 rw[xbm,xaf ⟨by omega,by omega,by omega⟩,CD];rfl
theorem zdo(n:Nat)(hn:n+1<=3000):a6 (dD [] cM (eE n)) (.tup [.tup [],.tup (List.replicate (n+1) (Rw.d cM))])=.ok (.bl true):=by
 obtain⟨h1,h2,h3,h4⟩:=CB (n+1)
 rw[show eE (n+1)=.cons cM (eE n) from rfl] at h3
 show a6 (.tup [.tup [],.tup (Rws.ds (.cons cM (eE n)))]) _=_
 rw[h3]
 have hd:bN 9 (.tup [.tup [],.tup (List.replicate (n+1) (Rw.d cM))])=true:=by
  have:(List.replicate (n+1) (Rw.d cM)).all (bN 7)=true:=by
   rw[xa2]
   intro d hd
   rw[xb7 hd,cM,Rw.d];rfl
  rw[show bN 9 (.tup [.tup [],.tup (List.replicate (n+1) (Rw.d cM))])=(true&&((List.replicate (n+1) (Rw.d cM)).all (bN 7)&&true)) from by
   rw[bN,xcv,xcv,List.all_nil,bN,bN];rfl,this];rfl
 rw[o7 (by unfold iJ;rw[hd];rfl),uO 9 _ hd]
theorem zdp:Rw.d cM=.tup [.str "rule",.str "a",.str "b",.tup [.str "c"]]:=by rw[cM,Rw.d];rfl
theorem zdq:n9 []=.ok (.bl true):=by
 have dA:=P3 (1895+5) (by decide) (by decide)
 have dB:=P3 (1195+5) (by decide) (by decide)
 refine zdi (A:=.str (aE ((List.replicate (1895+5) (zT++[59,32])).flatten++zR))) (B:=.str (aE ((List.replicate (1195+5) (zT++[59,32])).flatten++zR++(List.replicate 1200 ([59,32]++zE)).flatten))) (C:=.str (aE (zR++(List.replicate (1899+1) ([59,32]++zE)).flatten))) (T:=.str (aE (TxtA.flat [59,32] (List.replicate (1499+1) zR)))) (Q:=.tup (List.replicate (1499+1) (Rw.d cM))) (F:=dD [] cM (eE 1499)) dA ?_ ?_ ?_ ?_ (refA 1895 (by decide)) (refB 1195 1200 (by decide)) (refC 1899 (by decide)) (zdh 1499 (by decide)) rfl (zdo 1499 (by decide))
 ·exact P4 1200 (by decide) (by decide) (l:=(List.replicate (1195+5) (zT++[59,32])).flatten++zR) (by rw[xaa,oR];decide) dB
 ·exact P4 (1899+1) (by decide) (by decide) (l:=zR) (by decide) rfl
 ·exact zdm (1499+1) (by decide)
 ·exact mulU (1499+1) (by decide) (by decide) (Rw.d cM) (by rw[zdp];rfl)
theorem zdr{d:D}(h:g2 bK [d,.ty "str"]=.ok (.bl false)):dL [d]=.err no:=by
 have hr:g8 [d]=.err no:=by
  rw[LY];unfold sI;kd_p
  rw[h];kd_p
 rw[AZ]
 unfold pQ sReader
 rw[show aR g8 (aA (aB 0) aD) [some d,none,none,none]=_ from hr]
 rfl
def qA:List D:=[.non,.int 1,.bl true,.lst [.str "a = b c"],.tup [.str "a = b c"],.dct [] [],.lst [],.tup [],.tup [.tup [],.tup []],.bl false]
theorem zds:∀d∈qA,g2 bK [d,.ty "str"]=.ok (.bl false):=fun d hd=>by
 simp only[qA,xal,xbk,or_false] at hd
 rcases hd with rfl|rfl|rfl|rfl|rfl|rfl|rfl|rfl|rfl|rfl<;>rfl
section
variable{S:List Int}{ls:List Rl}{r:Rw}{rs:Rws}(h:Dr ls r rs)
include h
abbrev dZ(S:List Int)(Y:List (List Str))(a b c:Option D):DSt:=[some (.lst (S.map .int)),some (.str (aE (eQ Y))),some (.lst (mV.map .str)),a,b,c]
theorem zdt(k:Nat)(hk:k<=100)(b c:Option D):∃b' c',pV (dZ S (a8 ls++Rws.wds (.cons r rs)) (some (.int (k:Int))) b c)=.ok (.nx (dZ S (a8 ls++Rws.wds (.cons r rs)) (some (.int (k:Int))) b' c')):=by
 obtain⟨s1,e1,e2,e3,e4⟩:=O5 (ls:=ls) (r:=r) (rs:=rs) (fun l hl=>by
  have o:=(h.rl l hl).ok
  exact⟨o.nm,o.out,o.ps,o.nd,o.p1,o.p8,rsg_of _ 4 o.ok⟩) h.nd h.l3 (rsg_of _ 4 h.ok)
 have hne:a8 ls++Rws.wds (.cons r rs)≠[]:=fun e=>by
  have:=B4 (.cons r rs)
  rw[B3] at this
  have:=congrArg List.length e
  rw[xaa,xbi] at this
  have:1<=Rws.len (.cons r rs):=by show 1<=Rws.len rs+1;omega
  omega
 have hg:=Lk32.all_gd h
 have hl:=h.ln
 generalize a8 ls++Rws.wds (.cons r rs)=Y at *
 have c0:fK [.lst (S.map .int),.int (k:Int)]=.ok (.int (cell S k)):=oA S k
 have f1:aY 4 (aR fK (aA (aB 0) (aA (aB 3) aD))) (dZ S Y (some (.int (k:Int))) b c)=.ok (.nx (dZ S Y (some (.int (k:Int))) (some (.int (cell S k))) c)):=by
  show (fK [.lst (S.map .int),.int (k:Int)]).bind _=_
  rw[c0];rfl
 have f2:aY 5 (aC iI (aB 4) (eC (.int 2))) (dZ S Y (some (.int (k:Int))) (some (.int (cell S k))) c)=.ok (.nx (dZ S Y (some (.int (k:Int))) (some (.int (cell S k))) (some (.int (cell S k/2))))):=by
  show (iI (.int (cell S k)) (.int 2)).bind _=_
  rw[rV _ _ (by decide +kernel) (by decide)];rfl
 obtain⟨n,f3⟩:∃n:Int,A6 (dZ S Y (some (.int (k:Int))) (some (.int (cell S k))) (some (.int (cell S k/2))))=A5 (dZ S Y (some (.int (k:Int))) (some (.int (cell S k))) (some (.int n))):=by
  have t:aK (aC a6 (aC aV (aB 4) (eC (.int 2))) (eC (.int 1))) (dZ S Y (some (.int (k:Int))) (some (.int (cell S k))) (some (.int (cell S k/2))))=.ok (decide (cell S k%2=1)):=by
   show c7 (bI a6 (aV (.int (cell S k)) (.int 2)) (.ok (.int 1)))=_
   rw[e9 _ _ (by decide)];rfl
  unfold A6
  rw[bY,eM,t]
  cases decide (cell S k%2=1) with
  |false=>exact⟨_,by rw[gP,jM,bU]⟩
  |true=>
   obtain⟨q,eq,_⟩:=N7 (cell S k) (k:Int) (by omega) (by omega)
   refine⟨q,?_⟩
   rw[l6,show aY 5 (aR kF (aA (aB 4) (aA (aB 3) aD))) (dZ S Y (some (.int (k:Int))) (some (.int (cell S k))) (some (.int (cell S k/2))))=.ok (.nx (dZ S Y (some (.int (k:Int))) (some (.int (cell S k))) (some (.int q)))) from by
    show (kF [.int (cell S k),.int (k:Int)]).bind _=_
    rw[eq];rfl,bU]
 obtain⟨T,eT,rT⟩:=zc6 hne hg hl e1 e2 e3 e4 n
 have hb:mV≠[]:=by decide
 have ht:eO [.str (pk za mV (n/7))]=.ok (.bl true):=xI (zcR (xa2.mp zcZ _ (pZ za hb (n/7))))
 have hten:eO [pk D.non qA n]=.ok (.bl true):=xI (zdr (zds _ (pZ D.non (xs:=qA) (by decide) n)))
 refine⟨some (.int (cell S k)),some (.int n),?_⟩
 unfold pV
 rw[bY,f1,bU]
 unfold N3
 rw[bY,f2,bU,f3]
 have x1:aR mS (aA (aB 1) (aA (aB 5) aD)) (dZ S Y (some (.int (k:Int))) (some (.int (cell S k))) (some (.int n)))=.ok T:=eT
 have x2:aC aF (aB 2) (aC aV (aC iI (aB 5) (eC (.int 7))) (aJ aW (aA (aB 2) aD))) (dZ S Y (some (.int (k:Int))) (some (.int (cell S k))) (some (.int n)))=.ok (.str (pk za mV (n/7))):=by
  have e:=oH za D.str hb (n/7)
  rw[bS,bS,bS,show aB 5 (dZ S Y (some (.int (k:Int))) (some (.int (cell S k))) (some (.int n)))=.ok (.int n) from rfl,i5,cD,rV _ _ (by decide +kernel) (by decide),show aB 2 (dZ S Y (some (.int (k:Int))) (some (.int (cell S k))) (some (.int n)))=.ok (.lst (mV.map .str)) from rfl,show aJ aW (aA (aB 2) aD) (dZ S Y (some (.int (k:Int))) (some (.int (cell S k))) (some (.int n)))=.ok (.int ((mV.map D.str).length:Int)) from rfl]
  exact e
 unfold A5
 rw[bY,eM,fJ,p9 x1 (xI rT),gO,p9 x2 ht,gP,jM,bU]
 have x3:aC aF (aL (aP (aA (eC .non) (aA (eC (.int 1)) (aA (eC (.bl true)) (aA (aL (aP (aA (eC (.str "a = b c")) aD))) (aA (bQ (aA (eC (.str "a = b c")) aD)) (aA (eC (.dct [] [])) (aA (aL (aP aD)) (aA (bQ aD) (aA (bQ (aA (bQ aD) (aA (bQ aD) aD))) (aA (eC (.bl false)) aD)))))))))))) (aC aV (aB 5) (eC (.int 10))) (dZ S Y (some (.int (k:Int))) (some (.int (cell S k))) (some (.int n)))=.ok (pk D.non qA n):=by
  have e:=oH (D.non) id (xs:=qA) (by decide) n
  rw[List.map_id] at e
  exact e
 unfold N2
 rw[eM,p9 x3 hten,gP,jM]
end
theorem law_ok(ns:List Int)(h:ns.length<=63):wS [.lst (ns.map .int)]=.ok (.bl true):=by
 obtain⟨xs,ls,r,rs,ed,hn,hd⟩:=zcN ns h
 have hD:=xF.dr hn hd
 have c0:fK [.lst (ns.map .int),.int 0]=.ok (.int (cell ns 0)):=oA ns 0
 obtain⟨ds,e,hl,hb⟩:=wU (cell ns 0) 12 (by decide)
 have e:dF [.int (cell ns 0),.int 12]=.ok (.lst (ds.map .int)):=e
 obtain⟨d5,g5,a5,b5⟩:=kH ds hb 5 (by omega)
 have g5:aF (.lst (ds.map .int)) (.int 5)=.ok (.int d5):=g5
 let Y:List (List Str):=a8 ls++Rws.wds (.cons r rs)
 have s1:aY 1 (aR mQ (aA (aC aF (aR n5 (aA (aB 0) aD)) (eC (.int 1))) aD)) [some (.lst (ns.map .int)),none,none,none,none,none]=.ok (.nx [some (.lst (ns.map .int)),some (.str (aE (eQ Y))),none,none,none,none]):=by
  rw[o5,tQ mQ (d:=dD ls r rs) (by
   rw[bS,tQ n5 (d:=.lst (ns.map .int)) rfl,ed];rfl),Lk32.texted hD];rfl
 rw[zbM]
 unfold wR
 rw[bY,s1,bU]
 unfold N6
 have t1:dI (aK (aJ (g2 bK) (aA (aR dL (aA (aB 1) aD)) (aA (eC (.ty "tuple")) aD)))) [some (.lst (ns.map .int)),some (.str (aE (eQ Y))),none,none,none,none]=.ok false:=by
  rw[j9,dQ,lZ,cE,tQ dL (d:=.str (aE (eQ Y))) rfl,Lk32.read hD];rfl
 rw[bY,eM,fJ,t1,gO,j9,dQ,CC,zdd]
 rw[u9,vB,Bool.not_true,gP,jM,bU]
 unfold N5
 have t2:gH (aK (aC a6 (aC aV (aC aF (aR dF (aA (aR fK (aA (aB 0) (aA (eC (.int 0)) aD))) (aA (eC (.int 12)) aD))) (eC (.int 5))) (eC (.int 8))) (eC (.int 1)))) (dI (aK (aR n9 aD))) [some (.lst (ns.map .int)),some (.str (aE (eQ Y))),none,none,none,none]=.ok false:=by
  have e1:aK (aC a6 (aC aV (aC aF (aR dF (aA (aR fK (aA (aB 0) (aA (eC (.int 0)) aD))) (aA (eC (.int 12)) aD))) (eC (.int 5))) (eC (.int 8))) (eC (.int 1))) [some (.lst (ns.map .int)),some (.str (aE (eQ Y))),none,none,none,none]=.ok (decide (d5%8=1)):=by
   show c7 (bI a6 (bI aV (bI aF (rR dF (cZ (fK [.lst (ns.map .int),.int 0]) (.ok [.int 12]))) (.ok (.int 5))) (.ok (.int 8))) (.ok (.int 1)))=_
   rw[c0]
   show c7 (bI a6 (bI aV (bI aF (dF [.int (cell ns 0),.int 12]) (.ok (.int 5))) (.ok (.int 8))) (.ok (.int 1)))=_
   rw[e,cD,g5,cD,e9 _ _ (by decide)];rfl
  rw[l5,e1]
  cases decide (d5%8=1) with
  |false=>rw[zH]
  |true=>rw[o4,j9,dQ,CC,zdq,u9,vB,Bool.not_true]
 rw[bY,eM,t2,gP,jM,bU]
 unfold N4
 rw[bY,o5,CC,zcY,vE,bU]
 show fin (A7 (dZ ns Y none none none))=_
 unfold A7
 have er:fP nI (aA (eC (.int 40)) (aA (aJ rN (aA (eC (.int 41)) (aA (aJ rM (aA (aJ aW (aA (aB 0) aD)) (aA (eC (.int 60)) aD))) aD))) aD)) (mask [] (dZ ns Y none none none))=.ok (cH 40 (max 41 (min (ns.length:Int) 60)-40).toNat):=by
  show nI [.int 40,.int (max 41 (min ((ns.map D.int).length:Int) 60))]=_
  rw[xab]
  exact KM _ _ (rX (by omega) (by omega)) (rX (by omega) (by omega))
 have turn:∀(j:Nat) (x:D) (Z:DSt),(cH 40 (max 41 (min (ns.length:Int) 60)-40).toNat)[j]? = some x->(∃a b c,Z=dZ ns Y a b c)->
   ∃Z',(pV (Z.set 3 (some x))=.ok (.nx Z')\/pV (Z.set 3 (some x))=.ok (.ct Z'))/\∃a b c,Z'=dZ ns Y a b c:=by
  rintro j x Z hx ⟨a,b,c,rfl⟩
  have hj:j<(max 41 (min (ns.length:Int) 60)-40).toNat:=by
   have:=(xan.mp hx).1
   simpa [cH] using this
  obtain rfl:x=.int ((40+j:Nat):Int):=by
   unfold cH at hx
   rw[xbl,xb3 hj] at hx
   simpa using hx.symm
  obtain⟨b',c',e⟩:=zdt (S:=ns) hD (40+j) (by omega) b c
  exact⟨_,.inl e,_,b',c',rfl⟩
 obtain⟨Z',e2,a,b,c,rfl⟩:=o8 (i:=3) (fb:=pV) (fun _ Z=>∃a b c,Z=dZ ns Y a b c) _ turn (dZ ns Y none none none) ⟨none,none,none,rfl⟩
 rw[bY,vG,er,rY,e2,bU]
 rfl
end Lk33
end
section
namespace Kx
open L2 DL Mir
local macro_rules | `(tactic| kd_p1)=>`(tactic| (first|exact Or.inl rfl|exact Or.inr (Or.inl rfl)|exact Or.inr (Or.inr rfl)))
local macro_rules | `(tactic| kst_p2)=>`(tactic| (first|exact Or.inl rfl|exact Or.inr rfl))
local macro_rules | `(tactic| kpf_c)=>`(tactic| (first|exact .inl rfl|exact .inr rfl|assumption))
local macro_rules | `(tactic| walk_at "C")=>`(tactic| first|assumption|exact XC.lc (by assumption) _ _ _ _ _ _|exact XC.nox (by assumption))
local macro_rules | `(tactic| walk_at "H")=>`(tactic| first|assumption|exact XC.calm (by walk_at "C")|rfl)
local macro_rules | `(tactic| walk_at "F")=>`(tactic| first|exact rJ|exact yW|exact oY|exact XM|exact XQ|exact FK|exact rK (by walk_at "C")|exact yX (by walk_at "C")|exact ZA (by walk_at "C")|exact AE (by walk_at "C"))
local macro_rules | `(tactic| walk_at "E")=>`(tactic| first|((with_reducible refine @bB _ _ _ _ _ _ ?_ ?_ ?_);walk_at "E";walk_at "E";rfl)|((with_reducible refine @eF _ _ _ _ _ ?_ ?_ ?_ ?_);rfl;(first|exact Or.inl rfl|exact Or.inr (Or.inl rfl)|exact Or.inr (Or.inr rfl));decide;decide)|((with_reducible refine @bJ _ _))|((with_reducible refine @eV _ _ _ _ _))|((with_reducible refine @cV _ _ _ _ _))|((with_reducible refine @qZ _ _ _ _ _ _ _ ?_ ?_);walk_at "E";walk_at "E")|((with_reducible refine @qR _ _ _ _ _ _ _ ?_ ?_ ?_);walk_at "E";walk_at "E";(intro _ _;rfl))|((with_reducible refine @qQ _ _ _ _ _ ?_);walk_at "E")|((with_reducible refine @DF.val _ _ _ _ ?_);walk_at "E")|((with_reducible refine @rH _ _ _ _ _ _ _ ?_ ?_);walk_at "E";walk_at "E")|((with_reducible refine @fO _ _ _ _ _ _ _ _ _ _ (by walk_at "C") ?_ ?_ ?_ ?_ ?_ ?_);walk_at "H";walk_at "E";rfl;decide;rfl;rfl)|((with_reducible refine @y6 _ _ _ _ _ _ _ ?_ ?_ ?_ ?_ ?_);walk_at "H";walk_at "E";rfl;rfl;rfl)|((with_reducible refine @jK _ _ _ _ _ _ ?_);walk_at "E")|((with_reducible refine @X9 _ _ _ _ _ _ _ ?_ ?_ ?_ ?_ ?_);walk_at "H";walk_at "E";rfl;rfl;rfl)|((with_reducible refine @YL _ _ _ _ ?_);walk_at "E")|((with_reducible refine @nM _ _ _ _ _ _ _ ?_ ?_ ?_ ?_ ?_);walk_at "H";walk_at "E";rfl;rfl;rfl)|((with_reducible refine @EV _ _ _ _ _ (by assumption) ?_ ?_);rfl;decide)|((with_reducible refine @gW _ _ _ _ _ _ _ _ _ ?_ ?_ ?_ ?_);walk_at "F";walk_at "E";walk_at "E";(first|exact dH _ (by decide) (by decide)|rfl))|((with_reducible refine @YM _ _ _ _ _ _ _ _ _ _ ?_ ?_ ?_);walk_at "E";walk_at "E";walk_at "E")|((with_reducible refine @FS _ _))|((with_reducible refine @XH _ _ _ _ _ _ _ ?_ ?_);walk_at "E";walk_at "E")|((with_reducible refine @yY _ _ _ _ _ _ _ _ _ ?_ ?_ ?_ ?_);walk_at "F";walk_at "E";walk_at "E";(first|exact dH _ (by decide) (by decide)|rfl))|((with_reducible refine @YC _ _ _ _ _ _ _ ?_ ?_ ?_ ?_ ?_);walk_at "H";walk_at "E";rfl;rfl;rfl)|((with_reducible refine @WK _ _ _ _ _ ?_);walk_at "E")|((with_reducible refine @WL _ _ _ _ _ _ _ ?_ ?_ ?_ ?_);walk_at "H";walk_at "E";rfl;rfl)|((with_reducible refine @YT _ _ _ _ _ ?_ ?_ ?_);walk_at "H";rfl;decide)|((with_reducible refine @K5 _ _ _ _ _ _ _ _ ?_ ?_ ?_ ?_ ?_ ?_ ?_);walk_at "E";walk_at "E";rfl;rfl;rfl;rfl;rfl)|((with_reducible refine @yV _ _ _ _ _ _ _ ?_ ?_);walk_at "E";walk_at "E")|((with_reducible refine @nF _ _ _ _ _ ?_);walk_at "E")|((with_reducible refine @XJ _ _ _ _ _ ?_);walk_at "E")|((with_reducible refine @ZI _ _ _ _ _ _ _ ?_ ?_ ?_);walk_at "E";walk_at "E";(intro _ _;rfl))|((with_reducible refine @XI _ _ _ _ _ _ _ ?_ ?_);walk_at "E";walk_at "E")|((with_reducible refine @ZL _ _ _ _ _ _ _ _ _ _ ?_ ?_ ?_);walk_at "E";walk_at "E";walk_at "E")|((with_reducible refine @ZW _ _ _ _ _ _ _ _ ?_ ?_ ?_ ?_ ?_ ?_ ?_);walk_at "E";walk_at "E";rfl;rfl;rfl;rfl;rfl)|((with_reducible refine @ZB _ _ _ _ _ _ _ ?_ ?_);walk_at "E";walk_at "E")|((with_reducible refine @Y4 _ _ _ _ _ _ _ ?_ ?_ ?_ ?_ ?_);walk_at "H";walk_at "E";rfl;rfl;rfl)|((with_reducible refine @qO _ _ _ _ _ ?_);walk_at "E")|((with_reducible refine @kS _ _ _ _ _))|((with_reducible refine @qP _ _ _ _ _ _ _ _ ?_ ?_);walk_at "E";walk_at "E")|((with_reducible refine @YG _ _ _ _ _ _ _ ?_ ?_ ?_ ?_ ?_);walk_at "H";walk_at "E";rfl;rfl;rfl)|((with_reducible refine @zag _ _ _ _ _ _ _ _ ?_ ?_ ?_ ?_ ?_ ?_ ?_);walk_at "E";walk_at "E";rfl;rfl;rfl;rfl;rfl)|((with_reducible refine @zak _ _ _ _ _ _ _ ?_ ?_);walk_at "E";walk_at "E")|((with_reducible refine @XG _ _ _ _ _ _ _ ?_ ?_);walk_at "E";walk_at "E")|((with_reducible refine @ZF _ _ _ _ _ ?_);walk_at "E")|((with_reducible refine @ZZ _ _ _ _ _ _ _ ?_ ?_ ?_ ?_ ?_);walk_at "H";walk_at "E";rfl;rfl;rfl)|((with_reducible refine @DW.dt _ _ _ _ ?_);walk_at "E")|((with_reducible refine @nG _ _ _ _ _ _ _ _ ?_ ?_);walk_at "E";walk_at "E")|((with_reducible refine @zac _ _ _ (by walk_at "C") ?_ ?_ _ _ _ _ _ _ ?_ ?_ ?_ ?_ ?_ ?_ ?_);walk_at "H";walk_at "H";walk_at "E";rfl;rfl;rfl;rfl;rfl;rfl)|((with_reducible refine @fN _ _ _ _ _ ?_);walk_at "E")|((with_reducible refine @iW _ _ _ _ _ _ _ _ ?_ ?_);walk_at "E";walk_at "E")|((with_reducible refine @yH _ _ _ _))|((with_reducible refine @uG _ _ _ _ _ _ _ (by walk_at "C") ?_ ?_ ?_);walk_at "H";rfl;decide)|((with_reducible refine @yL _ _ _ _ _ _ ?_);walk_at "E")|((with_reducible refine @fY _ _ _ _ ?_ ?_);walk_at "E";(intro _;rfl))|((refine @eV _ _ _ _ _))|((refine @cV _ _ _ _ _))|((refine @EV _ _ _ _ _ (by assumption) ?_ ?_);rfl;decide)|((refine @gW _ _ _ _ _ _ _ _ _ ?_ ?_ ?_ ?_);walk_at "F";walk_at "E";walk_at "E";(first|exact dH _ (by decide) (by decide)|rfl))|((refine @nF _ _ _ _ _ ?_);walk_at "E")|((refine @qO _ _ _ _ _ ?_);walk_at "E")|((refine @DW.dt _ _ _ _ ?_);walk_at "E")|((refine @nG _ _ _ _ _ _ _ _ ?_ ?_);walk_at "E";walk_at "E")|((refine @fN _ _ _ _ _ ?_);walk_at "E")|((refine @iW _ _ _ _ _ _ _ _ ?_ ?_);walk_at "E";walk_at "E")|((refine @fY _ _ _ _ ?_ ?_);walk_at "E";(intro _;rfl)))
local macro_rules | `(tactic| walk_at "GS")=>`(tactic| first|exact @RC _|((refine @RD _ _ _ _ _ ?_ ?_ ?_);((refine @CM _ _ _ _ ?_ ?_ ?_ ?_);assumption;rfl;(first|exact Or.inl rfl|exact Or.inr rfl);(first|exact .inl rfl|exact .inr rfl|assumption));walk_at "GS";rfl))
local macro_rules | `(tactic| walk_at "G")=>`(tactic| first|((with_reducible refine @E1 _ _ _ _ ?_ ?_ ?_ ?_);assumption;rfl;(first|exact Or.inl rfl|exact Or.inr rfl);(first|exact .inl rfl|exact .inr rfl|assumption))|((with_reducible refine @WJ _ _ _ _ _ _ ?_ ?_ ?_ ?_ ?_);walk_at "H";walk_at "GS";rfl;rfl;rfl))
local macro_rules | `(tactic| walk_at "s5")=>`(tactic| exact @WT _ _ _ _ _ _ _ _ _ _ _ (by assumption) (by walk_at "E") (by rfl) (by rfl) (by kst_p2) (by rfl) (by kpf_c))
local macro_rules | `(tactic| walk_at "s6")=>`(tactic| exact @WU _ _ _ _ _ _ _ _ _ _ _ (by assumption) (by walk_at "E") (by rfl) (by rfl) (by kst_p2) (by rfl) (by kpf_c))
local macro_rules | `(tactic| walk_at "s7")=>`(tactic| exact @W2 _ _ _ _ _ _ _ _ _ _ _ _ (by walk_at "E") (by rfl) (by rfl) (by kd_p1) (by decide) (by decide) (by rfl) (by rfl) (by rfl) (by rfl) (by rfl) (by rfl))
local macro_rules | `(tactic| walk_at "s3")=>`(tactic| exact @iG _ _ _ _ _ _ _ _ (by walk_at "E"))
local macro_rules | `(tactic| kst_p)=>`(tactic| exact @kU _ _ _ _ _ _ _ _ _ (by assumption) (by walk_at "E") (by rfl) (by kst_p2) (by rfl) (by kpf_c))
local macro_rules | `(tactic| walk_at "s1")=>`(tactic| exact @WS _ _ _ _ _ _ _ _ _ _ (by assumption) (by walk_at "E") (by rfl) (by rfl) (by kst_p2) (by rfl) (by kpf_c))
local macro_rules | `(tactic| walk_at "s9")=>`(tactic| exact @WX _ _ _ _ _ _ _ _ _ _ (by walk_at "E") (by walk_at "G") (by rfl) (by rfl) (by rfl) (by rfl))
local macro_rules | `(tactic| kcj_m)=>`(tactic| exact(@cI _ _ _ _ _ _ _ (by walk_at "s3")))
set_option maxHeartbeats 4000000
variable{P:Program}{w:World}{K:xFg}{mg:Str->Option Value}{base:Heap}{f:Addr}{fd:FuncData}{k:Nat}
local macro_rules | `(tactic| kst_p1)=>`(tactic| exact⟨rfl,rfl,rfl,by decide +kernel,rfl,by decide +kernel,by decide +kernel⟩)
local macro_rules | `(tactic| walk_at "b0")=>`(tactic| exact fun _ _ _ _ _ _=>us0 (rfl))
local macro_rules | `(tactic| kcf_m)=>`(tactic| exact fun _ _ _ _ _ _=>vN (fun _=>rfl))
local macro_rules | `(tactic| walk_at "b2")=>`(tactic| exact fun _ _ _ _ _ _=>AK (fun _ _=>rfl))
local macro_rules | `(tactic| walk_at "b3")=>`(tactic| exact fun _ _ _ _ _ _=>us3 (fun _ _ _=>rfl))
local macro_rules | `(tactic| walk_at "b4")=>`(tactic| exact fun _ _ _ _ _ _=>us4 (fun _ _ _ _=>rfl))
local macro_rules | `(tactic| walk_at "b5")=>`(tactic| exact fun _ _ _ _ _ _=>us5 (fun _ _ _ _ _=>rfl))
def top(i:Nat):Stmt:=PySem.Challenge.pw_chalkline_k33_no_drawing.main.body.getD i (.Pass ⟨0,0,0,0⟩)
theorem zdu(F:FA K mg "_law_texts" (top 48) ["_law_rows"] f fd)(q1:mg "str"=none)(q0:mg "list"=none):aT P w K mg base (k+1+64) "_law_texts" lC:=show aT P w K mg base (k+1+64) "_law_texts" (pE (fun m=>b6 1 3 (pT m)) 64) from F.deep (own':=[]) (N:=["_law_rows","_law_found","_law_row_here"]) (by kst_p1) rfl rfl (fun j m F__law_texts _ _ _ _ _ _ C L nd=>(@aO _ _ _ _ _ _ _ _ _ _ (by walk_at "s5") (@aO _ _ _ _ _ _ _ _ _ _ (@lV _ _ _ _ _ _ _ _ _ _ _ _ L C.calm (by walk_at "E") (by walk_at "G") (@cI _ _ _ _ _ _ _ (@fQ _ _ _ _ _ _ _ _ _ _ _ _ (by walk_at "E") (@cI _ _ _ _ _ _ _ (by walk_at "s6")) (@cI _ _ _ _ _ _ _ (@fQ _ _ _ _ _ _ _ _ _ _ _ _ (by walk_at "E") (@cI _ _ _ _ _ _ _ (by walk_at "s7")) (@cI _ _ _ _ _ _ _ (by walk_at "s7")))))) (by rfl) (by intro _;rfl)) (@nJ _ _ _ _ _ _ _ _ 1 (by rfl) (by rfl) (by kcj_m))))) 64
theorem zdv(F:FA K mg "_law_text" (top 49) ["_law_drawing_here"] f fd)(q0:aT P w K mg base k "_law_texts" lC):aT P w K mg base (k+1) "_law_text" mQ:=F.ok (own':=[]) (N:=["_law_drawing_here","_law_found","_law_name","_law_params","_law_out","_law_rows"]) (by kst_p1) rfl rfl fun _ _ _ _ _ _ C L nd=>(@aO _ _ _ _ _ _ _ _ _ _ (by walk_at "s5") (@aO _ _ _ _ _ _ _ _ _ _ (@lV _ _ _ _ _ _ _ _ _ _ _ _ L C.calm (by walk_at "E") (by walk_at "G") (@aO _ _ _ _ _ _ _ _ _ _ (by walk_at "s7") (@nJ _ _ _ _ _ _ _ _ 1 (by rfl) (by rfl) (@cI _ _ _ _ _ _ _ (by walk_at "s5")))) (by rfl) (by intro _;rfl)) (@nJ _ _ _ _ _ _ _ _ 1 (by rfl) (by rfl) (by kcj_m))))
theorem zdw(F:FA K mg "_law_many_rules" (top 53) ["_law_many"] f fd)(q0:mg "range"=none):aT P w K mg base (k+1) "_law_many_rules" jC:=F.ok (own':=[]) (N:=["_law_many","_law_row_here"]) (by kst_p1) rfl rfl fun _ _ _ _ _ _ C L nd=>(@aO _ _ _ _ _ _ _ _ _ _ (by kst_p) (@cI _ _ _ _ _ _ _ (@iG _ _ _ _ _ _ _ _ (@DF.val _ _ _ _ (@oW _ _ _ _ _ _ _ _ _ _ _ _ _ _ _ C.calm (LC.of (k:=1) (NY:=["_law_k","_law_many","_law_row_here"]) (N:=["_law_many","_law_row_here"]) (sc0:=(cF (top 53))) rfl rfl (by decide +kernel)) rfl (by walk_at "E") (fun _ _ _ _ nd2=>⟨(by walk_at "G"),(@lR _ _),(by walk_at "E")⟩) (by intro _;rfl))))))
theorem zdx(F:FA K mg "_law_bad_texts" (top 52) [] f fd)(q0:aT P w K mg base k "_law_many_rules" jC):aT P w K mg base (k+1) "_law_bad_texts" s9:=F.ok (own':=[]) (N:=["_law_row_here","_law_heads","_law_some","_law_one"]) (by kst_p1) rfl rfl fun _ _ _ _ _ _ C L nd=>(@aO _ _ _ _ _ _ _ _ _ _ (by kst_p) (@aO _ _ _ _ _ _ _ _ _ _ (by kst_p) (@aO _ _ _ _ _ _ _ _ _ _ (by kst_p) (@aO _ _ _ _ _ _ _ _ _ _ (by kst_p) (@aO _ _ _ _ _ _ _ _ _ _ (by kst_p) (@aO _ _ _ _ _ _ _ _ _ _ (@E7 _ _ _ _ _ _ _ _ _ _ _ _ _ _ _ _ _ _ _ _ 2 C.calm nd (LC.of (k:=1) (NY:=["_law_head","_law_row_here","_law_heads","_law_some","_law_one"]) (N:=["_law_row_here","_law_heads","_law_some","_law_one"]) (sc0:=(cF (top 52))) rfl rfl (by decide +kernel)) rfl (by walk_at "E") (fun _ _ _ _ nd2=>⟨(by walk_at "G"),(@lR _ _),(by walk_at "E")⟩) (by rfl) (by rfl) (by rfl) (by rfl) (by intro _;rfl)) (@aO _ _ _ _ _ _ _ _ _ _ (by kst_p) (@aO _ _ _ _ _ _ _ _ _ _ (by kst_p) (@aO _ _ _ _ _ _ _ _ _ _ (by kst_p) (@aO _ _ _ _ _ _ _ _ _ _ (by kst_p) (@aO _ _ _ _ _ _ _ _ _ _ (by kst_p) (@aO _ _ _ _ _ _ _ _ _ _ (by kst_p) (@aO _ _ _ _ _ _ _ _ _ _ (by kst_p) (@aO _ _ _ _ _ _ _ _ _ _ (by kst_p) (@aO _ _ _ _ _ _ _ _ _ _ (by kst_p) (@aO _ _ _ _ _ _ _ _ _ _ (by kst_p) (by kcj_m)))))))))))))))))
theorem zdy(F:FA K mg "_law_cell" (top 39) ["_law_script","_law_k"] f fd)(q0:mg "len"=none):aT P w K mg base (k+1) "_law_cell" fK:=F.ok (own':=[]) (N:=["_law_script","_law_k"]) (by kst_p1) rfl rfl fun _ _ _ _ _ _ C L nd=>(@aO _ _ _ _ _ _ _ _ _ _ (@fQ _ _ _ _ _ _ _ _ _ _ _ _ (@gW _ _ _ _ _ _ _ _ _ (@rJ _) (by walk_at "E") (by walk_at "E") (by first|exact dH _ (by decide) (by decide)|rfl)) (by kcj_m) (@iF _ _ _ _)) (by kcj_m))
theorem zdz(F:FA K mg "_law_mixed" (top 41) ["_law_cell_here","_law_k"] f fd):aT P w K mg base (k+1) "_law_mixed" kF:=F.ok (own':=[]) (N:=["_law_cell_here","_law_k","_law_number"]) (by kst_p1) rfl rfl fun _ _ _ _ _ _ C L nd=>(@aO _ _ _ _ _ _ _ _ _ _ (by kst_p) (@aO _ _ _ _ _ _ _ _ _ _ (by kst_p) (@aO _ _ _ _ _ _ _ _ _ _ (by kst_p) (by kcj_m))))
theorem zdA(F:FA K mg "_law_digits" (top 42) ["_law_cell_here","_law_many"] f fd)(q1:mg "range"=none)(q0:aT P w K mg base k "_law_mixed" kF):aT P w K mg base (k+1) "_law_digits" dF:=F.ok (own':=[]) (N:=["_law_cell_here","_law_many","_law_found","_law_number","_law_k"]) (by kst_p1) rfl rfl fun _ _ _ _ _ _ C L nd=>(@aO _ _ _ _ _ _ _ _ _ _ (by walk_at "s5") (@aO _ _ _ _ _ _ _ _ _ _ (by walk_at "s1") (@aO _ _ _ _ _ _ _ _ _ _ (@lV _ _ _ _ _ _ _ _ _ _ _ _ L C.calm (by walk_at "E") (by walk_at "G") (@cI _ _ _ _ _ _ _ (@fQ _ _ _ _ _ _ _ _ _ _ _ _ (@DW.dt _ _ _ _ (@nG _ _ _ _ _ _ _ _ (by walk_at "E") (@qO _ _ _ _ _ (@gW _ _ _ _ _ _ _ _ _ (@oY _) (by walk_at "E") (@cV _ _ _ _ _) (by first|exact dH _ (by decide) (by decide)|rfl))))) (@aO _ _ _ _ _ _ _ _ _ _ (by walk_at "s7") (@cI _ _ _ _ _ _ _ (by walk_at "s1"))) (@cI _ _ _ _ _ _ _ (by walk_at "s7")))) (by rfl) (by intro _;rfl)) (@nJ _ _ _ _ _ _ _ _ 2 (by rfl) (by rfl) (by kcj_m)))))
theorem zdB(F:FA K mg "_law_names" (top 43) ["_law_cell_here","_law_many"] f fd)(q1:mg "range"=none)(q2:mg "int"=none)(q0:aT P w K mg base k "_law_digits" dF):aT P w K mg base (k+1) "_law_names" sY:=F.ok (own':=[]) (N:=["_law_cell_here","_law_many","_law_letters","_law_digits_here","_law_tail","_law_j","_law_found","_law_k","_law_name"]) (by kst_p1) rfl rfl fun _ _ _ _ _ _ C L nd=>(@aO _ _ _ _ _ _ _ _ _ _ (by kst_p) (@aO _ _ _ _ _ _ _ _ _ _ (by kst_p) (@aO _ _ _ _ _ _ _ _ _ _ (by kst_p) (@aO _ _ _ _ _ _ _ _ _ _ (@lV _ _ _ _ _ _ _ _ _ _ _ _ L C.calm (by walk_at "E") (by walk_at "G") (@cI _ _ _ _ _ _ _ (by kst_p)) (by rfl) (by intro _;rfl)) (@aO _ _ _ _ _ _ _ _ _ _ (by walk_at "s5") (@aO _ _ _ _ _ _ _ _ _ _ (@lV _ _ _ _ _ _ _ _ _ _ _ _ L C.calm (by walk_at "E") (by walk_at "G") (@aO _ _ _ _ _ _ _ _ _ _ (by walk_at "s1") (@cI _ _ _ _ _ _ _ (by walk_at "s7"))) (by rfl) (by intro _;rfl)) (@nJ _ _ _ _ _ _ _ _ 6 (by rfl) (by rfl) (by kcj_m))))))))
theorem zdC(F:FA K mg "_law_row" (top 44) ["_law_digits_here","_law_names_here","_law_rules_here"] f fd)(q1:mg "len"=none)(q0:mg "tuple"=none):aT P w K mg base (k+1) "_law_row" nZ:=F.ok (own':=[]) (N:=["_law_digits_here","_law_names_here","_law_rules_here","_law_new","_law_some","_law_name","_law_many"]) (by kst_p1) rfl rfl fun _ _ _ _ _ _ C L nd=>(@aO _ _ _ _ _ _ _ _ _ _ (by kst_p) (@aO _ _ _ _ _ _ _ _ _ _ (@E7 _ _ _ _ _ _ _ _ _ _ _ _ _ _ _ _ _ _ _ _ 4 C.calm nd (LC.of (k:=1) (NY:=["_law_digit","_law_digits_here","_law_names_here","_law_rules_here","_law_new","_law_some","_law_name","_law_many"]) (N:=["_law_digits_here","_law_names_here","_law_rules_here","_law_new","_law_some","_law_name","_law_many"]) (sc0:=(cF (top 44))) rfl rfl (by decide +kernel)) rfl (by walk_at "E") (fun _ _ _ _ nd2=>⟨(by walk_at "G"),(@lR _ _),(by walk_at "E")⟩) (by rfl) (by rfl) (by rfl) (by rfl) (by intro _;rfl)) (@aO _ _ _ _ _ _ _ _ _ _ (@fQ _ _ _ _ _ _ _ _ _ _ _ _ (@DW.dt _ _ _ _ (@nG _ _ _ _ _ _ _ _ (@gW _ _ _ _ _ _ _ _ _ (@oY _) (by walk_at "E") (@cV _ _ _ _ _) (by first|exact dH _ (by decide) (by decide)|rfl)) (by walk_at "E"))) (@aO _ _ _ _ _ _ _ _ _ _ (by walk_at "s9") (by kcj_m)) (@iF _ _ _ _)) (by kcj_m))))
theorem zdD(F:FA K mg "_law_body" (top 45) ["_law_cells","_law_at","_law_names_here","_law_rules_here","_law_left"] f fd)(q2:mg "range"=none)(q4:mg "len"=none)(q5:mg "int"=none)(q3:mg "tuple"=none)(q0:aT P w K mg base k "_law_digits" dF)(q1:aT P w K mg base k "_law_row" nZ):aT P w K mg base (k+1+64) "_law_body" mM:=show aT P w K mg base (k+1+64) "_law_body" (pE (fun m=>b6 5 9 (pS m)) 64) from F.deep (own':=[]) (N:=["_law_cells","_law_at","_law_names_here","_law_rules_here","_law_left","_law_rows","_law_turn","_law_digits_here","_law_inner"]) (by kst_p1) rfl rfl (fun j m F__law_body _ _ _ _ _ _ C L nd=>have q0:=aT.mono q0 (show k<=k+1+j by omega);have q1:=aT.mono q1 (show k<=k+1+j by omega);(@aO _ _ _ _ _ _ _ _ _ _ (by walk_at "s5") (@aO _ _ _ _ _ _ _ _ _ _ (@lV _ _ _ _ _ _ _ _ _ _ _ _ L C.calm (by walk_at "E") (by walk_at "G") (@aO _ _ _ _ _ _ _ _ _ _ (by walk_at "s1") (@aO _ _ _ _ _ _ _ _ _ _ (by walk_at "s1") (@cI _ _ _ _ _ _ _ (@fQ _ _ _ _ _ _ _ _ _ _ _ _ (@DW.dt _ _ _ _ (@nG _ _ _ _ _ _ _ _ (by walk_at "E") (@nG _ _ _ _ _ _ _ _ (@gW _ _ _ _ _ _ _ _ _ (@oY _) (by walk_at "E") (@cV _ _ _ _ _) (by first|exact dH _ (by decide) (by decide)|rfl)) (@qO _ _ _ _ _ (@gW _ _ _ _ _ _ _ _ _ (@rJ _) (by walk_at "E") (@cV _ _ _ _ _) (by first|exact dH _ (by decide) (by decide)|rfl)))))) (@aO _ _ _ _ _ _ _ _ _ _ (by walk_at "s9") (@cI _ _ _ _ _ _ _ (by walk_at "s7"))) (@cI _ _ _ _ _ _ _ (by walk_at "s7")))))) (by rfl) (by intro _;rfl)) (@nJ _ _ _ _ _ _ _ _ 5 (by rfl) (by rfl) (by kcj_m))))) 64
theorem zdE(F:FA K mg "_law_rules" (top 46) ["_law_cells","_law_many","_law_names_here"] f fd)(q2:mg "range"=none)(q4:mg "len"=none)(q5:mg "int"=none)(q3:mg "tuple"=none)(q0:aT P w K mg base k "_law_digits" dF)(q1:aT P w K mg base k "_law_body" mM):aT P w K mg base (k+1) "_law_rules" sZ:=F.ok (own':=[]) (N:=["_law_cells","_law_many","_law_names_here","_law_rules_here","_law_known","_law_at","_law_k","_law_digits_here","_law_params","_law_turn","_law_inner","_law_rows"]) (by kst_p1) rfl rfl fun _ _ _ _ _ _ C L nd=>(@aO _ _ _ _ _ _ _ _ _ _ (by walk_at "s5") (@aO _ _ _ _ _ _ _ _ _ _ (by walk_at "s1") (@aO _ _ _ _ _ _ _ _ _ _ (by walk_at "s1") (@aO _ _ _ _ _ _ _ _ _ _ (@lV _ _ _ _ _ _ _ _ _ _ _ _ L C.calm (by walk_at "E") (by walk_at "G") (@aO _ _ _ _ _ _ _ _ _ _ (by walk_at "s1") (@aO _ _ _ _ _ _ _ _ _ _ (by walk_at "s1") (@aO _ _ _ _ _ _ _ _ _ _ (by walk_at "s1") (@aO _ _ _ _ _ _ _ _ _ _ (by walk_at "s1") (@aO _ _ _ _ _ _ _ _ _ _ (by walk_at "s1") (@aO _ _ _ _ _ _ _ _ _ _ (by walk_at "s9") (@aO _ _ _ _ _ _ _ _ _ _ (by walk_at "s7") (@cI _ _ _ _ _ _ _ (by walk_at "s1"))))))))) (by rfl) (by intro _;rfl)) (@nJ _ _ _ _ _ _ _ _ 3 (by rfl) (by rfl) (by kcj_m))))))
theorem zdF(F:FA K mg "_law_drawing" (top 47) ["_law_script"] f fd)(q5:mg "tuple"=none)(q0:aT P w K mg base k "_law_digits" dF)(q3:aT P w K mg base k "_law_cell" fK)(q1:aT P w K mg base k "_law_names" sY)(q2:aT P w K mg base k "_law_rules" sZ)(q4:aT P w K mg base k "_law_body" mM):aT P w K mg base (k+1) "_law_drawing" n5:=F.ok (own':=[]) (N:=["_law_script","_law_first","_law_names_here","_law_cells","_law_rules_here","_law_known","_law_at","_law_rows"]) (by kst_p1) rfl rfl fun _ _ _ _ _ _ C L nd=>(@aO _ _ _ _ _ _ _ _ _ _ (by kst_p) (@aO _ _ _ _ _ _ _ _ _ _ (by kst_p) (@aO _ _ _ _ _ _ _ _ _ _ (by kst_p) (@aO _ _ _ _ _ _ _ _ _ _ (by walk_at "s9") (@aO _ _ _ _ _ _ _ _ _ _ (by walk_at "s9") (by kcj_m))))))
theorem zdG(F:FA K mg "is_word" (top 29) ["thing"] f fd)(q1:mg "isinstance"=none)(q3:mg "str"=none)(q4:mg "len"=none)(q5:mg "all"=none)(q0:∃u v,mg "MOST_LETTERS"=some u/\aZ v u/\∀G,Rep K mg G vS v)(q2:∃u v,mg "LETTERS"=some u/\aZ v u/\∀G,Rep K mg G AT v):aT P w K mg base (k+1) "is_word" pJ:=F.ok (own':=[]) (N:=["thing"]) (by kst_p1) rfl rfl fun _ _ _ _ _ _ C L nd=>(@aO _ _ _ _ _ _ _ _ _ _ (@fQ _ _ _ _ _ _ _ _ _ _ _ _ (@DW.dt _ _ _ _ (@iW _ _ _ _ _ _ _ _ (@fN _ _ _ _ _ (@fY _ _ _ _ (@nM _ _ _ _ _ _ _ q1 (@bB _ _ _ _ _ _ (by walk_at "E") (@bB _ _ _ _ _ _ (@oV _ _ _ _ _ q3 yZ (by rfl) (by decide) (by decide)) (@bJ _ _) (by rfl)) (by rfl)) (by rfl) (by rfl) (by rfl)) (by intro _;rfl))) (@nF _ _ _ _ _ (@fN _ _ _ _ _ (@XR _ _ _ _ _ _ _ _ _ _ _ _ _ (@yW _) (@yW _) (@cV _ _ _ _ _) (by walk_at "E") (by walk_at "E") (by with_unfolding_all rfl)))))) (by kcj_m) (@iF _ _ _ _)) (@cI _ _ _ _ _ _ _ (@iG _ _ _ _ _ _ _ _ (@FP _ _ _ _ _ _ _ C.calm q5 (@bB _ _ _ _ _ _ (@DF.val _ _ _ _ (@oW _ _ _ _ _ _ _ _ _ _ _ _ _ _ _ C.calm (LC.of (k:=1) (NY:=["sign","thing"]) (N:=["thing"]) (sc0:=(cF (top 29))) rfl rfl (by decide +kernel)) rfl (by walk_at "E") (fun _ _ _ _ nd2=>⟨(by walk_at "G"),(@lR _ _),(by walk_at "E")⟩) (by intro _;rfl))) (@bJ _ _) (by rfl)) (by rfl) (by rfl) (by rfl)))))
theorem zdH(F:FA K mg "is_name" (top 28) ["thing"] f fd)(q0:∃u v,mg "NO_NAMES"=some u/\aZ v u/\∀G,Rep K mg G vU v)(q1:aT P w K mg base k "is_word" pJ):aT P w K mg base (k+1) "is_name" jT:=F.ok (own':=[]) (N:=["thing"]) (by kst_p1) rfl rfl fun _ _ _ _ _ _ C L nd=>(by kcj_m)
theorem zdI(F:FA K mg "look_at_names" (top 32) ["words"] f fd){q1:Addr}(q2:mg "NoText"=some (.ref q1))(q3:PySem.W.excIn K q1 [.type "ValueError",.type "Exception",.type "BaseException",.type "object"] "ValueError.__new__"=true)(q4:fF K mg "NoText" q1)(q5:mg "all"=none)(q0:aT P w K mg base k "is_name" jT):aT P w K mg base (k+1) "look_at_names" gR:=F.ok (own':=[]) (N:=["words"]) (by kst_p1) rfl rfl fun _ _ _ _ _ _ C L nd=>(@cI _ _ _ _ _ _ _ (@fQ _ _ _ _ _ _ _ _ _ _ _ _ (@fN _ _ _ _ _ (@fY _ _ _ _ (@FP _ _ _ _ _ _ _ C.calm q5 (@bB _ _ _ _ _ _ (@DF.val _ _ _ _ (@oW _ _ _ _ _ _ _ _ _ _ _ _ _ _ _ C.calm (LC.of (k:=1) (NY:=["word","words"]) (N:=["words"]) (sc0:=(cF (top 32))) rfl rfl (by decide +kernel)) rfl (by walk_at "E") (fun _ _ _ _ nd2=>⟨(by walk_at "G"),(@lR _ _),(by walk_at "E")⟩) (by intro _;rfl))) (@bJ _ _) (by rfl)) (by rfl) (by rfl) (by rfl)) (by intro _;rfl))) (@cI _ _ _ _ _ _ _ (@FV _ _ _ _ _ _ _ _ _ _ _ _ _ _ _ _ _ _ _ _ _ _ _ _ _ _ q3 q4 (by rfl) (by decide))) (@iF _ _ _ _)))
theorem zdJ(F:FA K mg "read_end" (top 34) ["reader"] f fd){q0:Addr}(q1:mg "NoText"=some (.ref q0))(q2:PySem.W.excIn K q0 [.type "ValueError",.type "Exception",.type "BaseException",.type "object"] "ValueError.__new__"=true)(q3:fF K mg "NoText" q0){q4:Addr}(q5:Rdr.RdF P w K mg base k q4):Rdr.FnAtR P w K mg base (k+1) "read_end" q4 0 gT:=Rdr.FA.okR F (N:=["reader"]) (by kst_p1) rfl rfl fun _ _ _ _ _ _ C L nd=>(@Rdr.drs_one _ _ _ _ _ _ (@Rdr.dr_if _ _ _ _ _ _ _ _ _ _ _ (@Rdr.rt_cmp _ _ _ _ _ _ _ _ _ _ _ (@yX _ _ _ C) (@Rdr.er_take _ _ _ _ _ _ _ _ _ C q5 _ (by rfl) (by kd_p1) (by decide) (by decide) (by rfl)) (by walk_at "E") (by first|exact dH _ (by decide) (by decide)|rfl)) (@Rdr.drs_one _ _ _ _ _ _ (@Rdr.dr_raise1 _ _ _ _ _ _ _ _ _ _ _ _ _ _ _ _ _ _ _ _ _ _ _ _ _ q2 q3 (by rfl) (by decide))) (@Rdr.drs_nil _ _ _ _)))
theorem zdK(F:FA K mg "read_times" (top 37) ["words","reader","within"] f fd){q4:Addr}(q5:mg "NoText"=some (.ref q4))(q6:PySem.W.excIn K q4 [.type "ValueError",.type "Exception",.type "BaseException",.type "object"] "ValueError.__new__"=true)(q7:fF K mg "NoText" q4){q12:Addr}(q13:Rdr.RdF P w K mg base k q12){m:Rdr.RM}(q9:mg "len"=none)(q8:mg "range"=none)(q10:mg "str"=none)(q11:mg "int"=none)(q0:∃u v,mg "MOST_WITHIN"=some u/\aZ v u/\∀G,Rep K mg G sL v)(q1:∃u v,mg "MOST_TIMES"=some u/\aZ v u/\∀G,Rep K mg G nX v)(q2:Rdr.FnAtR P w K mg base k "read_rows" q12 0 m)(q3:Rdr.FnAtR P w K mg base k "read_end" q12 0 gT):Rdr.FnAtR P w K mg base (k+1) "read_times" q12 1 (fC m):=Rdr.FA.okR F (N:=["words","reader","within","rows"]) (by kst_p1) rfl rfl fun _ _ _ _ _ _ C L nd=>(@Rdr.drs_cons _ _ _ _ _ _ _ _ (@Rdr.dr_if _ _ _ _ _ _ _ _ _ _ _ (@Rdr.rt_dt _ _ _ _ _ _ (by walk_at "E")) (@Rdr.drs_one _ _ _ _ _ _ (@Rdr.dr_raise1 _ _ _ _ _ _ _ _ _ _ _ _ _ _ _ _ _ _ _ _ _ _ _ _ _ q6 q7 (by rfl) (by decide))) (@Rdr.drs_nil _ _ _ _)) (@Rdr.drs_cons _ _ _ _ _ _ _ _ (@Rdr.dr_if _ _ _ _ _ _ _ _ _ _ _ (@Rdr.rt_dt _ _ _ _ _ _ (@DW.dt _ _ _ _ (@iW _ _ _ _ _ _ _ _ (by walk_at "E") (@nF _ _ _ _ _ (@gW _ _ _ _ _ _ _ _ _ (@AE _ _ _ C) (by walk_at "E") (@DF.val _ _ _ _ (@oW _ _ _ _ _ _ _ _ _ _ _ _ _ _ _ C.calm (LC.of (k:=1) (NY:=["number","words","reader","within","rows"]) (N:=["words","reader","within","rows"]) (sc0:=(cF (top 37))) rfl rfl (by decide +kernel)) rfl (by walk_at "E") (fun _ _ _ _ nd2=>⟨(by walk_at "G"),(@lR _ _),(by walk_at "E")⟩) (by intro _;rfl))) (by first|exact dH _ (by decide) (by decide)|rfl)))))) (@Rdr.drs_one _ _ _ _ _ _ (@Rdr.dr_raise1 _ _ _ _ _ _ _ _ _ _ _ _ _ _ _ _ _ _ _ _ _ _ _ _ _ q6 q7 (by rfl) (by decide))) (@Rdr.drs_nil _ _ _ _)) (@Rdr.drs_cons _ _ _ _ _ _ _ _ (@Rdr.dr_set _ _ _ _ _ _ _ _ _ 3 nd (@Rdr.er_call _ _ _ _ _ _ _ _ _ _ _ _ _ C q2 (@Rdr.dar_here _ _ _ _ _ _ _ _ (by walk_at "E") (by rfl) (by kd_p1) (by decide) (by decide) (by rfl)) (by rfl) (by decide) (by rfl) (by rfl)) (by rfl) (by rfl) (by kst_p2) (by rfl) (by kpf_c)) (@Rdr.drs_cons _ _ _ _ _ _ _ _ (@Rdr.dr_expr _ _ _ _ _ _ _ (@Rdr.er_call _ _ _ _ _ _ _ _ _ _ _ _ _ C q3 (@Rdr.dar_nil _ _ _ _ _ _ (by rfl) (by kd_p1) (by decide) (by decide) (by rfl)) (by rfl) (by decide) (by rfl) (by rfl)) (by rfl)) (@Rdr.drs_one _ _ _ _ _ _ (@Rdr.dr_ret _ _ _ _ _ _ _ (@Rdr.er_de _ _ _ _ _ _ (by walk_at "E"))))))))
theorem zdL(F:FA K mg "read_row" (top 36) ["reader","within"] f fd){q2:Addr}(q3:mg "NoText"=some (.ref q2))(q4:PySem.W.excIn K q2 [.type "ValueError",.type "Exception",.type "BaseException",.type "object"] "ValueError.__new__"=true)(q5:fF K mg "NoText" q2){q8:Addr}(q9:Rdr.RdF P w K mg base k q8){m:Rdr.RM}(q7:mg "len"=none)(q6:mg "tuple"=none)(q1:Rdr.FnAtR P w K mg base k "read_times" q8 1 m)(q0:aT P w K mg base k "look_at_names" gR):Rdr.FnAtR P w K mg base (k+1) "read_row" q8 0 (hJ m):=Rdr.FA.okR F (N:=["reader","within","words","names"]) (by kst_p1) rfl rfl fun _ _ _ _ _ _ C L nd=>(@Rdr.drs_cons _ _ _ _ _ _ _ _ (@Rdr.dr_set _ _ _ _ _ _ _ _ _ 2 nd (@Rdr.er_take _ _ _ _ _ _ _ _ _ C q9 _ (by rfl) (by kd_p1) (by decide) (by decide) (by rfl)) (by rfl) (by rfl) (by kst_p2) (by rfl) (by kpf_c)) (@Rdr.drs_cons _ _ _ _ _ _ _ _ (@Rdr.dr_if _ _ _ _ _ _ _ _ _ _ _ (@Rdr.rt_dt _ _ _ _ _ _ (by walk_at "E")) (@Rdr.drs_one _ _ _ _ _ _ (@Rdr.dr_ret _ _ _ _ _ _ _ (@Rdr.er_call _ _ _ _ _ _ _ _ _ _ _ _ _ C q1 (@Rdr.dar_cons _ _ _ _ _ _ _ _ _ (by walk_at "E") (@Rdr.dar_here _ _ _ _ _ _ _ _ (by walk_at "E") (by rfl) (by kd_p1) (by decide) (by decide) (by rfl)) (by rfl)) (by rfl) (by decide) (by rfl) (by rfl)))) (@Rdr.drs_nil _ _ _ _)) (@Rdr.drs_cons _ _ _ _ _ _ _ _ (@Rdr.dr_if _ _ _ _ _ _ _ _ _ _ _ (@Rdr.rt_dt _ _ _ _ _ _ (@DW.dt _ _ _ _ (@iW _ _ _ _ _ _ _ _ (@gW _ _ _ _ _ _ _ _ _ (@rJ _) (by walk_at "E") (@cV _ _ _ _ _) (by first|exact dH _ (by decide) (by decide)|rfl)) (by walk_at "E")))) (@Rdr.drs_one _ _ _ _ _ _ (@Rdr.dr_raise1 _ _ _ _ _ _ _ _ _ _ _ _ _ _ _ _ _ _ _ _ _ _ _ _ _ q4 q5 (by rfl) (by decide))) (@Rdr.drs_nil _ _ _ _)) (@Rdr.drs_cons _ _ _ _ _ _ _ _ (@Rdr.dr_if _ _ _ _ _ _ _ _ _ _ _ (@Rdr.rt_dt _ _ _ _ _ _ (by walk_at "E")) (@Rdr.drs_cons _ _ _ _ _ _ _ _ (@Rdr.dr_set _ _ _ _ _ _ _ _ _ 3 nd (@Rdr.er_de _ _ _ _ _ _ (by walk_at "E")) (by rfl) (by rfl) (by kst_p2) (by rfl) (by kpf_c)) (@Rdr.drs_cons _ _ _ _ _ _ _ _ (@Rdr.dr_expr _ _ _ _ _ _ _ (@Rdr.er_de _ _ _ _ _ _ (by walk_at "E")) (by rfl)) (@Rdr.drs_one _ _ _ _ _ _ (@Rdr.dr_ret _ _ _ _ _ _ _ (@Rdr.er_de _ _ _ _ _ _ (by walk_at "E")))))) (@Rdr.drs_nil _ _ _ _)) (@Rdr.drs_cons _ _ _ _ _ _ _ _ (@Rdr.dr_expr _ _ _ _ _ _ _ (@Rdr.er_de _ _ _ _ _ _ (by walk_at "E")) (by rfl)) (@Rdr.drs_one _ _ _ _ _ _ (@Rdr.dr_ret _ _ _ _ _ _ _ (@Rdr.er_de _ _ _ _ _ _ (by walk_at "E")))))))))
theorem zdM(F:FA K mg "read_rows" (top 35) ["reader","within"] f fd){q1:Addr}(q2:mg "NoText"=some (.ref q1))(q3:PySem.W.excIn K q1 [.type "ValueError",.type "Exception",.type "BaseException",.type "object"] "ValueError.__new__"=true)(q4:fF K mg "NoText" q1){q7:Addr}(q8:Rdr.RdF P w K mg base k q7){m:Rdr.RM}(q6:mg "len"=none)(q5:mg "tuple"=none)(q0:Rdr.FnAtR P w K mg base k "read_row" q7 0 m):Rdr.FnAtR P w K mg base (k+1) "read_rows" q7 0 (pK m):=Rdr.FA.okR F (N:=["reader","within","rows"]) (by kst_p1) rfl rfl fun _ _ _ _ _ _ C L nd=>(@Rdr.drs_col _ _ _ _ _ _ _ _ _ _ _ _ _ _ _ _ _ _ _ 2 L nd (@Rdr.rt_cmp _ _ _ _ _ _ _ _ _ _ _ (@AE _ _ _ C) (@Rdr.er_ahead _ _ _ _ _ _ _ _ _ C q8 _ (by rfl) (by kd_p1) (by decide) (by decide) (by rfl)) (by walk_at "E") (by first|exact dH _ (by decide) (by decide)|rfl)) (@Rdr.er_call _ _ _ _ _ _ _ _ _ _ _ _ _ C q0 (@Rdr.dar_here _ _ _ _ _ _ _ _ (by walk_at "E") (by rfl) (by kd_p1) (by decide) (by decide) (by rfl)) (by rfl) (by decide) (by rfl) (by rfl)) (@Rdr.drs_cons _ _ _ _ _ _ _ _ (@Rdr.dr_if _ _ _ _ _ _ _ _ _ _ _ (@Rdr.rt_dt _ _ _ _ _ _ (by walk_at "E")) (@Rdr.drs_one _ _ _ _ _ _ (@Rdr.dr_raise1 _ _ _ _ _ _ _ _ _ _ _ _ _ _ _ _ _ _ _ _ _ _ _ _ _ q3 q4 (by rfl) (by decide))) (@Rdr.drs_nil _ _ _ _)) (@Rdr.drs_one _ _ _ _ _ _ (@Rdr.dr_ret _ _ _ _ _ _ _ (@Rdr.er_de _ _ _ _ _ _ (by walk_at "E"))))) (by rfl) (by rfl) (by kst_p2) (by kd_p1) (by decide) (by decide) (by rfl) (by kpf_c) (by rfl) (by rfl) (by rfl) (by rfl) (by rfl) (by rfl))
theorem zdN(F:FA K mg "rows_of" (top 18) ["text"] f fd){q1:Addr}(q2:mg "NoText"=some (.ref q1))(q3:PySem.W.excIn K q1 [.type "ValueError",.type "Exception",.type "BaseException",.type "object"] "ValueError.__new__"=true)(q4:fF K mg "NoText" q1)(q0:mg "isinstance"=none)(q5:mg "str"=none):aT P w K mg base (k+1) "rows_of" g8:=F.ok (own':=[]) (N:=["text"]) (by kst_p1) rfl rfl fun _ _ _ _ _ _ C L nd=>(@aO _ _ _ _ _ _ _ _ _ _ (@fQ _ _ _ _ _ _ _ _ _ _ _ _ (@fN _ _ _ _ _ (@fY _ _ _ _ (@nM _ _ _ _ _ _ _ q0 (@bB _ _ _ _ _ _ (by walk_at "E") (@bB _ _ _ _ _ _ (@oV _ _ _ _ _ q5 yZ (by rfl) (by decide) (by decide)) (@bJ _ _) (by rfl)) (by rfl)) (by rfl) (by rfl) (by rfl)) (by intro _;rfl))) (@cI _ _ _ _ _ _ _ (@FV _ _ _ _ _ _ _ _ _ _ _ _ _ _ _ _ _ _ _ _ _ _ _ _ _ _ q3 q4 (by rfl) (by decide))) (@iF _ _ _ _)) (@cI _ _ _ _ _ _ _ (@iG _ _ _ _ _ _ _ _ (@DF.val _ _ _ _ (@oW _ _ _ _ _ _ _ _ _ _ _ _ _ _ _ C.calm (LC.of (k:=1) (NY:=["row","text"]) (N:=["text"]) (sc0:=(cF (top 18))) rfl rfl (by decide +kernel)) rfl (by walk_at "E") (fun _ _ _ _ nd2=>⟨(by walk_at "G"),(@lR _ _),(by walk_at "E")⟩) (by intro _;rfl))))))
theorem zdO(F:FA K mg "unlike" (top 31) ["names"] f fd)(q0:mg "len"=none)(q1:mg "set"=none):aT P w K mg base (k+1) "unlike" fD:=F.ok (own':=[]) (N:=["names"]) (by kst_p1) rfl rfl fun _ _ _ _ _ _ C L nd=>(by kcj_m)
theorem zdP(F:FA K mg "read_rule" (top 33) ["reader"] f fd){q4:Addr}(q5:mg "NoText"=some (.ref q4))(q6:PySem.W.excIn K q4 [.type "ValueError",.type "Exception",.type "BaseException",.type "object"] "ValueError.__new__"=true)(q7:fF K mg "NoText" q4){q11:Addr}(q12:Rdr.RdF P w K mg base k q11)(q10:mg "len"=none)(q9:mg "tuple"=none)(q0:∃u v,mg "MOST_PARAMS"=some u/\aZ v u/\∀G,Rep K mg G pL v)(q1:aT P w K mg base k "look_at_names" gR)(q8:aT P w K mg base k "unlike" fD)(q2:Rdr.FnAtR P w K mg base k "read_rows" q11 0 jU)(q3:Rdr.FnAtR P w K mg base k "read_end" q11 0 gT):Rdr.FnAtR P w K mg base (k+1) "read_rule" q11 0 dR:=Rdr.FA.okR F (N:=["reader","words","params","rows"]) (by kst_p1) rfl rfl fun _ _ _ _ _ _ C L nd=>(@Rdr.drs_cons _ _ _ _ _ _ _ _ (@Rdr.dr_set _ _ _ _ _ _ _ _ _ 1 nd (@Rdr.er_take _ _ _ _ _ _ _ _ _ C q12 _ (by rfl) (by kd_p1) (by decide) (by decide) (by rfl)) (by rfl) (by rfl) (by kst_p2) (by rfl) (by kpf_c)) (@Rdr.drs_cons _ _ _ _ _ _ _ _ (@Rdr.dr_set _ _ _ _ _ _ _ _ _ 2 nd (@Rdr.er_de _ _ _ _ _ _ (by walk_at "E")) (by rfl) (by rfl) (by kst_p2) (by rfl) (by kpf_c)) (@Rdr.drs_cons _ _ _ _ _ _ _ _ (@Rdr.dr_if _ _ _ _ _ _ _ _ _ _ _ (@Rdr.rt_dt _ _ _ _ _ _ (@DW.dt _ _ _ _ (@iW _ _ _ _ _ _ _ _ (@gW _ _ _ _ _ _ _ _ _ (@rJ _) (by walk_at "E") (@cV _ _ _ _ _) (by first|exact dH _ (by decide) (by decide)|rfl)) (by walk_at "E")))) (@Rdr.drs_one _ _ _ _ _ _ (@Rdr.dr_raise1 _ _ _ _ _ _ _ _ _ _ _ _ _ _ _ _ _ _ _ _ _ _ _ _ _ q6 q7 (by rfl) (by decide))) (@Rdr.drs_nil _ _ _ _)) (@Rdr.drs_cons _ _ _ _ _ _ _ _ (@Rdr.dr_expr _ _ _ _ _ _ _ (@Rdr.er_de _ _ _ _ _ _ (by walk_at "E")) (by rfl)) (@Rdr.drs_cons _ _ _ _ _ _ _ _ (@Rdr.dr_if _ _ _ _ _ _ _ _ _ _ _ (@Rdr.rt_dt _ _ _ _ _ _ (@DW.dt _ _ _ _ (@iW _ _ _ _ _ _ _ _ (@gW _ _ _ _ _ _ _ _ _ (@oY _) (by walk_at "E") (by walk_at "E") (by first|exact dH _ (by decide) (by decide)|rfl)) (by walk_at "E")))) (@Rdr.drs_one _ _ _ _ _ _ (@Rdr.dr_raise1 _ _ _ _ _ _ _ _ _ _ _ _ _ _ _ _ _ _ _ _ _ _ _ _ _ q6 q7 (by rfl) (by decide))) (@Rdr.drs_nil _ _ _ _)) (@Rdr.drs_cons _ _ _ _ _ _ _ _ (@Rdr.dr_set _ _ _ _ _ _ _ _ _ 3 nd (@Rdr.er_call _ _ _ _ _ _ _ _ _ _ _ _ _ C q2 (@Rdr.dar_here _ _ _ _ _ _ _ _ (by walk_at "E") (by rfl) (by kd_p1) (by decide) (by decide) (by rfl)) (by rfl) (by decide) (by rfl) (by rfl)) (by rfl) (by rfl) (by kst_p2) (by rfl) (by kpf_c)) (@Rdr.drs_cons _ _ _ _ _ _ _ _ (@Rdr.dr_expr _ _ _ _ _ _ _ (@Rdr.er_call _ _ _ _ _ _ _ _ _ _ _ _ _ C q3 (@Rdr.dar_nil _ _ _ _ _ _ (by rfl) (by kd_p1) (by decide) (by decide) (by rfl)) (by rfl) (by decide) (by rfl) (by rfl)) (by rfl)) (@Rdr.drs_one _ _ _ _ _ _ (@Rdr.dr_ret _ _ _ _ _ _ _ (@Rdr.er_de _ _ _ _ _ _ (by walk_at "E")))))))))))
theorem zdQ(F:FA K mg "read_drawing" (top 30) ["text"] f fd){q4:Addr}(q5:mg "NoText"=some (.ref q4))(q6:PySem.W.excIn K q4 [.type "ValueError",.type "Exception",.type "BaseException",.type "object"] "ValueError.__new__"=true)(q7:fF K mg "NoText" q4){q11:Addr}(q12:Rdr.RdG P w K mg base k q11)(q10:mg "len"=none)(q9:mg "tuple"=none)(q0:∃u v,mg "MOST_RULES"=some u/\aZ v u/\∀G,Rep K mg G sR v)(q3:aT P w K mg base k "rows_of" g8)(q1:Rdr.FnAtR P w K mg base k "read_rule" q11 0 dR)(q8:aT P w K mg base k "unlike" fD)(q2:Rdr.FnAtR P w K mg base k "read_rows" q11 0 jU):aT P w K mg base (k+1) "read_drawing" dL:=F.ok (own':=[]) (N:=["text","reader","rules","rows"]) (by kst_p1) rfl rfl fun _ _ _ _ _ _ C L nd=>(@Rdr.dss_reader _ _ _ _ _ _ _ _ _ _ _ _ _ _ _ 1 nd C q12 (by walk_at "E") (@Rdr.drs_col _ _ _ _ _ _ _ _ _ _ _ _ _ _ _ _ _ _ _ 2 L nd (@Rdr.rt_cmp _ _ _ _ _ _ _ _ _ _ _ (@rK _ _ _ C) (@Rdr.er_sl _ _ _ _ _ _ _ _ _ _ _ _ (@Rdr.er_ahead _ _ _ _ _ _ _ _ _ C q12.F _ (by rfl) (by kd_p1) (by decide) (by decide) (by rfl)) (@FS _ _) (by walk_at "E")) (by walk_at "E") (by first|exact dH _ (by decide) (by decide)|rfl)) (@Rdr.er_call _ _ _ _ _ _ _ _ _ _ _ _ _ C q1 (@Rdr.dar_nil _ _ _ _ _ _ (by rfl) (by kd_p1) (by decide) (by decide) (by rfl)) (by rfl) (by decide) (by rfl) (by rfl)) (@Rdr.drs_cons _ _ _ _ _ _ _ _ (@Rdr.dr_if _ _ _ _ _ _ _ _ _ _ _ (@Rdr.rt_dt _ _ _ _ _ _ (@gW _ _ _ _ _ _ _ _ _ (@oY _) (by walk_at "E") (by walk_at "E") (by first|exact dH _ (by decide) (by decide)|rfl))) (@Rdr.drs_one _ _ _ _ _ _ (@Rdr.dr_raise1 _ _ _ _ _ _ _ _ _ _ _ _ _ _ _ _ _ _ _ _ _ _ _ _ _ q6 q7 (by rfl) (by decide))) (@Rdr.drs_nil _ _ _ _)) (@Rdr.drs_cons _ _ _ _ _ _ _ _ (@Rdr.dr_if _ _ _ _ _ _ _ _ _ _ _ (@Rdr.rt_dt _ _ _ _ _ _ (@fN _ _ _ _ _ (@fY _ _ _ _ (@fO _ _ _ _ _ _ _ _ _ _ C q8 (@bB _ _ _ _ _ _ (@DF.val _ _ _ _ (@oW _ _ _ _ _ _ _ _ _ _ _ _ _ _ _ C.calm (LC.of (k:=1) (NY:=["rule","text","reader","rules","rows"]) (N:=["text","reader","rules","rows"]) (sc0:=(cF (top 30))) rfl rfl (by decide +kernel)) rfl (by walk_at "E") (fun _ _ _ _ nd2=>⟨(by walk_at "G"),(@lR _ _),(by walk_at "E")⟩) (by intro _;rfl))) (@bJ _ _) (by rfl)) (by rfl) (by decide) (by rfl) (by rfl)) (by intro _;rfl)))) (@Rdr.drs_one _ _ _ _ _ _ (@Rdr.dr_raise1 _ _ _ _ _ _ _ _ _ _ _ _ _ _ _ _ _ _ _ _ _ _ _ _ _ q6 q7 (by rfl) (by decide))) (@Rdr.drs_nil _ _ _ _)) (@Rdr.drs_cons _ _ _ _ _ _ _ _ (@Rdr.dr_set _ _ _ _ _ _ _ _ _ 3 nd (@Rdr.er_call _ _ _ _ _ _ _ _ _ _ _ _ _ C q2 (@Rdr.dar_here _ _ _ _ _ _ _ _ (by walk_at "E") (by rfl) (by kd_p1) (by decide) (by decide) (by rfl)) (by rfl) (by decide) (by rfl) (by rfl)) (by rfl) (by rfl) (by kst_p2) (by rfl) (by kpf_c)) (@Rdr.drs_cons _ _ _ _ _ _ _ _ (@Rdr.dr_if _ _ _ _ _ _ _ _ _ _ _ (@Rdr.rt_cmp _ _ _ _ _ _ _ _ _ _ _ (@yX _ _ _ C) (@Rdr.er_ahead _ _ _ _ _ _ _ _ _ C q12.F _ (by rfl) (by kd_p1) (by decide) (by decide) (by rfl)) (by walk_at "E") (by first|exact dH _ (by decide) (by decide)|rfl)) (@Rdr.drs_one _ _ _ _ _ _ (@Rdr.dr_raise1 _ _ _ _ _ _ _ _ _ _ _ _ _ _ _ _ _ _ _ _ _ _ _ _ _ q6 q7 (by rfl) (by decide))) (@Rdr.drs_nil _ _ _ _)) (@Rdr.drs_one _ _ _ _ _ _ (@Rdr.dr_ret _ _ _ _ _ _ _ (@Rdr.er_de _ _ _ _ _ _ (by walk_at "E")))))))) (by rfl) (by rfl) (by kst_p2) (by kd_p1) (by decide) (by decide) (by rfl) (by kpf_c) (by rfl) (by rfl) (by rfl) (by rfl) (by rfl) (by rfl)) (by rfl) (by kst_p2) (by kpf_c) (by rfl) (by rfl) (by rfl) (by rfl))
theorem zdR(F:FA K mg "_law_twenty" (top 54) [] f fd)(q2:mg "isinstance"=none)(q3:mg "tuple"=none)(q4:mg "len"=none)(q0:aT P w K mg base k "_law_many_rules" jC)(q1:aT P w K mg base k "read_drawing" dL):aT P w K mg base (k+1) "_law_twenty" pU:=F.ok (own':=[]) (N:=["_law_text_here","_law_found"]) (by kst_p1) rfl rfl fun _ _ _ _ _ _ C L nd=>(@aO _ _ _ _ _ _ _ _ _ _ (by kst_p) (@aO _ _ _ _ _ _ _ _ _ _ (by kst_p) (@aO _ _ _ _ _ _ _ _ _ _ (@fQ _ _ _ _ _ _ _ _ _ _ _ _ (@DW.dt _ _ _ _ (@iW _ _ _ _ _ _ _ _ (@fN _ _ _ _ _ (@fY _ _ _ _ (@nM _ _ _ _ _ _ _ q2 (@bB _ _ _ _ _ _ (by walk_at "E") (@bB _ _ _ _ _ _ (@oV _ _ _ _ _ q3 uX (by rfl) (by decide) (by decide)) (@bJ _ _) (by rfl)) (by rfl)) (by rfl) (by rfl) (by rfl)) (by intro _;rfl))) (by walk_at "E"))) (by kcj_m) (@iF _ _ _ _)) (by kcj_m))))
theorem zdS(F:FA K mg "_law_alone" (top 50) ["_law_error"] f fd){q6:Addr}(q7:mg "NoPlace"=some (.ref q6)){q32:Addr}(q33:mg "Same"=some (.ref q32)){q8:Addr}(q9:mg "NoFloor"=some (.ref q8)){q10:Addr}(q11:mg "Endless"=some (.ref q10)){q20:Addr}(q21:mg "NoDeed"=some (.ref q20)){q22:Addr}(q23:mg "NoText"=some (.ref q22)){q24:Addr}(q25:mg "NoName"=some (.ref q24)){q12:Addr}(q13:mg "TooMany"=some (.ref q12)){q4:Addr}(q5:mg "NoChange"=some (.ref q4)){q14:Addr}(q15:mg "NoFrame"=some (.ref q14)){q16:Addr}(q17:mg "NoValue"=some (.ref q16)){q26:Addr}(q27:mg "Unlike"=some (.ref q26)){q18:Addr}(q19:mg "NoRatio"=some (.ref q18)){q28:Addr}(q29:mg "NoBow"=some (.ref q28)){q30:Addr}(q31:mg "NoRow"=some (.ref q30)){q0:Addr}(q1:mg "ChalkError"=some (.ref q0))(q34:mg "int"=none)(q2:mg "isinstance"=none)(q3:mg "ValueError"=none):aT P w K mg base (k+1) "_law_alone" n8:=F.ok (own':=[]) (N:=["_law_error","_law_many"]) (by kst_p1) rfl rfl fun _ _ _ _ _ _ C L nd=>(@aO _ _ _ _ _ _ _ _ _ _ (by kst_p) (@aO _ _ _ _ _ _ _ _ _ _ (by kst_p) (@aO _ _ _ _ _ _ _ _ _ _ (by kst_p) (@aO _ _ _ _ _ _ _ _ _ _ (by kst_p) (@aO _ _ _ _ _ _ _ _ _ _ (by kst_p) (@cI _ _ _ _ _ _ _ (@iG _ _ _ _ _ _ _ _ (@qP _ _ _ _ _ _ _ _ (by walk_at "E") (@qP _ _ _ _ _ _ _ _ (by walk_at "E") (@yL _ _ _ _ _ _ (@nM _ _ _ _ _ _ _ q2 (@bB _ _ _ _ _ _ (by walk_at "E") (@bB _ _ _ _ _ _ (@oV _ _ _ _ _ q3 XV (by rfl) (by decide) (by decide)) (@bJ _ _) (by rfl)) (by rfl)) (by rfl) (by rfl) (by rfl))))))))))))
theorem zdT(F:FA K mg "_law_refused" (top 56) ["_law_thing"] f fd){q1:Addr}(q2:mg "ChalkError"=some (.ref q1)){q5:Addr}(q6:mg "NoText"=some (.ref q5))(q3:mg "isinstance"=none)(q0:aT P w K mg base k "read_drawing" dL)(q4:aT P w K mg base k "_law_alone" n8):aT P w K mg base (k+1) "_law_refused" eO:=F.ok (own':=[]) (N:=["_law_thing","_law_kept","_law_error"]) (by kst_p1) rfl rfl fun _ _ _ _ _ _ C L nd=>(@aO _ _ _ _ _ _ _ _ _ _ (by kst_p) (@aO _ _ _ _ _ _ _ _ _ _ (@YS _ _ _ _ 2 _ _ _ _ _ _ _ _ _ rfl rfl nd q2 (@YO _ _ _ (@YR _ _ _ _ _ _ _ _ _ _ C.room q0 (by walk_at "E") (by rfl) (by decide) (by rfl) (by rfl) (by rfl))) (fun _=>(@cI _ _ _ _ _ _ _ (by kst_p))) (by rfl) (by rfl) (by rfl) (by decide)) (@cI _ _ _ _ _ _ _ (@iG _ _ _ _ _ _ _ _ (@qP _ _ _ _ _ _ _ _ (@yY _ _ _ _ _ _ _ _ _ (@FK _) (by walk_at "E") (@yH _ _ _ _) (by first|exact dH _ (by decide) (by decide)|rfl)) (by walk_at "E"))))))
theorem zdU(F:FA K mg "_law_far" (top 55) [] f fd)(q2:mg "isinstance"=none)(q3:mg "tuple"=none)(q0:aT P w K mg base k "_law_refused" eO)(q1:aT P w K mg base k "read_drawing" dL):aT P w K mg base (k+1) "_law_far" n9:=F.ok (own':=[]) (N:=["_law_deep","_law_ended","_law_found"]) (by kst_p1) rfl rfl fun _ _ _ _ _ _ C L nd=>(@aO _ _ _ _ _ _ _ _ _ _ (@kU _ _ _ _ _ _ _ _ 0 nd (@qZ _ _ _ _ _ _ _ (@vO _ _ _ _ _ _ _ (@eV _ _ _ _ _) (@cV _ _ _ _ _)) (@eV _ _ _ _ _)) (by rfl) (by kst_p2) (by rfl) (by kpf_c)) (@aO _ _ _ _ _ _ _ _ _ _ (@kU _ _ _ _ _ _ _ _ 1 nd (@qZ _ _ _ _ _ _ _ (@qZ _ _ _ _ _ _ _ (@vO _ _ _ _ _ _ _ (@eV _ _ _ _ _) (@cV _ _ _ _ _)) (@eV _ _ _ _ _)) (@vO _ _ _ _ _ _ _ (@eV _ _ _ _ _) (@cV _ _ _ _ _))) (by rfl) (by kst_p2) (by rfl) (by kpf_c)) (@aO _ _ _ _ _ _ _ _ _ _ (@fQ _ _ _ _ _ _ _ _ _ _ _ _ (@DW.dt _ _ _ _ (@iW _ _ _ _ _ _ _ _ (@fN _ _ _ _ _ (@fY _ _ _ _ (@fO _ _ _ _ _ _ _ _ _ _ C q0 (@bB _ _ _ _ _ _ (@eF _ _ 0 _ _ (by rfl) (by kd_p1) (by decide) (by decide)) (@bJ _ _) (by rfl)) (by rfl) (by decide) (by rfl) (by rfl)) (by intro _;rfl))) (@iW _ _ _ _ _ _ _ _ (@fN _ _ _ _ _ (@fY _ _ _ _ (@fO _ _ _ _ _ _ _ _ _ _ C q0 (@bB _ _ _ _ _ _ (@eF _ _ 1 _ _ (by rfl) (by kd_p1) (by decide) (by decide)) (@bJ _ _) (by rfl)) (by rfl) (by decide) (by rfl) (by rfl)) (by intro _;rfl))) (@nF _ _ _ _ _ (@fN _ _ _ _ _ (@fY _ _ _ _ (@fO _ _ _ _ _ _ _ _ _ _ C q0 (@bB _ _ _ _ _ _ (@qZ _ _ _ _ _ _ _ (@eV _ _ _ _ _) (@vO _ _ _ _ _ _ _ (@eV _ _ _ _ _) (@cV _ _ _ _ _))) (@bJ _ _) (by rfl)) (by rfl) (by decide) (by rfl) (by rfl)) (by intro _;rfl))))))) (@cI _ _ _ _ _ _ _ (@iG _ _ _ _ _ _ _ _ (@kS _ _ _ _ _))) (@iF _ _ _ _)) (@aO _ _ _ _ _ _ _ _ _ _ (@kU _ _ _ _ _ _ _ _ 2 nd (@fO _ _ _ _ _ _ _ _ _ _ C q1 (@bB _ _ _ _ _ _ (@K5 _ _ _ _ _ _ _ _ (@eV _ _ _ _ _) (@DF.val _ _ _ _ (@Z6 _ _ _ _ _ _ _ (@qQ _ _ _ _ _ (@bB _ _ _ _ _ _ (@eV _ _ _ _ _) (@bJ _ _) (by rfl))) (@cV _ _ _ _ _))) (by rfl) (by rfl) (by rfl) (by rfl) (by rfl)) (@bJ _ _) (by rfl)) (by rfl) (by decide) (by rfl) (by rfl)) (by rfl) (by kst_p2) (by rfl) (by kpf_c)) (@cI _ _ _ _ _ _ _ (@iG _ _ _ _ _ _ _ _ (@qP _ _ _ _ _ _ _ _ (@nM _ _ _ _ _ _ _ q2 (@bB _ _ _ _ _ _ (@eF _ _ 2 _ _ (by rfl) (by kd_p1) (by decide) (by decide)) (@bB _ _ _ _ _ _ (@oV _ _ _ _ _ q3 uX (by rfl) (by decide) (by decide)) (@bJ _ _) (by rfl)) (by rfl)) (by rfl) (by rfl) (by rfl)) (@yL _ _ _ _ _ _ (@yY _ _ _ _ _ _ _ _ _ (@rK _ _ _ C) (@eF _ _ 2 _ _ (by rfl) (by kd_p1) (by decide) (by decide)) (@jK _ _ _ _ _ _ (@bB _ _ _ _ _ _ (@jK _ _ _ _ _ _ (@bJ _ _)) (@bB _ _ _ _ _ _ (@zas _ _ _ _ _ _ _ (@jK _ _ _ _ _ _ (@bB _ _ _ _ _ _ (@jK _ _ _ _ _ _ (@bB _ _ _ _ _ _ (@eV _ _ _ _ _) (@bB _ _ _ _ _ _ (@eV _ _ _ _ _) (@bB _ _ _ _ _ _ (@eV _ _ _ _ _) (@bB _ _ _ _ _ _ (@jK _ _ _ _ _ _ (@bB _ _ _ _ _ _ (@eV _ _ _ _ _) (@bJ _ _) (by rfl))) (@bJ _ _) (by rfl)) (by rfl)) (by rfl)) (by rfl))) (@bJ _ _) (by rfl))) (@cV _ _ _ _ _)) (@bJ _ _) (by rfl)) (by rfl))) (by first|exact dH _ (by decide) (by decide)|rfl))))))))))
theorem zdV(F:FA K mg "_law_bad_rows" (top 51) [] f fd):aT P w K mg base (k+1) "_law_bad_rows" mR:=F.ok (own':=[]) (N:=["_law_some"]) (by kst_p1) rfl rfl fun _ _ _ _ _ _ C L nd=>(@aO _ _ _ _ _ _ _ _ _ _ (by kst_p) (@aO _ _ _ _ _ _ _ _ _ _ (by kst_p) (@aO _ _ _ _ _ _ _ _ _ _ (by kst_p) (@aO _ _ _ _ _ _ _ _ _ _ (by kst_p) (@aO _ _ _ _ _ _ _ _ _ _ (by kst_p) (@aO _ _ _ _ _ _ _ _ _ _ (by kst_p) (@aO _ _ _ _ _ _ _ _ _ _ (by kst_p) (@aO _ _ _ _ _ _ _ _ _ _ (by kst_p) (@aO _ _ _ _ _ _ _ _ _ _ (by kst_p) (@aO _ _ _ _ _ _ _ _ _ _ (by kst_p) (@aO _ _ _ _ _ _ _ _ _ _ (by kst_p) (@aO _ _ _ _ _ _ _ _ _ _ (by kst_p) (@aO _ _ _ _ _ _ _ _ _ _ (by kst_p) (@aO _ _ _ _ _ _ _ _ _ _ (by kst_p) (@aO _ _ _ _ _ _ _ _ _ _ (by kst_p) (@aO _ _ _ _ _ _ _ _ _ _ (by kst_p) (@aO _ _ _ _ _ _ _ _ _ _ (by kst_p) (@aO _ _ _ _ _ _ _ _ _ _ (by kst_p) (by kcj_m)))))))))))))))))))
theorem zdW(F:FA K mg "_law_spoilt" (top 57) ["_law_text_here","_law_number"] f fd)(q1:mg "len"=none)(q0:aT P w K mg base k "_law_bad_rows" mR):aT P w K mg base (k+1) "_law_spoilt" mS:=F.ok (own':=[]) (N:=["_law_text_here","_law_number","_law_rows","_law_bad","_law_row_here","_law_at"]) (by kst_p1) rfl rfl fun _ _ _ _ _ _ C L nd=>(@aO _ _ _ _ _ _ _ _ _ _ (by kst_p) (@aO _ _ _ _ _ _ _ _ _ _ (by kst_p) (@aO _ _ _ _ _ _ _ _ _ _ (by kst_p) (@aO _ _ _ _ _ _ _ _ _ _ (by kst_p) (@aO _ _ _ _ _ _ _ _ _ _ (@fQ _ _ _ _ _ _ _ _ _ _ _ _ (by walk_at "E") (@cI _ _ _ _ _ _ _ (by kst_p)) (@iF _ _ _ _)) (by kcj_m))))))
abbrev lF:Stmt:=top 58
theorem P5:gU ["_law_script","_law_text_here","_law_texts_here","_law_k","_law_cell_here","_law_number"] ["_law_script"] (cF lF):=by kst_p1
theorem zdX(F:gE K "law" "law" lF f fd)(q7:mg "isinstance"=none)(q12:mg "tuple"=none)(q13:mg "range"=none)(q14:mg "max"=none)(q15:mg "min"=none)(q16:mg "len"=none)(q9:aT P w K mg base k "_law_text" mQ)(q1:aT P w K mg base k "_law_drawing" n5)(q2:aT P w K mg base k "read_drawing" dL)(q4:aT P w K mg base k "_law_twenty" pU)(q5:aT P w K mg base k "_law_digits" dF)(q10:aT P w K mg base k "_law_cell" fK)(q11:aT P w K mg base k "_law_far" n9)(q0:aT P w K mg base k "_law_bad_texts" s9)(q8:aT P w K mg base k "_law_mixed" kF)(q3:aT P w K mg base k "_law_refused" eO)(q6:aT P w K mg base k "_law_spoilt" mS):cN P w K mg base (bW P w) (k+1) f fd ["_law_script"] (nH K mg wS):=by
 refine YU (own':=[]) F P5 rfl rfl fun X E hX C L=>?_
 obtain⟨cdv,A,outer,s,H,rfl⟩:=hX
 have nd:=P5.nd
 exact(@aO _ _ _ _ _ _ _ _ _ _ (@kU _ _ _ _ _ _ _ _ 1 nd (@fO _ _ _ _ _ _ _ _ _ _ C q9 (@bB _ _ _ _ _ _ (@qR _ _ _ _ _ _ _ (@fO _ _ _ _ _ _ _ _ _ _ C q1 (@bB _ _ _ _ _ _ (@eF _ _ 0 _ _ (by rfl) (by kd_p1) (by decide) (by decide)) (@bJ _ _) (by rfl)) (by rfl) (by decide) (by rfl) (by rfl)) (@cV _ _ _ _ _) (by intro _ _;rfl)) (@bJ _ _) (by rfl)) (by rfl) (by decide) (by rfl) (by rfl)) (by rfl) (by kst_p2) (by rfl) (by kpf_c)) (@aO _ _ _ _ _ _ _ _ _ _ (@fQ _ _ _ _ _ _ _ _ _ _ _ _ (@DW.dt _ _ _ _ (@iW _ _ _ _ _ _ _ _ (@fN _ _ _ _ _ (@fY _ _ _ _ (@nM _ _ _ _ _ _ _ q7 (@bB _ _ _ _ _ _ (@fO _ _ _ _ _ _ _ _ _ _ C q2 (@bB _ _ _ _ _ _ (@eF _ _ 1 _ _ (by rfl) (by kd_p1) (by decide) (by decide)) (@bJ _ _) (by rfl)) (by rfl) (by decide) (by rfl) (by rfl)) (@bB _ _ _ _ _ _ (@oV _ _ _ _ _ q12 uX (by rfl) (by decide) (by decide)) (@bJ _ _) (by rfl)) (by rfl)) (by rfl) (by rfl) (by rfl)) (by intro _;rfl))) (@nF _ _ _ _ _ (@fN _ _ _ _ _ (@fY _ _ _ _ (@uG _ _ _ _ _ _ _ C q4 (by rfl) (by decide)) (by intro _;rfl)))))) (@cI _ _ _ _ _ _ _ (@iG _ _ _ _ _ _ _ _ (@kS _ _ _ _ _))) (@iF _ _ _ _)) (@aO _ _ _ _ _ _ _ _ _ _ (@fQ _ _ _ _ _ _ _ _ _ _ _ _ (@DW.dt _ _ _ _ (@nG _ _ _ _ _ _ _ _ (@gW _ _ _ _ _ _ _ _ _ (@rK _ _ _ C) (@rH _ _ _ _ _ _ _ (@qR _ _ _ _ _ _ _ (@fO _ _ _ _ _ _ _ _ _ _ C q5 (@bB _ _ _ _ _ _ (@fO _ _ _ _ _ _ _ _ _ _ C q10 (@bB _ _ _ _ _ _ (@eF _ _ 0 _ _ (by rfl) (by kd_p1) (by decide) (by decide)) (@bB _ _ _ _ _ _ (@cV _ _ _ _ _) (@bJ _ _) (by rfl)) (by rfl)) (by rfl) (by decide) (by rfl) (by rfl)) (@bB _ _ _ _ _ _ (@cV _ _ _ _ _) (@bJ _ _) (by rfl)) (by rfl)) (by rfl) (by decide) (by rfl) (by rfl)) (@cV _ _ _ _ _) (by intro _ _;rfl)) (@cV _ _ _ _ _)) (@cV _ _ _ _ _) (by first|exact dH _ (by decide) (by decide)|rfl)) (@qO _ _ _ _ _ (@fN _ _ _ _ _ (@fY _ _ _ _ (@uG _ _ _ _ _ _ _ C q11 (by rfl) (by decide)) (by intro _;rfl)))))) (@cI _ _ _ _ _ _ _ (@iG _ _ _ _ _ _ _ _ (@kS _ _ _ _ _))) (@iF _ _ _ _)) (@aO _ _ _ _ _ _ _ _ _ _ (@kU _ _ _ _ _ _ _ _ 2 nd (@uG _ _ _ _ _ _ _ C q0 (by rfl) (by decide)) (by rfl) (by kst_p2) (by rfl) (by kpf_c)) (@aO _ _ _ _ _ _ _ _ _ _ (@lV _ _ _ _ _ _ _ _ _ _ _ _ L C.calm (@WM _ _ _ _ _ _ _ _ q13 (@bB _ _ _ _ _ _ (@cV _ _ _ _ _) (@bB _ _ _ _ _ _ (@X5 _ _ _ _ _ _ _ C.calm q14 (@bB _ _ _ _ _ _ (@cV _ _ _ _ _) (@bB _ _ _ _ _ _ (@X4 _ _ _ _ _ _ _ C.calm q15 (@bB _ _ _ _ _ _ (@y6 _ _ _ _ _ _ _ q16 (@bB _ _ _ _ _ _ (@eF _ _ 0 _ _ (by rfl) (by kd_p1) (by decide) (by decide)) (@bJ _ _) (by rfl)) (by rfl) (by rfl) (by rfl)) (@bB _ _ _ _ _ _ (@cV _ _ _ _ _) (@bJ _ _) (by rfl)) (by rfl)) (by rfl) (by rfl) (by rfl)) (@bJ _ _) (by rfl)) (by rfl)) (by rfl) (by rfl) (by rfl)) (@bJ _ _) (by rfl)) (by rfl)) (by rfl) (by rfl) (by rfl)) (@E1 _ _ 3 _ nd (by rfl) (by kst_p2) (by kpf_c)) (@aO _ _ _ _ _ _ _ _ _ _ (@kU _ _ _ _ _ _ _ _ 4 nd (@fO _ _ _ _ _ _ _ _ _ _ C q10 (@bB _ _ _ _ _ _ (@eF _ _ 0 _ _ (by rfl) (by kd_p1) (by decide) (by decide)) (@bB _ _ _ _ _ _ (@eF _ _ 3 _ _ (by rfl) (by kd_p1) (by decide) (by decide)) (@bJ _ _) (by rfl)) (by rfl)) (by rfl) (by decide) (by rfl) (by rfl)) (by rfl) (by kst_p2) (by rfl) (by kpf_c)) (@aO _ _ _ _ _ _ _ _ _ _ (@kU _ _ _ _ _ _ _ _ 5 nd (@yV _ _ _ _ _ _ _ (@eF _ _ 4 _ _ (by rfl) (by kd_p1) (by decide) (by decide)) (@cV _ _ _ _ _)) (by rfl) (by kst_p2) (by rfl) (by kpf_c)) (@aO _ _ _ _ _ _ _ _ _ _ (@fQ _ _ _ _ _ _ _ _ _ _ _ _ (@gW _ _ _ _ _ _ _ _ _ (@rK _ _ _ C) (@rH _ _ _ _ _ _ _ (@eF _ _ 4 _ _ (by rfl) (by kd_p1) (by decide) (by decide)) (@cV _ _ _ _ _)) (@cV _ _ _ _ _) (by first|exact dH _ (by decide) (by decide)|rfl)) (@cI _ _ _ _ _ _ _ (@kU _ _ _ _ _ _ _ _ 5 nd (@fO _ _ _ _ _ _ _ _ _ _ C q8 (@bB _ _ _ _ _ _ (@eF _ _ 4 _ _ (by rfl) (by kd_p1) (by decide) (by decide)) (@bB _ _ _ _ _ _ (@eF _ _ 3 _ _ (by rfl) (by kd_p1) (by decide) (by decide)) (@bJ _ _) (by rfl)) (by rfl)) (by rfl) (by decide) (by rfl) (by rfl)) (by rfl) (by kst_p2) (by rfl) (by kpf_c))) (@iF _ _ _ _)) (@aO _ _ _ _ _ _ _ _ _ _ (@fQ _ _ _ _ _ _ _ _ _ _ _ _ (@DW.dt _ _ _ _ (@iW _ _ _ _ _ _ _ _ (@fN _ _ _ _ _ (@fY _ _ _ _ (@fO _ _ _ _ _ _ _ _ _ _ C q3 (@bB _ _ _ _ _ _ (@fO _ _ _ _ _ _ _ _ _ _ C q6 (@bB _ _ _ _ _ _ (@eF _ _ 1 _ _ (by rfl) (by kd_p1) (by decide) (by decide)) (@bB _ _ _ _ _ _ (@eF _ _ 5 _ _ (by rfl) (by kd_p1) (by decide) (by decide)) (@bJ _ _) (by rfl)) (by rfl)) (by rfl) (by decide) (by rfl) (by rfl)) (@bJ _ _) (by rfl)) (by rfl) (by decide) (by rfl) (by rfl)) (by intro _;rfl))) (@nF _ _ _ _ _ (@fN _ _ _ _ _ (@fY _ _ _ _ (@fO _ _ _ _ _ _ _ _ _ _ C q3 (@bB _ _ _ _ _ _ (@qR _ _ _ _ _ _ _ (@eF _ _ 2 _ _ (by rfl) (by kd_p1) (by decide) (by decide)) (@rH _ _ _ _ _ _ _ (@yV _ _ _ _ _ _ _ (@eF _ _ 5 _ _ (by rfl) (by kd_p1) (by decide) (by decide)) (@cV _ _ _ _ _)) (@y6 _ _ _ _ _ _ _ q16 (@bB _ _ _ _ _ _ (@eF _ _ 2 _ _ (by rfl) (by kd_p1) (by decide) (by decide)) (@bJ _ _) (by rfl)) (by rfl) (by rfl) (by rfl))) (by intro _ _;rfl)) (@bJ _ _) (by rfl)) (by rfl) (by decide) (by rfl) (by rfl)) (by intro _;rfl)))))) (@cI _ _ _ _ _ _ _ (@iG _ _ _ _ _ _ _ _ (@kS _ _ _ _ _))) (@iF _ _ _ _)) (@cI _ _ _ _ _ _ _ (@fQ _ _ _ _ _ _ _ _ _ _ _ _ (@fN _ _ _ _ _ (@fY _ _ _ _ (@fO _ _ _ _ _ _ _ _ _ _ C q3 (@bB _ _ _ _ _ _ (@qR _ _ _ _ _ _ _ (@DF.val _ _ _ _ (@qQ _ _ _ _ _ (@bB _ _ _ _ _ _ (@yH _ _ _ _) (@bB _ _ _ _ _ _ (@cV _ _ _ _ _) (@bB _ _ _ _ _ _ (@kS _ _ _ _ _) (@bB _ _ _ _ _ _ (@DF.val _ _ _ _ (@qQ _ _ _ _ _ (@bB _ _ _ _ _ _ (@eV _ _ _ _ _) (@bJ _ _) (by rfl)))) (@bB _ _ _ _ _ _ (@jK _ _ _ _ _ _ (@bB _ _ _ _ _ _ (@eV _ _ _ _ _) (@bJ _ _) (by rfl))) (@bB _ _ _ _ _ _ (@Y7 _ _ _) (@bB _ _ _ _ _ _ (@DF.val _ _ _ _ (@qQ _ _ _ _ _ (@bJ _ _))) (@bB _ _ _ _ _ _ (@jK _ _ _ _ _ _ (@bJ _ _)) (@bB _ _ _ _ _ _ (@jK _ _ _ _ _ _ (@bB _ _ _ _ _ _ (@jK _ _ _ _ _ _ (@bJ _ _)) (@bB _ _ _ _ _ _ (@jK _ _ _ _ _ _ (@bJ _ _)) (@bJ _ _) (by rfl)) (by rfl))) (@bB _ _ _ _ _ _ (@kS _ _ _ _ _) (@bJ _ _) (by rfl)) (by rfl)) (by rfl)) (by rfl)) (by rfl)) (by rfl)) (by rfl)) (by rfl)) (by rfl)) (by rfl)))) (@rH _ _ _ _ _ _ _ (@eF _ _ 5 _ _ (by rfl) (by kd_p1) (by decide) (by decide)) (@cV _ _ _ _ _)) (by intro _ _;rfl)) (@bJ _ _) (by rfl)) (by rfl) (by decide) (by rfl) (by rfl)) (by intro _;rfl))) (@cI _ _ _ _ _ _ _ (@iG _ _ _ _ _ _ _ _ (@kS _ _ _ _ _))) (@iF _ _ _ _))))))) (by rfl) (by intro _;rfl)) (@cI _ _ _ _ _ _ _ (@iG _ _ _ _ _ _ _ _ (@kS _ _ _ _ _))))))))
set_option maxHeartbeats 4000000 in
theorem all_mk{l:PySem.W.OpenLaw}{w:World}{K:xFg}{h:Heap}{mg:Str->Option Value}{fa f29:Addr}(X:K.In h)(G:h.Ns mainGlobals mg)(hfa:mg "law"=some (.ref fa))
  {od29 an29:Option Addr} {sl29:Array (Option Value)} {oc29 kV29 dc29 pm29 cd29 ct29:Value}
  {C_ChalkError C_NoPlace C_Same C_NoFloor C_Endless C_NoDeed C_NoName C_TooMany C_NoChange C_NoFrame C_NoValue C_Unlike C_NoRatio C_NoBow C_NoRow:Addr}
  (d0:FD K "_law_texts" (top 48))
  (d1:FD K "_law_text" (top 49))
  (d2:FD K "_law_many_rules" (top 53))
  (d3:FD K "_law_bad_texts" (top 52))
  (d4:FD K "_law_cell" (top 39))
  (d5:FD K "_law_mixed" (top 41))
  (d6:FD K "_law_digits" (top 42))
  (d7:FD K "_law_names" (top 43))
  (d8:FD K "_law_row" (top 44))
  (d9:FD K "_law_body" (top 45))
  (d10:FD K "_law_rules" (top 46))
  (d11:FD K "_law_drawing" (top 47))
  (d12:FD K "is_word" (top 29))
  (d13:FD K "is_name" (top 28))
  (d14:FD K "look_at_names" (top 32))
  (d15:FD K "read_end" (top 34))
  (d16:FD K "read_times" (top 37))
  (d17:FD K "read_row" (top 36))
  (d18:FD K "read_rows" (top 35))
  (d19:FD K "rows_of" (top 18))
  (d20:FD K "unlike" (top 31))
  (d21:FD K "read_rule" (top 33))
  (d22:FD K "read_drawing" (top 30))
  (d23:FD K "_law_twenty" (top 54))
  (d24:FD K "_law_alone" (top 50))
  (d25:FD K "_law_refused" (top 56))
  (d26:FD K "_law_far" (top 55))
  (d27:FD K "_law_bad_rows" (top 51))
  (d28:FD K "_law_spoilt" (top 57))
  (a29:PySem.W.nsIn K mainGlobals "law"=some (some (.ref f29))) (l29:K.lookup f29=some ⟨oc29,od29,.func (PySem.W.fnOf "law" "law" (j2 lF) (fX lF) (cF lF) .none kV29 dc29 pm29 an29 cd29 ct29),sl29⟩) (c29:PySem.W.codeIn K cd29 "law"=true) (k29:PySem.W.keepIn K (.ref f29)=true)
  {CR:Addr} (rA:PySem.W.nsIn K mainGlobals "Reader"=some (some (.ref CR))) (rB:PySem.W.plainGet K CR Str.empty=true) (rC:PySem.W.hasDictIn K CR=true) (rD:PySem.W.plainOver K CR=true) (rE:PySem.W.findIn K (.ref CR) "__setattr__"=some (some (.builtin "object.__setattr__"))) (rF:PySem.W.makesIn K CR=true) (rG:PySem.W.keepIn K (.ref CR)=true)
  (rn0:PySem.W.findIn K (.ref CR) "rows"=some none)
  (rn1:PySem.W.findIn K (.ref CR) "done"=some none)
  (rm0:Rdr.MD K CR "__init__" "Reader.__init__" (kP Rdr.rCls 0))
  (rm1:Rdr.MD K CR "ahead" "Reader.ahead" (kP Rdr.rCls 1))
  (rm2:Rdr.MD K CR "take" "Reader.take" (kP Rdr.rCls 2))
  (xd_NoText:XD K "NoText")
  (z_str:PySem.W.nsIn K mainGlobals "str"=some none)
  (z_list:PySem.W.nsIn K mainGlobals "list"=some none)
  (z_range:PySem.W.nsIn K mainGlobals "range"=some none)
  (z_len:PySem.W.nsIn K mainGlobals "len"=some none)
  (z_int:PySem.W.nsIn K mainGlobals "int"=some none)
  (z_tuple:PySem.W.nsIn K mainGlobals "tuple"=some none)
  (z_isinstance:PySem.W.nsIn K mainGlobals "isinstance"=some none)
  (z_all:PySem.W.nsIn K mainGlobals "all"=some none)
  (z_set:PySem.W.nsIn K mainGlobals "set"=some none)
  (z_ValueError:PySem.W.nsIn K mainGlobals "ValueError"=some none)
  (z_max:PySem.W.nsIn K mainGlobals "max"=some none)
  (z_min:PySem.W.nsIn K mainGlobals "min"=some none)
  (e_ChalkError:PySem.W.nsIn K mainGlobals "ChalkError"=some (some (.ref C_ChalkError)))
  (e_NoPlace:PySem.W.nsIn K mainGlobals "NoPlace"=some (some (.ref C_NoPlace)))
  (e_Same:PySem.W.nsIn K mainGlobals "Same"=some (some (.ref C_Same)))
  (e_NoFloor:PySem.W.nsIn K mainGlobals "NoFloor"=some (some (.ref C_NoFloor)))
  (e_Endless:PySem.W.nsIn K mainGlobals "Endless"=some (some (.ref C_Endless)))
  (e_NoDeed:PySem.W.nsIn K mainGlobals "NoDeed"=some (some (.ref C_NoDeed)))
  (e_NoName:PySem.W.nsIn K mainGlobals "NoName"=some (some (.ref C_NoName)))
  (e_TooMany:PySem.W.nsIn K mainGlobals "TooMany"=some (some (.ref C_TooMany)))
  (e_NoChange:PySem.W.nsIn K mainGlobals "NoChange"=some (some (.ref C_NoChange)))
  (e_NoFrame:PySem.W.nsIn K mainGlobals "NoFrame"=some (some (.ref C_NoFrame)))
  (e_NoValue:PySem.W.nsIn K mainGlobals "NoValue"=some (some (.ref C_NoValue)))
  (e_Unlike:PySem.W.nsIn K mainGlobals "Unlike"=some (some (.ref C_Unlike)))
  (e_NoRatio:PySem.W.nsIn K mainGlobals "NoRatio"=some (some (.ref C_NoRatio)))
  (e_NoBow:PySem.W.nsIn K mainGlobals "NoBow"=some (some (.ref C_NoBow)))
  (e_NoRow:PySem.W.nsIn K mainGlobals "NoRow"=some (some (.ref C_NoRow)))
  {t_MOST_LETTERS:Tok} (q_MOST_LETTERS:PySem.W.nsIn K mainGlobals "MOST_LETTERS"=some (some (.int 8 t_MOST_LETTERS)))
  {t_LETTERS:Tok} (q_LETTERS:PySem.W.nsIn K mainGlobals "LETTERS"=some (some (.str "abcdefghijklmnopqrstuvwxyz" t_LETTERS)))
  {a_NO_NAMES:Addr} {t0_NO_NAMES t1_NO_NAMES t2_NO_NAMES t3_NO_NAMES:Tok} {n_NO_NAMES:Nat} {sl_NO_NAMES:Array (Option Value)} (q_NO_NAMES:PySem.W.nsIn K mainGlobals "NO_NAMES"=some (some (.ref a_NO_NAMES))) (lq_NO_NAMES:K.lookup a_NO_NAMES=some ⟨.type "tuple",none,.seq #[.str "x" t0_NO_NAMES,.str "rule" t1_NO_NAMES,.str "times" t2_NO_NAMES,.str "end" t3_NO_NAMES] n_NO_NAMES,sl_NO_NAMES⟩)
  {t_MOST_WITHIN:Tok} (q_MOST_WITHIN:PySem.W.nsIn K mainGlobals "MOST_WITHIN"=some (some (.int 4 t_MOST_WITHIN)))
  {t_MOST_TIMES:Tok} (q_MOST_TIMES:PySem.W.nsIn K mainGlobals "MOST_TIMES"=some (some (.int 60 t_MOST_TIMES)))
  {t_MOST_PARAMS:Tok} (q_MOST_PARAMS:PySem.W.nsIn K mainGlobals "MOST_PARAMS"=some (some (.int 8 t_MOST_PARAMS)))
  {t_MOST_RULES:Tok} (q_MOST_RULES:PySem.W.nsIn K mainGlobals "MOST_RULES"=some (some (.int 20 t_MOST_RULES)))
  (hlaw:∀ns:List Int,ns.length<=63->wS [.lst (ns.map .int)]=.ok (.bl true))
  : ∃fd:FuncData,(∀(s:Shared) (v:Value),BindsTo s fd ⟨[v],[]⟩ [("_law_script",v)])/\∀base:Heap,K.In base->base.Ns mainGlobals mg->cN l.prog w K mg base (bW l.prog w) 70 fa fd ["_law_script"] (u7 K):=by
 have e:=hfa.symm.trans (xa3 X G a29)
 cases e
 obtain⟨f0,v0,F0⟩:=d0.go X G ["_law_rows"] (by kcf_m)
 obtain⟨f1,v1,F1⟩:=d1.go X G ["_law_drawing_here"] (by kcf_m)
 obtain⟨f2,v2,F2⟩:=d2.go X G ["_law_many"] (by kcf_m)
 obtain⟨f3,v3,F3⟩:=d3.go X G [] (by walk_at "b0")
 obtain⟨f4,v4,F4⟩:=d4.go X G ["_law_script","_law_k"] (by walk_at "b2")
 obtain⟨f5,v5,F5⟩:=d5.go X G ["_law_cell_here","_law_k"] (by walk_at "b2")
 obtain⟨f6,v6,F6⟩:=d6.go X G ["_law_cell_here","_law_many"] (by walk_at "b2")
 obtain⟨f7,v7,F7⟩:=d7.go X G ["_law_cell_here","_law_many"] (by walk_at "b2")
 obtain⟨f8,v8,F8⟩:=d8.go X G ["_law_digits_here","_law_names_here","_law_rules_here"] (by walk_at "b3")
 obtain⟨f9,v9,F9⟩:=d9.go X G ["_law_cells","_law_at","_law_names_here","_law_rules_here","_law_left"] (by walk_at "b5")
 obtain⟨f10,v10,F10⟩:=d10.go X G ["_law_cells","_law_many","_law_names_here"] (by walk_at "b3")
 obtain⟨f11,v11,F11⟩:=d11.go X G ["_law_script"] (by kcf_m)
 obtain⟨f12,v12,F12⟩:=d12.go X G ["thing"] (by kcf_m)
 obtain⟨f13,v13,F13⟩:=d13.go X G ["thing"] (by kcf_m)
 obtain⟨f14,v14,F14⟩:=d14.go X G ["words"] (by kcf_m)
 obtain⟨f15,v15,F15⟩:=d15.go X G ["reader"] (by kcf_m)
 obtain⟨f16,v16,F16⟩:=d16.go X G ["words","reader","within"] (by walk_at "b3")
 obtain⟨f17,v17,F17⟩:=d17.go X G ["reader","within"] (by walk_at "b2")
 obtain⟨f18,v18,F18⟩:=d18.go X G ["reader","within"] (by walk_at "b2")
 obtain⟨f19,v19,F19⟩:=d19.go X G ["text"] (by kcf_m)
 obtain⟨f20,v20,F20⟩:=d20.go X G ["names"] (by kcf_m)
 obtain⟨f21,v21,F21⟩:=d21.go X G ["reader"] (by kcf_m)
 obtain⟨f22,v22,F22⟩:=d22.go X G ["text"] (by kcf_m)
 obtain⟨f23,v23,F23⟩:=d23.go X G [] (by walk_at "b0")
 obtain⟨f24,v24,F24⟩:=d24.go X G ["_law_error"] (by kcf_m)
 obtain⟨f25,v25,F25⟩:=d25.go X G ["_law_thing"] (by kcf_m)
 obtain⟨f26,v26,F26⟩:=d26.go X G [] (by walk_at "b0")
 obtain⟨f27,v27,F27⟩:=d27.go X G [] (by walk_at "b0")
 obtain⟨f28,v28,F28⟩:=d28.go X G ["_law_text_here","_law_number"] (by walk_at "b2")
 have F29:=x4 (st:=lF) l29 c29 k29
 have m29:=xa3 X G a29
 obtain⟨C_NoText,c_NoText,y_NoText,x_NoText⟩:=xd_NoText.go X G
 have n_str:=xbo X G z_str
 have n_list:=xbo X G z_list
 have n_range:=xbo X G z_range
 have n_len:=xbo X G z_len
 have n_int:=xbo X G z_int
 have n_tuple:=xbo X G z_tuple
 have n_isinstance:=xbo X G z_isinstance
 have n_all:=xbo X G z_all
 have n_set:=xbo X G z_set
 have n_ValueError:=xbo X G z_ValueError
 have n_max:=xbo X G z_max
 have n_min:=xbo X G z_min
 have c_ChalkError:=xa3 X G e_ChalkError
 have c_NoPlace:=xa3 X G e_NoPlace
 have c_Same:=xa3 X G e_Same
 have c_NoFloor:=xa3 X G e_NoFloor
 have c_Endless:=xa3 X G e_Endless
 have c_NoDeed:=xa3 X G e_NoDeed
 have c_NoName:=xa3 X G e_NoName
 have c_TooMany:=xa3 X G e_TooMany
 have c_NoChange:=xa3 X G e_NoChange
 have c_NoFrame:=xa3 X G e_NoFrame
 have c_NoValue:=xa3 X G e_NoValue
 have c_Unlike:=xa3 X G e_Unlike
 have c_NoRatio:=xa3 X G e_NoRatio
 have c_NoBow:=xa3 X G e_NoBow
 have c_NoRow:=xa3 X G e_NoRow
 refine⟨PySem.W.fnOf "law" "law" (j2 lF) (fX lF) (cF lF) .none kV29 dc29 pm29 an29 cd29 ct29,fun s v=>.of_eq rfl,fun base _ _=>?_⟩
 have k_MOST_LETTERS_is:∃u v,mg "MOST_LETTERS"=some u/\aZ v u/\∀G,Rep K mg G vS v:=⟨_,.int 8,xa3 X G q_MOST_LETTERS,⟨_,rfl⟩,fun _=>rfl⟩
 have k_LETTERS_is:∃u v,mg "LETTERS"=some u/\aZ v u/\∀G,Rep K mg G AT v:=⟨_,.str "abcdefghijklmnopqrstuvwxyz",xa3 X G q_LETTERS,⟨_,rfl⟩,fun _=>rfl⟩
 have k_NO_NAMES_is:∃u v,mg "NO_NAMES"=some u/\aZ v u/\∀G,Rep K mg G vU v:=⟨_,.ref a_NO_NAMES,xa3 X G q_NO_NAMES,rfl,fun _=>ZP (l:=[("x",t0_NO_NAMES),("rule",t1_NO_NAMES),("times",t2_NO_NAMES),("end",t3_NO_NAMES)]) lq_NO_NAMES rfl (show 4<=100 by decide)⟩
 have k_MOST_WITHIN_is:∃u v,mg "MOST_WITHIN"=some u/\aZ v u/\∀G,Rep K mg G sL v:=⟨_,.int 4,xa3 X G q_MOST_WITHIN,⟨_,rfl⟩,fun _=>rfl⟩
 have k_MOST_TIMES_is:∃u v,mg "MOST_TIMES"=some u/\aZ v u/\∀G,Rep K mg G nX v:=⟨_,.int 60,xa3 X G q_MOST_TIMES,⟨_,rfl⟩,fun _=>rfl⟩
 have k_MOST_PARAMS_is:∃u v,mg "MOST_PARAMS"=some u/\aZ v u/\∀G,Rep K mg G pL v:=⟨_,.int 8,xa3 X G q_MOST_PARAMS,⟨_,rfl⟩,fun _=>rfl⟩
 have k_MOST_RULES_is:∃u v,mg "MOST_RULES"=some u/\aZ v u/\∀G,Rep K mg G sR v:=⟨_,.int 20,xa3 X G q_MOST_RULES,⟨_,rfl⟩,fun _=>rfl⟩
 have GR:=Rdr.rdg (P:=l.prog) (w:=w) (base:=base) (xa3 X G rA) ⟨⟨rB,rC,rD,rE⟩,rn0,rn1⟩ rF rG rm0 rm1 rm2 n_len
 have G0:aT l.prog w K mg base 65 "_law_texts" lC:=zdu (k:=0) F0 n_str n_list
 have G1:=zdv (k:=65) F1 G0
 have G2:aT l.prog w K mg base 1 "_law_many_rules" jC:=zdw (k:=0) F2 n_range
 have G3:=zdx (k:=1) F3 G2
 have G4:aT l.prog w K mg base 1 "_law_cell" fK:=zdy (k:=0) F4 n_len
 have G5:aT l.prog w K mg base 1 "_law_mixed" kF:=zdz (k:=0) F5
 have G6:=zdA (k:=1) F6 n_range G5
 have G7:=zdB (k:=2) F7 n_range n_int G6
 have G8:aT l.prog w K mg base 1 "_law_row" nZ:=zdC (k:=0) F8 n_len n_tuple
 have G9:=zdD (k:=2) F9 n_range n_len n_int n_tuple G6 (G8.mono (by decide:1<=2))
 have G10:=zdE (k:=67) F10 n_range n_len n_int n_tuple (G6.mono (by decide:2<=67)) G9
 have G11:=zdF (k:=68) F11 n_tuple (G6.mono (by decide:2<=68)) (G4.mono (by decide:1<=68)) (G7.mono (by decide:3<=68)) G10 (G9.mono (by decide:67<=68))
 have G12:aT l.prog w K mg base 1 "is_word" pJ:=zdG (k:=0) F12 n_isinstance n_str n_len n_all k_MOST_LETTERS_is k_LETTERS_is
 have G13:=zdH (k:=1) F13 k_NO_NAMES_is G12
 have G14:=zdI (k:=2) F14 c_NoText y_NoText x_NoText n_all G13
 have G15:=zdJ (k:=3) F15 c_NoText y_NoText x_NoText (Rdr.RdF.mono (Rdr.RdG.F GR) (by decide:2<=3))
 have G18:Rdr.FnAtR l.prog w K mg base 29 "read_rows" CR 0 jU:=Rdr.rec3 (k:=5) (Rdr.FA.badR (k:=4) F18 (N:=["reader","within","rows"]) ⟨rfl,rfl,rfl,by decide +kernel,rfl,by decide +kernel,by decide +kernel⟩) (fun l' _ hl F=>zdM (k:=l') F18 c_NoText y_NoText x_NoText (Rdr.RdF.mono (Rdr.RdG.F GR) (xah (by decide:2<=5) hl)) n_len n_tuple F) (fun l' _ hl F=>zdL (k:=l') F17 c_NoText y_NoText x_NoText (Rdr.RdF.mono (Rdr.RdG.F GR) (xah (by decide:2<=5) hl)) n_len n_tuple F (G14.mono (xah (by decide:3<=5) hl))) (fun l' _ hl F=>zdK (k:=l') F16 c_NoText y_NoText x_NoText (Rdr.RdF.mono (Rdr.RdG.F GR) (xah (by decide:2<=5) hl)) n_len n_range n_str n_int k_MOST_WITHIN_is k_MOST_TIMES_is F (G15.mono (xah (by decide:4<=5) hl))) 8
 have G19:aT l.prog w K mg base 1 "rows_of" g8:=zdN (k:=0) F19 c_NoText y_NoText x_NoText n_isinstance n_str
 have G20:aT l.prog w K mg base 1 "unlike" fD:=zdO (k:=0) F20 n_len n_set
 have G21:=zdP (k:=29) F21 c_NoText y_NoText x_NoText (Rdr.RdF.mono (Rdr.RdG.F GR) (by decide:2<=29)) n_len n_tuple k_MOST_PARAMS_is (G14.mono (by decide:3<=29)) (G20.mono (by decide:1<=29)) G18 (G15.mono (by decide:4<=29))
 have G22:=zdQ (k:=30) F22 c_NoText y_NoText x_NoText (Rdr.RdG.mono GR (by decide:2<=30)) n_len n_tuple k_MOST_RULES_is (G19.mono (by decide:1<=30)) G21 (G20.mono (by decide:1<=30)) (G18.mono (by decide:29<=30))
 have G23:=zdR (k:=31) F23 n_isinstance n_tuple n_len (G2.mono (by decide:1<=31)) G22
 have G24:aT l.prog w K mg base 1 "_law_alone" n8:=zdS (k:=0) F24 c_NoPlace c_Same c_NoFloor c_Endless c_NoDeed c_NoText c_NoName c_TooMany c_NoChange c_NoFrame c_NoValue c_Unlike c_NoRatio c_NoBow c_NoRow c_ChalkError n_int n_isinstance n_ValueError
 have G25:=zdT (k:=31) F25 c_ChalkError c_NoText n_isinstance G22 (G24.mono (by decide:1<=31))
 have G26:=zdU (k:=32) F26 n_isinstance n_tuple G25 (G22.mono (by decide:31<=32))
 have G27:aT l.prog w K mg base 1 "_law_bad_rows" mR:=zdV (k:=0) F27
 have G28:=zdW (k:=1) F28 n_len G27
 exact YV (zdX (P:=l.prog) (w:=w) (base:=base) (k:=69) F29 n_isinstance n_tuple n_range n_max n_min n_len (G1.mono (by decide:66<=69)) G11 (G22.mono (by decide:31<=69)) (G23.mono (by decide:32<=69)) (G6.mono (by decide:2<=69)) (G4.mono (by decide:1<=69)) (G26.mono (by decide:33<=69)) (G3.mono (by decide:2<=69)) (G5.mono (by decide:1<=69)) (G25.mono (by decide:32<=69)) (G28.mono (by decide:2<=69))) hlaw
end Kx
structure PySem.W.Fast:Prop where
 (tw10011653384072465564 tw10025661155715289866 tw10052917915036540110 tw10053124674961454682 tw10062040221709003514 tw10075831627254237915 tw10083111481629789518 tw10195018757020262347 tw10199211172855080665 tw1027958978440203052 tw10369368676898218131 tw10382281691284676420 tw10424618283951268566 tw10458261294484792213 tw10464120418524963758 tw10466895736565740056 tw10475939401828808990 tw10476073844751414666 tw10519248570482566955 tw10528336162285462662 tw10540188437322607969 tw10547723680073324605 tw1055901706145529009 tw10603762546236491375 tw10696222210873373252 tw10720217211299270580 tw10720708840451574895 tw10746223666519088811 tw10766116930757288574 tw10789604063579322699 tw10855292556645999347 tw10861934832429133414 tw10872846205906662924 tw10972059225959429568 tw10972665513613416419 tw1101171611834203345 tw1102172443225602558 tw11069243830105081536 tw11230197495306357492 tw11287068777795464180
  tw11292423057578406684 tw11346331207326373141 tw11405952309689579684 tw11444663010430845250 tw1148457057370968259 tw11543262062756474028 tw11571064433830041999 tw11733098883441933672 tw12044010566905184325 tw12139935198573716816 tw12171803625553086396 tw12243784069202116983 tw12304384934575894907 tw12312971196947464844 tw12367628380898236571 tw12388785577192294883 tw12418041024273947496 tw12424727104025602270 tw12449514346779581378 tw12469260436883616469 tw12480256151328376538 tw12567341020530451099 tw12591019548979700818 tw12593538474990012946 tw12606034900120008393 tw12674039778961284045 tw12713851616088763543 tw12751183791534920056 tw12751729012879836538 tw1276961398535535566 tw12774032025639235581 tw12800484187775479343 tw12804391856055005285 tw12873316534011641355 tw129077363686964640 tw12994775003753936849 tw12997374064228191741 tw13011367759320081437 tw13083974727960372815 tw13088321170687866429
  tw13101271586108507455 tw13105539097531006922 tw13114990003669282662 tw13136026823007744789 tw13149229239090183753 tw13167563727989302789 tw13188871702847839812 tw13217473726225250585 tw13226749387471632975 tw13273639749808365108 tw13285871045312512107 tw13305025646618543780 tw1331105560357660008 tw13382535325583364770 tw13408101932862072846 tw13493717653384762158 tw13532649295837366618 tw13639870386163170338 tw13679298948719834451 tw13683821258736576620 tw13787525288685592682 tw13819246049896217168 tw13821444956324707694 tw13858015036024133179 tw14048872852129372506 tw14125359117291482880 tw1416144188293308674 tw14175848463329350094 tw14180193471173327567 tw14182312869438705214 tw14184564827573450268 tw14186517361355995469 tw14192059695677235755 tw14194264179344946597 tw14282644146954857429 tw14326444274618660025 tw14332278209740360772 tw14412514601685011817 tw14456667117798349406 tw14486015260566280438
  tw14486888040720641131 tw14501240971484884326 tw14530335634069743043 tw14535863891163374048 tw14557596977057741007 tw14558595554417111826 tw14579593759703080888 tw14587840201782375619 tw14620403271936312883 tw14655365200666778816 tw14714436865437528385 tw14755065311606590066 tw14832584076569102241 tw14863764719387866787 tw14902618787957762452 tw14929440610962929492 tw14964370583296117972 tw14977278041120394801 tw15037734337487201379 tw15057385199273954434 tw15113665202759352677 tw15118457509774414723 tw1526828312837639598 tw1532343905515676719 tw1539947702939375213 tw15405720376264324074 tw15437903910739592174 tw15472976926400318641 tw15512685816355311073 tw15550588485462698840 tw15559921906670715354 tw15575922382288000718 tw15681441331145909400 tw15682574895527242973 tw15687757596661991803 tw15749496110386332258 tw15825187277721771803 tw15838515273591613306 tw15900937384513341899 tw15901755722860534037
  tw15919954783846240231 tw15953559093177836230 tw16005508845888314197 tw16046270608207549011 tw16063068017091275680 tw16073920010479589800 tw16119645987338229549 tw16127049627062597749 tw16137556539328866917 tw16144654189889275338 tw16182728295892311154 tw16189974408329295411 tw16200299704569740921 tw1621147318938600921 tw16272456426610741379 tw16314930572245818315 tw16323215042358081926 tw16365418723999729326 tw1643912017547228713 tw16456139511510959906 tw16484184516991483326 tw16503812888195825463 tw16525434246860174673 tw16528918765281212607 tw16577965414086241229 tw16598125219315453931 tw1663506471023798933 tw16681464613098898227 tw16688877569852797759 tw16696003786914259297 tw16737148939380169004 tw16807495587036385009 tw16846528630220293029 tw16848735446655427671 tw16866147822823453652 tw16879538681306776720 tw16883479786260884356 tw16905905043125145807 tw16955265955904189315 tw16958741700579154848
  tw17033846132658312213 tw17062243031292554878 tw17069793316929918664 tw17146609727193827011 tw17186653083129323180 tw17210471124399702956 tw17260946493309093414 tw17412834584931309338 tw17413734618755073273 tw17451970406157661140 tw17484411243525196542 tw17519669000740346921 tw17544213139353995939 tw17554968409061958379 tw17637513605239231844 tw17650354671868109923 tw17677231609196882511 tw17704854093451369514 tw17710536665589910479 tw1771896122451603173 tw17798743693278304277 tw17800579738461043337 tw17810966164215987703 tw17835422188752402531 tw17872643023737077785 tw17877487885319025134 tw17938934122078144346 tw18024190160469942671 tw18116600975482434174 tw18128554595808057140 tw18143353636280862061 tw18159680064553539411 tw18174650217226206693 tw18221080277980865581 tw18241396132247232688 tw1825164212419538020 tw18283503299577571131 tw18302381066080821443 tw18306121060747851627 tw18329908607877432358
  tw1839051478431538672 tw18393179887123185457 tw1841712120121703568 tw186205561166737108 tw191316330543696395 tw1925224916176257306 tw1973574212722376488 tw1997638399643809027 tw2024572514955291661 tw2036827543523147312 tw2106325473320471012 tw2143584635011793410 tw218138988223748443 tw2270349660018154703 tw230919233304602169 tw2324602577834401598 tw2368081394376475461 tw238877820331704621 tw2448659714531533938 tw2460124499103412377 tw2479837761932949184 tw2480347699768363023 tw2496989358879248106 tw2503016525292730853 tw2520455953968269996 tw2550413319257904218 tw2596159441408342919 tw2609593801259578565 tw2680679108751682389 tw2721720082884216018 tw2724554857549882023 tw2733416169011658359 tw2793969155168137822 tw2807221289409474992 tw2814367781409618338 tw2819427269987835178 tw2877867093363530835 tw2884190865527054403 tw2891452155317654940 tw2898312508625612822
  tw2949370345432155590 tw2951114196781200056 tw2972024523422765494 tw2987837032211230223 tw307884659458244871 tw3082532891743252365 tw3099000435215212253 tw3110764101753504917 tw3135226715083914678 tw3151690726974504000 tw3200492113019518798 tw3243997366576803358 tw3300486875939070766 tw3308561500840530160 tw3407546608603477691 tw3412154227156612437 tw3442759096051930997 tw345830683690586419 tw3621307358363283021 tw3737312304066786067 tw3785853822718847073 tw3827082575364273974 tw3859302559121087417 tw3864773526717780437 tw3892681843464156250 tw3922843327179836247 tw3941888923330995419 tw3953246881579683978 tw4012334153514179297 tw40363019932749133 tw4054756378874382604 tw4065481951267339380 tw406860099727883015 tw408899686946952551 tw4090889738918633574 tw4096428218045058022 tw4143253998034351331 tw4245859516571510510 tw4264230320895599037 tw4265376104476555265
  tw4325744282149901020 tw4357806394033088551 tw4372087846543579942 tw4380602825337740539 tw4445829064808830453 tw4474969070066003563 tw4479418525650698949 tw4480106702992156822 tw460936429687892975 tw461442228439108104 tw4639203640000680495 tw4651662553462336701 tw4651843962802337273 tw4665729532380568382 tw4737060150119604821 tw4768168452270549251 tw4802511108021822484 tw4823880740585000485 tw4862399071751999708 tw4892254409013515850 tw4924765641351336086 tw4946065127253595651 tw4965809190375840463 tw5061658312711571088 tw5124916800606246701 tw5168692898786770236 tw5220758120284029051 tw5222780488643116913 tw5290488824463024367 tw5317991981479409376 tw5336802631197386396 tw5362941529671556374 tw5364789068990084455 tw5422349543586981635 tw5544640450025365299 tw5634100574359019506 tw5712748179449504854 tw5720931576123079473 tw5768453604317826035 tw5795033086014580894
  tw5872843994434284293 tw5919705254539031895 tw5952425075434212602 tw5996122137075060012 tw6025886620161873571 tw6146882417658963775 tw6151084412137027677 tw6155093602367394010 tw6167337393820157163 tw6219989473610260146 tw6226920703385501744 tw6233258308542335937 tw6302524671631691067 tw6361120255634044661 tw6390286898654572131 tw642429081465130482 tw6433094513547349361 tw6454103143050883003 tw6479584019023044885 tw6554067803148445225 tw656017555847327415 tw6577098537371095409 tw6580401447733973218 tw6627597022638036431 tw6641151663586495571 tw6660848524421691412 tw6706016122967628351 tw6774543040162066399 tw6801335645302312339 tw6830188630957487464 tw686501981012385173 tw6941442077933959908 tw694149928152508788 tw6961333092864258437 tw696183374668824006 tw7046525398885002306 tw7138299676803546388 tw7196985433728736469 tw7200298339589116202 tw7283872741197384918
  tw7289511146505211568 tw7376003175300755830 tw7466935513214889796 tw7560915691349671448 tw761214401727118572 tw7621292279659932938 tw7623809265548732054 tw7626960565277441857 tw7629012290128094981 tw764626764966289692 tw7719284664401123726 tw7719361325505273793 tw7722170754321274061 tw780675975316026211 tw7872104741704892105 tw7908232019822878015 tw7957766072738512176 tw7972719365037277454 tw8020923734195309111 tw8148971597358245852 tw8189094491847612239 tw8247360705626950435 tw8276292059046145979 tw8285425535842101757 tw8289044670250533901 tw8306381462009080536 tw8325939034411222678 tw8350111708461683767 tw8367759213188040931 tw8379420268636699801 tw8379832485063938894 tw8395295397719236186 tw8413553008486709730 tw8423370991043075741 tw846841323271293482 tw8545195747116367979 tw8556804581382721943 tw8656816451666103809 tw8681300327980812394 tw871431851509923784
  tw871689425595863070 tw872132594353588555 tw8845982241578386704 tw8850311473271495739 tw8858534220130741468 tw8878453965782895900 tw8878975829924165784 tw8895064067798039741 tw8950121376750288980 tw8991346187881757923 tw8991558275894217630 tw8995525365650512027 tw9028249469916249782 tw9078713805442700656 tw9096562273987407589 tw9125223521938469861 tw9138495232926119034 tw9207941986234542152 tw9225646449075651064 tw9245318265467730051 tw9327317687899284817 tw9344423912553817993 tw9348863811844421073 tw9404501475259312044 tw9514949692285169905 tw9528938711085269022 tw9569893950332329155 tw9614724328345341230 tw9616566440156353969 tw9620839256305557479 tw9628394533797334796 tw9637813296729072274 tw9648881005769707873 tw9763590685089424650 tw9792679341752209596 tw9835948976771984017 tw9842415318479657845 tw9953128807777607475:True)
open PySem.W PyProof.Rows
local macro_rules | `(tactic| walk_at "FD")=>`(tactic| (refine' DL.FD.mk' ?a ?l ?c ?k;(case a=>k_is);(case l=>k_is);(case c=>k_is);(case k=>k_is)))
local macro_rules | `(tactic| walk_at "RD")=>`(tactic| (refine' Rdr.MD.mk' ?a ?i ?l ?c ?k;(case a=>k_is);(case i=>k_is);(case l=>k_is);(case c=>k_is);(case k=>k_is)))
local macro_rules | `(tactic| walk_at "NR")=>`(tactic| first|(refine' DL.NR.ff ?h ?a ?t;(case h=>decide);(case a=>k_is);(case t=>kit_is))|(refine' DL.NR.tt ?h ?a ?t ?u;(case h=>decide);(case a=>k_is);(case t=>kit_is);(case u=>kts_exm))|(refine' DL.NR.no ?a;(case a=>k_is)))
local macro_rules | `(tactic| walk_at "XD")=>`(tactic| (refine' DL.XD.mk' ?e ?y ?g ?i ?b ?o ?a ?s ?t ?v ?r0 ?r1 ?r2 ?r3 ?r4 ?r5 ?r6 ?r7 ?r8 ?r9 ?r10 ?r11 ?r12 ?r13 ?r14 ?r15;(case e=>k_is);(case y=>k_exc);(case g|i|b|o|a|s|t=>k_is);(case v=>kit_is);(case r0|r1|r2|r3|r4|r5|r6|r7|r8|r9|r10|r11|r12|r13|r14|r15=>walk_at "NR")))
set_option maxRecDepth 100000 in
set_option maxHeartbeats 0 in
theorem PySem.Challenge.cw_chalkline_k33_no_drawing_holds : PySem.Challenge.rw_chalkline_k33_no_drawing.Holds := by
 w_on;o_law;k_head;(case hw=>w_witness2)
 k_fill
 refine DL.walkD (l:=PySem.Challenge.rw_chalkline_k33_no_drawing) 70 ⟨rfl,by decide,by decide⟩ rfl rfl (fun w h Y=>PySem.W.kIn_of Y) ?F
 case F=>
  intro w mg fa h KX G hmg
  refine' Kx.all_mk KX G hmg ?d0 ?d1 ?d2 ?d3 ?d4 ?d5 ?d6 ?d7 ?d8 ?d9 ?d10 ?d11 ?d12 ?d13 ?d14 ?d15 ?d16 ?d17 ?d18 ?d19 ?d20 ?d21 ?d22 ?d23 ?d24 ?d25 ?d26 ?d27 ?d28 ?a29 ?l29 ?c29 ?k29 ?rA ?rB ?rC ?rD ?rE ?rF ?rG ?rn0 ?rn1 ?rm0 ?rm1 ?rm2 ?xd_NoText ?z_str ?z_list ?z_range ?z_len ?z_int ?z_tuple ?z_isinstance ?z_all ?z_set ?z_ValueError ?z_max ?z_min ?e_ChalkError ?e_NoPlace ?e_Same ?e_NoFloor ?e_Endless ?e_NoDeed ?e_NoName ?e_TooMany ?e_NoChange ?e_NoFrame ?e_NoValue ?e_Unlike ?e_NoRatio ?e_NoBow ?e_NoRow ?q_MOST_LETTERS ?q_LETTERS ?q_NO_NAMES ?lq_NO_NAMES ?q_MOST_WITHIN ?q_MOST_TIMES ?q_MOST_PARAMS ?q_MOST_RULES ?hlaw
  (case d0|d1|d2|d3|d4|d5|d6|d7|d8|d9|d10|d11|d12|d13|d14|d15|d16|d17|d18|d19|d20|d21|d22|d23|d24|d25|d26|d27|d28=>walk_at "FD")
  (case a29|l29|c29|k29|rA|rB|rC|rD|rE|rF|rG|rn0|rn1=>k_is)
  (case rm0|rm1|rm2=>walk_at "RD")
  (case xd_NoText=>walk_at "XD")
  (case z_str|z_list|z_range|z_len|z_int|z_tuple|z_isinstance|z_all|z_set|z_ValueError|z_max|z_min|e_ChalkError|e_NoPlace|e_Same|e_NoFloor|e_Endless|e_NoDeed|e_NoName|e_TooMany|e_NoChange|e_NoFrame|e_NoValue|e_Unlike|e_NoRatio|e_NoBow|e_NoRow|q_MOST_LETTERS|q_LETTERS|q_NO_NAMES|lq_NO_NAMES|q_MOST_WITHIN|q_MOST_TIMES|q_MOST_PARAMS|q_MOST_RULES=>k_is)
  (case hlaw=>exact Lk33.law_ok)
end