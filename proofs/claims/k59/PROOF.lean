import PyProof.Rows.All
import Wide.All
import OpenK.AllK
import Wide.FinOn
import Lean
import PyProof.EqAt
import PyProof.EqKinds
import PyProof.TupleCall
import PyProof.NeKinds
import KE.KTryMore
import PyProof.NsDelKeeps
import PySem.SetTable
import PyProof.StrLawsChain
import PyProof.StrBlockL
import KE.KIntText
import PyProof.DictTable
import PyProof.SliceStr2
import PyProof.MeetsStr
import PyProof.StrWalks
import PyProof.TupleKey
import PyProof.SetKind
import PyProof.Rows.SetFrom
import PyProof.ZipIter
import PyProof.Rows.ZipGen
import PyProof.LayNew
import PyProof.ExcInit
import PyProof.ExcClass3
import PyProof.EnumFor
import PyProof.EnumMake
import PyProof.EnumStmt
import PyProof.Rows.StrNews
import KE.KDictSum
import KE.KSortTup
import PyProof.DictWalks
import PyProof.DictRoadsH
import PyProof.DictKeyH
import PyProof.AutoSeq1
import KE.KDictOf
import PyProof.AttrMissSeq
import PyProof.Draws
import PyProof.AutoIntG2
import PyProof.Rows.BitMore
import PySem.Challenge.RW_chalkline_k59_sums_drawn
set_option Elab.async false
set_option linter.all false
set_option compiler.extract_closed false
set_option maxRecDepth 100000
set_option maxHeartbeats 1000000
section
open PySem PyProof.Rows
abbrev xFg:=PySem.W.Frag
abbrev xaa:=@wpAny_bind
abbrev xab:=@Option.bind_eq_some_iff
abbrev xad:=@Heap.get?_push_of_some
abbrev xae:=@Nat.lt_of_lt_of_le
abbrev xaf:=@List.getElem?_set_ne
abbrev xag:=@Prod.ext
abbrev xah:=@wpAny_pure
abbrev xai:=@Heap.lt_size
abbrev xaj:=@decide_eq_true
abbrev xak:=@List.length_map
abbrev xal:=@if_neg
abbrev xam:=@List.getElem?_eq_some_iff
abbrev xan:=@List.size_toArray
abbrev xao:=@if_pos
abbrev xap:=@Nat.le_refl
abbrev xaq:=@absurd
abbrev xar:=@decide_eq_false
abbrev xas:=@Option.some.inj
abbrev xat:=@List.mem_cons_of_mem
abbrev xau:=@Bool.and_eq_true
abbrev xav:=@List.length_append
abbrev xaw:=@List.length_cons
abbrev xax:=@Heap.get?_push_size
abbrev xay:=@Nat.ne_of_lt
abbrev xaz:=@List.mem_cons
abbrev xa0:=@of_decide_eq_true
abbrev xa1:=@Nat.le_trans
abbrev xa2:=@List.getElem?_set_self
abbrev xa3:=@List.map_append
abbrev xa4:=@List.map_cons
abbrev xa5:=@Ne.symm
abbrev xa6:=@Nat.ne_of_gt
abbrev xa7:=@List.getElem?_eq_getElem
abbrev xa8:=@Bool.false_ne_true
abbrev xa9:=@Nat.lt_of_le_of_lt
abbrev xba:=@List.mem_cons_self
abbrev xbb:=@PySem.W.mg_none_of
abbrev xbc:=@List.mem_singleton
abbrev xbd:=@List.mem_append_right
abbrev xbe:=@List.not_mem_nil
abbrev xbf:=@List.mem_append
abbrev xbg:=@Option.bind_some
abbrev xbh:=@List.getElem?_append_left
abbrev xbi:=@Nat.zero_le
abbrev xbj:=@List.getElem?_map
abbrev xbk:=@Nat.lt_irrefl
abbrev xbl:=@Heap.get?_update_other
abbrev xbm:=@Int.mul_eq_zero
abbrev xbn:=@List.all_eq_true
abbrev xbo:=@List.mem_of_getElem?
abbrev xbp:=@List.getElem?_cons_zero
abbrev xbq:=@List.reverse_cons
abbrev xbr:=@Option.map_eq_some_iff
abbrev xbs:=@Array.getElem?_eq_some_iff
abbrev xbt:=@List.set_cons_succ
abbrev xbu:=@List.set_cons_zero
abbrev xbv:=@List.nodup_cons
abbrev xbw:=@Option.isSome_iff_exists
abbrev xbx:=@List.map_nil
abbrev xby:=@Int.mul_fdiv_cancel_left
abbrev xbz:=@Nat.lt_succ_of_lt
abbrev xb0:=@PySem.W.mg_of
abbrev xb1:=@List.length_eq_zero_iff
abbrev xb2:=@List.getElem?_cons_succ
abbrev xb3:=@List.length_take
abbrev xb4:=@List.lookup_cons
abbrev xb5:=@List.append_nil
abbrev xb6:=@List.length_nil
abbrev xb7:=@List.getElem?_append_right
abbrev xb8:=@List.drop_eq_getElem_cons
abbrev xb9:=@Int.natAbs_mul
abbrev xca:=@List.length_drop
abbrev xcb:=@List.mem_map
abbrev xcc:=@Array.length_toList
abbrev xcd:=@List.getElem?_replicate
abbrev xce:=@List.find?_cons
abbrev xcf:=@Bool.false_eq_true
abbrev xcg:=@Int.mul_ne_zero
abbrev xch:=@Int.toNat_natCast
abbrev xci:=@Bool.not_eq_true'
abbrev xcj:=@Heap.size_push
abbrev xck:=@Nat.lt_succ_self
abbrev xcl:=@List.getElem_mem
abbrev xcm:=@Nat.le_add_right
abbrev xcn:=@Int.fdiv_eq_ediv_of_nonneg
abbrev xco:=@List.getD_eq_getElem?_getD
abbrev xcp:=@List.filterMap_cons
abbrev xcq:=@List.getD_cons_succ
abbrev xcr:=@Int.eq_of_mul_eq_mul_left
abbrev xcs:=@Option.map_some
abbrev xct:=@Array.getElem?_eq_getElem
abbrev xcu:=@Nat.le_of_lt
abbrev xcv:=@Int.natAbs_natCast
abbrev xcw:=@List.map_map
abbrev xcx:=@Bool.not_false
abbrev xcy:=@Nat.eq_zero_of_zero_dvd
abbrev xcz:=@Nat.gcd_dvd_right
abbrev xc0:=@Option.isSome_map
abbrev xc1:=@Nat.le_mul_of_pos_left
abbrev xc2:=@List.any_cons
abbrev xc3:=@Bool.not_true
abbrev xc4:=@Nat.gcd_dvd_left
abbrev xc5:=@List.drop_length
abbrev xc6:=@List.cons_append
abbrev xc7:=@List.length_replicate
abbrev xc8:=@Int.natAbs_dvd_natAbs
abbrev xc9:=@List.eq_nil_or_concat
abbrev xda:=@List.concat_eq_append
abbrev xdb:=@Int.zero_sub
abbrev xdc:=@Nat.blt_eq
abbrev xdd:=@Nat.zero_add
abbrev xde:=@Bool.or_eq_false_iff
abbrev xdf:=@Nat.add_comm
abbrev xdg:=@Int.le_of_lt
abbrev xdh:=@List.nil_append
abbrev xdi:=@List.dropLast_concat
abbrev xdj:=@List.getElem?_range
abbrev xdk:=@List.nodup_nil
abbrev xdl:=@Nat.le_succ
end
open PySem
section
namespace L2
open PySem.Spec PyProof.Rows
abbrev Key:=Sum Int Str
def nH:Key->Value->Bool
 |.inl k,v=>Value.isInt k v
 |.inr x,v=>Value.isStrOf x v
def QV(w:World):Key->Int
 |.inl k=>hashInt k
 |.inr x=>hashStr w x
theorem jO:∀{k:Key} {v:Value},nH k v=true->(∃i t,k=Sum.inl i/\v=Value.int i t)\/(∃x t,k=Sum.inr x/\v=Value.str x t)
 |.inl i,v,h=>by
  obtain⟨t,e⟩:=Value.isInt_shape (k:=i) (v:=v) h
  exact .inl ⟨i,t,rfl,e⟩
 |.inr x,v,h=>by
  obtain⟨t,e⟩:=Value.isStrOf_shape (x:=x) (v:=v) h
  exact .inr ⟨x,t,rfl,e⟩
theorem QW(i:Int)(t:Tok):nH (.inl i) (.int i t)=true:=by simp[nH,Value.isInt]
theorem QX(x:Str)(t:Tok):nH (.inr x) (.str x t)=true:=by simp[nH,Value.isStrOf]
theorem QY(a b:Int):decide ((Sum.inl a:Key)=Sum.inl b)=(a==b):=by
 by_cases e:a=b
 ·subst e;simp
 ·have h:¬(Sum.inl a:Key)=Sum.inl b:=fun q=>e (Sum.inl.inj q)
  rw[xar h]
  exact(beq_eq_false_iff_ne.mpr e).symm
theorem QZ(a b:Str):decide ((Sum.inr a:Key)=Sum.inr b)=decide (a=b):=by
 by_cases e:a=b
 ·subst e;simp
 ·have h:¬(Sum.inr a:Key)=Sum.inr b:=fun q=>e (Sum.inr.inj q)
  rw[xar h,xar e]
theorem Q0(a:Int)(b:Str):decide ((Sum.inl a:Key)=Sum.inr b)=false:=xar (fun q=>nomatch q)
theorem Q1(a:Str)(b:Int):decide ((Sum.inr a:Key)=Sum.inl b)=false:=xar (fun q=>nomatch q)
def eR(prog:Program)(w:World):PySem.KeyKind prog w Key where
 is:=nH
 hash:=QV w
 inj:=fun v a b ha hb=>by
  rcases jO ha with⟨i,t,rfl,rfl⟩|⟨x,t,rfl,rfl⟩
  ·rcases jO hb with⟨j,u,rfl,e⟩|⟨y,u,rfl,e⟩
   ·injection e with e1 _;rw[e1]
   ·exact nomatch e
  ·rcases jO hb with⟨j,u,rfl,e⟩|⟨y,u,rfl,e⟩
   ·exact nomatch e
   ·injection e with e1 _;rw[e1]
 byValue:=fun k v h=>by
  rcases jO h with⟨i,t,rfl,rfl⟩|⟨x,t,rfl,rfl⟩<;>rfl
 pyHash:=fun hv h=>by
  rcases jO hv with⟨i,t,rfl,rfl⟩|⟨x,t,rfl,rfl⟩
  ·exact wpAny_pyHash_int h
  ·exact wpAny_pyHash_str h
 eqBool:=fun hu hv h=>by
  rcases jO hu with⟨i,t,rfl,rfl⟩|⟨x,t,rfl,rfl⟩
  ·rcases jO hv with⟨j,u,rfl,rfl⟩|⟨y,u,rfl,rfl⟩
   ·rw[QY] at h;exact wpAny_eqBool_int h
   ·rw[Q0] at h;exact SeqAt.EqAt.int_str i t y u _ _ _ _ h
  ·rcases jO hv with⟨j,u,rfl,rfl⟩|⟨y,u,rfl,rfl⟩
   ·rw[Q1] at h;exact SeqAt.EqAt.str_int x t j u _ _ _ _ h
   ·rw[QZ] at h;exact wpAny_eqBool_str h
 «strs»:=fun k x t v h=>by
  rcases jO h with⟨i,u,rfl,e⟩|⟨y,u,rfl,e⟩
  ·exact nomatch e
  ·injection e with e1 _
   subst e1
   cases v<;>rfl
theorem Q2(prog:Program)(w:World)(i:Int)(t:Tok):(eR prog w).is (.inl i) (.int i t)=true:=QW i t
theorem Q3(prog:Program)(w:World)(x:Str)(t:Tok):(eR prog w).is (.inr x) (.str x t)=true:=QX x t
end L2
namespace L2
open PySem.Spec PyProof.Rows
inductive V where
 |non|bl (b:Bool)|int (i:Int)|str (x:Str)|byt (b:Array UInt8)|flt (b:UInt64)|ref (a:Addr)|ty (n:String)
 deriving DecidableEq
def aJ:V->Value->Prop
 |.non,u=>u=Value.none
 |.bl b,u=>u=Value.bool b
 |.int i,u=>∃t,u=Value.int i t
 |.str x,u=>∃t,u=Value.str x t
 |.byt b,u=>∃t,u=Value.bytes b t
 |.flt b,u=>∃t,u=Value.float b t
 |.ref a,u=>u=Value.ref a
 |.ty n,u=>u=Value.type n
abbrev aP:List V->List Value->Prop:=Paired aJ
theorem aP.length{xs:List V}{us:List Value}(r:aP xs us):xs.length=us.length:=Paired.length r
theorem aP.get:∀{xs:List V} {us:List Value} {i:Nat} {x:V},aP xs us->xs[i]? = some x->∃u,us[i]? = some u/\aJ x u
 |_,_,_,_,.nil,e=>by simp at e
 |_,_,0,_,.cons r _,e=>by simp at e;subst e;exact⟨_,rfl,r⟩
 |_,_,i+1,x,.cons _ t,e=>by
  obtain⟨u,h1,h2⟩:=aP.get (i:=i) (x:=x) t (by simpa using e)
  exact⟨u,by simpa using h1,h2⟩
theorem aP.append:∀{xs ys:List V} {us ws:List Value},aP xs us->aP ys ws->aP (xs++ys) (us++ws)
 |_,_,_,_,.nil,s=>s
 |_,_,_,_,.cons r t,s=>.cons r (aP.append t s)
theorem aP.take:∀{xs:List V} {us:List Value} (n:Nat),aP xs us->aP (xs.take n) (us.take n)
 |_,_,0,_=>.nil
 |_,_,_+1,.nil=>.nil
 |_,_,n+1,.cons r t=>.cons r (aP.take n t)
theorem aP.drop:∀{xs:List V} {us:List Value} (n:Nat),aP xs us->aP (xs.drop n) (us.drop n)
 |_,_,0,r=>r
 |_,_,_+1,.nil=>.nil
 |_,_,n+1,.cons _ t=>aP.drop n t
def eJ:Option V->Option Value->Prop
 |some v,some u=>aJ v u
 |none,none=>True
 |_,_=>False
def KV{κ:Type}:List (κ×V)->List (κ×Value)->Prop:=Paired fun (p:κ×V) (q:κ×Value)=>p.1=q.1/\aJ p.2 q.2
def kV:Key->V
 |.inl i=>.int i
 |.inr x=>.str x
inductive HO where
 |lst (xs:List V)
 |tup (xs:List V)
 |dK (kvs:List (Key×V))|dT (kvs:List (List Key×V))
 |set (S:Int->Bool) (n:Nat)
 |ins (C dx:Addr) (fs:List (Str×V))
 |own (x:Addr)
 |xd (fs:List (Str×V))
 |met (f x:Addr)
 |rng (lo hi:Int)
 |frz (o:Obj) (u:HO)
 |tbl (ps:Array Value)
 |ext (φ:Heap->Prop)
abbrev Hp:=Addr->Option HO
def upd(H:Hp)(a:Addr)(o:HO):Hp:=fun b=>if b=a then some o else H b
theorem aV{H:Hp}{a:Addr}{o:HO}:upd H a o a=some o:=by unfold upd;rw[xao rfl]
theorem aG{H:Hp}{a b:Addr}{o:HO}(h:b≠a):upd H a o b=H b:=by unfold upd;rw[xal h]
theorem jP{H:Hp}{a b:Addr}{o u:HO}(h:H a=some o)(h':H b=some u)(d:o≠u):a≠b:=by
 intro e;subst e;rw[h] at h';exact d (xas h')
theorem bN{H:Hp}{a b:Addr}{o:HO}(h:H a=some o)(h':H b=none):a≠b:=by
 intro e;subst e;rw[h] at h';cases h'
def kP(h:Heap)(a:Addr)(items:Array Value):Prop:=∃o,h.get? a=some o/\o.cls=.type "tuple"/\(∃n,o.data=.seq items n)/\o.dict=none
theorem kP.tup{h:Heap}{a:Addr}{items:Array Value}(x:kP h a items):IsTup h a items:=by
 obtain⟨o,e,c,d,_⟩:=x;exact⟨o,e,c,d⟩
theorem kP.new(h:Heap)(items:Array Value):kP (h.push { cls:=.type "tuple",data:=.seq items }) h.objs.size items:=⟨_,xax h rfl,rfl,⟨0,rfl⟩,rfl⟩
section
variable(P:Program)(w:World)
def c6(H:Hp)(h:Heap)(a:Addr):HO->Prop
 |.lst xs=>xs.length<=sizeLine/\∃(its:List Value) (n:Nat),aP xs its/\h.get? a=some { cls:=.type "list",data:=.seq its.toArray n }
 |.tup xs=>xs.length<=sizeLine/\∃its:List Value,aP xs its/\kP h a its.toArray
 |.dK kvs=>kvs.length<=sizeLine/\(a==sysModules)=false/\∃vs,KV kvs vs/\h.DictOf (eR P w) a vs
 |.dT kvs=>kvs.length<=sizeLine/\(a==sysModules)=false/\∃xs:List (List Key×Addr×Value),
   Paired (fun (p:List Key×V) (q:List Key×Addr×Value)=>p.1=q.1/\H q.2.1=some (.tup (p.1.map kV))/\aJ p.2 q.2.2) kvs xs/\
   ∃o es ep,h.get? a=some o/\o.ExactDict/\o.data=.dict es ep/\es.toList=xs.map (entryOfKey (tupleKind (eR P w)))/\(xs.map (·.1)).Nodup
 |.set S n=>h.SetOf (intKind P w) a S n
 |.ins C dx fs=>H dx=some (.own a)/\fs.length<=1000/\dx≠a/\h.get? a=some (PySem.W.instObj C dx)/\
   ∃mA,h.Ns1 dx mA/\(∀f,eJ (fs.lookup f) (mA f))/\PySem.Within mA (fs.map (·.1))
 |.own _=>∃o,h.get? a=some o
 |.xd fs=>∃mA,h.Ns1 a mA/\∀f,eJ (fs.lookup f) (mA f)
 |.rng lo hi=>∃t u v,h.get? a=some { cls:=.type "range",data:=.fields #[.int lo t,.int hi u,.int 1 v] }
 |.frz o u=>h.get? a=some o/\c6 H h a u
 |.tbl ps=>h.get? a=some { cls:=.none,data:=.fields ps }
 |.met f x=>h.get? a=some (PySem.W.methodObj (.ref f) (.ref x))
 |.ext φ=>φ h/\(∃o,h.get? a=some o)/\∀h1 h2:Heap,φ h1->(∀o,h1.get? a=some o->h2.get? a=some o)->φ h2
def cG(H:Hp)(h:Heap):Prop:=∀a o,H a=some o->c6 P w H h a o
end
section
variable{P:Program}{w:World}{H H':Hp}{h h':Heap}{a:Addr}{o:HO}
theorem c6.lt(x:c6 P w H h a o):a<h.objs.size:=by
 cases o with
 |lst xs=>obtain⟨_,_,_,_,e⟩:=x;exact xai e
 |tup xs=>obtain⟨_,_,_,p⟩:=x;exact p.tup.lt
 |dK kvs=>obtain⟨_,_,_,_,o,_,_,e,_⟩:=x;exact xai e
 |dT kvs=>obtain⟨_,_,_,_,o,_,_,e,_⟩:=x;exact xai e
 |set S n=>obtain⟨o,_,_,_,e,_⟩:=x;exact xai e
 |ins C dx fs=>obtain⟨_,_,_,e,_⟩:=x;exact xai e
 |own y=>obtain⟨_,e⟩:=x;exact xai e
 |xd fs=>obtain⟨_,⟨_,_,_,e,_⟩,_⟩:=x;exact xai e
 |rng lo hi=>obtain⟨_,_,_,e⟩:=x;exact xai e
 |frz ob u=>obtain⟨e,_⟩:=x;exact xai e
 |tbl ps=>exact xai (show h.get? a=some _ from x)
 |met f y=>exact xai (show h.get? a=some _ from x)
 |ext φ=>obtain⟨_,⟨_,e⟩,_⟩:=x;exact xai e
theorem Paired.mapP{α β:Type}{F G:α->β->Prop}:∀{l₁:List α} {l₂:List β},Paired F l₁ l₂->(∀a b,F a b->G a b)->Paired G l₁ l₂
 |_,_,.nil,_=>.nil
 |_,_,.cons r t,f=>.cons (f _ _ r) (Paired.mapP t f)
theorem c6.stay(x:c6 P w H h a o)(k:∀b u,(b=a\/H b=some (.own a))->h.get? b=some u->h'.get? b=some u)
  (ho:∀b,H b=some (.own a)->H' b=some (.own a)) (ht:∀b xs,H b=some (.tup xs)->H' b=some (.tup xs)):c6 P w H' h' a o:=by
 induction o with
 |lst xs=>obtain⟨z,its,n,r,e⟩:=x;exact⟨z,its,n,r,k _ _ (.inl rfl) e⟩
 |tup xs=>obtain⟨z,its,r,ob,e,c⟩:=x;exact⟨z,its,r,ob,k _ _ (.inl rfl) e,c⟩
 |dK kvs=>obtain⟨z,y,vs,r,ob,es,ep,e,c⟩:=x;exact⟨z,y,vs,r,ob,es,ep,k _ _ (.inl rfl) e,c⟩
 |dT kvs=>
  obtain⟨z,y,xs,r,ob,es,ep,e,c⟩:=x
  exact⟨z,y,xs,Paired.mapP r fun p q z=>⟨z.1,ht _ _ z.2.1,z.2.2⟩,ob,es,ep,k _ _ (.inl rfl) e,c⟩
 |set S n=>obtain⟨ob,es,ep,t,e,c⟩:=x;exact⟨ob,es,ep,t,k _ _ (.inl rfl) e,c⟩
 |ins C dx fs=>
  obtain⟨d,z,ne,e,mA,⟨od,es,ep,e2,c⟩,r⟩:=x
  exact⟨ho _ d,z,ne,k _ _ (.inl rfl) e,mA,⟨od,es,ep,k _ _ (.inr d) e2,c⟩,r⟩
 |own y=>obtain⟨ob,e⟩:=x;exact⟨ob,k _ _ (.inl rfl) e⟩
 |xd fs=>obtain⟨mA,⟨od,es,ep,e,c⟩,r⟩:=x;exact⟨mA,⟨od,es,ep,k _ _ (.inl rfl) e,c⟩,r⟩
 |rng lo hi=>obtain⟨t,u,v,e⟩:=x;exact⟨t,u,v,k _ _ (.inl rfl) e⟩
 |frz ob u ih=>obtain⟨e,q⟩:=x;exact⟨k _ _ (.inl rfl) e,ih q⟩
 |tbl ps=>
  have e:h.get? a=some { cls:=.none,data:=.fields ps }:=x
  show h'.get? a=some { cls:=.none,data:=.fields ps }
  exact k a _ (.inl rfl) e
 |met f y=>
  have e:h.get? a=some (PySem.W.methodObj (.ref f) (.ref y)):=x
  show h'.get? a=some (PySem.W.methodObj (.ref f) (.ref y))
  exact k a _ (.inl rfl) e
 |ext φ=>obtain⟨p,⟨o,e⟩,st⟩:=x;exact⟨st _ _ p fun o q=>k _ _ (.inl rfl) q,⟨o,k _ _ (.inl rfl) e⟩,st⟩
theorem cG.lt(x:cG P w H h)(e:H a=some o):a<h.objs.size:=(x a o e).lt
theorem cG.fresh(x:cG P w H h)(e:h.objs.size<=a):H a=none:=by
 cases q:H a with
 |none=>rfl
 |some u=>exact xaq (xae (x.lt q) e) (xbk _)
theorem cG.kept(x:cG P w H h)(k:∀b u,h.get? b=some u->h'.get? b=some u):cG P w H h':=fun a o e=>
 (x a o e).stay (fun b u _ q=>k b u q) (fun _ q=>q) fun _ _ q=>q
theorem cG.laid(x:cG P w H h)(k:∀b u,h.get? b=some u->h'.get? b=some u)(hp:h.objs.size<=a)(new:c6 P w (upd H a o) h' a o):cG P w (upd H a o) h':=fun b u e=>by
 have hn:=x.fresh hp
 by_cases hb:b=a
 ·subst hb;rw[aV] at e;cases e;exact new
 ·rw[aG hb] at e
  exact(x b u e).stay (fun c v _ q=>k c v q) (fun c q=>by rw[aG (bN q hn)];exact q) fun c xs q=>by rw[aG (bN q hn)];exact q
end
def Rd(H:Hp)(a:Addr)(u:HO):Prop:=H a=some u\/∃o,H a=some (.frz o u)
theorem Rd.ok{P:Program}{w:World}{H:Hp}{h:Heap}{a:Addr}{u:HO}(r:Rd H a u)(x:cG P w H h):c6 P w H h a u:=by
 rcases r with r|⟨o,r⟩
 ·exact x a u r
 ·obtain⟨_,q⟩:=x a _ r
  exact q
def pM:Option HO->Prop
 |some (.lst _)=>True
 |some (.dK _)=>True
 |some (.dT _)=>True
 |some (.set _ _)=>True
 |some (.ins _ _ _)=>True
 |some (.ext _)=>True
 |_=>False
section
variable{P:Program}{w:World}{H:Hp}{h h':Heap}{x e:Addr}{o':HO}
theorem cG.write(ok:cG P w H h)(mu:pM (H x))(he:e=x\/H e=some (.own x))(k:∀b u,b≠e->h.get? b=some u->h'.get? b=some u)(heo:∃u,h'.get? e=some u)
  (new:c6 P w (upd H x o') h' x o'):cG P w (upd H x o') h':=fun b u q=>by
 have nown:∀c y,H c=some (.own y)->c≠x:=fun c y r z=>by subst z;rw[r] at mu;exact mu
 have ntup:∀c xs,H c=some (.tup xs)->c≠x:=fun c xs r z=>by subst z;rw[r] at mu;exact mu
 by_cases hb:b=x
 ·subst hb;rw[aV] at q;cases q;exact new
 ·rw[aG hb] at q
  by_cases hbe:b=e
  ·have q':H b=some (.own x):=by
    rcases he with z|z
    ·exact xaq (hbe.trans z) hb
    ·rw[hbe];exact z
   rw[q] at q';cases q'
   obtain⟨v,hv⟩:=heo
   exact⟨v,by rw[hbe];exact hv⟩
  ·refine(ok b u q).stay (fun c v hc r=>k c v ?_ r) (fun c r=>by rw[aG (nown c b r)];exact r) fun c xs r=>by rw[aG (ntup c xs r)];exact r
   rcases hc with rfl|hc
   ·exact hbe
   ·rintro rfl
    rcases he with z|z
    ·exact nown c b hc z
    ·rw[hc] at z;cases z;exact hb rfl
end
structure Un(fs ex:List Addr)(H H':Hp)(h h':Heap):Prop where
 keep:∀b o,h.get? b=some o->H b=none->b∉fs->b∉ex->h'.get? b=some o
 slot:∀b o,h.get? b=some o->H b=none->b∈fs->b∉ex->∃sl,h'.get? b=some { o with slots:=sl }
 free:∀b o,h.get? b=some o->H b=none->b∉ex->H' b=none
 there:∀b o,h.get? b=some o->b∉ex->∃o',h'.get? b=some o'
 tups:∀b xs,H b=some (.tup xs)->H' b=some (.tup xs)
 frzs:∀b o u,H b=some (.frz o u)->H' b=some (.frz o u)
 tbls:∀b ps,H b=some (.tbl ps)->∃more,H' b=some (.tbl (ps++more))
section
variable{fs fs' ex ex':List Addr}{H H1 H2:Hp}{h h1 h2 h':Heap}{a x e:Addr}{o:HO}
theorem Un.any(u:Un fs ex H H1 h h1){b:Addr}{ob:Obj}(q:h.get? b=some ob)(n:H b=none)(hx:b∉ex):∃sl,h1.get? b=some { ob with slots:=sl }:=by
 by_cases hb:b∈fs
 ·exact u.slot b ob q n hb hx
 ·exact⟨ob.slots,u.keep b ob q n hb hx⟩
theorem Un.kept(k:∀b u,h.get? b=some u->h'.get? b=some u):Un fs ex H H h h':=
 ⟨fun b ob q _ _ _=>k b ob q,fun b ob q _ _ _=>⟨ob.slots,k b ob q⟩,fun _ _ _ n _=>n,fun b ob q _=>⟨ob,k b ob q⟩,fun _ _ q=>q,fun _ _ _ q=>q,fun _ ps q=>⟨#[],by rw[q];simp⟩⟩
theorem Un.refl:Un fs ex H H h h:=Un.kept fun _ _ q=>q
theorem Un.laid(k:∀b u,h.get? b=some u->h'.get? b=some u)(hp:h.objs.size<=a)(hn:H a=none):Un fs ex H (upd H a o) h h' where
 keep:=fun b u q _ _ _=>k b u q
 slot:=fun b u q _ _ _=>⟨u.slots,k b u q⟩
 free:=fun b u q n _=>by rw[aG (xay (xae (xai q) hp))];exact n
 there:=fun b u q _=>⟨u,k b u q⟩
 tups:=fun b xs q=>by rw[aG (bN q hn)];exact q
 frzs:=fun b u xs q=>by rw[aG (bN q hn)];exact q
 tbls:=fun b ps q=>⟨#[],by rw[aG (bN q hn),q];simp⟩
theorem Un.write(mu:pM (H x))(he:e=x\/H e=some (.own x))(k:∀b u,b≠e->h.get? b=some u->h'.get? b=some u)(heo:∃u,h'.get? e=some u):Un fs ex H (upd H x o) h h':=by
 have hx:∀b,H b=none->b≠x:=fun b n z=>by subst z;rw[n] at mu;exact mu
 have hb:∀b,H b=none->b≠e:=fun b n z=>by
  subst z
  rcases he with r|r
  ·exact hx b n r
  ·rw[n] at r;cases r
 have hm:∀b u,H b=some u->¬pM (some u)->b≠x:=fun b u q nm z=>by subst z;rw[q] at mu;exact nm mu
 refine⟨fun b u q n _ _=>k b u (hb b n) q,fun b u q n _ _=>⟨u.slots,k b u (hb b n) q⟩,fun b u q n _=>by rw[aG (hx b n)];exact n,fun b u q _=>?_,
  fun b xs q=>by rw[aG (hm b _ q fun z=>z)];exact q,fun b u xs q=>by rw[aG (hm b _ q fun z=>z)];exact q,fun b ps q=>⟨#[],by rw[aG (hm b _ q fun z=>z),q];simp⟩⟩
 by_cases hbe:b=e
 ·subst hbe;exact heo
 ·exact⟨u,k b u hbe q⟩
end
def trk(h:Heap)(H:Hp):List Addr:=(List.range h.objs.size).filter fun a=>(H a).isSome
def jQ(h:Heap)(H:Hp):Heap:=PySem.W.hideAll h (trk h H)
theorem Q4(h:Heap)(H:Hp):(jQ h H).objs.size=h.objs.size:=PySem.W.hideAll_size _ _
theorem Q5{h:Heap}{H:Hp}{b:Addr}{o:Obj}(e:h.get? b=some o)(n:H b=none):(jQ h H).get? b=some o:=
 PySem.W.hideAll_get _ e fun hm=>by
  have q:(H b).isSome=true:=(List.mem_filter.mp hm).2
  rw[n] at q;simp at q
theorem Q6{h:Heap}{H:Hp}{b:Addr}{o:Obj}(e:(jQ h H).get? b=some o):h.get? b=some o/\H b=none:=by
 have e':h.get? b=some o:=PySem.W.of_hideAll (trk h H) e
 refine⟨e',?_⟩
 cases q:H b with
 |none=>rfl
 |some x=>
  have hm:b∈trk h H:=List.mem_filter.mpr ⟨List.mem_range.mpr (xai e'),by simp[q]⟩
  have z:(jQ h H).get? b=none:=PySem.W.hideAll_none (trk h H) hm
  rw[z] at e;cases e
def Q7(g h:Heap)(L:Addr):List (Addr×Obj):=(List.range h.objs.size).filterMap fun a=>if a=L\/(g.get? a).isSome=true then none else (h.get? a).map fun o=>(a,o)
def aK(g h:Heap)(L d:Addr):List (Addr×Obj):=(Q7 g h L).filter fun p=>decide (p.1≠d)
end L2
namespace L2
open PySem.Spec PyProof.Rows
structure Mod(K:xFg)(mg:Str->Option Value)(base:Heap):Prop where
 kin:K.In base
 glob:base.Ns mainGlobals mg
 blt:∃mb,base.Ns builtinsNs mb/\∀x:Str,x≠"__name__"->mb x=bootBuiltins x
 nolimit:base.NoLimit
structure Cx where
 prog:Program
 w:World
 K:xFg
 mg:Str->Option Value
 base:Heap
 A:Around
 N:List Str
 s₀:Shared
 H₀:Hp
 env:Env
 outer:List Env
 stack:List Env
 ex:List Addr
 fn:Str->Bool
 calm:Bool
 pn:List (Addr×Obj)
 xe:Value->Shared->Prop
def cT(l:List Env):List Addr:=l.filterMap (·.frame)
abbrev Cx.fs(X:Cx):List Addr:=cT X.outer
def cA(sc:Scope)(x:Str):Prop:=sc.names.lookup x=some .local\/sc.names.lookup x=some .cell\/sc.names.lookup x=some .free
def fB(sc:Scope)(x:Str):Prop:=sc.names.lookup x=some .local\/sc.names.lookup x=some .cell
def Q8(env:Env)(h:Heap)(m:Str->Option Value)(x:Str)(u:Value):Prop:=
 (env.kindOf x=some .local/\m x=some u)\/((env.kindOf x=some .cell\/env.kindOf x=some .free)/\∃c,env.cells.lookup x=some c/\h.IsCell c (some u))
structure Cx.Ok(X:Cx):Prop where
 mod:Mod X.K X.mg X.base
 kind:X.env.scope.kind=.function
 glob:X.env.globals=mainGlobals
 blt:X.env.builtins=builtinsNs
 above:X.s₀.heap.objs.size<=X.env.locals
 inj:∀x y c,X.env.cells.lookup x=some c->X.env.cells.lookup y=some c->x=y
 has:∀x,(X.env.kindOf x=some .cell\/X.env.kindOf x=some .free)->∃c,X.env.cells.lookup x=some c
 cab:∀x c,X.fn x=true->X.env.cells.lookup x=some c->X.s₀.heap.objs.size<=c
 hd:X.calm=true->X.A.handled=none
 frames:X.A.frames=some X.stack
 stk:X.stack=X.outer\/(X.stack=X.env::X.outer/\X.env.frame=some X.env.locals)
 exf:∀b∈X.ex,b≠X.env.locals/\∀x c,X.env.cells.lookup x=some c->c≠b
 bs:∀b o,X.base.get? b=some o->X.s₀.heap.get? b=some o/\X.H₀ b=none
 bsz:X.base.objs.size<=X.s₀.heap.objs.size
 noex:∀b o,X.base.get? b=some o->b∉X.ex
 exfs:∀b∈X.ex,b∉X.fs
 funs:X.s₀.heap.FunFrames X.base X.outer
 frf:∀b∈X.fs,X.H₀ b=none
structure Inv(X:Cx)(pins:List (Addr×Obj))(U:List (Option V))(H:Hp)(s:Shared):Prop where
 ok:X.Ok
 os:s.os=X.s₀.os
 bare:AllBare s.gens
 base:Un X.fs X.ex X.H₀ H X.s₀.heap s.heap
 loc:∃m,s.heap.Ns X.env.locals m/\∀(i:Nat) (x:Str) (v:V),X.N[i]? = some x->U[i]? = some (some v)->cA X.env.scope x->∃u,aJ v u/\Q8 X.env s.heap m x u
 cell:∀x c,X.env.cells.lookup x=some c->∃v,s.heap.IsCell c v
 free:H X.env.locals=none
 freeC:∀x c,X.env.cells.lookup x=some c->H c=none
 pin:∀p∈X.pn++pins,s.heap.get? p.1=some p.2/\H p.1=none/\p.1≠X.env.locals/\p.1∉X.fs/\∀v,p.2.data≠.cell v
 hok:cG X.prog X.w H s.heap
 len:U.length=X.N.length
section
variable{X:Cx}{pins:List (Addr×Obj)}{U:List (Option V)}{H H':Hp}{s:Shared}{h':Heap}
theorem Cx.Ok.nofr(ok:X.Ok){b:Addr}{o:Obj}(e:X.base.get? b=some o):b∉X.fs:=fun hb=>by
 have:=(ok.funs.mem hb).1
 rw[e] at this;cases this
theorem Inv.bs(I:Inv X pins U H s):∀b o,X.base.get? b=some o->s.heap.get? b=some o/\H b=none:=fun b o e=>
 ⟨I.base.keep b o (I.ok.bs b o e).1 (I.ok.bs b o e).2 (I.ok.nofr e) (I.ok.noex b o e),I.base.free b o (I.ok.bs b o e).1 (I.ok.bs b o e).2 (I.ok.noex b o e)⟩
theorem Inv.bk(I:Inv X pins U H s):∀b o,X.base.get? b=some o->s.heap.get? b=some o:=fun b o e=>(I.bs b o e).1
theorem Inv.mod(I:Inv X pins U H s):Mod X.K X.mg X.base:=I.ok.mod
theorem Inv.kIn(I:Inv X pins U H s):X.K.In s.heap:=I.ok.mod.kin.keeps I.bk
theorem Inv.fr(I:Inv X pins U H s):∃m,Fr X.base X.env.locals s.heap m:=
 let⟨m,hn,_⟩:=I.loc
 ⟨m,hn,I.bk,xa1 I.ok.bsz I.ok.above⟩
theorem Inv.lt(I:Inv X pins U H s):X.env.locals<s.heap.objs.size:=let⟨_,hn,_⟩:=I.loc;hn.lt
theorem Inv.sz(I:Inv X pins U H s):X.s₀.heap.objs.size<=s.heap.objs.size:=xa1 I.ok.above (xcu I.lt)
theorem Inv.nofs(I:Inv X pins U H s){a:Addr}(h:s.heap.objs.size<=a):a∉X.fs:=fun hb=>by
 obtain⟨_,o,ho,_⟩:=I.ok.funs.mem hb
 exact xaq (xae (xai ho) (xa1 I.sz h)) (xbk _)
theorem Inv.cne(I:Inv X pins U H s):∀x c,X.env.cells.lookup x=some c->c≠X.env.locals:=fun x c e z=>by
 obtain⟨v,o,ho,hd⟩:=I.cell x c e
 obtain⟨m,⟨o',es,ep,ho',hd',_⟩,_⟩:=I.loc
 rw[z,ho'] at ho;cases ho;rw[hd'] at hd;cases hd
theorem Inv.funs(I:Inv X pins U H s):s.heap.FunFrames X.base X.outer:=by
 have all:∀(l:List Env),(∀b∈cT l,b∈X.fs)->X.s₀.heap.FunFrames X.base l->s.heap.FunFrames X.base l:=by
  intro l
  induction l with
  |nil=>intro _ _;trivial
  |cons env r ih=>
   intro hs hl
   obtain⟨hk,⟨L,o,hf,hn,ho,hd⟩,hr⟩:=hl
   have hL:L∈X.fs:=hs L (by unfold cT;rw[xcp,hf];exact xba)
   obtain⟨sl,e⟩:=I.base.slot L o ho (I.ok.frf L hL) hL fun z=>I.ok.exfs L z hL
   exact⟨hk,⟨L,_,hf,hn,e,hd⟩,ih (fun b hb=>hs b (by unfold cT;rw[xcp,hf];exact xat _ hb)) hr⟩
 exact all X.outer (fun _ hb=>hb) I.ok.funs
theorem Inv.stack(I:Inv X pins U H s):s.heap.FunFrames X.base X.stack:=by
 rcases I.ok.stk with e|⟨e,hf⟩
 ·rw[e];exact I.funs
 ·rw[e]
  obtain⟨m,hn,_⟩:=I.loc
  refine .cons (by rw[I.ok.kind];decide) hf hn ?_ I.funs
  exact Heap.get?_none_of_le (xa1 I.ok.bsz I.ok.above)
theorem Inv.stkSub(I:Inv X pins U H s):∀b∈cT X.stack,b∈X.env.locals::X.fs:=fun b hb=>by
 rcases I.ok.stk with e|⟨e,hf⟩
 ·rw[e] at hb;exact xat _ hb
 ·rw[e] at hb
  unfold cT at hb
  rw[xcp,hf] at hb
  exact hb
theorem Inv.stkFree(I:Inv X pins U H s):∀b∈cT X.stack,H b=none:=fun b hb=>by
 rcases xaz.mp (I.stkSub b hb) with e|hb
 ·rw[e];exact I.free
 ·obtain⟨_,o,ho,_⟩:=I.ok.funs.mem hb
  exact I.base.free b o ho (I.ok.frf b hb) fun z=>I.ok.exfs b z hb
theorem Inv.step{g':Array GenState}{t':Nat}{d':Drawn}{ch:List Addr}(I:Inv X pins U H s)
  (hch:∀b∈ch,(b∈X.ex\/X.s₀.heap.objs.size<=b)/\b≠X.env.locals/\(∀x c,X.env.cells.lookup x=some c->c≠b)/\∀p∈X.pn++pins,p.1≠b)
  (keep:∀b o,b≠X.env.locals->b∉X.fs->b∉ch->s.heap.get? b=some o->H b=none->h'.get? b=some o)
  (slot:∀b o,b≠X.env.locals->b∈X.fs->b∉ch->s.heap.get? b=some o->H b=none->∃sl,h'.get? b=some { o with slots:=sl }) (free:∀b o,b∉ch->s.heap.get? b=some o->H b=none->H' b=none)
  (there:∀b o,b∉ch->s.heap.get? b=some o->∃o',h'.get? b=some o')
  (tups:∀b xs,H b=some (.tup xs)->H' b=some (.tup xs)) (frzs:∀b o u,H b=some (.frz o u)->H' b=some (.frz o u)) (tbls:∀b ps,H b=some (.tbl ps)->∃more,H' b=some (.tbl (ps++more)))
  (ns:∀m,s.heap.Ns X.env.locals m->h'.Ns X.env.locals m) (hok:cG X.prog X.w H' h') (hg:AllBare g') :
  Inv X pins U H' { s with heap:=h',gens:=g',drawn:=d',toks:=t' }:=by
 have neL:∀b o,X.s₀.heap.get? b=some o->b≠X.env.locals:=fun b o e=>xay (xae (xai e) I.ok.above)
 have neC:∀b o,X.s₀.heap.get? b=some o->b∉X.ex->b∉ch:=fun b o e hx hb=>by
  rcases(hch b hb).1 with z|z
  ·exact hx z
  ·exact xaq (xae (xai e) z) (xbk _)
 have cellK:∀x c,X.env.cells.lookup x=some c->∀v,s.heap.IsCell c v->h'.IsCell c v:=fun x c e v ⟨o,ho,hd⟩=>by
  have nch:c∉ch:=fun z=>(hch c z).2.2.1 x c e rfl
  by_cases hc:c∈X.fs
  ·obtain⟨sl,q⟩:=slot c o (I.cne x c e) hc nch ho (I.freeC x c e)
   exact⟨_,q,hd⟩
  ·exact⟨o,keep c o (I.cne x c e) hc nch ho (I.freeC x c e),hd⟩
 refine⟨I.ok,I.os,hg,⟨fun b o e n hb hx=>?_,fun b o e n hb hx=>?_,fun b o e n hx=>?_,fun b o e hx=>?_,fun b xs e=>tups b xs (I.base.tups b xs e),fun b o xs e=>frzs b o xs (I.base.frzs b o xs e),fun b ps e=>?_⟩,?_,fun x c e=>?_,?_,fun x c e=>?_,fun p hp=>?_,hok,I.len⟩
 ·exact keep b o (neL b o e) hb (neC b o e hx) (I.base.keep b o e n hb hx) (I.base.free b o e n hx)
 ·obtain⟨sl,e1⟩:=I.base.slot b o e n hb hx
  obtain⟨sl',e2⟩:=slot b _ (neL b o e) hb (neC b o e hx) e1 (I.base.free b o e n hx)
  exact⟨sl',e2⟩
 ·obtain⟨o',e1⟩:=I.base.there b o e hx
  exact free b o' (neC b o e hx) e1 (I.base.free b o e n hx)
 ·obtain⟨o',e1⟩:=I.base.there b o e hx
  exact there b o' (neC b o e hx) e1
 ·obtain⟨m1,e1⟩:=I.base.tbls b ps e
  obtain⟨m2,e2⟩:=tbls b _ e1
  exact⟨m1++m2,by rw[e2,Array.append_assoc]⟩
 ·obtain⟨m,hn,hl⟩:=I.loc
  refine⟨m,ns m hn,fun i x v e1 e2 e3=>?_⟩
  obtain⟨u,r,l⟩:=hl i x v e1 e2 e3
  refine⟨u,r,?_⟩
  rcases l with l|⟨k,c,e,z⟩
  ·exact .inl l
  ·exact .inr ⟨k,c,e,cellK x c e _ z⟩
 ·obtain⟨v,z⟩:=I.cell x c e
  exact⟨v,cellK x c e v z⟩
 ·obtain⟨m,⟨o,_,_,ho,_⟩,_⟩:=I.loc
  exact free _ o (fun z=>(hch _ z).2.1 rfl) ho I.free
 ·obtain⟨v,o,ho,hd⟩:=I.cell x c e
  exact free c o (fun z=>(hch c z).2.2.1 x c e rfl) ho (I.freeC x c e)
 ·obtain⟨e,n,ne,nf,d⟩:=I.pin p hp
  have nch:p.1∉ch:=fun z=>(hch p.1 z).2.2.2 p hp rfl
  exact⟨keep p.1 p.2 ne nf nch e n,free p.1 p.2 nch e n,ne,nf,d⟩
theorem Inv.un{t':Nat}(I:Inv X pins U H s)(u:Un X.fs [] H H' s.heap h')(hok:cG X.prog X.w H' h'):Inv X pins U H' { s with heap:=h',toks:=t' }:=by
 obtain⟨m,⟨o,es,ep,ho,r⟩,_⟩:=id I.loc
 obtain⟨sl,hL⟩:=u.any ho I.free (by simp)
 exact I.step (g':=s.gens) (d':=s.drawn) (ch:=[]) (fun _ z=>nomatch z) (fun b o _ hb _ e n=>u.keep b o e n hb (by simp)) (fun b o _ hb _ e n=>u.slot b o e n hb (by simp)) (fun b o _ e n=>u.free b o e n (by simp)) (fun b o _ e=>u.there b o e (by simp)) u.tups u.frzs u.tbls (fun m' hm=>by
  obtain⟨o',es',ep',ho',r'⟩:=hm
  rw[ho] at ho';cases ho'
  exact⟨_,es',ep',hL,r'⟩) hok I.bare
theorem Inv.call{g':Array GenState}{t':Nat}{d':Drawn}{ch:List Addr}(I:Inv X pins U H s)(u:Un (cT X.stack) ch H H' s.heap h')(hok:cG X.prog X.w H' h')(hg:AllBare g')
  (hch:∀b∈ch,(b∈X.ex\/X.s₀.heap.objs.size<=b)/\b≠X.env.locals/\(∀x c,X.env.cells.lookup x=some c->c≠b)/\∀p∈X.pn++pins,p.1≠b) :
  Inv X pins U H' { s with heap:=h',gens:=g',drawn:=d',toks:=t' }:=by
 obtain⟨m,⟨o,es,ep,ho,r⟩,_⟩:=id I.loc
 obtain⟨sl,hL⟩:=u.any ho I.free fun z=>(hch _ z).2.1 rfl
 exact I.step (ch:=ch) hch (fun b o hL hb hc e n=>u.keep b o e n (fun z=>(xaz.mp (I.stkSub b z)).elim hL hb) hc) (fun b o _ _ hc e n=>u.any e n hc) (fun b o hc e n=>u.free b o e n hc) (fun b o hc e=>u.there b o e hc) u.tups u.frzs u.tbls (fun m' hm=>by
  obtain⟨o',es',ep',ho',r'⟩:=hm
  rw[ho] at ho';cases ho'
  exact⟨_,es',ep',hL,r'⟩) hok hg
theorem Inv.turned{t':Nat}{it:Addr}(I:Inv X pins U H s)(k:∀b o,b≠it->s.heap.get? b=some o->h'.get? b=some o)(hn:H it=none)(hL:it≠X.env.locals)
  (h1:it∈X.ex\/X.s₀.heap.objs.size<=it) (h2:∀x c,X.env.cells.lookup x=some c->c≠it) (h3:∀p∈X.pn++pins,p.1≠it):Inv X pins U H { s with heap:=h',toks:=t' }:=by
 have nit:∀b u,H b=some u->b≠it:=fun b u e z=>by rw[z,hn] at e;cases e
 refine I.step (g':=s.gens) (d':=s.drawn) (ch:=[it]) (fun b hb=>?_) (fun b o _ _ hc e _=>k b o (fun z=>hc (by simp[z])) e) (fun b o _ _ hc e _=>⟨o.slots,k b o (fun z=>hc (by simp[z])) e⟩) (fun _ _ _ _ n=>n)
  (fun b o hc e=>⟨o,k b o (fun z=>hc (by simp[z])) e⟩) (fun _ _ e=>e) (fun _ _ _ e=>e) (fun b ps e=>⟨#[],by rw[e];simp⟩) (fun m hm=>?_) (fun b u e=>?_) I.bare
 ·have e:b=it:=by simpa using hb
  subst e
  exact⟨h1,hL,h2,h3⟩
 ·obtain⟨o,es,ep,ho,r⟩:=hm
  exact⟨o,es,ep,k _ o (xa5 hL) ho,r⟩
 ·refine(I.hok b u e).stay (fun c v hc q=>k c v ?_ q) (fun _ q=>q) fun _ _ q=>q
  rcases hc with z|z
  ·rw[z];exact nit b u e
  ·exact nit c _ z
theorem Inv.tok(I:Inv X pins U H s)(t:Nat):Inv X pins U H { s with toks:=t }:=I.un (h':=s.heap) (t':=t) Un.refl I.hok
theorem Inv.kept{t':Nat}(I:Inv X pins U H s)(k:∀b u,s.heap.get? b=some u->h'.get? b=some u):Inv X pins U H { s with heap:=h',toks:=t' }:=I.un (Un.kept k) (I.hok.kept k)
theorem Inv.laid{a:Addr}{o:HO}{t':Nat}(I:Inv X pins U H s)(k:∀b u,s.heap.get? b=some u->h'.get? b=some u)(hp:s.heap.objs.size<=a)(new:c6 X.prog X.w (upd H a o) h' a o) :
  Inv X pins U (upd H a o) { s with heap:=h',toks:=t' }:=I.un (Un.laid k hp (I.hok.fresh hp)) (I.hok.laid k hp new)
theorem Inv.write{x e:Addr}{o:HO}{t':Nat}(I:Inv X pins U H s)(mu:pM (H x))(he:e=x\/H e=some (.own x))(k:∀b u,b≠e->s.heap.get? b=some u->h'.get? b=some u)(heo:∃u,h'.get? e=some u)
  (new:c6 X.prog X.w (upd H x o) h' x o):Inv X pins U (upd H x o) { s with heap:=h',toks:=t' }:=I.un (Un.write mu he k heo) (I.hok.write mu he k heo new)
theorem Inv.weak{U':List (Option V)}(I:Inv X pins U H s)(hl:U'.length=U.length)(w:∀(i:Nat) v,U'[i]? = some (some v)->U[i]? = some (some v)):Inv X pins U' H s:=
 ⟨I.ok,I.os,I.bare,I.base,let⟨m,hn,hl'⟩:=I.loc;⟨m,hn,fun i x v e1 e2 e3=>hl' i x v e1 (w i v e2) e3⟩,I.cell,I.free,I.freeC,I.pin,I.hok,hl.trans I.len⟩
theorem Inv.pins_of{pins':List (Addr×Obj)}(I:Inv X pins U H s)(h:∀p∈pins',s.heap.get? p.1=some p.2/\H p.1=none/\p.1≠X.env.locals/\p.1∉X.fs/\∀v,p.2.data≠.cell v):Inv X pins' U H s:=
 ⟨I.ok,I.os,I.bare,I.base,I.loc,I.cell,I.free,I.freeC,fun p hp=>(xbf.mp hp).elim (fun z=>I.pin p (List.mem_append_left _ z)) (h p),I.hok,I.len⟩
theorem BU{N:List Str}(hN:N.Nodup){i j:Nat}{x:Str}(a:N[i]? = some x)(b:N[j]? = some x):i=j:=by
 obtain⟨h1,e1⟩:=xam.mp a
 obtain⟨h2,e2⟩:=xam.mp b
 exact(List.getElem_inj hN).mp (e1.trans e2.symm)
theorem Q9{M:Model}{A:Around}{E:Value->Shared->Prop}{i:Nat}{x:Str}{v:V}{u:Value}{Q:Unit->Shared->Prop}(I:Inv X pins U H s)(hN:X.N.Nodup)(hi:X.N[i]? = some x)(hx:fB X.env.scope x)(r:aJ v u)
  (h:∀s',Inv X pins (U.set i (some v)) H s'->(∃a,Heap.SameBut a s.heap s'.heap/\(a=X.env.locals\/X.env.cells.lookup x=some a))->Q () s') (hf:X.fn x=true\/X.env.scope.names.lookup x=some .local:=by first|exact .inl rfl|exact .inr rfl|assumption):wpAny M A (storeName X.env x u) Q E s:=by
 obtain⟨m,hn,hl⟩:=id I.loc
 have hcls:(X.env.scope.kind==.class||(X.env.scope.kind==.module&&X.env.locals != X.env.globals))=false:=by rw[I.ok.kind];rfl
 have hiU:i<U.length:=by rw[I.len];exact(xam.mp hi).1
 have cne:=I.cne
 have tracked:∀{a:Addr} {h':Heap},(∃o,s.heap.get? a=some o/\H a=none)->Heap.SameBut a s.heap h'->cG X.prog X.w H h':=fun {a h'} ha hs b ob e=>by
  obtain⟨_,_,hfree⟩:=ha
  refine(I.hok b ob e).stay (fun c w' hc q=>(hs.2 c ?_).trans q) (fun _ q=>q) fun _ _ q=>q
  rintro rfl
  rcases hc with rfl|hc
  ·rw[hfree] at e;cases e
  ·rw[hfree] at hc;cases hc
 rcases hx with hk|hk
 ·refine wpAny_storeName_local hk hn (fun h' hn' hs=>?_) hcls
  obtain⟨oL,_,_,hoL,_⟩:=id hn
  refine h _ ⟨I.ok,I.os,I.bare,⟨fun b o e n hb hx=>?_,fun b o e n hb hx=>?_,I.base.free,fun b o e hx=>?_,I.base.tups,I.base.frzs,I.base.tbls⟩,⟨_,hn',fun j y v' e1 e2 e3=>?_⟩,fun y c e=>?_,I.free,I.freeC,fun p hp=>?_,tracked ⟨oL,hoL,I.free⟩ hs,by simpa using I.len⟩ ⟨_,hs,.inl rfl⟩
  ·exact(hs.2 b (xay (xae (xai e) I.ok.above))).trans (I.base.keep b o e n hb hx)
  ·obtain⟨sl,e1⟩:=I.base.slot b o e n hb hx
   exact⟨sl,(hs.2 b (xay (xae (xai e) I.ok.above))).trans e1⟩
  ·obtain⟨o',e1⟩:=I.base.there b o e hx
   exact⟨o',(hs.2 b (xay (xae (xai e) I.ok.above))).trans e1⟩
  ·by_cases hj:j=i
   ·subst hj
    rw[hi] at e1;cases e1
    rw[xa2 hiU] at e2
    cases e2
    exact⟨u,r,.inl ⟨hk,by simp⟩⟩
   ·rw[xaf (xa5 hj)] at e2
    obtain⟨u',r',q⟩:=hl j y v' e1 e2 e3
    refine⟨u',r',?_⟩
    rcases q with⟨k,e⟩|⟨k,c,e,z⟩
    ·refine .inl ⟨k,?_⟩
     have:y≠x:=fun e=>hj (BU hN e1 (e▸hi))
     simp[this,e]
    ·exact .inr ⟨k,c,e,z.sameBut hs (cne y c e)⟩
  ·obtain⟨w',z⟩:=I.cell y c e
   exact⟨w',z.sameBut hs (cne y c e)⟩
  ·obtain⟨e,n,ne,nf,d⟩:=I.pin p hp
   exact⟨(hs.2 p.1 ne).trans e,n,ne,nf,d⟩
 ·have hfn:X.fn x=true:=by
   rcases hf with z|z
   ·exact z
   ·rw[z] at hk;cases hk
  obtain⟨c,hc⟩:=I.ok.has x (.inl hk)
  obtain⟨w',z⟩:=I.cell x c hc
  refine wpAny_storeName_cell I.ok.kind hk hc z (fun h' hc' hs=>?_)
  obtain⟨oc,hoc,hocd⟩:=id z
  refine h { s with heap:=h' } ⟨I.ok,I.os,I.bare,⟨fun b o e n hb hx=>?_,fun b o e n hb hx=>?_,I.base.free,fun b o e hx=>?_,I.base.tups,I.base.frzs,I.base.tbls⟩,⟨m,hn.sameBut hs (xa5 (cne x c hc)),fun j y v' e1 e2 e3=>?_⟩,fun y c' e=>?_,I.free,I.freeC,fun p hp=>?_,tracked ⟨oc,hoc,I.freeC x c hc⟩ hs,by simpa using I.len⟩ ⟨c,hs,.inr hc⟩
  ·exact(hs.2 b (xay (xae (xai e) (I.ok.cab x c hfn hc)))).trans (I.base.keep b o e n hb hx)
  ·obtain⟨sl,e1⟩:=I.base.slot b o e n hb hx
   exact⟨sl,(hs.2 b (xay (xae (xai e) (I.ok.cab x c hfn hc)))).trans e1⟩
  ·obtain⟨o',e1⟩:=I.base.there b o e hx
   exact⟨o',(hs.2 b (xay (xae (xai e) (I.ok.cab x c hfn hc)))).trans e1⟩
  ·by_cases hj:j=i
   ·subst hj
    rw[hi] at e1;cases e1
    rw[xa2 hiU] at e2
    cases e2
    exact⟨u,r,.inr ⟨.inl hk,c,hc,hc'⟩⟩
   ·rw[xaf (xa5 hj)] at e2
    obtain⟨u',r',q⟩:=hl j y v' e1 e2 e3
    refine⟨u',r',?_⟩
    rcases q with q|⟨k,c',e,z'⟩
    ·exact .inl q
    ·refine .inr ⟨k,c',e,z'.sameBut hs ?_⟩
     rintro rfl
     exact hj (BU hN e1 (I.ok.inj _ _ _ e hc▸hi))
  ·by_cases hcc:c'=c
   ·subst hcc;exact⟨_,hc'⟩
   ·obtain⟨w2,z2⟩:=I.cell y c' e
    exact⟨w2,z2.sameBut hs hcc⟩
  ·obtain⟨e,n,ne,nf,d⟩:=I.pin p hp
   refine⟨(hs.2 p.1 ?_).trans e,n,ne,nf,d⟩
   intro q
   rw[q,hoc] at e
   have q':oc=p.2:=xas e
   exact d w' (by rw[<- q'];exact hocd)
theorem pN{M:Model}{A:Around}{E:Value->Shared->Prop}{i:Nat}{x:Str}{v:V}{u:Value}{Q:Unit->Shared->Prop}(I:Inv X pins U H s)(hN:X.N.Nodup)(hi:X.N[i]? = some x)(hx:fB X.env.scope x)(r:aJ v u)
  (h:∀s',Inv X pins (U.set i (some v)) H s'->Q () s') (hf:X.fn x=true\/X.env.scope.names.lookup x=some .local:=by first|exact .inl rfl|exact .inr rfl|assumption):wpAny M A (storeName X.env x u) Q E s:=
 Q9 I hN hi hx r (fun s' I' _=>h s' I') hf
theorem Inv.call'{s':Shared}{ch:List Addr}(I:Inv X pins U H s)(ho:s'.os=s.os)(u:Un (cT X.stack) ch H H' s.heap s'.heap)(hok:cG X.prog X.w H' s'.heap)(hg:AllBare s'.gens)
  (hch:∀b∈ch,(b∈X.ex\/X.s₀.heap.objs.size<=b)/\b≠X.env.locals/\(∀x c,X.env.cells.lookup x=some c->c≠b)/\∀p∈X.pn++pins,p.1≠b):Inv X pins U H' s':=by
 obtain⟨h',g',d',t',o'⟩:=s'
 have e:o'=s.os:=ho
 subst e
 exact I.call (g':=g') (t':=t') (d':=d') u hok hg hch
end
abbrev XK:=Value->Option Addr->Hp->Prop
abbrev St:=List (Option V)
abbrev VK:=V->Hp->Prop
abbrev TE:=St->Hp->VK->Prop
abbrev TT:=St->Hp->(Bool->Hp->Prop)->Prop
abbrev TA:=St->Hp->(List V->Hp->Prop)->Prop
structure iM where
 nx:St->Hp->Prop
 rt:VK
 bk:St->Hp->Prop:=fun _ _=>False
 ct:St->Hp->Prop:=fun _ _=>False
abbrev TS:=iM->St->Hp->Prop
def EP(X:Cx)(pins:List (Addr×Obj))(U:St)(Q:VK)(u:Value)(s':Shared):Prop:=∃v H',Inv X pins U H' s'/\aJ v u/\Q v H'
def TP(X:Cx)(pins:List (Addr×Obj))(U:St)(Q:Bool->Hp->Prop)(b:Bool)(s':Shared):Prop:=∃H',Inv X pins U H' s'/\Q b H'
def AP(X:Cx)(pins:List (Addr×Obj))(U:St)(Q:List V->Hp->Prop)(us:List Value)(s':Shared):Prop:=∃vs H',Inv X pins U H' s'/\aP vs us/\Q vs H'
def SP(X:Cx)(pins:List (Addr×Obj))(D:iM)(f:Flow)(s':Shared):Prop:=
 match f with
 |.next=>∃U' H',Inv X pins U' H' s'/\D.nx U' H'
 |.brk=>∃U' H',Inv X pins U' H' s'/\D.bk U' H'
 |.cont=>∃U' H',Inv X pins U' H' s'/\D.ct U' H'
 |.ret u=>∃v U' H',Inv X pins U' H' s'/\aJ v u/\D.rt v H'
def PE(X:Cx)(e:Expr)(t:TE):Prop:=
 ∀(pins:List (Addr×Obj)) (s:Shared) (U:St) (H:Hp) (Q:VK),Inv X pins U H s->t U H Q->wpAny (model X.prog X.w) X.A (eval e X.env) (EP X pins U Q) X.xe s
def PT(X:Cx)(e:Expr)(t:TT):Prop:=
 ∀(pins:List (Addr×Obj)) (s:Shared) (U:St) (H:Hp) (Q:Bool->Hp->Prop),Inv X pins U H s->t U H Q->wpAny (model X.prog X.w) X.A (isTrue e X.env (eval e X.env)) (TP X pins U Q) X.xe s
def PW(X:Cx)(e:Expr)(t:TT):Prop:=
 ∀(whole:Sem Value) (pins:List (Addr×Obj)) (s:Shared) (U:St) (H:Hp) (Q:Bool->Hp->Prop),Inv X pins U H s->t U H Q->wpAny (model X.prog X.w) X.A (isTrue e X.env whole) (TP X pins U Q) X.xe s
def PA(X:Cx)(es:List Expr)(t:TA):Prop:=
 ∀(pos:Pos) (pins:List (Addr×Obj)) (s:Shared) (U:St) (H:Hp) (Q:List V->Hp->Prop),Inv X pins U H s->t U H Q->wpAny (model X.prog X.w) X.A (spliced (backTo pos (starEach es X.env))) (AP X pins U Q) X.xe s
def PS(X:Cx)(st:Stmt)(t:TS):Prop:=
 ∀(pins:List (Addr×Obj)) (s:Shared) (U:St) (H:Hp) (D:iM),Inv X pins U H s->t D U H->wpAny (model X.prog X.w) X.A (exec st X.env) (SP X pins D) X.xe s
def cB(X:Cx)(st:List Stmt)(t:TS):Prop:=
 ∀(pins:List (Addr×Obj)) (s:Shared) (U:St) (H:Hp) (D:iM),Inv X pins U H s->t D U H->wpAny (model X.prog X.w) X.A (execs st X.env) (SP X pins D) X.xe s
theorem aH{α:Type}{t:Sem α}{Q Q':α->Shared->Prop}{M:Model}{A:Around}{E:Value->Shared->Prop}{s:Shared}(h:wpAny M A t Q E s)(hQ:∀a s,Q a s->Q' a s):wpAny M A t Q' E s:=wpAny_mono h hQ fun _ _ x=>x
end L2
namespace L2
open PySem.Spec PyProof.Rows
section
variable{X:Cx}
theorem bin{a b:Expr}{ta tb:TE}(ha:PE X a ta)(hb:PE X b tb){pins:List (Addr×Obj)}{s:Shared}{U:St}{H:Hp}{R:V->V->Hp->Prop}(I:Inv X pins U H s)(h:ta U H fun x H1=>tb U H1 fun y H2=>R x y H2)
  {α:Type} {Q:α->Shared->Prop} {f:Value->Value->Sem α}
  (hf:∀v u s2 x y H2,Inv X pins U H2 s2->aJ x v->aJ y u->R x y H2->wpAny (model X.prog X.w) X.A (f v u) Q X.xe s2) :
  wpAny (model X.prog X.w) X.A (eval a X.env) (fun v s₁=>wpAny (model X.prog X.w) X.A (eval b X.env) (fun u s₂=>wpAny (model X.prog X.w) X.A (f v u) Q X.xe s₂) X.xe s₁) X.xe s:=by
 refine aH (ha pins s U H _ I h) fun v s1 ⟨x,H1,I1,r1,q1⟩=>?_
 refine aH (hb pins s1 U H1 _ I1 q1) fun u s2 ⟨y,H2,I2,r2,q2⟩=>?_
 exact hf v u s2 x y H2 I2 r1 r2 q2
def BW(i:Nat):TE:=fun U H Q=>∃v,U[i]? = some (some v)/\Q v H
def tC(v:V):TE:=fun _ H Q=>Q v H
theorem RA{i:Nat}{x:Str}{pos:Pos}(hN:X.N[i]? = some x)(hv:cA X.env.scope x)(hd:(x==("__debug__":Str))=false:=by decide)(hcd:(x==("__classdict__":Str))=false:=by decide):PE X (.Name x pos) (BW i):=by
 intro pins s U H Q I h
 obtain⟨v,e,h⟩:=h
 obtain⟨m,hn,hl⟩:=I.loc
 obtain⟨u,r,l⟩:=hl i x v hN e hv
 have fin:EP X pins U Q u s:=⟨v,H,I,r,h⟩
 rcases l with⟨hk,hm⟩|⟨hk,c,hc,hcell⟩
 ·exact wpAny_Name (wpAny_loadName_local I.ok.kind hk hn hm fin) hd
 ·rcases hk with hk|hk
  ·exact wpAny_Name (wpAny_loadName_cell I.ok.kind hk hc hcell fin) hd
  ·exact wpAny_Name (wpAny_loadName_free I.ok.kind hk hc hcell fin hcd) hd
theorem i0{i j pos}:PE X (.Constant (.int i) j pos) (tC (.int i)):=fun _ _ _ H _ I h=>wpAny_Constant_int ⟨.int i,H,I.tok _,⟨_,rfl⟩,h⟩
theorem RB{b j pos}:PE X (.Constant (.bool b) j pos) (tC (.bl b)):=fun _ _ _ H _ I h=>Constant_bool ⟨.bl b,H,I,rfl,h⟩
theorem BX{j pos}:PE X (.Constant .none j pos) (tC .non):=fun _ _ _ H _ I h=>Constant_none ⟨.non,H,I,rfl,h⟩
theorem vX{x j pos}:PE X (.Constant (.str x) j pos) (tC (.str x)):=fun _ _ _ H _ I h=>Calls.Constant_str ⟨.str x,H,I.tok _,⟨_,rfl⟩,h⟩
def Gl(X:Cx)(x:Str):Prop:=X.env.kindOf x=some .globalImplicit
theorem sJ{E:Value->Shared->Prop}{pins:List (Addr×Obj)}{s:Shared}{U:St}{H:Hp}{x:Str}{u:Value}{pos:Pos}{Q:Value->Shared->Prop}(I:Inv X pins U H s)(hg:Gl X x)(hm:X.mg x=some u)(h:Q u s)
  (hd:(x==("__debug__":Str))=false:=by decide):wpAny (model X.prog X.w) X.A (eval (.Name x pos) X.env) Q E s:=
 Calls.Name_function_global I.ok.kind hg (Calls.loadGlobal_global (by rw[I.ok.glob];exact I.mod.glob.keeps I.bk) hm h) hd
theorem kQ{E:Value->Shared->Prop}{pins:List (Addr×Obj)}{s:Shared}{U:St}{H:Hp}{x:Str}{u:Value}{pos:Pos}{Q:Value->Shared->Prop}(I:Inv X pins U H s)(hg:Gl X x)(hm:X.mg x=none)(hv:bootBuiltins x=some u)(h:Q u s)
  (hn:x≠"__name__":=by decide) (hd:(x==("__debug__":Str))=false:=by decide):wpAny (model X.prog X.w) X.A (eval (.Name x pos) X.env) Q E s:=by
 obtain⟨mb,h1,h2⟩:=I.mod.blt
 exact Calls.Name_function_global I.ok.kind hg (Calls.loadGlobal_builtin (by rw[I.ok.glob];exact I.mod.glob.keeps I.bk) hm (by rw[I.ok.blt];exact h1.keeps I.bk) ((h2 x hn).trans hv) h) hd
theorem RC{x:Str}{v:V}{u:Value}{pos:Pos}(hg:Gl X x)(hm:X.mg x=some u)(r:aJ v u)(hd:(x==("__debug__":Str))=false:=by decide):PE X (.Name x pos) (tC v):=
 fun _ _ _ H _ I h=>sJ I hg hm ⟨v,H,I,r,h⟩ hd
theorem RD{x:Str}{v:V}{u:Value}{pos:Pos}(hg:Gl X x)(hm:X.mg x=none)(hv:bootBuiltins x=some u)(r:aJ v u)(hn:x≠"__name__":=by decide)(hd:(x==("__debug__":Str))=false:=by decide):PE X (.Name x pos) (tC v):=
 fun _ _ _ H _ I h=>kQ I hg hm hv ⟨v,H,I,r,h⟩ hn hd
def vY(ta tb:TE)(k:Int->Int->Hp->Prop):St->Hp->Prop:=fun U H=>ta U H fun x H1=>tb U H1 fun y H2=>∃i j,x=.int i/\y=.int j/\k i j H2
def RE(ta tb:TE):TE:=fun U H Q=>vY ta tb (fun i j H2=>Q (.int (i-j)) H2) U H
variable{a b:Expr}{ta tb:TE}{pos:Pos}
theorem RF(ha:PE X a ta)(hb:PE X b tb):PE X (.BinOp a .Sub b pos) (RE ta tb):=by
 intro pins s U H Q I h
 refine wpAny_BinOp (bin ha hb I h fun v u s2 x y H2 I2 rx ry q=>?_)
 obtain⟨i,j,rfl,rfl,q⟩:=q
 obtain⟨t,rfl⟩:=rx
 obtain⟨t',rfl⟩:=ry
 exact sub_int ⟨.int _,H2,I2.tok _,⟨_,rfl⟩,q⟩
def PC(X:Cx)(op:CmpOp)(a b:Expr)(t:TE):Prop:=
 ∀(pins:List (Addr×Obj)) (s:Shared) (U:St) (H:Hp) (Q:VK),Inv X pins U H s->t U H Q->
  wpAny (model X.prog X.w) X.A (eval a X.env) (fun v s₁=>wpAny (model X.prog X.w) X.A (eval b X.env) (fun u s₂=>wpAny (model X.prog X.w) X.A (compareOp op v u) (EP X pins U Q) X.xe s₂) X.xe s₁) X.xe s
theorem dA(b:Expr){op:CmpOp}(h:op≠.In)(h2:op≠.NotIn):behindInMarks op b=false:=by
 have e1:(op==CmpOp.In)=false:=by cases op<;>first|rfl|exact xaq rfl h
 have e2:(op==CmpOp.NotIn)=false:=by cases op<;>first|rfl|exact xaq rfl h2
 cases b<;>simp[behindInMarks,e1,e2]
def sK(p:Int->Int->Bool)(ta tb:TE):TE:=fun U H Q=>vY ta tb (fun i j H2=>Q (.bl (p i j)) H2) U H
abbrev tGt:TE->TE->TE:=sK fun i j=>decide (j<i)
abbrev RH:TE->TE->TE:=sK fun i j=>decide (i=j)
theorem BY{op:CmpOp}{p:Int->Int->Bool}(ha:PE X a ta)(hb:PE X b tb)
  (rule:∀(i j:Int) (t u:Tok) (Q:Value->Shared->Prop) (s:Shared),Q (.bool (p i j)) s->wpAny (model X.prog X.w) X.A (compareOp op (.int i t) (.int j u)) Q X.xe s):PC X op a b (sK p ta tb):=by
 intro pins s U H Q I h
 refine bin ha hb I h fun v u s2 x y H2 I2 rx ry q=>?_
 obtain⟨i,j,rfl,rfl,q⟩:=q
 obtain⟨t,rfl⟩:=rx
 obtain⟨t',rfl⟩:=ry
 exact rule i j t t' _ s2 ⟨.bl _,H2,I2,rfl,q⟩
theorem RI(ha:PE X a ta)(hb:PE X b tb):PC X .Gt a b (tGt ta tb):=BY ha hb fun _ _ _ _ _ _ h=>gt_int h
theorem RJ(ha:PE X a ta)(hb:PE X b tb):PC X .Eq a b (RH ta tb):=BY ha hb fun _ _ _ _ _ _ h=>eq_int (by rw[Bool.beq_eq_decide_eq];exact h)
def tB(t:TE):TT:=fun U H Q=>t U H fun x H1=>∃c,x=.bl c/\Q c H1
theorem vZ{op:CmpOp}{t:TE}(h:PC X op a b t)(h1:behindInMarks op b=false:=by first|exact dA _ (by decide) (by decide)|rfl):PT X (.Compare a [op] [b] pos) (tB t):=by
 intro pins s U H Q I hw
 refine wpAny_isTrue_Compare1 (aH (h pins s U H _ I hw) fun v s1 h1=>aH h1 fun u s2 h2=>aH h2 fun c s3 ⟨x,H1,I1,r1,q1⟩=>?_) h1
 obtain⟨d,rfl,q⟩:=q1
 cases r1
 exact wpAny_truthy_bool ⟨H1,I1,q⟩
theorem RK{e:Expr}{t:TE}(h:PE X e t)(he:∀whole,isTrue e X.env whole=(do let v<-whole;standAt e.pos;holding [v] (truthy v)):=by intro _;rfl):PT X e (tB t):=by
 intro pins s U H Q I hw
 refine isTrue_plain (aH (h pins s U H _ I hw) fun v s1 ⟨x,H1,I1,r1,q1⟩=>?_) (he _)
 obtain⟨d,rfl,q⟩:=q1
 cases r1
 exact wpAny_truthy_bool ⟨H1,I1,q⟩
variable{tA tB':TT}{aK:List Expr}
def RL(t u:TT):TT:=fun U H Q=>t U H fun c H1=>if c=true then u U H1 Q else Q false H1
def tOr(t u:TT):TT:=fun U H Q=>t U H fun c H1=>if c=true then Q true H1 else u U H1 Q
def RN(t:TT):TT:=fun U H Q=>t U H fun c H1=>Q (!c) H1
theorem RO(ha:PT X a tA):PW X (.BoolOp .And [a] pos) tA:=by
 intro wh pins s U H Q I h
 refine isTrue_and (aH (ha pins s U H Q I h) fun c s1 e=>?_)
 cases c with
 |true=>exact isTrue_and_nil e
 |false=>exact e
theorem RP(ha:PT X a tA):PW X (.BoolOp .Or [a] pos) tA:=by
 intro wh pins s U H Q I h
 refine isTrue_or (aH (ha pins s U H Q I h) fun c s1 e=>?_)
 cases c with
 |false=>exact isTrue_or_nil e
 |true=>exact e
theorem RQ(ha:PT X a tA)(hb:PW X (.BoolOp .And (b::aK) pos) tB'):PW X (.BoolOp .And (a::b::aK) pos) (RL tA tB'):=by
 intro wh pins s U H Q I h
 refine isTrue_and (aH (ha pins s U H _ I h) fun c s1 ⟨H1,I1,q1⟩=>?_)
 cases c with
 |true=>exact hb wh pins s1 U H1 Q I1 q1
 |false=>exact⟨H1,I1,q1⟩
theorem RS(ha:PT X a tA)(hb:PW X (.BoolOp .Or (b::aK) pos) tB'):PW X (.BoolOp .Or (a::b::aK) pos) (tOr tA tB'):=by
 intro wh pins s U H Q I h
 refine isTrue_or (aH (ha pins s U H _ I h) fun c s1 ⟨H1,I1,q1⟩=>?_)
 cases c with
 |true=>exact⟨H1,I1,q1⟩
 |false=>exact hb wh pins s1 U H1 Q I1 q1
theorem RT(ha:PT X a tA):PT X (.UnaryOp .Not a pos) (RN tA):=by
 intro pins s U H Q I h
 exact isTrue_not (ha pins s U H (fun c H1=>Q (!c) H1) I h)
def RU(ta tb:TE):TE:=fun U H Q=>ta U H fun x H1=>∃c,x=.bl c/\if c=true then tb U H1 Q else Q (.bl false) H1
def RV(ta:TE):TE:=fun U H Q=>ta U H fun x H1=>∃c,x=.bl c/\Q (.bl (!c)) H1
theorem RX{op}{t:TE}(h:PE X a t):PE X (.BoolOp op [a] pos) t:=fun pins s U H Q I hw=>BoolOp_one (h pins s U H Q I hw)
theorem RY(ha:PE X a ta)(hb:PE X (.BoolOp .And (b::aK) pos) tb):PE X (.BoolOp .And (a::b::aK) pos) (RU ta tb):=by
 intro pins s U H Q I h
 refine BoolOp_and (aH (ha pins s U H _ I h) fun v s1 ⟨x,H1,I1,r1,q1⟩=>?_)
 obtain⟨c,rfl,q1⟩:=q1
 cases r1
 refine wpAny_truthy_bool ?_
 cases c with
 |true=>exact hb pins s1 U H1 Q I1 q1
 |false=>exact⟨.bl false,H1,I1,rfl,q1⟩
theorem RZ(ha:PE X a ta):PE X (.UnaryOp .Not a pos) (RV ta):=by
 intro pins s U H Q I h
 refine UnaryOp_ (aH (ha pins s U H _ I h) fun v s1 ⟨x,H1,I1,r1,q1⟩=>?_)
 obtain⟨c,rfl,q1⟩:=q1
 cases r1
 exact not_of (wpAny_truthy_bool ⟨.bl (!c),H1,I1,rfl,q1⟩)
def tIf(t:TT)(ta tb:TE):TE:=fun U H Q=>t U H fun c H1=>if c=true then ta U H1 Q else tb U H1 Q
theorem R3{c:Expr}(hc:PT X c tA)(ha:PE X a ta)(hb:PE X b tb):PE X (.IfExp c a b pos) (tIf tA ta tb):=by
 intro pins s U H Q I h
 refine wpAny_IfExp (aH (hc pins s U H _ I h) fun d s1 ⟨H1,I1,q1⟩=>?_)
 cases d with
 |true=>exact ha pins s1 U H1 Q I1 q1
 |false=>exact hb pins s1 U H1 Q I1 q1
end
end L2
namespace L2
open PySem.Spec PyProof.Rows
def aW(K:xFg)(H:Hp)(a:Addr)(xs:List V):Prop:=
 Rd H a (.lst xs)\/
  ∃(o:Obj) (its:Array Value) (n:Nat),K.lookup a=some o/\o.cls=.type "list"/\o.dict=none/\o.data=.seq its n/\its.size<=sizeLine/\aP xs its.toList
def bJ(K:xFg)(H:Hp)(a:Addr)(xs:List V):Prop:=
 Rd H a (.tup xs)\/
  ∃(o:Obj) (its:Array Value) (n:Nat),K.lookup a=some o/\o.cls=.type "tuple"/\o.data=.seq its n/\its.size<=sizeLine/\aP xs its.toList/\o.dict=none
def R4:Value->Option V
 |.none=>some .non
 |.bool b=>some (.bl b)
 |.int i _=>some (.int i)
 |.str x _=>some (.str x)
 |.bytes b _=>some (.byt b)
 |.float b _=>some (.flt b)
 |.ref a=>some (.ref a)
 |.type n=>some (.ty n)
 |_=>none
theorem aJ.abs{x:V}{u:Value}(r:aJ x u):R4 u=some x:=by
 cases x with
 |non=>cases r;rfl
 |bl _=>cases r;rfl
 |int _=>obtain⟨t,rfl⟩:=r;rfl
 |str _=>obtain⟨t,rfl⟩:=r;rfl
 |byt _=>obtain⟨t,rfl⟩:=r;rfl
 |flt _=>obtain⟨t,rfl⟩:=r;rfl
 |ref _=>cases r;rfl
 |ty _=>cases r;rfl
theorem aJ.inj{x y:V}{u:Value}(r:aJ x u)(q:aJ y u):x=y:=xas (r.abs.symm.trans q.abs)
theorem aP.inj:∀{xs ys:List V} {us:List Value},aP xs us->aP ys us->xs=ys
 |_,_,_,.nil,.nil=>rfl
 |_,_,_,.cons r t,.cons r' t'=>by rw[r.inj r',aP.inj t t']
section
variable{X:Cx}{pins:List (Addr×Obj)}{U:St}{H:Hp}{s:Shared}{a:Addr}{xs ys:List V}
theorem aW.of{K:xFg}(h:H a=some (.lst xs)):aW K H a xs:=.inl (.inl h)
theorem bJ.of{K:xFg}(h:H a=some (.tup xs)):bJ K H a xs:=.inl (.inl h)
theorem Inv.list(I:Inv X pins U H s)(h:aW X.K H a xs):∃its:List Value,aP xs its/\PlainL s.heap a its.toArray/\xs.length<=sizeLine:=by
 rcases h with h|⟨o,its,n,hk,hc,hd,hs,hz,r⟩
 ·obtain⟨z,its,n,r,e⟩:=h.ok I.hok
  exact⟨its,r,⟨_,n,e,rfl,rfl,rfl⟩,z⟩
 ·refine⟨its.toList,r,⟨o,n,I.kIn a o hk,hc,hd,by simpa using hs⟩,?_⟩
  have e:=r.length
  simp only[xcc] at e
  omega
theorem Inv.tupN(I:Inv X pins U H s)(h:bJ X.K H a xs):∃its:List Value,aP xs its/\kP s.heap a its.toArray/\xs.length<=sizeLine:=by
 rcases h with h|⟨o,its,n,hk,hc,hs,hz,r,hd⟩
 ·obtain⟨z,its,r,p⟩:=h.ok I.hok
  exact⟨its,r,p,z⟩
 ·refine⟨its.toList,r,⟨o,I.kIn a o hk,hc,⟨n,by simpa using hs⟩,hd⟩,?_⟩
  have e:=r.length
  simp only[xcc] at e
  omega
theorem Inv.tuple(I:Inv X pins U H s)(h:bJ X.K H a xs):∃its:List Value,aP xs its/\IsTup s.heap a its.toArray/\xs.length<=sizeLine:=by
 obtain⟨its,r,p,z⟩:=I.tupN h
 exact⟨its,r,p.tup,z⟩
theorem Inv.list_inj(I:Inv X pins U H s)(h:aW X.K H a xs)(h':aW X.K H a ys):xs=ys:=by
 obtain⟨its,r,⟨o,n,e,_,_,d⟩,_⟩:=I.list h
 obtain⟨its',r',⟨o',n',e',_,_,d'⟩,_⟩:=I.list h'
 rw[e] at e';cases e'
 rw[d] at d'
 injection d' with d1 _
 have:its=its':=by simpa using congrArg Array.toList d1
 subst this
 exact r.inj r'
theorem Inv.tuple_inj(I:Inv X pins U H s)(h:bJ X.K H a xs)(h':bJ X.K H a ys):xs=ys:=by
 obtain⟨its,r,⟨o,e,_,n,d⟩,_⟩:=I.tuple h
 obtain⟨its',r',⟨o',e',_,n',d'⟩,_⟩:=I.tuple h'
 rw[e] at e';cases e'
 rw[d] at d'
 injection d' with d1 _
 have:its=its':=by simpa using congrArg Array.toList d1
 subst this
 exact r.inj r'
end
section
variable{X:Cx}{st:Stmt}{aK:List Stmt}{t u:TS}{e:Expr}{te:TE}{pos:Pos}
def R5:TS:=fun D U H=>D.nx U H
def R6(t u:TS):TS:=fun D U H=>t { D with nx:=u D } U H
theorem nI:cB X [] R5:=fun _ _ U H _ I h=>wpAny_execs_nil ⟨U,H,I,h⟩
theorem cX(h1:PS X st t)(h2:cB X aK u):cB X (st::aK) (R6 t u):=by
 intro pins s U H D I h
 refine wpAny_execs_cons (aH (h1 pins s U H { D with nx:=u D } I h) fun f s1 q=>?_)
 cases f with
 |next=>
  obtain⟨U',H',I',q⟩:=q
  exact h2 pins s1 U' H' D I' q
 |ret v=>exact q
 |brk=>exact q
 |cont=>exact q
theorem gX(h1:PS X st t):cB X [st] t:=by
 intro pins s U H D I h
 refine wpAny_execs_cons (aH (h1 pins s U H D I h) fun f s1 q=>?_)
 cases f with
 |next=>exact wpAny_execs_nil q
 |ret v=>exact q
 |brk=>exact q
 |cont=>exact q
theorem Inv.quiet{pins:List (Addr×Obj)}{U:St}{H:Hp}{s:Shared}(I:Inv X pins U H s):interactive X.env=false:=by simp[interactive,I.ok.kind]
def R7(te:TE):TS:=fun D U H=>te U H fun _ H1=>D.nx U H1
theorem jR(he:PE X e te)(hs:swapsWith e none pos.line X.env=pure false:=by rfl):PS X (.Expr e pos) (R7 te):=by
 intro pins s U H D I h
 exact wpAny_Expr_any (aH (he pins s U H _ I h) fun v s1 ⟨x,H1,I1,r1,q1⟩=>⟨U,H1,I1,q1⟩) I.quiet hs
def R8(te:TE):TS:=fun D U H=>te U H D.rt
theorem lL(he:PE X e te):PS X (.Return (some e) pos) (R8 te):=by
 intro pins s U H D I h
 exact wpAny_Return_some (aH (he pins s U H _ I h) fun v s1 ⟨x,H1,I1,r1,q1⟩=>⟨x,U,H1,I1,r1,q1⟩)
def R9(c:TT)(t u:TS):TS:=fun D U H=>c U H fun b H1=>if b=true then t D U H1 else u D U H1
theorem lM{c:Expr}{a b:List Stmt}{tc:TT}(hc:PT X c tc)(ha:cB X a t)(hb:cB X b u):PS X (.If c a b pos) (R9 tc t u):=by
 intro pins s U H D I h
 refine wpAny_If (aH (hc pins s U H _ I h) fun d s1 ⟨H1,I1,q1⟩=>?_)
 cases d with
 |true=>exact ha pins s1 U H1 D I1 q1
 |false=>exact hb pins s1 U H1 D I1 q1
end
abbrev TG:=V->St->Hp->(St->Hp->Prop)->Prop
abbrev i6:=List V->St->Hp->(St->Hp->Prop)->Prop
def PG(X:Cx)(target:Expr)(t:TG):Prop:=
 ∀(pins:List (Addr×Obj)) (s:Shared) (U:St) (H:Hp) (v:V) (u:Value) (Q:St->Hp->Prop),Inv X pins U H s->aJ v u->t v U H Q->
  wpAny (model X.prog X.w) X.A (assign target X.env u) (fun _ s'=>∃U' H',Inv X pins U' H' s'/\Q U' H') X.xe s
def nJ(X:Cx)(ts:List Expr)(t:i6):Prop:=
 ∀(pins:List (Addr×Obj)) (s:Shared) (U:St) (H:Hp) (vs:List V) (us:List Value) (Q:St->Hp->Prop),Inv X pins U H s->aP vs us->t vs U H Q->
  wpAny (model X.prog X.w) X.A (assignInOrder ((assignEach ts X.env).map (·.2)) us) (fun _ s'=>∃U' H',Inv X pins U' H' s'/\Q U' H') X.xe s
abbrev TSet:=V->V->V->Hp->(Hp->Prop)->Prop
section
variable{X:Cx}{pos:Pos}
def lN(i:Nat):TG:=fun v U H Q=>Q (U.set i (some v)) H
theorem wA{i:Nat}{x:Str}(hN:X.N.Nodup)(hi:X.N[i]? = some x)(hx:fB X.env.scope x)(hf:X.fn x=true\/X.env.scope.names.lookup x=some .local:=by first|exact .inl rfl|exact .inr rfl|assumption):PG X (.Name x pos) (lN i):=by
 intro pins s U H v u Q I r h
 exact wpAny_assign_Name (pN I hN hi hx r (fun s' I'=>⟨_,H,I',h⟩) hf)
def BZ:i6:=fun vs U H Q=>vs=[]/\Q U H
def B2(t:TG)(u:i6):i6:=fun vs U H Q=>∃v r,vs=v::r/\t v U H fun U' H'=>u r U' H' Q
theorem SA:nJ X [] BZ:=by
 intro pins s U H vs us Q I r h
 obtain⟨e,h⟩:=h
 subst e
 cases r
 exact assignInOrder_nil ⟨U,H,I,h⟩
theorem SB{e:Expr}{es:List Expr}{t:TG}{u:i6}(h1:PG X e t)(h2:nJ X es u)
  (hs:(assignEach (e::es) X.env).map (·.2)=assign e X.env::(assignEach es X.env).map (·.2):=by rfl):nJ X (e::es) (B2 t u):=by
 intro pins s U H vs us Q I r h
 obtain⟨v,vr,e1,h⟩:=h
 subst e1
 cases r with
 |cons r rr=>
  rw[hs]
  refine assignInOrder_cons (aH (h1 pins s U H _ _ _ I r h) fun _ s1 ⟨σ1,H1,I1,q1⟩=>?_)
  exact h2 pins s1 σ1 H1 _ _ Q I1 rr q1
def SC(K:xFg)(n:Nat)(t:i6):TG:=fun v U H Q=>∃a xs,v=.ref a/\bJ K H a xs/\xs.length=n/\t xs U H Q
theorem SD{es:List Expr}{k:Nat}{t:i6}{n:Nat}(hc:X.calm=true)(h:nJ X es t)
  (hn:(assignEach es X.env).length=n:=by rfl) (hst:(assignEach es X.env).findIdx? (·.1)=none:=by rfl):PG X (.Tuple es k pos) (SC X.K n t):=by
 intro pins s U H v u Q I r hw
 obtain⟨a,xs,e1,hq,hl,hw⟩:=hw
 subst e1
 cases r
 obtain⟨its,rv,ht,hz⟩:=I.tuple hq
 refine assign_Tuple_tuple (I.ok.hd hc) ht (by simp[hn,<- hl,rv.length]) hst fun h' hx=>?_
 have I1:Inv X pins U H { s with heap:=h' }:=I.kept (t':=s.toks) fun b o e=>hx b o (xay (xai e)) e
 exact h pins _ U H xs _ Q I1 (by simpa using rv) hw
def gSub(to ti:TE)(t:TSet):TG:=fun v U H Q=>to U H fun o H1=>ti U H1 fun i H2=>t o i v H2 fun H3=>Q U H3
def nK(te:TE)(g:TG):TS:=fun D U H=>te U H fun x H1=>g x U H1 D.nx
theorem SE{tg e:Expr}{te:TE}{g:TG}(he:PE X e te)(hg:PG X tg g)(hs:swapsWithSole [tg] e pos.line X.env=pure false:=by rfl)(hw:swappedStores [tg] e X.env=pure none:=by rfl)
  (h1:(assignEach [tg] X.env).map (·.2)=[assign tg X.env]:=by rfl):PS X (.Assign [tg] e pos) (nK te g):=by
 intro pins s U H D I h
 refine wpAny_Assign_stores (aH (he pins s U H _ I h) fun v s1 ⟨x,H1,I1,r1,q1⟩=>?_) hs hw
 rw[h1]
 exact aH (hg pins s1 U H1 x v _ I1 r1 q1) fun _ s2 q=>q
theorem gF{i:Nat}{x:Str}{e:Expr}{te:TE}{pos':Pos}(hN:X.N.Nodup)(hi:X.N[i]? = some x)(hx:fB X.env.scope x)(he:PE X e te)(hs:swapsWith e (some (.Name x pos')) pos.line X.env=pure false:=by rfl)(hf:X.fn x=true\/X.env.scope.names.lookup x=some .local:=by first|exact .inl rfl|exact .inr rfl|assumption) :
  PS X (.Assign [.Name x pos'] e pos) (nK te (lN i)):=by
 intro pins s U H D I h
 refine wpAny_Assign_Name (aH (he pins s U H _ I h) fun v s1 ⟨y,H1,I1,r1,q1⟩=>?_) hs
 exact pN I1 hN hi hx r1 (fun s2 I2=>⟨_,H1,I2,q1⟩) hf
def SF(i j:Nat)(ta:TA):TS:=fun D U H=>ta U H fun vs H1=>∃v w,vs=[v,w]/\D.nx ((U.set i (some v)).set j (some w)) H1
theorem SG{i j:Nat}{x y:Str}{a b:Expr}{ta:TA}{px py pt:Pos}{kt k2 pt2}(hc:X.calm=true)(hN:X.N.Nodup)(hi:X.N[i]? = some x)(hj:X.N[j]? = some y)(hij:i≠j)
  (hx:X.env.scope.names.lookup x=some .local) (hy:X.env.scope.names.lookup y=some .local) (ha:PA X [a,b] ta)
  (hw:swappedStores [.Tuple [.Name x px,.Name y py] kt pt] (.Tuple [a,b] k2 pt2) X.env=pure (some [x,y]))
  (hs:swapsWithSole [.Tuple [.Name x px,.Name y py] kt pt] (.Tuple [a,b] k2 pt2) pos.line X.env=pure false:=by rfl) :
  PS X (.Assign [.Tuple [.Name x px,.Name y py] kt pt] (.Tuple [a,b] k2 pt2) pos) (SF i j ta):=by
 intro pins s U H D I h
 rw[exec_Assign_arm]
 refine xaa (wpAny_standAt ?_)
 rw[hs]
 refine xaa (xah ?_)
 rw[xal (by decide)]
 refine xaa (Tuple_ (aH (ha _ pins s U H _ I h) fun us s1 ⟨vs,H1,I1,r1,q1⟩=>?_))
 obtain⟨v,w,e1,q1⟩:=q1
 subst e1
 obtain⟨u1,u2,rfl,rv,rw'⟩:∃u1 u2,us=[u1,u2]/\aJ v u1/\aJ w u2:=by
  cases r1 with
  |cons p q=>
   cases q with
   |cons p' q'=>
    cases q'
    exact⟨_,_,rfl,p,p'⟩
 refine wpAny_newObj_type ?_ (by show 2<=sizeLine;decide)
 have I2:Inv X pins U H1 { s1 with heap:=s1.heap.push { cls:=.type "tuple",data:=.seq [u1,u2].toArray } }:=I1.kept (t':=s1.toks) fun b o e=>xad _ e
 rw[hw]
 refine xaa (xah ?_)
 show wpAny (model X.prog X.w) X.A (do rule "assign.swapped-stores";let items<-unpackItems (.ref s1.heap.objs.size) 2 none;assignInOrder [fun v=>bindName X.env y v,fun v=>bindName X.env x v] items.reverse;pure Flow.next) _ _ _
 refine xaa (wpAny_rule (xaa (unpackItems_tuple (items:=#[u1,u2]) (I.ok.hd hc) (IsTup.new s1.heap _) fun h' hx'=>?_)))
 have I3:=I2.kept (h':=h') (t':=s1.toks) fun b o e=>hx' b o (xay (xai e)) e
 show wpAny _ _ (assignInOrder [fun v=>bindName X.env y v,fun v=>bindName X.env x v] [u2,u1] >>= fun _=>pure Flow.next) _ _ _
 refine xaa (assignInOrder_cons (wpAny_bindName (pN I3 hN hj (.inl hy) rw' (fun s2 I4=>?_) (.inr hy))))
 refine assignInOrder_cons (wpAny_bindName (pN I4 hN hi (.inl hx) rv (fun s3 I5=>assignInOrder_nil (xah ?_)) (.inr hx)))
 rw[List.set_comm _ _ (xa5 hij)] at I5
 exact⟨_,H1,I5,q1⟩
end
section
variable{X:Cx}{pos:Pos}
def SH(c:TT)(tb:TS):TS:=fun D U H=>∃W:Nat->St->Hp->Prop,(∃m,W m U H)/\∀m U H,W m U H->
 c U H fun b H1=>if b=true then ∃N:St->Hp->Prop,(∀U' H',N U' H'->∃m',m'<m/\W m' U' H')/\tb { D with nx:=N,ct:=N,bk:=D.nx } U H1 else D.nx U H1
theorem SI{c:Expr}{body:List Stmt}{tc:TT}{tb:TS}(hp:PassesOwn (model X.prog X.w) X.A X.env X.xe)(hc:PT X c tc)(hb:cB X body tb):PS X (.While c body [] pos) (SH tc tb):=by
 intro pins s U H D I h
 obtain⟨W,⟨m0,w0⟩,turn⟩:=h
 refine wpAny_While (codeAny_whileLoop (fun n s'=>∃U' H',Inv X pins U' H' s'/\W n U' H') ?_ m0 ⟨U,H,I,w0⟩)
 rintro n s1 ⟨σ1,H1,I1,w1⟩
 refine wpAny_passesOwn hp (aH (hc pins s1 σ1 H1 _ I1 (turn n σ1 H1 w1)) fun b s2 ⟨H2,I2,q2⟩=>?_)
 cases b with
 |true=>
  obtain⟨N,hN,q2⟩:=q2
  rw[xao rfl]
  refine wpAny_passesOwn hp (aH (hb pins s2 σ1 H2 _ I2 q2) fun f s3 q3=>?_)
  cases f with
  |next=>
   obtain⟨σ3,H3,I3,n3⟩:=q3
   obtain⟨m',hm,w3⟩:=hN σ3 H3 n3
   exact⟨m',hm,σ3,H3,I3,w3⟩
  |cont=>
   obtain⟨σ3,H3,I3,n3⟩:=q3
   obtain⟨m',hm,w3⟩:=hN σ3 H3 n3
   exact⟨m',hm,σ3,H3,I3,w3⟩
  |brk=>exact q3
  |ret v=>exact q3
 |false=>
  rw[xal xa8]
  exact wpAny_execs_nil ⟨σ1,H2,I2,q2⟩
end
structure It where
 go:Nat->Hp->Prop
 yld:Nat->Hp->V->Hp->Prop
 stop:Nat->Hp->Prop
def eS(X:Cx)(pins:List (Addr×Obj))(H:Hp)(b:Addr):Prop:=
 H b=none/\b≠X.env.locals/\b∉X.fs/\(b∈X.ex\/X.s₀.heap.objs.size<=b)/\(∀x c,X.env.cells.lookup x=some c->c≠b)/\∀p∈X.pn++pins,p.1≠b
theorem Inv.fpOk{X:Cx}{pins:List (Addr×Obj)}{U:St}{H H':Hp}{s:Shared}{b:Addr}(I:Inv X pins U H s)(hb:s.heap.objs.size<=b)(hn:H' b=none):eS X pins H' b:=by
 refine⟨hn,xa6 (xae I.lt hb),I.nofs hb,.inr (xa1 I.sz hb),fun x c e z=>?_,fun p hp z=>?_⟩
 ·obtain⟨v,q⟩:=I.cell x c e
  exact xaq (xae q.lt (by rw[z];exact hb)) (xbk _)
 ·exact xaq (xae (xai (I.pin p hp).1) (by rw[z];exact hb)) (xbk _)
structure lO(P:Program)(w:World)(K:xFg)(tg:Expr)(J:It)(fp:List Addr)(it:Addr)(tn:Nat->Heap->Prop):Prop where
 mem:it∈fp
 obj:∀i h,tn i h->∀b∈fp,∃o,h.get? b=some o/\∀v,o.data≠.cell v
 keep:∀i h h',tn i h->(∀b∈fp,∀o,h.get? b=some o->h'.get? b=some o)->tn i h'
 item:∀(X:Cx),X.prog=P->X.w=w->X.K=K->X.calm=true->∀(i:Nat) (pins:List (Addr×Obj)) (s:Shared) (U:St) (H:Hp) (E:Value->Shared->Prop),Inv X pins U H s->(∀b∈fp,eS X pins H b)->tn i s.heap->J.go i H->
  wpAny (model P w) X.A (pyNext (.ref it)) (fun r s1=>∃u,r=some u/\
   wpAny (model P w) X.A (letOwnedTupleGo tg (.ref it) u) (fun _ s2=>∃x H',Inv X pins U H' s2/\aJ x u/\J.yld i H x H'/\tn (i+1) s2.heap/\∀b∈fp,H' b=none) E s1) E s
 done:∀(X:Cx),X.prog=P->X.w=w->X.K=K->X.calm=true->∀(i:Nat) (pins:List (Addr×Obj)) (s:Shared) (U:St) (H:Hp) (E:Value->Shared->Prop),Inv X pins U H s->(∀b∈fp,eS X pins H b)->tn i s.heap->J.stop i H->
  wpAny (model P w) X.A (pyNext (.ref it)) (fun r s1=>r=none/\Inv X pins U H s1) E s
 self:∀(A:Around) (i:Nat) (s:Shared) (Q:Value->Shared->Prop) (E:Value->Shared->Prop),tn i s.heap->Q (.ref it) s->wpAny (model P w) A (pyIter (.ref it)) Q E s
abbrev TI:=St->Hp->(It->Hp->Prop)->Prop
def PIE(X:Cx)(pins:List (Addr×Obj))(U:St)(tg:Expr)(R:It->Hp->Prop)(itv:Value)(s2:Shared):Prop:=
 ∃(it:Addr) (fp:List Addr) (tn:Nat->Heap->Prop) (J:It) (H':Hp),itv=.ref it/\Inv X pins U H' s2/\lO X.prog X.w X.K tg J fp it tn/\tn 0 s2.heap/\(∀b∈fp,eS X pins H' b)/\R J H'
def PI(X:Cx)(tg iter:Expr)(wi:TI):Prop:=
 ∀(pins:List (Addr×Obj)) (s:Shared) (U:St) (H:Hp) (R:It->Hp->Prop),Inv X pins U H s->wi U H R->
  wpAny (model X.prog X.w) X.A (eval iter X.env) (fun v s1=>wpAny (model X.prog X.w) X.A (pyIter v) (PIE X pins U tg R) X.xe s1) X.xe s
theorem sL{M:Model}{A:Around}{E:Value->Shared->Prop}{s:Shared}{tg:Expr}{it:Addr}{u:Value}{o:Obj}{n:String}{vs:Array Value}{Q:Unit->Shared->Prop}(ho:s.heap.get? it=some o)(hc:o.cls=.type n)(hd:o.data=.fields vs)
  (hn:["enumerate","zip","dict_itemiterator","dict_reverseitemiterator","odict_iterator","itertools.zip_longest","itertools.pairwise"].contains n=false) (hQ:Q () s):wpAny M A (letOwnedTupleGo tg (.ref it) u) Q E s:=by
 unfold letOwnedTupleGo
 cases tg<;>first
  |exact xah hQ
  |(cases u<;>first
    |exact xah hQ
    | (refine xaa (wpAny_load ho ?_)
       rw[hc,hd]
       show wpAny M A (if (["enumerate","zip","dict_itemiterator","dict_reverseitemiterator","odict_iterator","itertools.zip_longest","itertools.pairwise"].contains n&&vs[0]? == some (rawInt _))=true then _ else _) Q E s
       rw[xal (by intro h;rw[hn,Bool.false_and] at h;cases h)]
       exact xah hQ))
def nM(K:xFg)(a:Addr):It:=
 ⟨fun i H=>∃xs x,aW K H a xs/\xs[i]? = some x,fun i H x H'=>H'=H/\∀xs,aW K H a xs->xs[i]? = some x,fun i H=>∃xs,aW K H a xs/\xs.length<=i⟩
def nO(K:xFg)(a:Addr):It:=
 ⟨fun i H=>∃xs x,bJ K H a xs/\xs[i]? = some x,fun i H x H'=>H'=H/\∀xs,bJ K H a xs->xs[i]? = some x,fun i H=>∃xs,bJ K H a xs/\xs.length<=i⟩
def sM(lo:Int)(n:Nat):It:=⟨fun i _=>i<n,fun i H x H'=>H'=H/\x=.int (lo+i),fun i _=>n<=i⟩
theorem SJ{P:Program}{w:World}{K:xFg}{tg:Expr}(a it:Addr):lO P w K tg (nM K a) [it] it (fun i h=>h.IsListIter it a i) where
 mem:=by simp
 obj:=fun i h st b hb=>by
  have e:b=it:=by simpa using hb
  subst e
  obtain⟨o,e,c,d⟩:=st
  exact⟨o,e,fun v z=>by rw[d] at z;cases z⟩
 keep:=fun i h h' st k=>st.at fun o e=>k it (by simp) o e
 item:=by
  intro X hP hw hK hc i pins s U H E I hf st hg
  subst hP hw hK
  obtain⟨xs,x,hq,hx⟩:=hg
  obtain⟨its,rv,p,hz⟩:=I.list hq
  obtain⟨u,hu,ru⟩:=rv.get hx
  obtain⟨f0,f1,f2,f3,f4,f5⟩:=hf it (by simp)
  refine wpAny_pyNext_list_item st p.isList (x:=u) (by simpa using hu) fun h' st' sb=>?_
  have I1:Inv X pins U H { s with heap:=h' }:=I.turned (t':=s.toks) (fun b o hb e=>(sb.2 b hb).trans e) f0 f1 f3 f4 f5
  obtain⟨o,e,c,d⟩:=id st'
  exact⟨u,rfl,sL (s:={ s with heap:=h' }) e c d (by decide) ⟨x,H,I1,ru,⟨rfl,fun ys hy=>by rw[I.list_inj hy hq];exact hx⟩,st',fun b hb=>(hf b hb).1⟩⟩
 done:=by
  intro X hP hw hK hc i pins s U H E I hf st hg
  subst hP hw hK
  obtain⟨xs,hq,hx⟩:=hg
  obtain⟨its,rv,p,hz⟩:=I.list hq
  obtain⟨f0,f1,f2,f3,f4,f5⟩:=hf it (by simp)
  have hl:=rv.length
  exact wpAny_pyNext_list_end (I.ok.hd hc) st p.isList (by simp;omega) fun h' eb=>⟨rfl,I.turned (t':=s.toks) (fun b o hb e=>eb b o hb e) f0 f1 f3 f4 f5⟩
 self:=fun _ _ _ _ _ st h=>wpAny_pyIter_listiter st h
theorem SL{P:Program}{w:World}{K:xFg}{tg:Expr}(a it:Addr):lO P w K tg (nO K a) [it] it (fun i h=>h.IsTupleIter it a i) where
 mem:=by simp
 obj:=fun i h st b hb=>by
  have e:b=it:=by simpa using hb
  subst e
  obtain⟨o,e,c,d⟩:=st
  exact⟨o,e,fun v z=>by rw[d] at z;cases z⟩
 keep:=fun i h h' st k=>st.at fun o e=>k it (by simp) o e
 item:=by
  intro X hP hw hK hc i pins s U H E I hf st hg
  subst hP hw hK
  obtain⟨xs,x,hq,hx⟩:=hg
  obtain⟨its,rv,p,hz⟩:=I.tuple hq
  obtain⟨u,hu,ru⟩:=rv.get hx
  obtain⟨f0,f1,f2,f3,f4,f5⟩:=hf it (by simp)
  refine wpAny_pyNext_tuple_item st (show s.heap.IsTuple a its.toArray from p) (x:=u) (by simpa using hu) fun h' st' sb=>?_
  have I1:Inv X pins U H { s with heap:=h' }:=I.turned (t':=s.toks) (fun b o hb e=>(sb.2 b hb).trans e) f0 f1 f3 f4 f5
  obtain⟨o,e,c,d⟩:=id st'
  exact⟨u,rfl,sL (s:={ s with heap:=h' }) e c d (by decide) ⟨x,H,I1,ru,⟨rfl,fun ys hy=>by rw[I.tuple_inj hy hq];exact hx⟩,st',fun b hb=>(hf b hb).1⟩⟩
 done:=by
  intro X hP hw hK hc i pins s U H E I hf st hg
  subst hP hw hK
  obtain⟨xs,hq,hx⟩:=hg
  obtain⟨its,rv,p,hz⟩:=I.tuple hq
  obtain⟨f0,f1,f2,f3,f4,f5⟩:=hf it (by simp)
  have hl:=rv.length
  exact wpAny_pyNext_tuple_end (I.ok.hd hc) st (show s.heap.IsTuple a its.toArray from p) (by simp;omega) fun h' eb=>⟨rfl,I.turned (t':=s.toks) (fun b o hb e=>eb b o hb e) f0 f1 f3 f4 f5⟩
 self:=fun _ _ _ _ _ st h=>wpAny_pyIter_tupleiter st h
theorem SM{P:Program}{w:World}{K:xFg}{tg:Expr}(it:Addr)(lo:Int)(n:Nat):lO P w K tg (sM lo n) [it] it (fun i h=>IsRangeIter h it (lo+(i:Nat)*1) ((n:Int)-(i:Nat)) 1) where
 mem:=by simp
 obj:=fun i h st b hb=>by
  have e:b=it:=by simpa using hb
  subst e
  exact⟨_,st,fun v z=>by
   have z':Data.fields _=Data.cell v:=z
   cases z'⟩
 keep:=fun i h h' st k=>k it (by simp) _ st
 item:=by
  intro X hP hw hK hc i pins s U H E I hf st hg
  subst hP hw hK
  obtain⟨f0,f1,f2,f3,f4,f5⟩:=hf it (by simp)
  have W:=Walks.range (prog:=X.prog) (w:=X.w) (I.ok.hd hc) it lo 1 n
  refine W.item i s _ _ hg st fun v h' tk hv st' kk=>?_
  obtain⟨t,rfl⟩:=hv
  have I1:Inv X pins U H { s with heap:=h',toks:=tk }:=I.turned (fun b o hb e=>kk b o (by simpa using hb) e) f0 f1 f3 f4 f5
  refine⟨_,rfl,sL (s:={ s with heap:=h',toks:=tk }) (n:="range_iterator") st' rfl rfl (by decide) ⟨.int (lo+i),H,I1,⟨t,?_⟩,⟨rfl,rfl⟩,st',fun b hb=>(hf b hb).1⟩⟩
  rw[Int.mul_one]
 done:=by
  intro X hP hw hK hc i pins s U H E I hf st hg
  subst hP hw hK
  obtain⟨f0,f1,f2,f3,f4,f5⟩:=hf it (by simp)
  exact wpAny_pyNext_range_end (I.ok.hd hc) st (by have:n<=i:=hg;omega) fun h' eb=>⟨rfl,I.turned (t':=s.toks) (fun b o hb e=>eb b o hb e) f0 f1 f3 f4 f5⟩
 self:=fun _ _ _ _ _ st h=>wpAny_pyIter_rangeiter st h
end L2
namespace L2
open PySem.Spec PyProof.Rows
section
variable{X:Cx}{tg:Expr}
def B4(K:xFg)(tl:TE):TI:=fun U H R=>tl U H fun x H1=>∃a,x=.ref a/\(∃xs,aW K H1 a xs)/\R (nM K a) H1
def B5(K:xFg)(tl:TE):TI:=fun U H R=>tl U H fun x H1=>∃a,x=.ref a/\(∃xs,bJ K H1 a xs)/\R (nO K a) H1
theorem SN{l:Expr}{tl:TE}(hl:PE X l tl):PI X tg l (B4 X.K tl):=by
 intro pins s U H R I h
 refine aH (hl pins s U H _ I h) fun v s1 ⟨x,H1,I1,r1,q1⟩=>?_
 obtain⟨a,e,⟨xs,hq⟩,q⟩:=q1
 subst e
 cases r1
 obtain⟨its,rv,p,hz⟩:=I1.list hq
 refine wpAny_pyIter_list p.isList ?_
 refine⟨s1.heap.objs.size,[s1.heap.objs.size],_,_,H1,rfl,I1.kept (t':=s1.toks) fun b o e=>xad _ e,SJ a _,⟨_,xax _ rfl,rfl,rfl⟩,fun b hb=>?_,q⟩
 have e:b=s1.heap.objs.size:=by simpa using hb
 subst e
 exact I1.fpOk (xap _) (I1.hok.fresh (xap _))
theorem SQ{l:Expr}{tl:TE}(hl:PE X l tl):PI X tg l (B5 X.K tl):=by
 intro pins s U H R I h
 refine aH (hl pins s U H _ I h) fun v s1 ⟨x,H1,I1,r1,q1⟩=>?_
 obtain⟨a,e,⟨xs,hq⟩,q⟩:=q1
 subst e
 cases r1
 obtain⟨its,rv,p,hz⟩:=I1.tuple hq
 refine wpAny_pyIter_tuple (show s1.heap.IsTuple a its.toArray from p) ?_
 refine⟨s1.heap.objs.size,[s1.heap.objs.size],_,_,H1,rfl,I1.kept (t':=s1.toks) fun b o e=>xad _ e,SL a _,⟨_,xax _ rfl,rfl,rfl⟩,fun b hb=>?_,q⟩
 have e:b=s1.heap.objs.size:=by simpa using hb
 subst e
 exact I1.fpOk (xap _) (I1.hok.fresh (xap _))
theorem SR{pins:List (Addr×Obj)}{U:St}{H:Hp}{s:Shared}{R:It->Hp->Prop}{E:Value->Shared->Prop}{lo hi:Int}{t u v:Tok}{tk:Nat}(I:Inv X pins U H s)(h1:-(2^62)<=lo)(h2:lo<2^62)(h3:-(2^62)<=hi)(h4:hi<2^62)
  (q:R (sM lo (hi-lo).toNat) H):wpAny (model X.prog X.w) X.A (pyIter (.ref s.heap.objs.size)) (PIE X pins U tg R) E { s with heap:=s.heap.push { cls:=.type "range",data:=.fields #[.int lo t,.int hi u,.int 1 v] },toks:=tk }:=by
 refine wpAny_pyIter_range (IsRange.new ..) (small_one h1 h2 h3 h4) ?_
 have I1:Inv X pins U H { s with heap:=s.heap.push { cls:=.type "range",data:=.fields #[.int lo t,.int hi u,.int 1 v] },toks:=tk }:=I.kept fun b o e=>xad _ e
 refine⟨(s.heap.push { cls:=.type "range",data:=.fields #[.int lo t,.int hi u,.int 1 v] }).objs.size,[(s.heap.push { cls:=.type "range",data:=.fields #[.int lo t,.int hi u,.int 1 v] }).objs.size],_,_,H,rfl,
  I1.kept (t':=tk) fun b o e=>xad _ e,SM _ lo (hi-lo).toNat,?_,fun b hb=>?_,q⟩
 ·have e1:lo+((0:Nat):Int)*1=lo:=by simp
  have e2:(((hi-lo).toNat:Nat):Int)-((0:Nat):Int)=Builtin.Range.rangeSize lo hi 1:=by rw[rangeSize_one];split<;>omega
  show IsRangeIter _ _ (lo+((0:Nat):Int)*1) ((((hi-lo).toNat:Nat):Int)-((0:Nat):Int)) 1
  rw[e1,e2]
  exact xax _ rfl
 ·have e:b=(s.heap.push { cls:=.type "range",data:=.fields #[.int lo t,.int hi u,.int 1 v] }).objs.size:=by simpa using hb
  subst e
  exact I1.fpOk (xap _) (I1.hok.fresh (xap _))
def SS(ta:TA):TI:=fun U H R=>ta U H fun vs H1=>∃j:Int,vs=[.int j]/\-(2^62)<=j/\j<2^62/\R (sM 0 j.toNat) H1
theorem SU{a:Expr}{ta:TA}{p pos:Pos}(hg:Gl X "range")(hm:X.mg "range"=none)(ha:PA X [a] ta)(hs:starEach [a] X.env=[(false,eval a X.env)]:=by rfl):PI X tg (.Call (.Name "range" p) [a] [] pos) (SS ta):=by
 intro pins s U H R I h
 refine Call_ (kQ I hg hm boot_range (PyProof.Rows.callWith_type1 (aH (ha pos pins s U H _ I h) fun us s1 ⟨vs,H1,I1,r1,q1⟩=>?_) hs rfl))
 obtain⟨j,e,q1,q2,q⟩:=q1
 subst e
 cases r1 with
 |cons r rr=>
  cases rr
  obtain⟨t,rfl⟩:=r
  exact call_range_1 (SR I1 (by omega) (by omega) q1 q2 (by simpa using q))
def SV(wi:TI)(g:TG)(tb:TS):TS:=fun D U H=>wi U H fun J H1=>∃W:Nat->Nat->St->Hp->Prop,(∃m,W 0 m U H1)/\∀i m U H,W i m U H->
 (J.stop i H/\D.nx U H)\/(J.go i H/\∃N:St->Hp->Prop,(∀U' H',N U' H'->∃m',m'<m/\W (i+1) m' U' H')/\∀x H',J.yld i H x H'->g x U H' fun σ2 H2=>tb { D with nx:=N,ct:=N,bk:=D.nx } σ2 H2)
def pO(fp:List Addr)(h:Heap):List (Addr×Obj):=fp.filterMap fun b=>(h.get? b).map fun o=>(b,o)
theorem sN{fp:List Addr}{h:Heap}{b:Addr}{o:Obj}(hb:b∈fp)(e:h.get? b=some o):(b,o)∈pO fp h:=List.mem_filterMap.mpr ⟨b,hb,by rw[e];rfl⟩
theorem SW{fp:List Addr}{h:Heap}{p:Addr×Obj}(hp:p∈pO fp h):p.1∈fp/\h.get? p.1=some p.2:=by
 obtain⟨b,hb,e⟩:=List.mem_filterMap.mp hp
 cases q:h.get? b with
 |none=>rw[q] at e;cases e
 |some o=>
  rw[q] at e
  have e':(b,o)=p:=xas e
  subst e'
  exact⟨hb,q⟩
theorem Inv.pinned{pins:List (Addr×Obj)}{U:St}{H:Hp}{s:Shared}{fp:List Addr}(I:Inv X pins U H s)(hf:∀b∈fp,eS X pins H b)(ho:∀b∈fp,∃o,s.heap.get? b=some o/\∀v,o.data≠.cell v):Inv X (pins++pO fp s.heap) U H s:=
 I.pins_of fun p hp=>(xbf.mp hp).elim (fun z=>I.pin p (xbd _ z)) fun z=>by
  obtain⟨hb,e⟩:=SW z
  obtain⟨f0,f1,f2,_⟩:=hf p.1 hb
  obtain⟨o,e',d⟩:=ho p.1 hb
  rw[e] at e';cases e'
  exact⟨e,f0,f1,f2,d⟩
theorem Inv.unpinned{pins pl:List (Addr×Obj)}{U:St}{H:Hp}{s:Shared}(I:Inv X (pins++pl) U H s):Inv X pins U H s:=I.pins_of fun p hp=>I.pin p (xbd _ (List.mem_append_left _ hp))
theorem sO{iter:Expr}{body:List Stmt}{wi:TI}{g:TG}{tb:TS}{pos:Pos}(hp:PassesOwn (model X.prog X.w) X.A X.env X.xe)(hc:X.calm=true)(hi:PI X tg iter wi)(hg:PG X tg g)(hb:cB X body tb)
  (hs:∀x,foldedSetIterable iter X.env x=pure x:=by intro _;rfl):PS X (.For tg iter body [] pos) (SV wi g tb):=by
 intro pins s U H D I h
 refine wpAny_For (aH (hi pins s U H _ I h) fun v s1 h1=>aH h1 fun itv s2 h2=>?_) hs
 obtain⟨it,fp,tn,J,H2,e,I2,T,st2,f2,W,⟨m0,w0⟩,turn⟩:=h2
 subst e
 have stat:∀{H':Hp},(∀b∈fp,H' b=none)->∀b∈fp,eS X pins H' b:=fun hn b hb=>⟨hn b hb,(f2 b hb).2⟩
 refine codeAny_forLoop_any (fun n s'=>∃i U' H',Inv X pins U' H' s'/\tn i s'.heap/\(∀b∈fp,H' b=none)/\W i n U' H') ?_ m0 ⟨0,U,H2,I2,st2,fun b hb=>(f2 b hb).1,w0⟩
 rintro n s3 ⟨i,σ3,H3,I3,st3,fr3,w3⟩
 rcases turn i n σ3 H3 w3 with⟨stop,qn⟩|⟨go,N,hN,step⟩
 ·refine wpAny_passesOwn hp (aH (T.done X rfl rfl rfl hc i pins s3 σ3 H3 X.xe I3 (stat fr3) st3 stop) fun r s4 ⟨hr,I4⟩=>?_)
  subst hr
  exact wpAny_execs_nil ⟨σ3,H3,I4,qn⟩
 ·refine wpAny_passesOwn hp (aH (T.item X rfl rfl rfl hc i pins s3 σ3 H3 X.xe I3 (stat fr3) st3 go) fun r s4 ⟨u,hr,h4⟩=>?_)
  subst hr
  refine wpAny_passesOwn hp (aH h4 fun _ s5 ⟨x,H5,I5,r5,y5,st5,fr5⟩=>?_)
  have I5':=I5.pinned (stat fr5) (T.obj _ _ st5)
  refine wpAny_passesOwn hp (aH (hg _ s5 σ3 H5 x u _ I5' r5 (step x H5 y5)) fun _ s6 ⟨σ6,H6,I6,q6⟩=>?_)
  refine wpAny_passesOwn hp (aH (hb _ s6 σ6 H6 _ I6 q6) fun f s7 q7=>?_)
  have again:∀{σ7:St} {H7:Hp},Inv X (pins++pO fp s5.heap) σ7 H7 s7->N σ7 H7->∃m,m<n/\∃i U' H',Inv X pins U' H' s7/\tn i s7.heap/\(∀b∈fp,H' b=none)/\W i m U' H':=fun {σ7 H7} I7 n7=>by
   obtain⟨m',hm,w7⟩:=hN σ7 H7 n7
   refine⟨m',hm,i+1,σ7,H7,I7.unpinned,T.keep _ _ _ st5 fun b hb o e=>(I7.pin (b,o) (xbd _ (xbd _ (sN hb e)))).1,fun b hb=>?_,w7⟩
   obtain⟨o,e,d⟩:=T.obj _ _ st5 b hb
   exact(I7.pin (b,o) (xbd _ (xbd _ (sN hb e)))).2.1
  cases f with
  |next=>obtain⟨σ7,H7,I7,n7⟩:=q7;exact again I7 n7
  |cont=>obtain⟨σ7,H7,I7,n7⟩:=q7;exact again I7 n7
  |brk=>obtain⟨σ7,H7,I7,q7⟩:=q7;exact⟨σ7,H7,I7.unpinned,q7⟩
  |ret v=>obtain⟨x7,σ7,H7,I7,r7,q7⟩:=q7;exact⟨x7,σ7,H7,I7.unpinned,r7,q7⟩
end
end L2
namespace L2
open PySem.Spec PyProof.Rows
abbrev R2:=V->V->Hp->VK->Prop
def bE(X:Cx)(f:Value->Value->Sem Value)(r:R2):Prop:=
 ∀(pins:List (Addr×Obj)) (s:Shared) (U:St) (H:Hp) (x y:V) (v u:Value) (Q:VK),Inv X pins U H s->aJ x v->aJ y u->r x y H Q->
  wpAny (model X.prog X.w) X.A (f v u) (EP X pins U Q) X.xe s
def sP(X:Cx)(f:Value->Sem Value)(r:V->Hp->VK->Prop):Prop:=
 ∀(pins:List (Addr×Obj)) (s:Shared) (U:St) (H:Hp) (x:V) (v:Value) (Q:VK),Inv X pins U H s->aJ x v->r x H Q->
  wpAny (model X.prog X.w) X.A (f v) (EP X pins U Q) X.xe s
def eK(X:Cx)(f:Value)(r:List V->Hp->VK->Prop):Prop:=
 ∀(pins:List (Addr×Obj)) (s:Shared) (U:St) (H:Hp) (xs:List V) (us:List Value) (Q:VK),Inv X pins U H s->aP xs us->r xs H Q->
  wpAny (model X.prog X.w) X.A (call f us) (EP X pins U Q) X.xe s
def nQ(r:R2)(ta tb:TE):TE:=fun U H Q=>ta U H fun x H1=>tb U H1 fun y H2=>r x y H2 Q
def tUn(r:V->Hp->VK->Prop)(ta:TE):TE:=fun U H Q=>ta U H fun x H1=>r x H1 Q
def rI(C:Int->Int->Prop)(g:Int->Int->V):R2:=fun x y H Q=>∃i j,x=.int i/\y=.int j/\C i j/\Q (g i j) H
def i7(g:Int->Int->V):R2:=fun x y H Q=>∃i j,x=.int i/\y=.int j/\Q (g i j) H
def rU(g:Int->V):V->Hp->VK->Prop:=fun x H Q=>∃i,x=.int i/\Q (g i) H
section
variable{X:Cx}{a b c:Expr}{ta tb tc:TE}{pos:Pos}
theorem sQ(ha:PE X a ta)(hb:PE X b tb){pins:List (Addr×Obj)}{s:Shared}{U:St}{H:Hp}{R:V->V->Hp->Prop}(I:Inv X pins U H s)
  (h:ta U H fun x H1=>tb U H1 fun y H2=>R x y H2) {Q:Value->Shared->Prop} {f:Value->Value->Sem Value}
  (hf:∀v u s2 x y H2,Inv X pins U H2 s2->aJ x v->aJ y u->R x y H2->wpAny (model X.prog X.w) X.A (f v u) Q X.xe s2) :
  wpAny (model X.prog X.w) X.A (eval a X.env) (fun v s₁=>wpAny (model X.prog X.w) X.A (eval b X.env) (fun u s₂=>wpAny (model X.prog X.w) X.A (f v u) Q X.xe s₂) X.xe s₁) X.xe s:=by
 refine aH (ha pins s U H _ I h) fun v s1 ⟨x,H1,I1,r1,q1⟩=>?_
 refine aH (hb pins s1 U H1 _ I1 q1) fun u s2 ⟨y,H2,I2,r2,q2⟩=>?_
 exact hf v u s2 x y H2 I2 r1 r2 q2
theorem wB{op:Operator}{r:R2}(ho:bE X (binaryOp op) r)(ha:PE X a ta)(hb:PE X b tb):PE X (.BinOp a op b pos) (nQ r ta tb):=by
 intro pins s U H Q I h
 exact wpAny_BinOp (sQ ha hb I h fun v u s2 x y H2 I2 rx ry q=>ho pins s2 U H2 x y v u Q I2 rx ry q)
theorem B6{op:UnaryOp}{r:V->Hp->VK->Prop}(ho:sP X (unaryOp op) r)(ha:PE X a ta):PE X (.UnaryOp op a pos) (tUn r ta):=by
 intro pins s U H Q I h
 exact UnaryOp_ (aH (ha pins s U H _ I h) fun v s1 ⟨x,H1,I1,r1,q1⟩=>ho pins s1 U H1 x v Q I1 r1 q1)
theorem lP{f:Value->Value->Sem Value}{C:Int->Int->Prop}{g:Int->Int->Int}
  (rule:∀(i j:Int) (t u:Tok) (s:Shared) (Q:Value->Shared->Prop) (E:Value->Shared->Prop),C i j->Q (.int (g i j) s.toks) { s with toks:=s.toks+1 }->wpAny (model X.prog X.w) X.A (f (.int i t) (.int j u)) Q E s) :
  bE X f (rI C fun i j=>.int (g i j)):=by
 intro pins s U H x y v u Q I rx ry h
 obtain⟨i,j,rfl,rfl,hc,q⟩:=h
 obtain⟨t,rfl⟩:=rx
 obtain⟨t',rfl⟩:=ry
 exact rule i j t t' s _ _ hc ⟨.int (g i j),H,I.tok _,⟨_,rfl⟩,q⟩
theorem B7{f:Value->Value->Sem Value}{g:Int->Int->Int}
  (rule:∀(i j:Int) (t u:Tok) (s:Shared) (Q:Value->Shared->Prop) (E:Value->Shared->Prop),Q (.int (g i j) s.toks) { s with toks:=s.toks+1 }->wpAny (model X.prog X.w) X.A (f (.int i t) (.int j u)) Q E s) :
  bE X f (i7 fun i j=>.int (g i j)):=by
 intro pins s U H x y v u Q I rx ry h
 obtain⟨i,j,rfl,rfl,q⟩:=h
 obtain⟨t,rfl⟩:=rx
 obtain⟨t',rfl⟩:=ry
 exact rule i j t t' s _ _ ⟨.int (g i j),H,I.tok _,⟨_,rfl⟩,q⟩
theorem sR{f:Value->Value->Sem Value}{g:Int->Int->Bool}
  (rule:∀(i j:Int) (t u:Tok) (s:Shared) (Q:Value->Shared->Prop) (E:Value->Shared->Prop),Q (.bool (g i j)) s->wpAny (model X.prog X.w) X.A (f (.int i t) (.int j u)) Q E s) :
  bE X f (i7 fun i j=>.bl (g i j)):=by
 intro pins s U H x y v u Q I rx ry h
 obtain⟨i,j,rfl,rfl,q⟩:=h
 obtain⟨t,rfl⟩:=rx
 obtain⟨t',rfl⟩:=ry
 exact rule i j t t' s _ _ ⟨.bl (g i j),H,I,rfl,q⟩
def SY(i j:Int):Prop:=0<=j/\j<=1000000/\i.natAbs<2^64
theorem SZ(k:Nat):(0:Int)<=2^k:=by
 rw[two_pow_cast]
 exact Int.natCast_nonneg _
theorem S0:bE X (binaryOp .Add) (i7 fun i j=>.int (i+j)):=B7 fun _ _ _ _ _ _ _ q=>add_int q
theorem S3:bE X (binaryOp .Mod) (rI (fun _ j=>j≠0) fun i j=>.int (i.fmod j)):=lP fun _ _ _ _ _ _ _ hc q=>mod_int' hc q
theorem S4:bE X (binaryOp .Pow) (rI SY fun i j=>.int (i^j.toNat)):=lP fun _ _ _ _ _ _ _ hc q=>pow_int_small hc.1 hc.2.1 hc.2.2 q
theorem S5:bE X (binaryOp .RShift) (rI (fun _ j=>0<=j) fun i j=>.int (i/2^j.toNat)):=lP fun i j _ _ _ _ _ hc q=>
 rshift_int hc (by rw[xcn i (SZ _)];exact q)
theorem S6:bE X (binaryOp .BitAnd) (i7 fun i j=>.int (Builtin.bitAnd i j)):=B7 fun _ _ _ _ _ _ _ q=>and_int q
theorem unI{f:Value->Sem Value}{g:Int->Int}
  (rule:∀(i:Int) (t:Tok) (s:Shared) (Q:Value->Shared->Prop) (E:Value->Shared->Prop),Q (.int (g i) s.toks) { s with toks:=s.toks+1 }->wpAny (model X.prog X.w) X.A (f (.int i t)) Q E s) :
  sP X f (rU fun i=>.int (g i)):=by
 intro pins s U H x v Q I rx h
 obtain⟨i,rfl,q⟩:=h
 obtain⟨t,rfl⟩:=rx
 exact rule i t s _ _ ⟨.int (g i),H,I.tok _,⟨_,rfl⟩,q⟩
theorem B8:sP X (unaryOp .USub) (rU fun i=>.int (-i)):=unI fun _ _ _ _ _ q=>neg_int q
end
section
variable{X:Cx}{a b c:Expr}{ta tb tc:TE}{pos:Pos}
theorem pP{pins:List (Addr×Obj)}{U:St}{H:Hp}{s:Shared}{Q:VK}{k k':Bool}(I:Inv X pins U H s)(q:Q (.bl k) H)(e:k=k'):EP X pins U Q (.bool k') s:=by
 subst e
 exact⟨.bl k,H,I,rfl,q⟩
theorem S8:bE X (compareOp .Lt) (i7 fun i j=>.bl (decide (i<j))):=sR fun _ _ _ _ _ _ _ q=>lt_int q
theorem S9:bE X (compareOp .LtE) (i7 fun i j=>.bl (decide (i<=j))):=sR fun _ _ _ _ _ _ _ q=>le_int q
theorem TB:bE X (compareOp .Gt) (i7 fun i j=>.bl (decide (j<i))):=sR fun _ _ _ _ _ _ _ q=>gt_int q
theorem TC:bE X (compareOp .GtE) (i7 fun i j=>.bl (decide (j<=i))):=sR fun _ _ _ _ _ _ _ q=>ge_int q
theorem TD:bE X (compareOp .In) (fun x y H Q=>∃i j,x=.str i/\y=.str j/\Q (.bl (!(Builtin.Str.occurrences j i 0 j.length 1).isEmpty)) H):=by
 intro pins s U H x y v u Q I rx ry h
 obtain⟨i,j,rfl,rfl,q⟩:=h
 obtain⟨t,rfl⟩:=rx
 obtain⟨t',rfl⟩:=ry
 exact in_str (pP I q rfl)
theorem TF:bE X (compareOp .Is) (fun x y H Q=>y=.non/\Q (.bl (decide (x=.non))) H):=by
 intro pins s U H x y v u Q I rx ry h
 obtain⟨rfl,q⟩:=h
 cases ry
 refine is_none_gen (pP I q ?_)
 cases x<;>first
  |(cases rx;rfl)
  |(obtain⟨t,rfl⟩:=rx;rfl)
theorem TH:bE X (compareOp .IsNot) (fun x y H Q=>y=.non/\Q (.bl (!decide (x=.non))) H):=by
 intro pins s U H x y v u Q I rx ry h
 obtain⟨rfl,q⟩:=h
 cases ry
 refine isnot_none_gen (pP I q ?_)
 cases x<;>first
  |(cases rx;rfl)
  |(obtain⟨t,rfl⟩:=rx;rfl)
theorem bE.or{f:Value->Value->Sem Value}{r r':R2}(h:bE X f r)(h':bE X f r'):bE X f (fun x y H Q=>r x y H Q\/r' x y H Q):=by
 intro pins s U H x y v u Q I rx ry q
 rcases q with q|q
 ·exact h pins s U H x y v u Q I rx ry q
 ·exact h' pins s U H x y v u Q I rx ry q
theorem TJ{op:CmpOp}{r:R2}(ho:bE X (compareOp op) r)(ha:PE X a ta)(hb:PE X b tb)(hm:behindInMarks op b=false):PE X (.Compare a [op] [b] pos) (nQ r ta tb):=by
 intro pins s U H Q I h
 exact wpAny_Compare1 (sQ ha hb I h fun v u s2 x y H2 I2 rx ry q=>ho pins s2 U H2 x y v u Q I2 rx ry q) hm
def wC(t:TE):TT:=fun U H Q=>t U H fun x H'=>∃k,x=.bl k/\Q k H'
theorem TK{op:CmpOp}{r:R2}(ho:bE X (compareOp op) r)(ha:PE X a ta)(hb:PE X b tb)(hm:behindInMarks op b=false):PT X (.Compare a [op] [b] pos) (wC (nQ r ta tb)):=by
 intro pins s U H Q I h
 refine wpAny_isTrue_Compare1 (aH (ha pins s U H _ I h) fun v s1 ⟨x,H1,I1,r1,q1⟩=>aH (hb pins s1 U H1 _ I1 q1) fun u s2 ⟨y,H2,I2,r2,q2⟩=>
  aH (ho pins s2 U H2 x y v u _ I2 r1 r2 q2) fun c s3 ⟨z,H3,I3,r3,k,e,q3⟩=>?_) hm
 subst e
 cases r3
 exact wpAny_truthy_bool ⟨H3,I3,q3⟩
def wD(r r':R2)(ta tb tc:TE):TE:=fun U H Q=>ta U H fun x H1=>tb U H1 fun y H2=>r x y H2 fun z H3=>∃k,z=.bl k/\
 (if k=true then tc U H3 fun w' H4=>r' y w' H4 Q else Q (.bl false) H3)
theorem TL{op op':CmpOp}{r r':R2}(ho:bE X (compareOp op) r)(ho':bE X (compareOp op') r')(ha:PE X a ta)(hb:PE X b tb)(hc:PE X c tc)
  (hm:lastMarks [op,op'] [b,c]=false:=by with_unfolding_all rfl):PE X (.Compare a [op,op'] [b,c] pos) (wD r r' ta tb tc):=by
 intro pins s U H Q I h
 refine Compare_chain (aH (ha pins s U H _ I h) fun v s1 ⟨x,H1,I1,r1,q1⟩=>chain_link (aH (hb pins s1 U H1 _ I1 q1) fun u s2 ⟨y,H2,I2,r2,q2⟩=>
  aH (ho pins s2 U H2 x y v u _ I2 r1 r2 q2) fun d s3 ⟨z,H3,I3,r3,k,e,q3⟩=>?_)) hm
 subst e
 cases r3
 refine wpAny_truthy_bool ?_
 cases k with
 |false=>exact ite_ff ⟨.bl false,H3,I3,rfl,q3⟩
 |true=>exact ite_tt (chain_last (aH (hc pins s3 U H3 _ I3 q3) fun w' s4 ⟨z',H4,I4,r4,q4⟩=>ho' pins s4 U H4 y z' u w' Q I4 r2 r4 q4))
theorem TM{op op':CmpOp}{r r':R2}(ho:bE X (compareOp op) r)(ho':bE X (compareOp op') r')(ha:PE X a ta)(hb:PE X b tb)(hc:PE X c tc)
  (hm:lastMarks [op,op'] [b,c]=false:=by with_unfolding_all rfl):PT X (.Compare a [op,op'] [b,c] pos) (wC (wD r r' ta tb tc)):=by
 intro pins s U H Q I h
 refine isTrue_chain (aH (ha pins s U H _ I h) fun v s1 ⟨x,H1,I1,r1,q1⟩=>test_link (aH (hb pins s1 U H1 _ I1 q1) fun u s2 ⟨y,H2,I2,r2,q2⟩=>
  aH (ho pins s2 U H2 x y v u _ I2 r1 r2 q2) fun d s3 ⟨z,H3,I3,r3,k,e,q3⟩=>?_)) hm
 subst e
 cases r3
 refine wpAny_truthy_bool ?_
 cases k with
 |false=>
  obtain⟨k',e',q'⟩:=q3
  cases e'
  exact ite_ff ⟨H3,I3,q'⟩
 |true=>
  refine ite_tt (test_last (aH (hc pins s3 U H3 _ I3 q3) fun w' s4 ⟨z',H4,I4,r4,q4⟩=>aH (ho' pins s4 U H4 y z' u w' _ I4 r2 r4 q4) fun d' s5 ⟨z2,H5,I5,r5,k2,e2,q5⟩=>?_))
  subst e2
  cases r5
  exact wpAny_truthy_bool ⟨H5,I5,q5⟩
theorem sU:(sizeLine:Nat)<2^63:=by rw[sizeLine_eq];decide
theorem TN:bE X (binaryOp .Add) (fun x y H Q=>∃i j,x=.str i/\y=.str j/\i.length+j.length<=sizeLine/\Q (.str (i++j)) H):=by
 intro pins s U H x y v u Q I rx ry h
 obtain⟨i,j,rfl,rfl,hz,q⟩:=h
 obtain⟨t,rfl⟩:=rx
 obtain⟨t',rfl⟩:=ry
 exact add_str (fun t' tk=>⟨.str (i++j),H,I.tok _,⟨_,rfl⟩,q⟩) hz
def B9(b:Expr):Prop:=∀o i,subscripted b false o i=operate [o,i] (getItem o i)
theorem TQ(ha:PE X a ta)(hb:PE X b tb)(hs:B9 b) :
  PE X (.Subscript a b pos) (nQ (fun x y H Q=>∃z i c,x=.str z/\y=.int i/\0<=i/\i<2^63/\i<z.length/\z.cps[i.toNat]? = some c/\Q (.str ⟨#[c]⟩) H) ta tb):=by
 intro pins s U H Q I h
 refine Subscript_ (sQ ha hb I h fun v u s2 x y H2 I2 rx ry q=>?_)
 obtain⟨z,i,c,rfl,rfl,h0,h63,h1,hc,q⟩:=q
 obtain⟨t,rfl⟩:=rx
 obtain⟨t',rfl⟩:=ry
 have e:seqIndex? i z.length=some i.toNat:=PySem.StrLaws.seqIndex_nonneg h0 h1
 exact tail_any (typeIs_str s2 z t) slot_str_getitem.lookup (getItem_str (c:=c) (by
  have e1:decide (i < -(2^63:Int))=false:=xar (by omega)
  have e2:decide (i ≥ 2^63)=false:=xar (by omega)
  rw[e1,e2]<;>rfl) (by rw[e];exact hc) ⟨.str ⟨#[c]⟩,H2,I2.tok _,⟨_,rfl⟩,q⟩) (hs _ _)
theorem kR{x:V}{us:List Value}(r:aP [x] us):∃u,us=[u]/\aJ x u:=by
 cases r with
 |cons r1 r2=>cases r2;exact⟨_,rfl,r1⟩
theorem CA{x y:V}{us:List Value}(r:aP [x,y] us):∃u w',us=[u,w']/\aJ x u/\aJ y w':=by
 cases r with
 |cons r1 r2=>
  cases r2 with
  |cons r3 r4=>cases r4;exact⟨_,_,rfl,r1,r3⟩
theorem CB:eK X (.builtin "abs") (fun xs H Q=>∃i,xs=[.int i]/\Q (.int (if i<0 then -i else i)) H):=by
 intro pins s U H xs us Q I r h
 obtain⟨i,rfl,q⟩:=h
 obtain⟨u,rfl,t,rfl⟩:=kR r
 exact call_abs_int fun u tk=>⟨.int (if i<0 then -i else i),H,I.tok _,⟨_,rfl⟩,q⟩
theorem TR:eK X (.type "int") (fun xs H Q=>(∃i,xs=[.int i]/\Q (.int i) H)\/∃k,xs=[.bl k]/\Q (.int (if k then 1 else 0)) H):=by
 intro pins s U H xs us Q I r h
 rcases h with⟨i,rfl,q⟩|⟨k,rfl,q⟩
 ·obtain⟨u,rfl,t,rfl⟩:=kR r
  exact call_int_int ⟨.int i,H,I,⟨_,rfl⟩,q⟩
 ·obtain⟨u,rfl,r1⟩:=kR r
  cases r1
  exact call_int_bool ⟨.int (if k then 1 else 0),H,I.tok _,⟨_,rfl⟩,q⟩
end
end L2
namespace L2
open PySem.Spec PyProof.Rows
structure lQ(h:Heap)(x dx C:Addr)(mA:Str->Option Value):Prop where
 obj:h.get? x=some (PySem.W.instObj C dx)
 ns:h.Ns1 dx mA
 ne:dx≠x
theorem TU{h:Heap}{dx:Addr}{mA:Str->Option Value}(n:h.Ns1 dx mA):∃od,h.get? dx=some od/\∀name,PySem.W.lookIn name od=some (mA name):=by
 obtain⟨o,es,ep,ho,hd,hk,_,hm⟩:=n
 refine⟨o,ho,fun name=>?_⟩
 have e:=hm name
 unfold nsFind findBy at e
 rw[<- Array.find?_toList] at e
 unfold PySem.W.lookIn
 rw[hd]
 dsimp only
 split
 ·rename_i y q
  rw[q] at e
  exact congrArg some e
 ·rename_i q
  rw[q] at e
  have a:es.toList.any (·.refKey)=false:=by
   rw[List.any_eq_false]
   intro y hy
   obtain⟨z,t,hkey⟩:=hk y (Array.mem_toList_iff.mp hy)
   simp[DictEntry.refKey,hkey]
  have a':¬es.toList.any (·.refKey)=true:=by rw[a];exact xa8
  rw[xal a']
  exact congrArg some e
theorem lQ.look{h:Heap}{x dx C:Addr}{mA:Str->Option Value}(I:lQ h x dx C mA):∃od,PySem.W.InstAt h x (PySem.W.instObj C dx) C (some od)/\∀name,PySem.W.lookIn name od=some (mA name):=
 let⟨od,ho,hl⟩:=TU I.ns
 ⟨od,⟨I.obj,rfl,rfl,ho⟩,hl⟩
section
variable{prog:Program}{w:World}{A:Around}{E:Value->Shared->Prop}{s:Shared}{K:xFg}{x dx C f:Addr}{mA:Str->Option Value}{name:Str}{v:Value}
theorem TV{expr:Bool}{Q:Value->Shared->Prop}(X:K.In s.heap)(I:lQ s.heap x dx C mA)(hg:PySem.W.plainGet K C name=true)(hh:PySem.W.hasDictIn K C=true)
  (ha:PySem.W.findIn K (.ref C) name=some none) (hv:mA name=some v) (hv':PySem.W.handedIn v=true) (h:Q v { s with toks:=s.toks+1 }) :
  wpAny (model prog w) A (getAttr (.ref x) name expr) Q E s:=by
 obtain⟨od,J,hl⟩:=I.look
 exact PySem.W.get_value X J (PySem.W.plainGet_of hg).1 (PySem.W.findObj_own hh ha rfl (by rw[hl,hv])) hv' h
theorem TW{pl:Sem Bool}{Q:Value×List Value->Shared->Prop}(X:K.In s.heap)(I:lQ s.heap x dx C mA)(hg:PySem.W.plainGet K C name=true)
  (hf:PySem.W.findIn K (.ref C) name=some (some (.ref f))) (ht:PySem.W.isFn K (.ref f)=true) (hv:mA name=none) (h:Q (.ref f,[.ref x]) s) :
  wpAny (model prog w) A (getMethod (.ref x) name pl) Q E s:=by
 obtain⟨od,J,hl⟩:=I.look
 exact PySem.W.method_fn X J (PySem.W.plainGet_of hg).1 (PySem.W.plainGet_of hg).2 hf (beq_iff_eq.mp ht) (by show (PySem.W.lookIn name od).map (·.isSome)=some false;rw[hl,hv];rfl) h
theorem TX{ns:List Str}{Q:Unit->Shared->Prop}(X:K.In s.heap)(I:lQ s.heap x dx C mA)
  (hs:PySem.W.findIn K (.ref C) "__setattr__"=some (some (.builtin "object.__setattr__"))) (hp:PySem.W.plainOver K C=true) (ht:PySem.W.takerIn K C name=some none) (hh:PySem.W.hasDictIn K C=true)
  (hw:PySem.Within mA ns) (hsz:ns.length<=sizeLine)
  (h:∀h',lQ h' x dx C (fun y=>if y=name then some v else mA y)->Heap.SameBut dx s.heap h'->Q () { s with heap:=h',toks:=s.toks+2 }) :
  wpAny (model prog w) A (setAttr (.ref x) name v) Q E s:=by
 obtain⟨od,J,hl⟩:=I.look
 refine PySem.W.set_plain X J hs (PySem.W.osa_open (s:={ s with toks:=s.toks+1 }) (r:=none) X J hp ht fun b=>?_)
 obtain⟨cd,hc,hd'⟩:=PySem.W.any_some hh
 have hx:s.heap.get? x=some ⟨.ref C,some dx,.plain,#[]⟩:=I.obj
 refine xaa (xah (xaa (xaa (wpAny_loadPart hx (xaa (PySem.W.Looks.here (s:={ s with toks:=s.toks+1 }) (PySem.W.looks_clsIn X hc) ?_))))))
 rw[hd']
 refine xah (a:=some dx) (xaa (xah (xaa ?_)))
 refine wpAny_nsSet1 (s:={ s with toks:=s.toks+1 }) I.ns fun h' hn2 hs2=>?_
 obtain⟨oD,esD,epD,hoD,hdD,hcD⟩:=hn2.count (PySem.Within.cons name v hw)
 refine xaa (wpAny_lookBehind hoD (by rw[hdD];exact pastItsLine_dict (xa1 hcD (by rw[xaw];omega))) ?_)
 exact xah (h _ ⟨(hs2.2 _ (xa5 I.ne)).trans I.obj,hn2,I.ne⟩ hs2)
theorem TY{R:Result->Shared->Prop}{vs:List Value}{kw:List (Str×Value)}(X:K.In s.heap)(hm:PySem.W.makesIn K C=true)
  (hi:PySem.W.findIn K (.ref C) "__init__"=some (some (.ref f))) (hf:PySem.W.typeIn K (.ref f)=some (.type "function"))
  (h : codeAny (model prog w) (A.under (.builtin "type.__call__" ⟨.ref C :: vs, kw⟩)) (.call (.ref f) ⟨.ref (s.heap.objs.size + 1) :: vs, kw⟩) (PySem.W.InitBack (s.heap.objs.size + 1) R)
   { s with heap:=(s.heap.push PySem.W.emptyDict).push (PySem.W.instObj C s.heap.objs.size) }) :
  codeAny (model prog w) A (.call (.ref C) ⟨vs,kw⟩) R s:=by
 obtain⟨hh,g,d,t,os⟩:=s
 exact PySem.W.make_core (PySem.W.makes_of X hm) (PySem.W.looks_findIn X hi) (fun self=>PySem.W.bind_fn X self hf) (.inl rfl) h
end
def cF(f:Str)(v:V):List (Str×V)->List (Str×V)
 |[]=>[(f,v)]
 |(g,x)::r=>if g=f then (g,v)::r else (g,x)::cF f v r
theorem CC(f g:Str)(v:V):∀fs:List (Str×V),(cF f v fs).lookup g=if g=f then some v else fs.lookup g
 |[]=>by
  show List.lookup g [(f,v)]=_
  by_cases h:g=f
  ·have hb:(g==f)=true:=beq_iff_eq.mpr h
   simp only[List.lookup,hb,xao h]
  ·have hb:(g==f)=false:=beq_eq_false_iff_ne.mpr h
   simp only[List.lookup,hb,xal h]
 |(k,x)::r=>by
  have ih:=CC f g v r
  rw[show cF f v ((k,x)::r)=(if k=f then (k,v)::r else (k,x)::cF f v r) from rfl]
  by_cases hk:k=f
  ·rw[xao hk]
   by_cases h:g=k
   ·have hb:(g==k)=true:=beq_iff_eq.mpr h
    simp only[List.lookup,hb,xao (h.trans hk)]
   ·have hb:(g==k)=false:=beq_eq_false_iff_ne.mpr h
    simp only[List.lookup,hb,xal (fun e:g=f=>h (e.trans hk.symm))]
  ·rw[xal hk]
   by_cases h:g=k
   ·have hb:(g==k)=true:=beq_iff_eq.mpr h
    simp only[List.lookup,hb,xal (fun e:g=f=>hk (h.symm.trans e))]
   ·have hb:(g==k)=false:=beq_eq_false_iff_ne.mpr h
    simp only[List.lookup,hb]
    exact ih
theorem wE(f:Str)(v:V):∀fs:List (Str×V),f∈(cF f v fs).map (·.1)/\∀g,g∈fs.map (·.1)->g∈(cF f v fs).map (·.1)
 |[]=>⟨by simp[cF],fun g h=>by simp at h⟩
 |(k,x)::r=>by
  obtain⟨i1,i2⟩:=wE f v r
  rw[show cF f v ((k,x)::r)=(if k=f then (k,v)::r else (k,x)::cF f v r) from rfl]
  by_cases hk:k=f
  ·rw[xao hk]
   subst hk
   exact⟨by simp,fun g h=>by simpa using h⟩
  ·rw[xal hk]
   refine⟨?_,fun g h=>?_⟩
   ·rw[xa4]
    exact xat _ i1
   ·rw[xa4] at h ⊢
    rcases xaz.mp h with e|e
    ·exact xaz.mpr (.inl e)
    ·exact xat _ (i2 g e)
theorem CD(f:Str)(v:V):∀fs:List (Str×V),(cF f v fs).length<=fs.length+1
 |[]=>by simp[cF]
 |(k,x)::r=>by
  have ih:=CD f v r
  rw[show cF f v ((k,x)::r)=(if k=f then (k,v)::r else (k,x)::cF f v r) from rfl]
  by_cases hk:k=f
  ·rw[xao hk,xaw,xaw];omega
  ·rw[xal hk,xaw,xaw];omega
theorem eJ.some_of{v:V}{o:Option Value}(r:eJ (some v) o):∃u,o=some u/\aJ v u:=by
 cases o with
 |none=>exact(show False from r).elim
 |some u=>exact⟨u,rfl,r⟩
theorem eJ.none_of{o:Option Value}(r:eJ none o):o=none:=by
 cases o with
 |none=>rfl
 |some u=>exact(show False from r).elim
theorem TZ{v:V}{u:Value}(r:aJ v u):PySem.W.handedIn u=true:=by
 cases v with
 |non=>cases (show u=Value.none from r);rfl
 |bl b=>cases (show u=Value.bool b from r);rfl
 |int i=>obtain⟨t,e⟩:=(show ∃t,u=Value.int i t from r);cases e;rfl
 |str x=>obtain⟨t,e⟩:=(show ∃t,u=Value.str x t from r);cases e;rfl
 |byt b=>obtain⟨t,e⟩:=(show ∃t,u=Value.bytes b t from r);cases e;rfl
 |flt b=>obtain⟨t,e⟩:=(show ∃t,u=Value.float b t from r);cases e;rfl
 |ref a=>cases (show u=Value.ref a from r);rfl
 |ty n=>cases (show u=Value.type n from r);rfl
section
variable{P:Program}{w:World}{H H':Hp}{h h':Heap}{a C dx:Addr}{fs fs':List (Str×V)}
theorem wF(hok:cG P w H h)(e:H a=some (.ins C dx fs)):∃mA,lQ h a dx C mA/\(∀f,eJ (fs.lookup f) (mA f))/\PySem.Within mA (fs.map (·.1))/\fs.length<=1000/\H dx=some (.own a):=by
 obtain⟨d,z,ne,ob,mA,n,r,q⟩:=(show c6 P w H h a (.ins C dx fs) from hok a _ e)
 exact⟨mA,⟨ob,n,ne⟩,r,q,z,d⟩
end
structure fC(K:xFg)(C:Addr):Prop where
 pg:PySem.W.plainGet K C Str.empty=true
 hd:PySem.W.hasDictIn K C=true
 po:PySem.W.plainOver K C=true
 sa:PySem.W.findIn K (.ref C) "__setattr__"=some (some (.builtin "object.__setattr__"))
theorem fC.get{K:xFg}{C:Addr}(c:fC K C)(f:Str):PySem.W.plainGet K C f=true:=c.pg
def fD(K:xFg)(C:Addr)(f:Str):Prop:=PySem.W.findIn K (.ref C) f=some none
theorem fD.taker{K:xFg}{C:Addr}{f:Str}(n:fD K C f):PySem.W.takerIn K C f=some none:=by
 unfold PySem.W.takerIn
 rw[show PySem.W.findIn K (.ref C) f=some none from n]
 rfl
structure cW(K:xFg)(C:Addr)(m:Str)(f:Addr):Prop where
 at_:PySem.W.findIn K (.ref C) m=some (some (.ref f))
 fn:PySem.W.isFn K (.ref f)=true
 kp:PySem.W.keepIn K (.ref f)=true
section
variable{X:Cx}{pins:List (Addr×Obj)}{U:St}{H:Hp}{s:Shared}{a C dx:Addr}{fs:List (Str×V)}{f:Str}{v:V}{A:Around}{E:Value->Shared->Prop}
theorem CF{b:Bool}{Q:Value->Shared->Prop}(I:Inv X pins U H s)(e:H a=some (.ins C dx fs))(c:fC X.K C)(n:fD X.K C f)(l:fs.lookup f=some v)
  (h:∀u s',Inv X pins U H s'->aJ v u->Q u s'):wpAny (model X.prog X.w) A (getAttr (.ref a) f b) Q E s:=by
 obtain⟨mA,O,r,_,_,_⟩:=wF I.hok e
 obtain⟨u,hu,ru⟩:=eJ.some_of (v:=v) (o:=mA f) (by rw[<- l];exact r f)
 exact TV I.kIn O (c.get f) c.hd n hu (TZ ru) (h u _ (I.tok _) ru)
theorem wG{m:Str}{g:Addr}{pl:Sem Bool}{Q:Value×List Value->Shared->Prop}(I:Inv X pins U H s)(e:H a=some (.ins C dx fs))(c:fC X.K C)(k:cW X.K C m g)(l:fs.lookup m=none)
  (h:Q (.ref g,[.ref a]) s):wpAny (model X.prog X.w) A (getMethod (.ref a) m pl) Q E s:=by
 obtain⟨mA,O,r,_,_,_⟩:=wF I.hok e
 have hn:mA m=none:=eJ.none_of (by rw[<- l];exact r m)
 exact TW I.kIn O (c.get m) k.at_ k.fn hn h
theorem CG{y:V}{u:Value}{Q:Unit->Shared->Prop}(I:Inv X pins U H s)(e:H a=some (.ins C dx fs))(c:fC X.K C)(n:fD X.K C f)(hl:fs.length<1000)(ry:aJ y u)
  (h:∀s',Inv X pins U (upd H a (.ins C dx (cF f y fs))) s'->Q () s'):wpAny (model X.prog X.w) A (setAttr (.ref a) f u) Q E s:=by
 obtain⟨mA,O,r,wi,_,ho⟩:=wF I.hok e
 have hz:(fs.map (·.1)).length<=sizeLine:=by rw[xak,sizeLine_eq];omega
 refine TX I.kIn O c.sa c.po n.taker c.hd wi hz fun h' O' sb=>h _ ?_
 have hd:∃o,h'.get? dx=some o:=let⟨o,_,_,e',_⟩:=O'.ns;⟨o,e'⟩
 refine I.write (x:=a) (e:=dx) (by rw[e];exact True.intro) (.inr ho) (fun b q hb z=>(sb.2 b hb).trans z) hd ?_
 refine⟨by rw[aG O.ne];exact ho,?_,O.ne,O'.obj,_,O'.ns,fun g=>?_,fun g hg=>?_⟩
 ·have:=CD f y fs;omega
 ·show eJ ((cF f y fs).lookup g) (if g=f then some u else mA g)
  rw[CC]
  by_cases q:g=f
  ·rw[xao q,xao q];exact ry
  ·rw[xal q,xal q];exact r g
 ·by_cases q:g=f
  ·rw[q];exact(wE f y fs).1
  ·refine(wE f y fs).2 g (wi g fun z=>hg ?_)
   show (if g=f then some u else mA g)=none
   rw[xal q];exact z
theorem Inv.made(I:Inv X pins U H s):Inv X pins U (upd (upd H s.heap.objs.size (.own (s.heap.objs.size+1))) (s.heap.objs.size+1) (.ins C s.heap.objs.size []))
  { s with heap:=(s.heap.push PySem.W.emptyDict).push (PySem.W.instObj C s.heap.objs.size) }:=by
 have e1:(s.heap.push PySem.W.emptyDict).get? s.heap.objs.size=some PySem.W.emptyDict:=xax s.heap rfl
 have e2:((s.heap.push PySem.W.emptyDict).push (PySem.W.instObj C s.heap.objs.size)).get? (s.heap.objs.size+1)=some (PySem.W.instObj C s.heap.objs.size):=by
  have:=xax (s.heap.push PySem.W.emptyDict) (o:=PySem.W.instObj C s.heap.objs.size) rfl
  rwa [xcj] at this
 have e3:(s.heap.push PySem.W.emptyDict).Ns s.heap.objs.size (fun _=>none):=⟨PySem.W.emptyDict,#[],_,e1,rfl,(fun e he=>xaq he (by simp)),fun _=>rfl⟩
 have I1:=I.laid (a:=s.heap.objs.size) (o:=.own (s.heap.objs.size+1)) (h':=s.heap.push PySem.W.emptyDict) (t':=s.toks) (fun b u q=>xad _ q) (xap _) ⟨_,e1⟩
 refine I1.laid (a:=s.heap.objs.size+1) (o:=.ins C s.heap.objs.size []) (t':=s.toks) (fun b u q=>xad _ q) (Nat.le_of_eq (xcj _ _)) ?_
 have ne:s.heap.objs.size≠s.heap.objs.size+1:=xay (xck _)
 refine⟨by rw[aG ne,aV],xbi _,ne,e2,fun _=>none,(Heap.Ns1.of_empty e3).at fun o q=>xad _ q,fun _=>True.intro,fun y hy=>xaq rfl hy⟩
theorem T0{prog:Program}{w:World}{env:Env}{e:Expr}{f:Str}{pos:Pos}{s:Shared}{Q:Value->Shared->Prop}(hb:attributeBase e f env (eval e env)=eval e env)
  (h:wpAny (model prog w) A (eval e env) (fun o s₁=>wpAny (model prog w) A (getAttr o f true) Q E s₁) E s):wpAny (model prog w) A (eval (.Attribute e f pos) env) Q E s:=
 Attribute_any_ h (by rw[arm_eval_Attribute,hb])
end
def T1(K:xFg)(ta:TE)(f:Str):TE:=fun U H Q=>ta U H fun x H1=>∃a C dx fs v,x=.ref a/\H1 a=some (.ins C dx fs)/\fC K C/\fD K C f/\fs.lookup f=some v/\Q v H1
def T2(K:xFg)(ta tv:TE)(f:Str):TS:=fun D U H=>tv U H fun y H1=>ta U H1 fun x H2=>∃a C dx fs,x=.ref a/\H2 a=some (.ins C dx fs)/\fC K C/\fD K C f/\fs.length<1000/\
 D.nx U (upd H2 a (.ins C dx (cF f y fs)))
def CH(X:Cx)(op:Operator)(rd:V->V->Hp->VK->Prop):Prop:=
 ∀(pins:List (Addr×Obj)) (s:Shared) (U:St) (H:Hp) (x y:V) (u v:Value) (Q:VK),Inv X pins U H s->aJ x u->aJ y v->rd x y H Q->wpAny (model X.prog X.w) X.A (inplaceOp op u v) (EP X pins U Q) X.xe s
def T4(K:xFg)(ta tv:TE)(rd:V->V->Hp->VK->Prop)(f:Str):TS:=fun D U H=>ta U H fun x H1=>∃a C dx fs v,x=.ref a/\H1 a=some (.ins C dx fs)/\fC K C/\fD K C f/\fs.lookup f=some v/\
 tv U H1 fun y H2=>rd v y H2 fun z H3=>∃dx' fs',H3 a=some (.ins C dx' fs')/\fs'.length<1000/\D.nx U (upd H3 a (.ins C dx' (cF f z fs')))
section
variable{X:Cx}{o e value:Expr}{f:Str}{pos pos' tpos:Pos}{ta tv:TE}
theorem gY(he:PE X e ta)(hb:attributeBase e f X.env (eval e X.env)=eval e X.env):PE X (.Attribute e f pos) (T1 X.K ta f):=by
 intro pins s U H Q I h
 refine T0 hb (aH (he pins s U H _ I h) fun u s1 ⟨x,H1,I1,rx,a,C,dx,fs,v,ex,ea,c,n,l,q⟩=>?_)
 subst ex
 obtain rfl:u=Value.ref a:=rx
 exact CF I1 ea c n l fun u' s2 I2 ru=>⟨v,H1,I2,ru,q⟩
theorem kS(ha:PE X o ta)(hv:PE X value tv)(hs:swapsWith value (some (.Attribute o f pos')) pos.line X.env=pure false):PS X (.Assign [.Attribute o f pos'] value pos) (T2 X.K ta tv f):=by
 intro pins s U H D I h
 refine plainObj_wpAny_Assign_Attribute (aH (hv pins s U H _ I h) fun u s1 ⟨y,H1,I1,ry,q⟩=>aH (ha pins s1 U H1 _ I1 q) fun ov s2 ⟨x,H2,I2,rx,a,C,dx,fs,ex,ea,c,n,l,q2⟩=>?_) hs
 subst ex
 obtain rfl:ov=Value.ref a:=rx
 exact CG I2 ea c n l ry fun s3 I3=>⟨U,_,I3,q2⟩
theorem CI{op:Operator}{rd:V->V->Hp->VK->Prop}(ha:PE X o ta)(hv:PE X value tv)(hop:CH X op rd):PS X (.AugAssign (.Attribute o f tpos) op value pos) (T4 X.K ta tv rd f):=by
 intro pins s U H D I h
 refine wpAny_AugAssign_AttributeAny (aH (ha pins s U H _ I h) fun ov s1 ⟨x,H1,I1,rx,a,C,dx,fs,v,ex,ea,c,n,l,q⟩=>?_)
 subst ex
 obtain rfl:ov=Value.ref a:=rx
 refine CF I1 ea c n l fun u s2 I2 ru=>aH (hv pins s2 U H1 _ I2 q) fun w3 s3 ⟨y,H2,I3,ry,q3⟩=>aH (hop pins s3 U H2 v y u w3 _ I3 ru ry q3) fun w4 s4 ⟨z,H3,I4,rz,dx',fs',ea',l',q4⟩=>?_
 exact CG I4 ea' c n l' rz fun s5 I5=>⟨U,_,I5,q4⟩
def T5:V->V->Hp->VK->Prop:=fun x y H Q=>∃i j,x=.int i/\y=.int j/\Q (.int (i+j)) H
theorem CJ:CH X .Add T5:=by
 rintro pins s U H x y u v Q I rx ry ⟨i,j,rfl,rfl,q⟩
 obtain⟨t,rfl⟩:=(show ∃t,u=Value.int i t from rx)
 obtain⟨t',rfl⟩:=(show ∃t',v=Value.int j t' from ry)
 exact PyProof.Rows.iadd_int ⟨.int (i+j),H,I.tok _,⟨_,rfl⟩,q⟩
theorem zee{pl:Sem Bool}{m:Str}{apos:Pos}{args:List Expr}{pins:List (Addr×Obj)}{s:Shared}{U:St}{H:Hp}{Q:Value->Shared->Prop}{te:TE}(he:PE X e te)(I:Inv X pins U H s)
  (h : te U H fun x H1 => ∃ a C dx fs g, x = .ref a /\ H1 a = some (.ins C dx fs) /\ fC X.K C /\ cW X.K C m g /\ fs.lookup m = none /\
   ∀s1,Inv X pins U H1 s1->wpAny (model X.prog X.w) X.A (callWith pos (.ref g) [.ref a] (backTo pos (starEach args X.env)) (backToKw pos (keywordEach [] X.env))) Q X.xe s1)
  (ht : eval (.Call (.Attribute e m apos) args [] pos) X.env = (do
   let ov<-eval e X.env
   standAt apos.atName
   let (f,first)<-holding [ov] (getMethod ov m pl)
   callWith pos f first (backTo pos (starEach args X.env)) (backToKw pos (keywordEach [] X.env)))) :
  wpAny (model X.prog X.w) X.A (eval (.Call (.Attribute e m apos) args [] pos) X.env) Q X.xe s:=by
 refine PySem.W.methodCall_KW (pl:=pl) (aH (he pins s U H _ I h) fun u s1 ⟨x,H1,I1,rx,a,C,dx,fs,g,ex,ea,c,k,l,q⟩=>?_) ht
 subst ex
 obtain rfl:u=Value.ref a:=rx
 exact wG I1 ea c k l (q s1 I1)
end
end L2
namespace L2
open PySem.Spec PyProof.Rows
structure cH(k:Nat)(A:Around):Prop where
 hd:A.handled=none
 dp:A.depth+3*k+5<recursionLimit
 un:A.units+16*k+200<cLine
theorem cH.mono{j k:Nat}{A:Around}(r:cH k A)(h:j<=k):cH j A:=⟨r.hd,by have:=r.dp;omega,by have:=r.un;omega⟩
theorem cH.deeper{k:Nat}{A:Around}(r:cH (k+1) A)(env:Env):cH k (A.deeper env):=
 ⟨r.hd,by have:=r.dp;show A.depth+1+3*k+5<_;omega,by have:=r.un;show A.units+3+16*k+200<_;omega⟩
theorem T6{A:Around}{C:Addr}{us:List Value}{kw:List (Str×Value)}:(A.under (.builtin "type.__call__" ⟨.ref C::us,kw⟩)).depth=A.depth+1:=by
 first|rfl|simp[Around.under,Code.weight,Code.isCreation,Code.isGuard,Code.isCaller,Code.frames,Code.isFrame,guardIds]
theorem T7{A:Around}{C:Addr}{us:List Value}{kw:List (Str×Value)}:(A.under (.builtin "type.__call__" ⟨.ref C::us,kw⟩)).units=A.units+1:=by
 first|rfl|simp[Around.under,Code.cUnits,Code.frames,Code.isFrame]
theorem cH.make{k:Nat}{A:Around}(r:cH (k+1) A)(C:Addr)(us:List Value)(kw:List (Str×Value)):cH k (A.under (.builtin "type.__call__" ⟨.ref C::us,kw⟩)):=
 ⟨r.hd,by have:=r.dp;rw[T6];omega,by have:=r.un;rw[T7];omega⟩
theorem cH.depth{k:Nat}{A:Around}(r:cH k A):A.depth<recursionLimit:=by have:=r.dp;omega
theorem cH.units{k:Nat}{A:Around}(r:cH k A):A.units+64<cLine:=by have:=r.un;omega
def wH:TA:=fun _ H Q=>Q [] H
def CK(ta:TE)(tr:TA):TA:=fun U H Q=>ta U H fun x H1=>tr U H1 fun xs H2=>Q (x::xs) H2
section
variable{X:Cx}{e:Expr}{es:List Expr}{te:TE}{t:TA}{pos:Pos}
theorem eL:PA X [] wH:=fun _ _ _ _ H Q I h=>Calls.spliced_nil ⟨[],H,I,.nil,h⟩
theorem cN(ha:PE X e te)(hr:PA X es t)(hs:starEach (e::es) X.env=(false,eval e X.env)::starEach es X.env:=by rfl):PA X (e::es) (CK te t):=by
 intro pos pins s U H Q I h
 rw[hs]
 show wpAny _ _ (spliced ((false,eval e X.env)::backTo pos (starEach es X.env))) _ _ s
 refine Calls.spliced_cons (aH (ha pins s U H _ I h) fun u s1 ⟨x,H1,I1,r1,q1⟩=>?_)
 exact aH (hr pos pins s1 U H1 _ I1 q1) fun us s2 ⟨xs,H2,I2,r2,q2⟩=>⟨x::xs,H2,I2,.cons r1 r2,q2⟩
def T8(t:TA):TE:=fun U H Q=>t U H fun xs H1=>xs.length<=sizeLine/\∀p,H1 p=none->Q (.ref p) (upd H1 p (.tup xs))
def T9(t:TA):TE:=fun U H Q=>t U H fun xs H1=>xs.length<=sizeLine/\∀p,H1 p=none->Q (.ref p) (upd H1 p (.lst xs))
theorem nR{x1}(h:PA X es t):PE X (.Tuple es x1 pos) (T8 t):=by
 intro pins s U H Q I hq
 refine wpAny_Tuple_spliced (aH (h pos pins s U H _ I hq) fun us s1 ⟨xs,H1,I1,r,z,q⟩=>⟨by rw[<- r.length];exact z,?_⟩)
 have hf:H1 s1.heap.objs.size=none:=I1.hok.fresh (xap _)
 refine⟨.ref s1.heap.objs.size,upd H1 s1.heap.objs.size (.tup xs),I1.laid (t':=s1.toks) (fun b u e=>xad _ e) (xap _) ?_,rfl,q _ hf⟩
 exact⟨z,us,r,⟨_,xax _ rfl,rfl,⟨_,rfl⟩,rfl⟩⟩
theorem sV(h:PA X es t):PE X (.List es pos) (T9 t):=by
 intro pins s U H Q I hq
 refine wpAny_List_spliced (aH (h pos pins s U H _ I hq) fun us s1 ⟨xs,H1,I1,r,z,q⟩=>⟨by rw[<- r.length];exact z,?_⟩)
 have hf:H1 s1.heap.objs.size=none:=I1.hok.fresh (xap _)
 refine⟨.ref s1.heap.objs.size,upd H1 s1.heap.objs.size (.lst xs),I1.laid (t':=s1.toks) (fun b u e=>xad _ e) (xap _) ?_,rfl,q _ hf⟩
 exact⟨z,us,0,r,xax _ rfl⟩
end
abbrev Sp:=List V->Hp->VK->XK->Prop
abbrev fO:=List Env->Hp->Shared->XK->Value->Shared->Prop
structure lR(P:Program)(w:World)(K:xFg)(mg:Str->Option Value)(base:Heap)(A:Around)(outer:List Env)(s:Shared)(H:Hp):Prop where
 frames:A.frames=some outer
 mod:Mod K mg base
 bs:∀b o,base.get? b=some o->s.heap.get? b=some o/\H b=none
 bsz:base.objs.size<=s.heap.objs.size
 funs:s.heap.FunFrames base outer
 frf:∀b∈cT outer,H b=none
 hok:cG P w H s.heap
 bare:AllBare s.gens
def CE(outer:List Env)(P:Program)(w:World)(H:Hp)(s:Shared)(Q:VK)(u:Value)(s':Shared):Prop:=
 ∃v H',s'.os=s.os/\AllBare s'.gens/\Un (cT outer) [] H H' s.heap s'.heap/\cG P w H' s'.heap/\aJ v u/\Q v H'
def CR(CX:fO)(outer:List Env)(P:Program)(w:World)(H:Hp)(s:Shared)(Q:VK)(E:XK)(r:Result)(s':Shared):Prop:=
 match r with
 |.ok (.ret u)=>CE outer P w H s Q u s'
 |.ok _=>False
 |.error e=>CX outer H s E e s'
structure cO(P:Program)(w:World)(K:xFg)(mg:Str->Option Value)(base:Heap)(CX:fO)(k:Nat)(f:Addr)(fd:FuncData)(ps:List Str)(sp:Sp):Prop where
 len:∀vs H Q E,sp vs H Q E->vs.length=ps.length
 run:∀(A:Around) (outer:List Env) (s:Shared) (H:Hp) (args:Args) (us:List Value) (vs:List V) (Q:VK) (E:XK),cH k A->lR P w K mg base A outer s H->BindsTo s fd args (ps.zip us)->aP vs us->sp vs H Q E->
  codeAny (model P w) A (.call (.ref f) args) (CR CX outer P w H s Q E) s
theorem cO.mono{P:Program}{w:World}{K:xFg}{mg:Str->Option Value}{base:Heap}{CX:fO}{j k:Nat}{f:Addr}{fd:FuncData}{ps:List Str}{sp:Sp}(F:cO P w K mg base CX j f fd ps sp)(h:j<=k) :
  cO P w K mg base CX k f fd ps sp:=⟨F.len,fun A outer s H args us vs Q E hr=>F.run A outer s H args us vs Q E (hr.mono h)⟩
theorem cO.imp{P:Program}{w:World}{K:xFg}{mg:Str->Option Value}{base:Heap}{CX:fO}{k:Nat}{f:Addr}{fd:FuncData}{ps:List Str}{sp sp':Sp}(F:cO P w K mg base CX k f fd ps sp)
  (h:∀vs H Q E,sp' vs H Q E->sp vs H Q E):cO P w K mg base CX k f fd ps sp':=
 ⟨fun vs H Q E q=>F.len vs H Q E (h _ _ _ _ q),fun A outer s H args us vs Q E hr he hb hv hs=>F.run A outer s H args us vs Q E hr he hb hv (h _ _ _ _ hs)⟩
theorem lR.make{P:Program}{w:World}{K:xFg}{mg:Str->Option Value}{base:Heap}{A:Around}{outer:List Env}{s:Shared}{H:Hp}(e:lR P w K mg base A outer s H)(C:Addr)(us:List Value)(kw:List (Str×Value)) :
  lR P w K mg base (A.under (.builtin "type.__call__" ⟨.ref C::us,kw⟩)) outer s H:=⟨by first|exact e.frames|(simpa [Around.under,Code.envs,Code.isFrame,pushEnvs] using e.frames),e.mod,e.bs,e.bsz,e.funs,e.frf,e.hok,e.bare⟩
section
variable{X:Cx}{pins:List (Addr×Obj)}{U:St}{H:Hp}{s s':Shared}
theorem Inv.env0(I:Inv X pins U H s):lR X.prog X.w X.K X.mg X.base X.A X.stack s H:=
 ⟨I.ok.frames,I.ok.mod,I.bs,xa1 I.ok.bsz I.sz,I.stack,I.stkFree,I.hok,I.bare⟩
theorem Inv.after{Q:VK}{u:Value}(I:Inv X pins U H s)(h:CE X.stack X.prog X.w H s Q u s'):EP X pins U Q u s':=by
 obtain⟨v,H',os,bare,un,hok,r,q⟩:=h
 obtain⟨hh,g,d,t,os'⟩:=s'
 obtain rfl:os'=s.os:=os
 exact⟨v,H',I.call (h':=hh) (g':=g) (d':=d) (t':=t) (ch:=[]) un hok bare (fun b z=>xaq z (by simp)),r,q⟩
end
def UA(sp:Sp)(dvs:List V)(E:XK)(t:TA):TE:=fun U H Q=>t U H fun vs H1=>sp (vs++dvs) H1 Q E
def CL(C:Addr)(m:Str)(sp:Sp)(dvs:List V)(E:XK)(ta:TE)(t:TA):TE:=fun U H Q=>ta U H fun x H1=>∃a dx fs,x=.ref a/\H1 a=some (.ins C dx fs)/\fs.lookup m=none/\
 t U H1 fun vs H2=>sp (x::(vs++dvs)) H2 Q E
def UB(C:Addr)(sp:Sp)(dvs:List V)(E:XK)(t:TA):TE:=fun U H Q=>t U H fun vs H1=>∀x dx,H1 x=none->H1 dx=none->dx≠x->
 sp (.ref x::(vs++dvs)) (upd (upd H1 dx (.own x)) x (.ins C dx [])) (fun v H2=>v=.non/\Q (.ref x) H2) E
def bU(K:xFg)(fd:FuncData)(ps:List Str)(ds:List Value):Prop:=
 ∀(s:Shared) (us:List Value),K.In s.heap->(us++ds).length=ps.length->BindsTo s fd ⟨us,[]⟩ (ps.zip (us++ds))
theorem bU.all{K:xFg}{fd:FuncData}{ps:List Str}(h:∀us:List Value,us.length=ps.length->bindArgs fd ⟨us,[]⟩=pure (ps.zip us)):bU K fd ps []:=fun s us _ hl=>by
 rw[xb5] at hl ⊢
 exact .of_eq (h us hl)
def jS(CX:fO)(X:Cx)(E:XK):Prop:=∀(pins:List (Addr×Obj)) (U:St) (H:Hp) (s:Shared) (e:Value) (s':Shared),Inv X pins U H s->CX X.stack H s E e s'->X.xe e s'
section
variable{X:Cx}{CX:fO}{k:Nat}{f C:Addr}{fd:FuncData}{ps:List Str}{sp:Sp}{dvs:List V}{ds:List Value}{E:XK}{x m:Str}{p pos apos:Pos}{e o:Expr}{es:List Expr}{ta:TE}{t:TA}
theorem wI{pins:List (Addr×Obj)}{U:St}{H:Hp}{s:Shared}{Q:VK}{us:List Value}{vs:List V}(F:cO X.prog X.w X.K X.mg X.base CX k f fd ps sp)(hr:cH k X.A)(hb:bU X.K fd ps ds)(hd:aP dvs ds)(hx:jS CX X E)
  (I:Inv X pins U H s) (r:aP vs us) (h:sp (vs++dvs) H Q E):wpAny (model X.prog X.w) X.A (call (.ref f) us) (EP X pins U Q) X.xe s:=by
 have r2:aP (vs++dvs) (us++ds):=r.append hd
 have hl:(us++ds).length=ps.length:=by rw[<- r2.length];exact F.len _ _ _ _ h
 refine wpAny_call (codeAny_mono (F.run X.A X.stack s H ⟨us,[]⟩ (us++ds) (vs++dvs) Q E hr I.env0 (hb s us I.kIn hl) r2 h) fun r s' hq=>?_)
 cases r with
 |error e=>exact hx pins U H s e s' I hq
 |ok fl=>
  cases fl with
  |ret u=>exact I.after hq
  |next=>exact False.elim hq
  |brk=>exact False.elim hq
  |cont=>exact False.elim hq
theorem CM(F:cO X.prog X.w X.K X.mg X.base CX k f fd ps sp)(hr:cH k X.A)(hg:Gl X x)(hm:X.mg x=some (.ref f))(hk:PySem.W.keepIn X.K (.ref f)=true)(hb:bU X.K fd ps ds)(hd:aP dvs ds)(hx:jS CX X E)
  (ha:PA X (e::es) t) (hdb:(x==("__debug__":Str))=false:=by decide) (he:starEach (e::es) X.env=(false,eval e X.env)::starEach es X.env:=by rfl) (hpl:(backTo pos (starEach es X.env)).any (·.1)=false:=by rfl) :
  PE X (.Call (.Name x p) (e::es) [] pos) (UA sp dvs E t):=by
 intro pins s U H Q I h
 refine wpAny_Call_Name_kw (sJ I hg hm ?_ hdb)
 refine PySem.W.callWith_K (h₀:=X.base) I.ok.mod.kin hk (aH (ha pos pins s U H _ I h) fun us s1 ⟨vs,H1,I1,r,q⟩=>⟨I1.kIn,?_⟩) he hpl
 exact wI F hr hb hd hx I1 r q
theorem wJ{pl:Sem Bool}(he:PE X o ta)(c:fC X.K C)(hm:cW X.K C m f)(F:cO X.prog X.w X.K X.mg X.base CX k f fd ps sp)(hr:cH k X.A)(hb:bU X.K fd ps ds)(hd:aP dvs ds)(hx:jS CX X E)(ha:PA X (e::es) t)
  (hst:starEach (e::es) X.env=(false,eval e X.env)::starEach es X.env:=by rfl) (hpl:(backTo pos (starEach es X.env)).any (·.1)=false:=by rfl)
  (ht : eval (.Call (.Attribute o m apos) (e :: es) [] pos) X.env = (do
   let ov<-eval o X.env
   standAt apos.atName
   let (f,first)<-holding [ov] (getMethod ov m pl)
   callWith pos f first (backTo pos (starEach (e::es) X.env)) (backToKw pos (keywordEach [] X.env))):=by rfl) :
  PE X (.Call (.Attribute o m apos) (e::es) [] pos) (CL C m sp dvs E ta t):=by
 intro pins s U H Q I h
 refine PySem.W.methodCall_KW (pl:=pl) (aH (he pins s U H _ I h) fun u s1 ⟨x,H1,I1,rx,a,dx,fs,ex,ea,l,q⟩=>?_) ht
 subst ex
 obtain rfl:u=Value.ref a:=rx
 refine wG I1 ea c hm l ?_
 refine PySem.W.callWith_K (first:=[.ref a]) (h₀:=X.base) I.ok.mod.kin hm.kp (aH (ha pos pins s1 U H1 _ I1 q) fun us s2 ⟨vs,H2,I2,r,q2⟩=>⟨I2.kIn,?_⟩) hst hpl
 exact wI (us:=.ref a::us) (vs:=.ref a::vs) F hr hb hd hx I2 (.cons rfl r) q2
theorem UC{pl:Sem Bool}(he:PE X o ta)(c:fC X.K C)(hm:cW X.K C m f)(F:cO X.prog X.w X.K X.mg X.base CX k f fd ps sp)(hr:cH k X.A)(hb:bU X.K fd ps ds)(hd:aP dvs ds)(hx:jS CX X E)
  (ht : eval (.Call (.Attribute o m apos) [] [] pos) X.env = (do
   let ov<-eval o X.env
   standAt apos.atName
   let (f,first)<-holding [ov] (getMethod ov m pl)
   callWith pos f first (backTo pos (starEach [] X.env)) (backToKw pos (keywordEach [] X.env))):=by rfl) :
  PE X (.Call (.Attribute o m apos) [] [] pos) (CL C m sp dvs E ta wH):=by
 intro pins s U H Q I h
 refine PySem.W.methodCall_KW (pl:=pl) (aH (he pins s U H _ I h) fun u s1 ⟨x,H1,I1,rx,a,dx,fs,ex,ea,l,q⟩=>?_) ht
 subst ex
 obtain rfl:u=Value.ref a:=rx
 refine wG I1 ea c hm l ?_
 exact PySem.W.callWith_K0 (first:=[.ref a]) I1.kIn hm.kp (wI (us:=[.ref a]) (vs:=[.ref a]) F hr hb hd hx I1 (.cons rfl .nil) q)
structure Mk(K:xFg)(C f:Addr):Prop where
 makes:PySem.W.makesIn K C=true
 init:PySem.W.findIn K (.ref C) "__init__"=some (some (.ref f))
 fn:PySem.W.isFn K (.ref f)=true
 kp:PySem.W.keepIn K (.ref C)=true
theorem UD{pins:List (Addr×Obj)}{U:St}{H:Hp}{s:Shared}{Q:VK}{us:List Value}{vs:List V}(M:Mk X.K C f)(F:cO X.prog X.w X.K X.mg X.base CX k f fd ps sp)(hr:cH (k+1) X.A)(hb:bU X.K fd ps ds)(hd:aP dvs ds)
  (hx:jS CX X E) (I:Inv X pins U H s) (r:aP vs us)
  (h:∀x dx,H x=none->H dx=none->dx≠x->sp (.ref x::(vs++dvs)) (upd (upd H dx (.own x)) x (.ins C dx [])) (fun v H2=>v=.non/\Q (.ref x) H2) E) :
  wpAny (model X.prog X.w) X.A (call (.ref C) us) (EP X pins U Q) X.xe s:=by
 have hq:=h (s.heap.objs.size+1) s.heap.objs.size (I.hok.fresh (xdl _)) (I.hok.fresh (xap _)) (xay (xck _))
 have I2:=Inv.made (C:=C) I
 have r2:aP (V.ref (s.heap.objs.size+1)::(vs++dvs)) (Value.ref (s.heap.objs.size+1)::(us++ds)):=.cons rfl (r.append hd)
 have hl:(Value.ref (s.heap.objs.size+1)::us++ds).length=ps.length:=by
  have e:=r2.length
  rw[F.len _ _ _ _ hq] at e
  exact e.symm
 refine wpAny_call (TY (f:=f) I.kIn M.makes M.init (beq_iff_eq.mp M.fn) (codeAny_mono (F.run _ X.stack _ _ ⟨Value.ref (s.heap.objs.size+1)::us,[]⟩ (Value.ref (s.heap.objs.size+1)::(us++ds)) _ _ E (hr.make C us [])
  (I2.env0.make C us []) (hb _ (Value.ref (s.heap.objs.size+1)::us) I2.kIn hl) r2 hq) fun r s' hq'=>?_))
 cases r with
 |error e=>exact hx pins U _ _ e s' I2 hq'
 |ok fl=>
  cases fl with
  |ret u=>
   obtain⟨v,H',I3,rv,ev,q3⟩:=I2.after hq'
   subst ev
   exact⟨rv,⟨V.ref (s.heap.objs.size+1),H',I3,rfl,q3⟩⟩
  |next=>exact False.elim hq'
  |brk=>exact False.elim hq'
  |cont=>exact False.elim hq'
theorem UE(M:Mk X.K C f)(F:cO X.prog X.w X.K X.mg X.base CX k f fd ps sp)(hr:cH (k+1) X.A)(hg:Gl X x)(hm:X.mg x=some (.ref C))(hb:bU X.K fd ps ds)(hd:aP dvs ds)(hx:jS CX X E)
  (ha:PA X (e::es) t) (hdb:(x==("__debug__":Str))=false:=by decide) (he:starEach (e::es) X.env=(false,eval e X.env)::starEach es X.env:=by rfl) (hpl:(backTo pos (starEach es X.env)).any (·.1)=false:=by rfl) :
  PE X (.Call (.Name x p) (e::es) [] pos) (UB C sp dvs E t):=by
 intro pins s U H Q I h
 refine wpAny_Call_Name_kw (sJ I hg hm ?_ hdb)
 refine PySem.W.callWith_K (h₀:=X.base) I.ok.mod.kin M.kp (aH (ha pos pins s U H _ I h) fun us s1 ⟨vs,H1,I1,r,q⟩=>⟨I1.kIn,?_⟩) he hpl
 exact UD M F hr hb hd hx I1 r q
end
def PK(X:Cx)(kws:List Keyword)(t:TA):Prop:=
 ∀(pos:Pos) (pins:List (Addr×Obj)) (s:Shared) (U:St) (H:Hp) (Q:List V->Hp->Prop),Inv X pins U H s->t U H Q->wpAny (model X.prog X.w) X.A (evalAll ((backToKw pos (keywordEach kws X.env)).map (·.2))) (AP X pins U Q) X.xe s
section
variable{X:Cx}{CX:fO}{k:Nat}{f C:Addr}{fd:FuncData}{ps ks:List Str}{sp:Sp}{E:XK}{x m:Str}{p pos apos kpos:Pos}{e o:Expr}{es:List Expr}{kws:List Keyword}{te ta:TE}{t tk:TA}{nm:Option Str}
theorem UF:PK X [] wH:=fun _ _ _ _ H Q I h=>wpAny_evalAll_nil ⟨[],H,I,.nil,h⟩
theorem UG(ha:PE X e te)(hr:PK X kws t):PK X (⟨nm,e,kpos⟩::kws) (CK te t):=by
 intro pos pins s U H Q I h
 show wpAny _ _ (evalAll ((do let v<-eval e X.env;standAt pos;pure v)::(backToKw pos (keywordEach kws X.env)).map (·.2))) _ _ s
 refine wpAny_evalAll_cons (xaa (aH (ha pins s U H _ I h) fun u s1 ⟨x,H1,I1,r1,q1⟩=>xaa (wpAny_standAt (xah ?_))))
 exact aH (hr pos pins s1 U H1 _ I1 q1) fun us s2 ⟨xs,H2,I2,r2,q2⟩=>⟨x::xs,H2,I2,.cons r1 r2,q2⟩
variable{g:List Value->List Value->List Value}{gV:List V->List V->List V}
end
structure cI(N P:List Str)(sc:Scope):Prop where
 kind:sc.kind=.function
 co:sc.isCoroutine=false
 gen:sc.isGenerator=false
 nd:N.Nodup
 pre:N.take P.length=P
 par:∀x∈P,sc.names.lookup x=some .local\/sc.names.lookup x=some .cell
 nofree:∀y∈sc.names,y.2≠.free
theorem CN{kindOf:Str->Option NameKind}{x:Str}:∀{binds:List (Str×Value)} {m:Str->Option Value},(∀v,(x,v)∉binds)->bindL kindOf binds m x=m x
 |[],_,_=>rfl
 |(n,v)::r,m,h=>by
  unfold bindL
  rw[CN fun w hw=>h w (xat _ hw)]
  split
  ·have:x≠n:=by rintro rfl;exact h v xba
   simp[this]
  ·rfl
theorem CO{kindOf:Str->Option NameKind}{x:Str}:∀{binds:List (Str×Value)} {m:Str->Option Value},(∀v,(x,v)∉binds)->bindC kindOf binds m x=m x
 |[],_,_=>rfl
 |(n,v)::r,m,h=>by
  unfold bindC
  rw[CO fun w hw=>h w (xat _ hw)]
  split
  ·rfl
  ·have:x≠n:=by rintro rfl;exact h v xba
   simp[this]
theorem CP{kindOf:Str->Option NameKind}{x:Str}{v:Value}:∀{P:List Str} {vs:List Value} {i:Nat} {m:Str->Option Value},P.Nodup->P[i]? = some x->vs[i]? = some v->kindOf x=some .local->
  bindL kindOf (P.zip vs) m x=some v
 |[],_,_,_,_,h,_,_=>by simp at h
 |_::_,[],_,_,_,_,h,_=>by simp at h
 |p::P,w::vs,0,m,nd,h1,h2,hk=>by
  simp at h1 h2;subst h1;subst h2
  show bindL kindOf ((p,w)::P.zip vs) m p=_
  unfold bindL
  rw[CN fun v hv=>(xbv.mp nd).1 (List.of_mem_zip hv).1,xao hk]
  simp
 |p::P,w::vs,i+1,m,nd,h1,h2,hk=>by
  show bindL kindOf ((p,w)::P.zip vs) m x=_
  unfold bindL
  exact CP (i:=i) (xbv.mp nd).2 (by simpa using h1) (by simpa using h2) hk
theorem CQ{kindOf:Str->Option NameKind}{x:Str}{v:Value}:∀{P:List Str} {vs:List Value} {i:Nat} {m:Str->Option Value},P.Nodup->P[i]? = some x->vs[i]? = some v->kindOf x≠some .local->
  bindC kindOf (P.zip vs) m x=some v
 |[],_,_,_,_,h,_,_=>by simp at h
 |_::_,[],_,_,_,_,h,_=>by simp at h
 |p::P,w::vs,0,m,nd,h1,h2,hk=>by
  simp at h1 h2;subst h1;subst h2
  show bindC kindOf ((p,w)::P.zip vs) m p=_
  unfold bindC
  rw[CO fun v hv=>(xbv.mp nd).1 (List.of_mem_zip hv).1,xal hk]
  simp
 |p::P,w::vs,i+1,m,nd,h1,h2,hk=>by
  show bindC kindOf ((p,w)::P.zip vs) m x=_
  unfold bindC
  exact CQ (i:=i) (xbv.mp nd).2 (by simpa using h1) (by simpa using h2) hk
def start(N:List Str)(vs:List V):St:=vs.map some++List.replicate (N.length-vs.length) none
def dF(CX:fO)(P:Program)(w:World)(K:xFg)(mg:Str->Option Value)(base:Heap)(N:List Str)(qual:Str)(scope:Scope)(f:Addr)(cd:Value)(A:Around)(outer:List Env)(s:Shared)(H:Hp)(E:XK):Cx where
 prog:=P
 w:=w
 K:=K
 mg:=mg
 base:=base
 A:=A.deeper (envOfC qual scope s.heap.objs.size f cd)
 N:=N
 s₀:=s
 H₀:=H
 env:=envOfC qual scope s.heap.objs.size f cd
 outer:=outer
 stack:=envOfC qual scope s.heap.objs.size f cd::outer
 ex:=[]
 calm:=true
 fn:=fun _=>true
 pn:=[]
 xe:=fun e s'=>wpAny (model P w) (A.deeper (envOfC qual scope s.heap.objs.size f cd)) (leaving (envOfC qual scope s.heap.objs.size f cd) e) (fun _ s''=>CX outer H s E e s'') (fun e' s''=>CX outer H s E e' s'') s'
theorem CT{sc:Scope}{n:Nat}{x:Str}(h:sc.names.lookup x=some .cell):∃c,(cellsFrom n sc.names []).lookup x=some c:=by
 have q:=PySem.W.cellsFrom_some sc.names n [] (.inl h)
 exact xbw.mp q
theorem UH{CX:fO}{P:Program}{w:World}{K:xFg}{mg:Str->Option Value}{base:Heap}{N ps:List Str}{qual:Str}{scope:Scope}{f:Addr}{cd:Value}{A:Around}{outer:List Env}{s s1:Shared}{H:Hp}{E:XK}{us:List Value}{vs:List V}
  (S:cI N ps scope) (hd:A.handled=none) (e0:lR P w K mg base A outer s H) (hl:vs.length=ps.length) (r:aP vs us)
  (x:InCallC s s.heap.objs.size (bindL (envOfC qual scope s.heap.objs.size f cd).kindOf (ps.zip us) fun _=>none) (cellsFrom (s.heap.objs.size+1) scope.names []) (bindC (envOfC qual scope s.heap.objs.size f cd).kindOf (ps.zip us) fun _=>none) s1) :
  Inv (dF CX P w K mg base N qual scope f cd A outer s H E) [] (start N vs) H s1:=by
 have hpl:ps.length<=N.length:=by have:=congrArg List.length S.pre;rw[xb3] at this;omega
 obtain⟨h1,tk,rfl,hk⟩:=x.done
 have noA:∀b:Addr,b∉(dF CX P w K mg base N qual scope f cd A outer s H E).ex:=fun b z=>xaq (show b∈([]:List Addr) from z) (by simp)
 refine⟨⟨e0.mod,S.kind,rfl,rfl,xap _,fun y z c h1 h2=>?_,fun y hy=>?_,fun y c _ h=>?_,fun _=>hd,Around.frames_deeper e0.frames,.inr ⟨rfl,rfl⟩,fun b z=>xaq z (noA b),e0.bs,e0.bsz,fun b _ _=>noA b,fun b z=>xaq z (noA b),e0.funs,e0.frf⟩,
  rfl,e0.bare,Un.kept hk,⟨_,x.toInCall.ns,fun i y v h1 h2 h3=>?_⟩,fun y c h=>⟨_,x.cell y c h⟩,e0.hok.fresh (xap _),fun y c h=>?_,fun p hp=>xaq (show p∈([]:List (Addr×Obj)) from hp) (by simp),e0.hok.kept hk,?_⟩
 ·exact name_of_addr x.apart (PySem.mem_of_lookup h1) (PySem.mem_of_lookup h2)
 ·have hy:scope.names.lookup y=some .cell\/scope.names.lookup y=some .free:=hy
  rcases hy with hy|hy
  ·exact CT hy
  ·exact xaq rfl (S.nofree _ (PySem.mem_of_lookup hy))
 ·exact xcu (x.above y c (PySem.mem_of_lookup h))
 ·have hi:i<vs.length:=by
   unfold start at h2
   by_cases hi:i<vs.length
   ·exact hi
   ·rw[xb7 (by simpa using hi)] at h2
    rw[xcd] at h2
    split at h2<;>cases h2
  have ha:vs[i]? = some v:=by
   unfold start at h2
   rw[xbh (by simpa using hi),xbj] at h2
   cases e:vs[i]? with
   |none=>rw[e] at h2;cases h2
   |some a=>rw[e] at h2;cases h2;rfl
  obtain⟨u,hu,rv⟩:=r.get ha
  have hp:ps[i]? = some y:=by
   rw[<- S.pre,List.getElem?_take_of_lt (by omega)];exact h1
  have ndP:ps.Nodup:=by rw[<- S.pre];exact S.nd.sublist (List.take_sublist _ _)
  refine⟨u,rv,?_⟩
  rcases S.par y (xbo hp) with k|k
  ·exact .inl ⟨k,CP ndP hp hu k⟩
  ·obtain⟨c,e⟩:=CT (n:=s.heap.objs.size+1) k
   refine .inr ⟨.inl k,c,e,?_⟩
   have q:=x.cell y c e
   rw[CQ ndP hp hu (by show scope.names.lookup y≠_;rw[k];decide)] at q
   exact q
 ·exact e0.hok.fresh (xcu (x.above y c (PySem.mem_of_lookup h)))
 ·unfold start
  show _=N.length
  rw[xav,xak,xc7]
  omega
theorem UI{CX:fO}{P:Program}{w:World}{K:xFg}{mg:Str->Option Value}{base:Heap}{k:Nat}{f:Addr}{name qual:Str}{params:Arguments}{body:List Stmt}{scope:Scope}{dV kV doc pm cdv ct oc:Value}{an od:Option Addr}
  {osl:Array (Option Value)} {N ps:List Str} {sp:Sp} (lk:K.lookup f=some ⟨oc,od,.func (PySem.W.fnOf name qual params body scope dV kV doc pm an cdv ct),osl⟩) (hcd:PySem.W.codeIn K cdv qual=true) (S:cI N ps scope)
  (len:∀vs H Q E,sp vs H Q E->vs.length=ps.length)
  (hbody : ∀ (A : Around) (outer : List Env) (s : Shared) (H : Hp) (vs : List V) (Q : VK) (E : XK), cH k (A.deeper (envOfC qual scope s.heap.objs.size f cdv)) -> sp vs H Q E ->
   ∃t,cB (dF CX P w K mg base N qual scope f cdv A outer s H E) body t/\t { nx:=fun _ H'=>Q .non H',rt:=Q } (start N vs) H) :
  cO P w K mg base CX (k+1) f (PySem.W.fnOf name qual params body scope dV kV doc pm an cdv ct) ps sp:=by
 refine⟨len,fun A outer s H args us vs Q E hr e0 hb r hsp=>?_⟩
 have hl:=len _ _ _ _ hsp
 have KX:K.In s.heap:=e0.mod.kin.keeps fun b o e=>(e0.bs b o e).1
 have lim:s.heap.NoLimit:=e0.mod.nolimit.keeps fun b o e=>(e0.bs b o e).1
 have hkind:∀y∈ps.zip us,scope.names.lookup y.1=some .local\/(scope.names.lookup y.1=some .cell/\((cellsFrom (s.heap.objs.size+1) scope.names []).lookup y.1).isSome=true):=fun⟨n,v⟩ hy=>by
  rcases S.par n (List.of_mem_zip hy).1 with q|q
  ·exact .inl q
  ·exact .inr ⟨q,PySem.W.cellsFrom_some _ _ _ (.inl q)⟩
 refine codeAny_call_function hr.depth (KX _ _ lk) rfl S.co S.gen rfl (PySem.W.codeRec_of KX hcd) (hb _ _ _ _ ?_)
 refine wpAny_newFunctionEnv_cells S.kind hkind fun env he s1 x=>?_
 subst he
 refine⟨lim.keeps x.toInCall.keep,codeAny_func ?_⟩
 obtain⟨t,ht,hq⟩:=hbody A outer s H vs Q E (hr.deeper _) hsp
 have I:Inv (dF CX P w K mg base N qual scope f cdv A outer s H E) [] (start N vs) H s1:=UH S hr.hd e0 hl r x
 refine wpAny_mono (ht [] s1 (start N vs) H _ I hq) (fun fl s' hs=>?_) fun e s' hs=>hs
 have fin:∀{U':St} {H':Hp} {v:V} {u:Value},Inv (dF CX P w K mg base N qual scope f cdv A outer s H E) [] U' H' s'->aJ v u->Q v H'->CE outer P w H s Q u s':=
  fun {U' H' v u} J rv q=>⟨v,H',J.os,J.bare,J.base,J.hok,rv,q⟩
 cases fl with
 |ret u=>
  obtain⟨v,U',H',J,rv,q⟩:=hs
  exact fin J rv q
 |next=>
  obtain⟨U',H',J,q⟩:=hs
  exact fin (v:=V.non) (u:=Value.none) J rfl q
 |brk=>
  obtain⟨_,_,_,q⟩:=hs
  exact False.elim q
 |cont=>
  obtain⟨_,_,_,q⟩:=hs
  exact False.elim q
end L2
namespace L2
open PySem.Spec PyProof.Rows
section
variable{X:Cx}{x:Str}{p pos:Pos}{e:Expr}{es:List Expr}{t:TA}{id T:String}{r:List V->Hp->VK->Prop}
def tCB(r:List V->Hp->VK->Prop)(t:TA):TE:=fun U H Q=>t U H fun vs H1=>r vs H1 Q
theorem CV(hc:eK X (.builtin id) r)(hg:Gl X x)(hm:X.mg x=none)(hv:bootBuiltins x=some (.builtin id))(ha:PA X (e::es) t)(hn:x≠"__name__":=by decide)(hdb:(x==("__debug__":Str))=false:=by decide)
  (he:starEach (e::es) X.env=(false,eval e X.env)::starEach es X.env:=by rfl) (hpl:(backTo pos (starEach es X.env)).any (·.1)=false:=by rfl):PE X (.Call (.Name x p) (e::es) [] pos) (tCB r t):=by
 intro pins s U H Q I h
 refine wpAny_Call_Name_kw (kQ I hg hm hv ?_ hn hdb)
 exact PyProof.Rows.callWith_builtin1 (aH (ha pos pins s U H _ I h) fun us s1 ⟨vs,H1,I1,r1,q1⟩=>hc pins s1 U H1 vs us Q I1 r1 q1) he hpl
theorem CW(hc:eK X (.type T) r)(hg:Gl X x)(hm:X.mg x=none)(hv:bootBuiltins x=some (.type T))(ha:PA X (e::es) t)(hn:x≠"__name__":=by decide)(hdb:(x==("__debug__":Str))=false:=by decide)
  (he:starEach (e::es) X.env=(false,eval e X.env)::starEach es X.env:=by rfl) (hpl:(backTo pos (starEach es X.env)).any (·.1)=false:=by rfl):PE X (.Call (.Name x p) (e::es) [] pos) (tCB r t):=by
 intro pins s U H Q I h
 refine wpAny_Call_Name_kw (kQ I hg hm hv ?_ hn hdb)
 exact PyProof.Rows.callWith_type1 (aH (ha pos pins s U H _ I h) fun us s1 ⟨vs,H1,I1,r1,q1⟩=>hc pins s1 U H1 vs us Q I1 r1 q1) he hpl
end
end L2
namespace HT
open PyProof.Rows
section
variable{prog:Program}{w:World}{A:Around}{E:Value->Shared->Prop}{s:Shared}
theorem cat_tup{t b:Addr}{vs ws:List Value}{Q:Value->Shared->Prop}(ht:IsTup s.heap t vs.toArray)(hb:IsTup s.heap b ws.toArray)(hv:vs≠[])
  (h1:ws=[]->Q (.ref t) s) (h2:ws≠[]->Q (.ref s.heap.objs.size) { s with heap:=s.heap.push { cls:=.type "tuple",data:=.seq (vs++ws).toArray } })
  (hsz:vs.length+ws.length<=sizeLine):wpAny (model prog w) A (binaryOp .Add (.ref t) (.ref b)) Q E s:=by
 obtain⟨⟨cls,dd,data,sl⟩,ho,hc,n,hd⟩:=id ht
 obtain⟨⟨cls2,dd2,data2,sl2⟩,ho2,hc2,n2,hd2⟩:=id hb
 simp only at hc hd hc2 hd2
 subst hc hd hc2 hd2
 have e:vs.toArray++ws.toArray=(vs++ws).toArray:=by simp
 by_cases hw:ws=[]
 ·exact concat_meets ⟨_,ho,rfl⟩ ⟨_,ho2,rfl⟩ noFill_tuple_add seq_tuple_add PySem.F.slot_tuple_add PySem.F.entry_tuple_add (PySem.F.args_tuple_add_2 _ _)
   (tuple_addW1 t b vs.toArray ws.toArray n n2 dd dd2 sl sl2 (by simpa using hv) (by simp[hw])) ⟨ho,ho2,h1 hw⟩
 ·refine concat_meets ⟨_,ho,rfl⟩ ⟨_,ho2,rfl⟩ noFill_tuple_add seq_tuple_add PySem.F.slot_tuple_add PySem.F.entry_tuple_add (PySem.F.args_tuple_add_2 _ _)
   (tuple_addW2 t b vs.toArray ws.toArray n n2 dd dd2 sl sl2 (by simpa using hv) (by simpa using hw) (by rw[xan,xan];exact hsz)) ⟨ho,ho2,?_⟩
  rw[e]
  exact h2 hw
def sIx(n d:Nat):Option Int->Nat
 |none=>d
 |some v=>if v<0 then (v+(n:Int)).toNat else min v.toNat n
theorem sIx_none(n d:Nat):sIx n d none=d:=rfl
theorem sIx_nat(n d k:Nat):sIx n d (some (k:Int))=min k n:=by
 show (if (k:Int)<0 then ((k:Int)+(n:Int)).toNat else min (k:Int).toNat n)=min k n
 rw[xal (by omega),xch]
theorem UJ(n d:Nat)(hd:d<=n)(o:Option Int):sIx n d o<=n:=by
 cases o with
 |none=>exact hd
 |some v=>
  show (if v<0 then (v+(n:Int)).toNat else min v.toNat n)<=n
  by_cases hv:v<0
  ·rw[xao hv];omega
  ·rw[xal hv];exact Nat.min_le_right _ _
theorem CY(v:Int)(n d:Nat):(if v<0 then max (v+(n:Int)) 0 else min v (n:Int))=((sIx n d (some v):Nat):Int):=by
 show (if v<0 then max (v+(n:Int)) 0 else min v (n:Int))=(((if v<0 then (v+(n:Int)).toNat else min v.toNat n):Nat):Int)
 by_cases hv:v<0
 ·simp only[xao hv];omega
 ·simp only[xal hv];omega
theorem UK(lo hi:Option Int)(n:Nat):Builtin.Slice.sliceAdjust lo hi 1 (n:Int)=(((sIx n 0 lo:Nat):Int),((sIx n n hi:Nat):Int)):=by
 have h1:¬((1:Int)<0):=by omega
 unfold Builtin.Slice.sliceAdjust
 simp only[h1,if_false]
 refine xag ?_ ?_
 ·cases lo with
  |none=>rfl
  |some v=>exact CY v n 0
 ·cases hi with
  |none=>rfl
  |some v=>exact CY v n n
theorem UL(i j:Nat):Builtin.Slice.slicePlaces (i:Int) (j:Int) 1=j-i:=by
 unfold Builtin.Slice.slicePlaces
 have h1:(1:Int)>0:=by omega
 simp only[h1,if_true,Int.ediv_one]
 split<;>omega
theorem CZ{v:Value}{o:Option Int}{Q:Option Int->Shared->Prop}(p:IsPart v o)(h:Q o s):wpAny (model prog w) A (Builtin.Slice.slicePartIndex v) Q E s:=by
 cases p with
 |none=>exact slicePart_none h
 |int i t=>exact slicePart_int h
theorem UM{sl:Addr}{vl vu:Value}{lo hi:Option Int}{n:Nat}{Q:Int×Int×Nat->Shared->Prop}(hs:s.heap.IsSliceOf sl vl vu .none)(pl:IsPart vl lo)(pu:IsPart vu hi)
  (h:Q (((sIx n 0 lo:Nat):Int),1,sIx n n hi-sIx n 0 lo) s):wpAny (model prog w) A (Builtin.Slice.sliceApplied (.ref sl) (pure (n:Int))) Q E s:=by
 obtain⟨os,hos,hcs,hds⟩:=id hs
 unfold Builtin.Slice.sliceApplied Builtin.Slice.sliceFields
 refine xaa (xaa (wpAny_field hos hds (x:=vl) rfl (xaa (wpAny_field hos hds (x:=vu) rfl (xaa (wpAny_field hos hds (x:=.none) rfl (xah ?_)))))))
 refine xaa (slicePart_none ?_)
 show wpAny _ _ (if ((1:Int)==0)=true then _ else _) _ _ s
 rw[xal (by decide)]
 refine xaa (CZ pl (xaa (CZ pu (xaa (xah ?_)))))
 show wpAny _ _ (match Builtin.Slice.sliceAdjust lo hi 1 (n:Int) with|(lo,hi)=>pure (lo,(1:Int),Builtin.Slice.slicePlaces lo hi 1)) _ _ s
 rw[UK lo hi n]
 show wpAny _ _ (pure (((sIx n 0 lo:Nat):Int),(1:Int),Builtin.Slice.slicePlaces ((sIx n 0 lo:Nat):Int) ((sIx n n hi:Nat):Int) 1)) _ _ s
 rw[UL]
 exact xah h
theorem UN(xs:Array Value)(i k:Nat):((List.range k).filterMap fun (m:Nat)=>xs[((i:Int)+(m:Int)*1).toNat]?).toArray=((xs.toList.drop i).take k).toArray:=by
 have e:(fun (m:Nat)=>xs[((i:Int)+(m:Int)*1).toNat]?)=fun m=>xs[i+m]?:=by
  funext m
  have:((i:Int)+(m:Int)*1).toNat=i+m:=by omega
  rw[this]
 rw[e]
 have:=pick_run xs i k
 rw[List.filterMap_map] at this
 have e2:((fun x=>xs[x]?) ∘ fun x=>i+x)=fun m=>xs[i+m]?:=rfl
 rw[e2] at this
 rw[this]
theorem getItem_tuple_cut{t sl:Addr}{items:Array Value}{vl vu:Value}{lo hi:Option Int}{Q:Value->Shared->Prop}(ht:IsTup s.heap t items)(hs:s.heap.IsSliceOf sl vl vu .none)(pl:IsPart vl lo)(pu:IsPart vu hi)
  (hw:¬(sIx items.size 0 lo=0/\sIx items.size items.size hi=items.size))
  (h:Q (.ref s.heap.objs.size) { s with heap:=s.heap.push { cls:=.type "tuple",data:=.seq ((items.toList.drop (sIx items.size 0 lo)).take (sIx items.size items.size hi-sIx items.size 0 lo)).toArray } })
  (hsz:items.size<=sizeLine):wpAny (model prog w) A (getItem (.ref t) (.ref sl)) Q E s:=by
 have htake:sizeOk (.seq ((items.toList.drop (sIx items.size 0 lo)).take (sIx items.size items.size hi-sIx items.size 0 lo)).toArray):=by
  show ((items.toList.drop (sIx items.size 0 lo)).take (sIx items.size items.size hi-sIx items.size 0 lo)).toArray.size<=sizeLine
  rw[xan,xb3,xca,xcc]
  omega
 have hj:sIx items.size items.size hi<=items.size:=UJ _ _ (xap _) hi
 obtain⟨os,hos,hcs,hds⟩:=id hs
 have hTs:s.TypeIs (.ref sl) "slice":=⟨os,hos,hcs⟩
 unfold getItem
 try with_reducible refine wpAny_holding ?_
 first|refine xaa (xah ?_)|skip
 refine xaa (wpAny_sequenceKey ht.typeIs (by decide) ?_)
 refine xaa (wpAny_callSpecial?_slot (name:=Str.ofString "__getitem__") ht.typeIs PyProof.Rows.slot_tuple_getitem
  (wpAny_call_entry PyProof.Rows.slot_tuple_getitem ht.typeIs entry_tuple_getitem ?_ (args_tuple_getitem _ _)))
 show wpAny _ _ (Builtin.Tuple.tupleItemsOf (.ref t) >>= _) _ _ s
 refine xaa (tupleItemsOf_ ht ?_)
 refine xaa (wpAny_typeOf hTs ?_)
 rw[xao (by decide)]
 refine xaa (UM hs pl pu ?_)
 have hno:¬((((sIx items.size 0 lo:Nat):Int)==0&&(1:Int)==1&&(sIx items.size items.size hi-sIx items.size 0 lo)==items.size)=true):=by
  intro q
  rw[xau,xau] at q
  have q1:((sIx items.size 0 lo:Nat):Int)=0:=eq_of_beq q.1.1
  have q2:sIx items.size items.size hi-sIx items.size 0 lo=items.size:=eq_of_beq q.2
  exact hw ⟨by omega,by omega⟩
 show wpAny _ _ (if (((sIx items.size 0 lo:Nat):Int)==0&&(1:Int)==1&&(sIx items.size items.size hi-sIx items.size 0 lo)==items.size)=true then _ else _) _ _ s
 rw[xal hno,UN]
 first
  |exact xaa (m:=Builtin.Tuple.tupleExact _) (wpAny_newObj_type (xah ⟨_,rfl,xah h⟩) htake)
  |exact xaa (m:=Builtin.Tuple.tupleExact _) (wpAny_newObj_type (xaa (xah (xah ⟨_,rfl,xah h⟩))) htake)
  |exact xaa (xaa (m:=Builtin.Tuple.tupleExact _) (wpAny_newObj_type (xah (xah ⟨_,rfl,xah h⟩)) htake))
  |exact xaa (xaa (m:=Builtin.Tuple.tupleExact _) (wpAny_newObj_type (xah ⟨_,rfl,xah h⟩) htake))
end
end HT
namespace L2
open PySem.Spec PyProof.Rows
abbrev TO:=St->Hp->(Option Int->Hp->Prop)->Prop
def PO(X:Cx)(e:Option Expr)(t:TO):Prop:=
 ∀(pins:List (Addr×Obj)) (s:Shared) (U:St) (H:Hp) (Q:Option Int->Hp->Prop),Inv X pins U H s->t U H Q->
  wpAny (model X.prog X.w) X.A (evalPart e X.env) (fun u s'=>∃o H',Inv X pins U H' s'/\IsPart u o/\Q o H') X.xe s
def UO:TO:=fun _ H Q=>Q none H
def UP(t:TE):TO:=fun U H Q=>t U H fun x H1=>∃i,x=.int i/\Q (some i) H1
theorem UQ{ns:List Int}:∀{us:List Value},aP (ns.map V.int) us->IntsAre us ns:=by
 induction ns with
 |nil=>intro us r;rw[xbx] at r;cases r;exact .nil
 |cons n ns ih=>
  intro us r
  rw[xa4] at r
  cases r with
  |cons r1 r2=>
   obtain⟨t,e⟩:=r1
   subst e
   exact .cons n t (ih r2)
section
variable{X:Cx}{e:Expr}{te:TE}{lo hi:Option Expr}{tl th:TO}{pos p2:Pos}
theorem UR:PO X none UO:=by
 intro pins s U H Q I h
 rw[evalPart_none]
 exact xah ⟨none,H,I,.none,h⟩
theorem US(h:PE X e te):PO X (some e) (UP te):=by
 intro pins s U H Q I hw
 rw[evalPart_some]
 refine aH (h pins s U H _ I hw) fun u s1 ⟨x,H1,I1,r1,q1⟩=>?_
 obtain⟨i,rfl,q⟩:=q1
 obtain⟨t,rfl⟩:=r1
 exact⟨some i,H1,I1,.int i t,q⟩
def lS(X:Cx)(r:V->Option Int->Option Int->Hp->VK->Prop):Prop:=
 ∀(pins:List (Addr×Obj)) (s:Shared) (U:St) (H:Hp) (x:V) (v vl vu:Value) (lo hi:Option Int) (sl:Addr) (Q:VK),Inv X pins U H s->aJ x v->s.heap.IsSliceOf sl vl vu .none->IsPart vl lo->IsPart vu hi->r x lo hi H Q->
  ∃T id,typeLookup (.type T) "__getitem__"=pure (some (.builtin id))/\s.TypeIs v T/\wpAny (model X.prog X.w) X.A (getItem v (.ref sl)) (EP X pins U Q) X.xe s
theorem lS.or{r r':V->Option Int->Option Int->Hp->VK->Prop}(h:lS X r)(h':lS X r'):lS X (fun x lo hi H Q=>r x lo hi H Q\/r' x lo hi H Q):=by
 intro pins s U H x v vl vu lo hi sl Q I rx hs pl pu q
 rcases q with q|q
 ·exact h pins s U H x v vl vu lo hi sl Q I rx hs pl pu q
 ·exact h' pins s U H x v vl vu lo hi sl Q I rx hs pl pu q
def tSl(r:V->Option Int->Option Int->Hp->VK->Prop)(te:TE)(tl th:TO):TE:=fun U H Q=>te U H fun x H1=>tl U H1 fun l H2=>th U H2 fun u H3=>r x l u H3 Q
theorem UU{r:V->Option Int->Option Int->Hp->VK->Prop}(hr:lS X r)(he:PE X e te)(hl:PO X lo tl)(hu:PO X hi th):PE X (.Subscript e (.Slice lo hi none p2) pos) (tSl r te tl th):=by
 intro pins s U H Q I h
 refine Subscript_ (aH (he pins s U H _ I h) fun v s1 ⟨x,H1,I1,r1,q1⟩=>?_)
 refine wpAny_Slice (aH (hl pins s1 U H1 _ I1 q1) fun vl s2 ⟨l,H2,I2,pl,q2⟩=>aH (hu pins s2 U H2 _ I2 q2) fun vu s3 ⟨u,H3,I3,pu,q3⟩=>?_)
 rw[evalPart_none]
 refine xah ?_
 have I4:Inv X pins U H3 { s3 with heap:=s3.heap.push { cls:=.type "slice",data:=.fields #[vl,vu,.none] } }:=I3.kept (t':=s3.toks) fun b ob q=>xad _ q
 obtain⟨T,id,hT,ht,hg⟩:=hr pins { s3 with heap:=s3.heap.push { cls:=.type "slice",data:=.fields #[vl,vu,.none] } } U H3 x v vl vu l u s3.heap.objs.size Q I4 r1 (Heap.IsSliceOf.new ..) pl pu q3
 show wpAny (model X.prog X.w) X.A (subscriptTail e (.Slice lo hi none p2) v (.ref s3.heap.objs.size)) (EP X pins U Q) X.xe { s3 with heap:=s3.heap.push { cls:=.type "slice",data:=.fields #[vl,vu,.none] } }
 exact tail_any (ops:=[.ref s3.heap.objs.size,v]) ht hT hg (by with_unfolding_all rfl)
def i8(xs:List V)(lo hi:Option Int):List V:=(xs.drop (HT.sIx xs.length 0 lo)).take (HT.sIx xs.length xs.length hi-HT.sIx xs.length 0 lo)
theorem C0(xs:List V)(lo hi:Option Int):(i8 xs lo hi).length<=xs.length:=by
 unfold i8
 rw[xb3,xca]
 omega
def UV(K:xFg):V->Option Int->Option Int->Hp->VK->Prop:=fun x lo hi H Q=>∃a xs,x=.ref a/\bJ K H a xs/\
 ¬(HT.sIx xs.length 0 lo=0/\HT.sIx xs.length xs.length hi=xs.length)/\∀p,H p=none->Q (.ref p) (upd H p (.tup (i8 xs lo hi)))
theorem UW:lS X (UV X.K):=by
 intro pins s U H x v vl vu lo hi sl Q I rx hs pl pu h
 obtain⟨a,xs,rfl,hx,hw,q⟩:=h
 cases rx
 obtain⟨its,r,ht,hz⟩:=I.tuple hx
 have hlen:its.toArray.size=xs.length:=by rw[xan];exact r.length.symm
 refine⟨"tuple",_,PyProof.Rows.slot_tuple_getitem.lookup,ht.typeIs,?_⟩
 refine HT.getItem_tuple_cut ht hs pl pu (by rw[hlen];exact hw) ?_ (by rw[hlen];exact hz)
 rw[hlen]
 refine⟨.ref s.heap.objs.size,_,I.laid (t':=s.toks) (o:=.tup (i8 xs lo hi)) (fun b ob q=>xad _ q) (xap _) ?_,rfl,q _ (I.hok.fresh (xap _))⟩
 exact⟨xa1 (C0 xs lo hi) hz,_,(r.drop (HT.sIx xs.length 0 lo)).take (HT.sIx xs.length xs.length hi-HT.sIx xs.length 0 lo),kP.new _ _⟩
def C1(K:xFg):R2:=fun x y H Q=>∃a b xs ys,x=.ref a/\y=.ref b/\bJ K H a xs/\bJ K H b ys/\xs≠[]/\xs.length+ys.length<=sizeLine/\
 (ys=[]->Q (.ref a) H)/\(ys≠[]->∀p,H p=none->Q (.ref p) (upd H p (.tup (xs++ys))))
theorem aP.nil_iff{xs:List V}{us:List Value}(r:aP xs us):us=[]↔xs=[]:=by
 cases r with
 |nil=>simp
 |cons _ _=>simp
theorem UX:bE X (binaryOp .Add) (C1 X.K):=by
 intro pins s U H x y v u Q I rx ry h
 obtain⟨a,b,xs,ys,rfl,rfl,ha,hb,hx,hz,q1,q2⟩:=h
 cases rx
 cases ry
 obtain⟨its,r1,p1,_⟩:=I.tuple ha
 obtain⟨its2,r2,p2,_⟩:=I.tuple hb
 refine HT.cat_tup p1 p2 (fun z=>hx (r1.nil_iff.mp z)) (fun z=>⟨.ref a,H,I,rfl,q1 (r2.nil_iff.mp z)⟩) (fun z=>?_) (by rw[<- r1.length,<- r2.length];exact hz)
 refine⟨.ref s.heap.objs.size,_,I.laid (t':=s.toks) (o:=.tup (xs++ys)) (fun b ob q=>xad _ q) (xap _) ?_,rfl,q2 (fun w=>z (r2.nil_iff.mpr w)) _ (I.hok.fresh (xap _))⟩
 exact⟨by rw[xav];exact hz,_,r1.append r2,kP.new _ _⟩
end
end L2
namespace L2
open PySem.Spec PyProof.Rows
def iN(n:Nat)(i:Int):Option Nat:=if 0<=i then (if i<n then some i.toNat else none) else if -(n:Int)<=i then some (i+n).toNat else none
def eF{α:Type}(xs:List α)(i:Int):Option α:=(iN xs.length i).bind fun j=>xs[j]?
theorem UY{n:Nat}{i:Int}{j:Nat}(h:iN n i=some j):seqIndex? i n=some j/\j<n/\-(n:Int)<=i/\i<n:=by
 unfold iN at h
 by_cases h0:0<=i
 ·rw[xao h0] at h
  by_cases h1:i<n
  ·rw[xao h1] at h
   have e:i.toNat=j:=xas h
   exact⟨by rw[seqIndex_of h0 h1,e],by omega,by omega,h1⟩
  ·rw[xal h1] at h;cases h
 ·rw[xal h0] at h
  by_cases h1:-(n:Int)<=i
  ·rw[xao h1] at h
   have e:(i+n).toNat=j:=xas h
   exact⟨by rw[seqIndex_neg (by omega) h1,e],by omega,h1,by omega⟩
  ·rw[xal h1] at h;cases h
theorem C2{α:Type}{xs:List α}{i:Int}{v:α}(h:eF xs i=some v):∃j,seqIndex? i xs.length=some j/\xs[j]? = some v/\j<xs.length/\-(xs.length:Int)<=i/\i<xs.length:=by
 unfold eF at h
 cases e:iN xs.length i with
 |none=>rw[e] at h;cases h
 |some j=>
  rw[e] at h
  obtain⟨h1,h2,h3,h4⟩:=UY e
  exact⟨j,h1,h,h2,h3,h4⟩
theorem UZ{α:Type}{xs:List α}{j:Nat}{v:α}(h:xs[j]? = some v):eF xs (j:Int)=some v:=by
 have hj:j<xs.length:=(xam.mp h).1
 have e:iN xs.length (j:Int)=some j:=by
  unfold iN
  rw[xao (by omega),xao (by omega)];simp
 unfold eF;rw[e];exact h
theorem U0{α:Type}(xs:List α)(v:α):eF (xs++[v]) (-1)=some v:=by
 have hl:(xs++[v]).length=xs.length+1:=by simp
 have e:iN (xs++[v]).length (-1)=some xs.length:=by
  unfold iN
  rw[hl,xal (by decide),xao (by omega)]
  congr 1
  omega
 unfold eF
 rw[e]
 show (xs++[v])[xs.length]? = some v
 simp
def nU(b:Expr):Prop:=∀o i,subscripted b false o i=operate [o,i] (getItem o i)
def lT(X:Cx)(r:R2):Prop:=
 ∀(value slice:Expr) (pins:List (Addr×Obj)) (s:Shared) (U:St) (H:Hp) (x y:V) (v u:Value) (Q:VK),Inv X pins U H s->aJ x v->aJ y u->r x y H Q->
  subscripted slice false v u=operate [v,u] (getItem v u)->wpAny (model X.prog X.w) X.A (subscriptTail value slice v u) (EP X pins U Q) X.xe s
def wK(X:Cx)(id:String)(r:V->List V->Hp->VK->Prop):Prop:=
 ∀(pins:List (Addr×Obj)) (s:Shared) (U:St) (H:Hp) (x:V) (xs:List V) (v:Value) (us:List Value) (Q:VK),Inv X pins U H s->aJ x v->aP xs us->r x xs H Q->
  wpAny (model X.prog X.w) X.A (call (.builtin id) (v::us)) (EP X pins U Q) X.xe s
section
variable{X:Cx}{a b:Expr}{ta tb:TE}{pos:Pos}
theorem lT.or{r r':R2}(h:lT X r)(h':lT X r'):lT X (fun x y H Q=>r x y H Q\/r' x y H Q):=by
 intro value slice pins s U H x y v u Q I rx ry q hs
 rcases q with q|q
 ·exact h value slice pins s U H x y v u Q I rx ry q hs
 ·exact h' value slice pins s U H x y v u Q I rx ry q hs
theorem lU{r:R2}(hr:lT X r)(ha:PE X a ta)(hb:PE X b tb)(hs:nU b):PE X (.Subscript a b pos) (nQ r ta tb):=by
 intro pins s U H Q I h
 exact Subscript_ (sQ ha hb I h fun v u s2 x y H2 I2 rx ry q=>hr a b pins s2 U H2 x y v u Q I2 rx ry q (hs _ _))
def C3(K:xFg):R2:=fun x y H Q=>∃p xs i v,x=.ref p/\y=.int i/\aW K H p xs/\eF xs i=some v/\Q v H
def C4(K:xFg):R2:=fun x y H Q=>∃p xs i v,x=.ref p/\y=.int i/\bJ K H p xs/\eF xs i=some v/\Q v H
def rIxS:R2:=fun x y H Q=>∃z i c,x=.str z/\y=.int i/\z.length<=sizeLine/\eF z.cps.toList i=some c/\Q (.str ⟨#[c]⟩) H
theorem wL:lT X (C3 X.K):=by
 intro value slice pins s U H x y v u Q I rx ry h hs
 obtain⟨p,xs,i,z,rfl,rfl,hq,he,q⟩:=h
 cases rx
 obtain⟨t,rfl⟩:=ry
 obtain⟨its,r,pl,hz⟩:=I.list hq
 obtain⟨j,h1,h2,h3,h4,h5⟩:=C2 he
 obtain⟨w,ew,rw'⟩:=r.get h2
 have hl:=r.length
 have hn:=sU
 have fin:EP X pins U Q w s:=⟨z,H,I,rw',q⟩
 by_cases h0:0<=i
 ·have hj:i.toNat=j:=by
   rw[seqIndex_of h0 h5] at h1
   exact xas h1
  exact item_listR pl.isList h0 (by omega) (by rw[hj];simpa using ew) fin hs
 ·have hj:(i+(its.toArray.size:Int)).toNat=j:=by
   rw[seqIndex_neg (by omega) h4] at h1
   rw[xan,<- hl]
   exact xas h1
  exact subscriptTail_builtinR (x:=w) pl.isList.typeIs slot_list_getitem.lookup
   (wpAny_getItem_list_neg (Q:=fun r s'=>r=w/\EP X pins U Q r s') pl.isList (by omega) (by rw[xan]<;>omega) (by omega) (by rw[hj];simpa using ew) ⟨rfl,fin⟩) hs
theorem pQ:lT X (C4 X.K):=by
 intro value slice pins s U H x y v u Q I rx ry h hs
 obtain⟨p,xs,i,z,rfl,rfl,hq,he,q⟩:=h
 cases rx
 obtain⟨t,rfl⟩:=ry
 obtain⟨its,r,pl,hz⟩:=I.tuple hq
 obtain⟨j,h1,h2,h3,h4,h5⟩:=C2 he
 obtain⟨w,ew,rw'⟩:=r.get h2
 have hl:=r.length
 have hn:=sU
 have fin:EP X pins U Q w s:=⟨z,H,I,rw',q⟩
 exact subscriptTail_builtinR (x:=w) pl.typeIs slot_tuple_getitem.lookup
  (getItem_tuple (j:=j) (Q:=fun r s'=>r=w/\EP X pins U Q r s') pl (by omega) (by omega) (by rw[xan,<- hl];exact h1) (by simpa using ew) ⟨rfl,fin⟩) hs
theorem U1(lo hi:Option Int)(n:Nat):(sliceBounds lo hi none n).1=((HT.sIx n 0 lo:Nat):Int)/\(sliceBounds lo hi none n).2.1=((HT.sIx n n hi:Nat):Int)/\(sliceBounds lo hi none n).2.2=1:=by
 refine⟨?_,?_,rfl⟩
 ·cases lo with
  |none=>simp[sliceBounds,HT.sIx]
  |some i=>
   simp only[sliceBounds,HT.sIx,Option.getD_none,show (1:Int)>0 by decide,if_true]
   by_cases h:i<0
   ·simp only[h,if_true]<;>omega
   ·simp only[h,if_false]<;>omega
 ·cases hi with
  |none=>simp[sliceBounds,HT.sIx]
  |some i=>
   simp only[sliceBounds,HT.sIx,Option.getD_none,show (1:Int)>0 by decide,if_true]
   by_cases h:i<0
   ·simp only[h,if_true]<;>omega
   ·simp only[h,if_false]<;>omega
theorem U2(its:List Value)(lo hi:Option Int):slicePick its.toArray lo hi none=((its.drop (HT.sIx its.length 0 lo)).take (HT.sIx its.length its.length hi-HT.sIx its.length 0 lo)).toArray:=by
 obtain⟨h1,h2,h3⟩:=U1 lo hi its.toArray.size
 unfold slicePick
 rw[h1,h2,h3]
 simp only[sliceRange_one,pick_run,xan]<;>rfl
def U3(K:xFg):V->Option Int->Option Int->Hp->VK->Prop:=fun x lo hi H Q=>∃a xs,x=.ref a/\aW K H a xs/\∀p,H p=none->Q (.ref p) (upd H p (.lst (i8 xs lo hi)))
theorem U4:lS X (U3 X.K):=by
 intro pins s U H x v vl vu lo hi sl Q I rx hs pl pu h
 obtain⟨a,xs,rfl,hx,q⟩:=h
 cases rx
 obtain⟨its,r,ht,hz⟩:=I.list hx
 have hlen:=r.length
 refine⟨"list",_,slot_list_getitem.lookup,ht.isList.typeIs,?_⟩
 refine wpAny_getItem_list_slice ht.isList hs pl pu .none (by simp) ?_ (by rw[xan]<;>omega)
 rw[U2,<- hlen]
 refine⟨.ref s.heap.objs.size,_,I.laid (t':=s.toks) (o:=.lst (i8 xs lo hi)) (fun b ob q=>xad _ q) (xap _) ?_,rfl,q _ (I.hok.fresh (xap _))⟩
 exact⟨xa1 (C0 xs lo hi) hz,_,0,(r.drop (HT.sIx xs.length 0 lo)).take (HT.sIx xs.length xs.length hi-HT.sIx xs.length 0 lo),xax _ rfl⟩
def lV:V->Bool
 |.non=>true
 |.bl _=>true
 |.int _=>true
 |.str _=>true
 |_=>false
def pR:V->V->Bool
 |.non,.non=>true
 |.bl a,.bl b=>a==b
 |.bl a,.int b=>(if a then 1 else 0)==b
 |.int a,.bl b=>a==(if b then 1 else 0)
 |.int a,.int b=>a==b
 |.str a,.str b=>a==b
 |_,_=>false
theorem U5{A:Around}{s:Shared}{y x:V}{u v:Value}(ry:aJ y u)(rx:aJ x v)(fy:lV y=true)(fx:lV x=true):SeqAt.EqAt A s u v (pR y x):=by
 cases y with
 |non=>
  cases ry
  cases x with
  |non=>cases rx;exact SeqAt.EqAt.same _
  |bl b=>cases rx;exact SeqAt.EqAt.none_bool b
  |int b=>obtain⟨t,rfl⟩:=rx;exact SeqAt.EqAt.none_int b t
  |str b=>obtain⟨t,rfl⟩:=rx;exact SeqAt.EqAt.none_str b t
  |_=>exact xaq (show false=true from fx) xa8
 |bl a=>
  cases ry
  cases x with
  |non=>cases rx;exact SeqAt.EqAt.bool_none a
  |bl b=>cases rx;exact SeqAt.EqAt.bool_bool a b
  |int b=>obtain⟨t,rfl⟩:=rx;exact SeqAt.EqAt.bool_int a b t
  |str b=>obtain⟨t,rfl⟩:=rx;exact SeqAt.EqAt.bool_str a b t
  |_=>exact xaq (show false=true from fx) xa8
 |int a=>
  obtain⟨t',rfl⟩:=ry
  cases x with
  |non=>cases rx;exact SeqAt.EqAt.int_none a t'
  |bl b=>cases rx;exact SeqAt.EqAt.int_bool a t' b
  |int b=>obtain⟨t,rfl⟩:=rx;exact SeqAt.EqAt.int_int a t' b t
  |str b=>obtain⟨t,rfl⟩:=rx;exact SeqAt.EqAt.int_str a t' b t
  |_=>exact xaq (show false=true from fx) xa8
 |str a=>
  obtain⟨t',rfl⟩:=ry
  cases x with
  |non=>cases rx;exact SeqAt.EqAt.str_none a t'
  |bl b=>cases rx;exact SeqAt.EqAt.str_bool a t' b
  |int b=>obtain⟨t,rfl⟩:=rx;exact SeqAt.EqAt.str_int a t' b t
  |str b=>obtain⟨t,rfl⟩:=rx;exact SeqAt.EqAt.str_str a t' b t
  |_=>exact xaq (show false=true from fx) xa8
 |_=>exact xaq (show false=true from fy) xa8
theorem U6:bE X (compareOp .NotIn) (fun x y H Q=>∃i j,x=.str i/\y=.str j/\Q (.bl (!(!(Builtin.Str.occurrences j i 0 j.length 1).isEmpty))) H):=by
 intro pins s U H x y v u Q I rx ry h
 obtain⟨i,j,rfl,rfl,q⟩:=h
 obtain⟨t,rfl⟩:=rx
 obtain⟨t',rfl⟩:=ry
 exact notIn_str ⟨.bl _,H,I,rfl,q⟩
theorem U7:eK X (.builtin "len") (fun xs H Q=>∃p ys,xs=[.ref p]/\(aW X.K H p ys\/bJ X.K H p ys)/\Q (.int ys.length) H):=by
 intro pins s U H xs us Q I r h
 obtain⟨p,ys,rfl,hq,q⟩:=h
 obtain⟨u,rfl,rx⟩:=kR r
 cases rx
 have hn:=sU
 rcases hq with hq|hq
 ·obtain⟨its,r',pl,hz⟩:=I.list hq
  have hlen:=r'.length
  exact Calls.call_len_list pl.isList (by simp only[xan]<;>omega) ⟨.int ys.length,H,I.tok _,⟨s.toks+1,by rw[xan,hlen]⟩,q⟩
 ·obtain⟨its,r',pl,hz⟩:=I.tuple hq
  have hlen:=r'.length
  exact len_tuple pl (by simp only[xan]<;>omega) ⟨.int ys.length,H,I.tok _,⟨s.toks+1,by rw[xan,hlen]⟩,q⟩
theorem U8:eK X (.builtin "len") (fun xs H Q=>∃z,xs=[.str z]/\z.length<=sizeLine/\Q (.int z.length) H):=by
 intro pins s U H xs us Q I r h
 obtain⟨z,rfl,hz,q⟩:=h
 obtain⟨u,rfl,t,rfl⟩:=kR r
 have hn:=sU
 exact len_str (by omega) ⟨.int z.length,H,I.tok _,⟨_,rfl⟩,q⟩
theorem eK.or{f:Value}{r r':List V->Hp->VK->Prop}(h:eK X f r)(h':eK X f r'):eK X f (fun xs H Q=>r xs H Q\/r' xs H Q):=by
 intro pins s U H xs us Q I rs q
 rcases q with q|q
 ·exact h pins s U H xs us Q I rs q
 ·exact h' pins s U H xs us Q I rs q
theorem U9:eK X (.type "list") (fun xs H Q=>∃p ys,xs=[.ref p]/\(aW X.K H p ys\/bJ X.K H p ys)/\∀l,H l=none->Q (.ref l) (upd H l (.lst ys))):=by
 intro pins s U H xs us Q I r h
 obtain⟨p,ys,rfl,hq,q⟩:=h
 obtain⟨u,rfl,rx⟩:=kR r
 cases rx
 have fin:∀(its:List Value),aP ys its->ys.length<=sizeLine->∀(h':Heap) (c':Nat),(∀b o',s.heap.get? b=some o'->h'.get? b=some o')->
   h'.get? s.heap.objs.size=some { cls:=.type "list",dict:=none,data:=.seq its.toArray c',slots:=#[] }->EP X pins U Q (.ref s.heap.objs.size) { s with heap:=h' }:=fun its r' hz h' c' kp e=>
  ⟨.ref s.heap.objs.size,_,I.laid (t':=s.toks) kp (xap _) (show c6 X.prog X.w _ h' _ (.lst ys) from ⟨hz,its,c',r',e⟩),rfl,q _ (I.hok.fresh (xap _))⟩
 rcases hq with hq|hq
 ·obtain⟨its,r',pl,hz⟩:=I.list hq
  have hlen:=r'.length
  obtain⟨o,ho,hc,n,hd⟩:=pl.isList
  exact call_list_seq p (.inl rfl) ho hc hd (fun h' c' kp e=>fin its r' hz h' c' kp e) (by simp only[xan]<;>omega)
 ·obtain⟨its,r',pl,hz⟩:=I.tuple hq
  have hlen:=r'.length
  obtain⟨o,ho,hc,n,hd⟩:=pl
  exact call_list_seq p (.inr rfl) ho hc hd (fun h' c' kp e=>fin its r' hz h' c' kp e) (by simp only[xan]<;>omega)
def wM(K:xFg)(T:String)(x:V)(H:Hp):Prop:=match x with
 |.str _=>T="str"
 |.int _=>T="int"
 |.ref p=>(T="list"/\∃xs,aW K H p xs)\/(T="tuple"/\∃xs,bJ K H p xs)\/
   (T="dict"/\((∃kvs,H p=some (.dK kvs))\/∃kvs,H p=some (.dT kvs)))\/(T="set"/\∃S n,H p=some (.set S n))
 |_=>False
theorem C5{pins:List (Addr×Obj)}{U:St}{H:Hp}{s:Shared}{T:String}{x:V}{v:Value}(I:Inv X pins U H s)(r:aJ x v)(ty:wM X.K T x H) :
  s.TypeIs v T/\∀a,v=.ref a->∃ob,s.heap.get? a=some ob/\ob.dict=none:=by
 cases x with
 |str z=>
  obtain⟨t,rfl⟩:=r
  cases (show T="str" from ty)
  exact⟨typeIs_str s z t,fun _ e=>nomatch e⟩
 |int i=>
  obtain⟨t,rfl⟩:=r
  cases (show T="int" from ty)
  exact⟨typeIs_int s i t,fun _ e=>nomatch e⟩
 |ref p=>
  cases r
  rcases ty with⟨rfl,xs,hq⟩|⟨rfl,xs,hq⟩|⟨rfl,hk⟩|⟨rfl,S,n,hk⟩
  ·obtain⟨its,_,pl,_⟩:=I.list hq
   refine⟨pl.isList.typeIs,fun a e=>?_⟩
   cases e
   obtain⟨o,n,e,c,hd,_⟩:=pl
   exact⟨o,e,hd⟩
  ·obtain⟨its,_,⟨o,e1,hc,_,hd⟩,_⟩:=I.tupN hq
   refine⟨⟨o,e1,hc⟩,fun a e=>?_⟩
   cases e
   exact⟨o,e1,hd⟩
  ·have z:∃o,s.heap.get? p=some o/\o.ExactDict:=by
    rcases hk with⟨kvs,hk⟩|⟨kvs,hk⟩
    ·obtain⟨_,_,_,_,o,_,_,e,ex,_⟩:=I.hok p _ hk
     exact⟨o,e,ex⟩
    ·obtain⟨_,_,_,_,o,_,_,e,ex,_⟩:=I.hok p _ hk
     exact⟨o,e,ex⟩
   obtain⟨o,e,ex⟩:=z
   refine⟨⟨o,e,ex.1⟩,fun a e2=>?_⟩
   cases e2
   exact⟨o,e,ex.2.1⟩
  ·obtain⟨o,_,_,_,e,ex,_⟩:=I.hok p _ hk
   refine⟨⟨o,e,ex.1⟩,fun a e2=>?_⟩
   cases e2
   exact⟨o,e,ex.2.1⟩
 |_=>exact False.elim ty
def VA(K:xFg)(T:String)(r:V->List V->Hp->VK->Prop)(to:TE):TE:=fun U H Q=>to U H fun x H1=>wM K T x H1/\r x [] H1 Q
def tBM(K:xFg)(T:String)(r:V->List V->Hp->VK->Prop)(to:TE)(t:TA):TE:=fun U H Q=>to U H fun x H1=>wM K T x H1/\t U H1 fun xs H2=>r x xs H2 Q
variable{o e:Expr}{es:List Expr}{to:TE}{t:TA}{name:Str}{apos cpos:Pos}{T id:String}{r:V->List V->Hp->VK->Prop}
theorem nV(pa:PlainAttrs T)(slot:Slot T name id)(hty:typeOf (.builtin id)=pure (.type "method_descriptor"))(hm:wK X id r)(ho:PE X o to)
  (hbase:attributeBase o name X.env (eval o X.env)=eval o X.env:=by rfl) (hline:(apos.endLine==cpos.line)=true:=by rfl):PE X (.Call (.Attribute o name apos) [] [] cpos) (VA X.K T r to):=by
 intro pins s U H Q I h
 refine wpAny_Call_method0_late hbase hline (aH (ho pins s U H _ I h) fun v s1 ⟨x,H1,I1,r1,ty,q1⟩=>?_)
 obtain⟨h1,h2⟩:=C5 I1 r1 ty
 exact⟨T,id,pa,slot,hty,h1,h2,Calls.callWith_builtin rfl (PySem.evalArgs_none (hm pins s1 U H1 x [] v [] Q I1 r1 .nil q1))⟩
theorem kT(pa:PlainAttrs T)(slot:Slot T name id)(hty:typeOf (.builtin id)=pure (.type "method_descriptor"))(hm:wK X id r)(ho:PE X o to)(ha:PA X (e::es) t)
  (hbase:attributeBase o name X.env (eval o X.env)=eval o X.env:=by rfl)
  (hfew : ((backTo cpos (starEach (e :: es) X.env)).all (fun x => !x.1) && (backToKw cpos (keywordEach [] X.env)).all (fun x => x.1.isSome)
   && decide ((e::es).length+([]:List Keyword).length+(if ([]:List Keyword).isEmpty then 0 else 1)<30))=true:=by rfl)
  (hline:(apos.endLine==cpos.line)=true:=by rfl) (hs:starEach (e::es) X.env=(false,eval e X.env)::starEach es X.env:=by rfl) (hplain:(backTo cpos (starEach es X.env)).any (·.1)=false:=by rfl) :
  PE X (.Call (.Attribute o name apos) (e::es) [] cpos) (tBM X.K T r to t):=by
 intro pins s U H Q I h
 refine wpAny_Call_method_late hbase hfew hline rfl (aH (ho pins s U H _ I h) fun v s1 ⟨x,H1,I1,r1,ty,q1⟩=>?_)
 obtain⟨h1,h2⟩:=C5 I1 r1 ty
 refine⟨T,id,pa,slot,hty,h1,h2,?_⟩
 have hA:=ha cpos pins s1 U H1 _ I1 q1
 rw[hs] at hA ⊢
 refine Calls.callWith_builtin (by show (false||(backTo cpos (starEach es X.env)).any (·.1))=false;rw[hplain]<;>rfl) (Calls.evalArgs_plain ?_)
 exact aH hA fun us s2 ⟨vs,H2,I2,r2,q2⟩=>hm pins s2 U H2 x vs v us Q I2 r1 r2 q2
end
end L2
namespace L2
open PySem.Spec PyProof.Rows
def sW(X:Cx)(id:String)(r:V->List V->Hp->VK->Prop):Prop:=
 ∀(pins:List (Addr×Obj)) (s:Shared) (U:St) (H:Hp) (x:V) (xs:List V) (v:Value) (us:List Value) (Q:VK),Inv X pins U H s->aJ x v->aP xs us->r x xs H Q->
  wpAny (model X.prog X.w) X.A (call (.builtin id) (v::us)) (EP X pins U Q) X.xe s
theorem aP.one:∀{x:V} {us:List Value},aP [x] us->∃u,us=[u]/\aJ x u
 |_,_,.cons r .nil=>⟨_,rfl,r⟩
theorem aP.zero:∀{us:List Value},aP [] us->us=[]
 |_,.nil=>rfl
theorem aP.dropLast{xs:List V}{us:List Value}(h:aP xs us):aP xs.dropLast us.dropLast:=by
 induction h with
 |nil=>exact .nil
 |cons r t ih=>
  cases t with
  |nil=>exact .nil
  |cons q t'=>exact .cons r ih
theorem VC{α:Type}(l:List α):l.eraseIdx (l.length-1)=l.dropLast:=by
 induction l with
 |nil=>rfl
 |cons a r ih=>
  cases r with
  |nil=>rfl
  |cons b r=>
   have e:(a::b::r).length-1=((b::r).length-1)+1:=by
    have h1:(a::b::r).length=r.length+2:=rfl
    have h2:(b::r).length=r.length+1:=rfl
    omega
   rw[e,List.eraseIdx_cons_succ,ih]
   all_goals rfl
section
variable{X:Cx}{pins:List (Addr×Obj)}{U:St}{H:Hp}{s:Shared}{l b:Addr}{xs ys zs:List V}
theorem Inv.lset{its its':List Value}{n:Nat}{f:Array Value->Array Value}{t':Nat}(I:Inv X pins U H s)(hH:H l=some (.lst xs))
  (e:s.heap.get? l=some { cls:=.type "list",data:=.seq its.toArray n }) (hf:f its.toArray=its'.toArray) (hv:aP ys its') (hz:ys.length<=sizeLine) :
  Inv X pins U (upd H l (.lst ys)) { s with heap:=s.heap.update l (Obj.mapSeq f),toks:=t' }:=by
 have q:=PySem.IsL.update e f
 rw[hf] at q
 refine I.write (x:=l) (e:=l) (by rw[hH];exact trivial) (.inl rfl) (fun b' u hb hu=>(xbl s.heap (Obj.mapSeq f) (xa5 hb)).trans hu) ⟨_,q⟩ ?_
 exact⟨hz,its',_,hv,q⟩
theorem Inv.lnew{its:List Value}{t':Nat}(I:Inv X pins U H s)(hv:aP ys its)(hz:ys.length<=sizeLine) :
  Inv X pins U (upd H s.heap.objs.size (.lst ys)) { s with heap:=s.heap.push { cls:=.type "list",data:=.seq its.toArray },toks:=t' }:=
 I.laid (fun _ _ q=>xad _ q) (xap _) ⟨hz,its,0,hv,xax _ rfl⟩
theorem Inv.fresh(I:Inv X pins U H s):H s.heap.objs.size=none:=I.hok.fresh (xap _)
theorem Inv.lstM(I:Inv X pins U H s)(hH:H l=some (.lst xs)):xs.length<=sizeLine/\∃(its:List Value) (n:Nat),aP xs its/\xs.length=its.length/\s.heap.get? l=some { cls:=.type "list",data:=.seq its.toArray n }:=by
 obtain⟨z,its,n,r,e⟩:=I.hok l _ hH
 exact⟨z,its,n,r,r.length,e⟩
theorem VD{n:Nat}(h:n<=sizeLine):Builtin.List.listTooLong n=false:=by
 unfold Builtin.List.listTooLong
 exact xar (by omega)
end
section
variable{X:Cx}
def wN:V->List V->Hp->VK->Prop:=fun x vs H Q=>∃l xs y,x=.ref l/\vs=[y]/\H l=some (.lst xs)/\xs.length<sizeLine/\Q .non (upd H l (.lst (xs++[y])))
theorem lW:sW X "list.append" wN:=by
 intro pins s U H x vs v us Q I rx rv h
 obtain⟨l,xs,y,rfl,rfl,hH,hz,q⟩:=h
 cases rx
 obtain⟨u,rfl,ru⟩:=rv.one
 obtain⟨z,its,n,r,hl,e⟩:=I.lstM hH
 refine call_meets F.slot_list_append ⟨_,e,rfl⟩ F.entry_list_append (F.args_list_append_2 _ _) (PySem.list_append l its.toArray n u (by rw[xan];omega)) ⟨e,?_⟩
 refine⟨.non,_,I.lset (its':=its++[u]) hH e (by simp) (r.append (.cons ru .nil)) ?_,rfl,q⟩
 rw[xav,List.length_singleton]
 omega
def VE:V->List V->Hp->VK->Prop:=fun x vs H Q=>∃l xs y,x=.ref l/\vs=[]/\H l=some (.lst xs)/\xs[xs.length-1]? = some y/\Q y (upd H l (.lst xs.dropLast))
theorem sX:sW X "list.pop" VE:=by
 intro pins s U H x vs v us Q I rx rv h
 obtain⟨l,xs,y,rfl,rfl,hH,hy,q⟩:=h
 cases rx
 have hus:=rv.zero
 subst hus
 obtain⟨z,its,n,r,hl,e⟩:=I.lstM hH
 obtain⟨u,hu,ru⟩:=r.get hy
 have hy':its.toArray[its.toArray.size-1]? = some u:=by
  show its.toArray[its.length-1]? = some u
  rw[<- Array.getElem?_toList,<- hl]
  exact hu
 refine call_meets F.slot_list_pop ⟨_,e,rfl⟩ F.entry_list_pop (F.args_list_pop_1 _) (MeetsSeq.list_pop_last l its.toArray n u hy' (by rw[xan];omega)) ⟨e,?_⟩
 refine⟨y,_,I.lset (its':=its.dropLast) hH e ?_ r.dropLast ?_,ru,q⟩
 ·show its.toArray.eraseIdxIfInBounds (its.toArray.size-1)=its.dropLast.toArray
  rw[xan,List.eraseIdxIfInBounds_toArray,VC]
 ·rw[List.length_dropLast]
  omega
end
end L2
namespace Att
open PySem.W PySem.Calls PyProof.Rows
theorem VF{P:Params}{h:Heap}:∀(ns:List Int) (vs:List Value),WellAll P h vs (ns.map WData.int)->IntsAre vs ns:=by
 intro ns
 induction ns with
 |nil=>
  intro vs w
  rw[xbx] at w
  cases w
  exact .nil
 |cons n ns ih=>
  intro vs w
  rw[xa4] at w
  cases w with
  |cons a b=>
   cases a
   exact .cons _ _ (ih _ b)
theorem VG{l:OpenLaw}{n:Nat}(hn:l.most=some n){P:Params}{h:Heap}{args:List WData}{vals:List Value}
  (hpre:l.row.toRowW.claim.pre args=true) (hwl:WellAll P h vals args) :
  ∃a vs ns,vals=[Value.ref a]/\args=[WData.list (ns.map WData.int)]/\h.get? a=some { cls:=.type "list",data:=.seq vs.toArray }/\IntsAre vs ns/\ns.length<=n:=by
 have hsh:WShape.hasAll [] args [.list .int]=true:=(pre_splitW hpre).1
 have hc:l.pre.holds [] { args:=args }=true:=(pre_splitW hpre).2
 obtain⟨d,r,rfl,h1,h2⟩:=hasAllW_cons hsh
 obtain rfl:=hasAllW_nil h2
 obtain⟨xs,rfl,h3⟩:=hasW_list h1
 obtain⟨ns,rfl⟩:=items_int h3
 have hlen:ns.length<=n:=by
  unfold OpenLaw.pre at hc
  have h4:(WTm.not (.lt (.lit (.int (n:Int))) (.len (.arg 0)))).holds [] { args:=[.list (ns.map .int)] }=true:=by
   have h4:=(holds_andW hc).1
   rw[hn] at h4
   exact h4
  have h5:=condW_of h4 (w_not (w_lt w_lit (w_len_list (w_arg rfl))))
  rw[xak] at h5
  refine Nat.le_of_not_lt fun q=>?_
  have q':(n:Int)<((ns.length:Nat):Int):=by omega
  first
   |(rw[xaj q'] at h5;exact xaq h5 (by decide))
   |(simp at h5;omega)
 cases hwl with
 |cons w1 w2=>
  cases w2
  cases w1 with
  |list ho hall=>exact⟨_,_,ns,rfl,rfl,ho,VF ns _ hall,hlen⟩
theorem VH(l:OpenLaw)(args:List WData):l.row.toRowW.claim.post args (.bool true) args=true:=
 postW_of (r:=l.row.toRowW) (X:=(true==true))
  (show WShape.has [] (.bool true) .bool=true by first|rfl|decide|simp[WShape.has,WShape.arms,WShape.armsAll])
  (show (WTm.eq .res (.lit (.bool true))).value [] { args:=args,res:=some (.bool true),after:=args }=some (.bool (true==true)) from w_eq_bool (w_res rfl) w_lit) rfl
theorem attach_call{l:OpenLaw}{n:Nat}{q:Program}{loose:List Str}{XP:(Str->Option Value)->Heap->Prop}{YP:World->Heap->Prop}{d:DefRec}
  (hn:l.most=some n) (hdf:d.params.defaults=[])
  (call : ∀ (w : World) (s₀ s₁ : Shared) (mg mb : Str -> Option Value) (fa : Addr) (o : Obj) (pm cd doc : Value) (a : Addr) (vs : List Value) (ns : List Int),
   Ground q loose [] XP w s₀ mg mb s₁.heap->YP w s₁.heap->
   s₁.heap.get? fa=some o->o.data=.func (docDef d.name d.params d.body d.scope pm cd doc)->s₁.heap.CodeRec cd d.name->mg d.name=some (.ref fa)->
   s₁.heap.get? a=some { cls:=.type "list",data:=.seq vs.toArray }->IntsAre vs ns->ns.length<=n->s₁.gens=#[]->
   codeAny (model l.prog w) callerA (.call (.ref fa) ⟨[.ref a],[]⟩) (fun r s'=>r=.ok (.ret (.bool true))/\OldK s₁.heap s'.heap/\s'.os=s₁.os/\AllBare s'.gens) s₁) :
  WalkO q loose XP YP l.row.toRowW d [] (fun f vs=>PySem.call f vs):=by
 intro w s₀ s₁ mg mb G Y fa o pm cd doc dV kV ho hd hcd hD hmg hg args vals as hpre hlay hrd hwl hlo
 obtain rfl:dV=.none:=Dflts.none hD hdf
 obtain rfl:kV=.none:=Dflts.noKw hD
 obtain⟨a,vs,ns,rfl,rfl,hobj,hints,hlen⟩:=VG hn hpre hwl
 refine enter_call (codeAny_mono (call w s₀ s₁ mg mb fa o pm cd doc a vs ns G Y ho (fd_plain hd) hcd hmg hobj hints hlen hg) fun r s' hq=>?_)
 obtain⟨rfl,h2,h3,h4⟩:=hq
 exact⟨.inl ⟨.bool true,.bool true,[],rfl,fun _=>rfl,.bool true,VH l _,fun _=>⟨List.Pairwise.nil,fun _ hm=>(nomatch hm)⟩⟩,h2,h3,h4⟩
end Att
namespace L2
open PySem.Spec PyProof.Rows
theorem C6:∀{vs:List Value} {ns:List Int},IntsAre vs ns->aP (ns.map V.int) vs
 |_,_,.nil=>.nil
 |_,_,.cons n t h=>.cons ⟨t,rfl⟩ (C6 h)
def wO(H:Hp):Prop:=∀b,H b=none\/∃o xs,H b=some (.frz o (.lst xs))
theorem VI{P:Program}{w:World}{K:xFg}{mg mb:Str->Option Value}{CX:fO}{k:Nat}{fa a:Addr}{fd:FuncData}{x:Str}{sp:Sp}{s₁:Shared}{vs:List Value}{ns:List Int}
  (KX:K.In s₁.heap) (hns:s₁.heap.Ns mainGlobals mg) (hb:s₁.heap.Ns builtinsNs mb) (hbb:∀x:Str,x≠"__name__"->mb x=bootBuiltins x) (hlim:s₁.heap.NoLimit) (hg:s₁.gens=#[])
  (ha:s₁.heap.get? a=some { cls:=.type "list",data:=.seq vs.toArray }) (hi:IntsAre vs ns) (hl:ns.length<=sizeLine) (hr:cH k callerA)
  (F:∀base:Heap,K.In base->base.Ns mainGlobals mg->cO P w K mg base CX k fa fd [x] sp) (hbind:∀(s:Shared) (u:Value),BindsTo s fd ⟨[u],[]⟩ [(x,u)])
  (hsp:∀H:Hp,wO H->aW K H a (ns.map V.int)->sp [.ref a] H (fun v _=>v=.bl true) fun _ _ _=>False)
  (hCX:∀H e s',CX [] H s₁ (fun _ _ _=>False) e s'->False) :
  codeAny (model P w) callerA (.call (.ref fa) ⟨[.ref a],[]⟩) (fun r s'=>r=.ok (.ret (.bool true))/\OldK s₁.heap s'.heap/\s'.os=s₁.os/\AllBare s'.gens) s₁:=by
 have rv:=C6 hi
 have lenV:=hi.length
 have core:∀H:Hp,wO H->aW K H a (ns.map V.int)->cG P w H s₁.heap->(∀b,H b≠none->b=a)->(H a≠none->K.lookup a=none)->
   codeAny (model P w) callerA (.call (.ref fa) ⟨[.ref a],[]⟩) (fun r s'=>r=.ok (.ret (.bool true))/\OldK s₁.heap s'.heap/\s'.os=s₁.os/\AllBare s'.gens) s₁:=by
  intro H hO hS hok hA hK
  have base_of:∀{b:Addr} {o:Obj},s₁.heap.get? b=some o->H b=none->(jQ s₁.heap H).get? b=some o:=fun e n=>Q5 e n
  have noA:∀{b:Addr} {o:Obj} {es:Array DictEntry} {ep:Nat},s₁.heap.get? b=some o->o.data=.dict es ep->H b=none:=fun {b o es ep} e d=>by
   cases q:H b with
   |none=>rfl
   |some u=>
    have e':b=a:=hA b (by rw[q];simp)
    subst e'
    rw[ha] at e;cases e
    have d':Data.seq vs.toArray _=Data.dict es ep:=d
    cases d'
  have nsK:∀{b:Addr} {m:Str->Option Value},s₁.heap.Ns b m->(jQ s₁.heap H).Ns b m:=fun {b m} ⟨o,es,ep,e,d,r⟩=>⟨o,es,ep,base_of e (noA e d),d,r⟩
  have hKb:K.In (jQ s₁.heap H):=fun b o e=>base_of (KX b o e) (by
   cases q:H b with
   |none=>rfl
   |some u=>
    have e':b=a:=hA b (by rw[q];simp)
    subst e'
    rw[hK (by rw[q];simp)] at e;cases e)
  have hM:Mod K mg (jQ s₁.heap H):=⟨hKb,nsK hns,⟨mb,nsK hb,hbb⟩,let⟨mc,h1,h2⟩:=hlim;⟨mc,nsK h1,h2⟩⟩
  have e0:lR P w K mg (jQ s₁.heap H) callerA [] s₁ H:=⟨rfl,hM,fun b o e=>Q6 e,Nat.le_of_eq (Q4 _ _),trivial,fun b hb=>xaq (show b∈([]:List Addr) from hb) (by simp),hok,.of_eq hg⟩
  refine codeAny_mono ((F _ hKb (nsK hns)).run callerA [] s₁ H ⟨[.ref a],[]⟩ [.ref a] [.ref a] _ _ hr e0 (hbind s₁ (.ref a)) (.cons rfl .nil) (hsp H hO hS)) fun r s' h=>?_
  cases r with
  |error e=>exact(hCX H e s' h).elim
  |ok fl=>
   cases fl with
   |next=>exact False.elim h
   |brk=>exact False.elim h
   |cont=>exact False.elim h
   |ret u=>
    obtain⟨v,H',os,bare,un,hok',r',q⟩:=h
    have q':v=.bl true:=q
    subst q'
    obtain rfl:u=Value.bool true:=r'
    refine⟨rfl,OldK.of_keep fun b o e=>?_,os,bare⟩
    cases q:H b with
    |none=>exact un.keep b o e q (by intro z;exact xaq (show b∈([]:List Addr) from z) (by simp)) (by simp)
    |some u=>
     rcases hO b with z|⟨ob,xs,z⟩
     ·rw[q] at z;cases z
     ·have z2:=un.frzs b ob _ z
      obtain⟨e1,_⟩:=hok b _ z
      obtain⟨e2,_⟩:=hok' b _ z2
      rw[e] at e1;cases e1
      exact e2
 cases hk:K.lookup a with
 |some o=>
  have e:=KX a o hk
  rw[ha] at e
  cases e
  refine core (fun _=>none) (fun _=>.inl rfl) (.inr ⟨_,vs.toArray,_,hk,rfl,rfl,rfl,by rw[xan,lenV];exact hl,by simpa using rv⟩) (fun b u z=>by have z':(none:Option HO)=some u:=z;cases z') (fun b z=>xaq rfl z) fun z=>xaq rfl z
 |none=>
  refine core (fun b=>if b=a then some (.frz { cls:=.type "list",data:=.seq vs.toArray } (.lst (ns.map V.int))) else none) (fun b=>?_) (.inl (.inr ⟨{ cls:=.type "list",data:=.seq vs.toArray },xao rfl⟩)) (fun b u z=>?_) (fun b z=>?_) fun _=>hk
  ·by_cases hb:b=a
   ·exact .inr ⟨_,_,xao hb⟩
   ·exact .inl (xal hb)
  ·by_cases hb:b=a
   ·have z':=(xao hb).symm.trans z
    cases z'
    subst hb
    exact⟨ha,by rw[xak];exact hl,vs,_,rv,ha⟩
   ·have z':=(xal hb).symm.trans z
    cases z'
  ·by_cases hb:b=a
   ·exact hb
   ·exact xaq (xal hb) z
end L2
namespace L2
open PySem.Spec PyProof.Rows
theorem walk_of{l:PySem.W.OpenLaw}{n k:Nat}{q:Program}{loose:List Str}{XP:(Str->Option Value)->Heap->Prop}{YP:World->Heap->Prop}{d:DefRec}{K:Params->xFg}{CX:World->fO}{sp:World->Sp}{x:Str}
  (hn:l.most=some n) (hn2:n<=sizeLine) (hdf:d.params.defaults=[]) (hr:cH k callerA)
  (hY:∀(w:World) (h:Heap),YP w h->(K w.params).In h)
  (F : ∀ (w : World) (mg : Str -> Option Value) (fa : Addr) (h : Heap), (K w.params).In h -> h.Ns mainGlobals mg -> mg d.name = some (.ref fa) ->
   ∃fd:FuncData,(∀(s:Shared) (u:Value),BindsTo s fd ⟨[u],[]⟩ [(x,u)])/\
    ∀base:Heap,(K w.params).In base->base.Ns mainGlobals mg->cO l.prog w (K w.params) mg base (CX w) k fa fd [x] (sp w))
  (hsp:∀(w:World) (H:Hp) (a:Addr) (ns:List Int),ns.length<=n->wO H->aW (K w.params) H a (ns.map V.int)->sp w [.ref a] H (fun v _=>v=.bl true) fun _ _ _=>False)
  (hCX:∀(w:World) (H:Hp) (s:Shared) (e:Value) (s':Shared),CX w [] H s (fun _ _ _=>False) e s'->False) :
  PySem.W.WalkO q loose XP YP l.row.toRowW d [] (fun f vs=>PySem.call f vs):=by
 refine Att.attach_call hn hdf fun w s₀ s₁ mg mb fa o pm cd doc a vs ns G Y ho hd hcd hmg hobj hints hlen hg=>?_
 have KX:=hY w _ Y
 obtain⟨fd,hb,hF⟩:=F w mg fa _ KX G.T.g hmg
 exact VI KX G.T.g G.T.b G.T.builtins G.T.nolimit hg hobj hints (xa1 hlen hn2) hr hF hb (fun H hO hS=>hsp w H a ns hlen hO hS) fun H e s'=>hCX w H s₁ e s'
end L2
namespace L2
open PySem.Spec PyProof.Rows
def aN(s:Stmt)(j:Nat):Stmt:=match s with
 |.ClassDef _ _ _ body _ _ _ _ _ _ _=>body.getD j (.Pass ⟨0,0,0,0⟩)
 |_=>.Pass ⟨0,0,0,0⟩
def i9(s:Stmt):Arguments:=match s with
 |.FunctionDef _ a _ _ _ _ _ _ _ _=>a
 |_=>{ posonlyargs:=[],args:=[],vararg:=none,kwonlyargs:=[],kw_defaults:=[],kwarg:=none,defaults:=[] }
def fE(s:Stmt):List Stmt:=match s with
 |.FunctionDef _ _ b _ _ _ _ _ _ _=>b
 |_=>[]
def aZ(s:Stmt):Scope:=match s with
 |.FunctionDef _ _ _ _ _ _ sc _ _ _=>sc
 |_=>{ kind:=.function,names:=[],isGenerator:=false,isCoroutine:=false }
abbrev E0:XK:=fun _ _ _=>False
structure bV(K:xFg)(x qual:Str)(st:Stmt)(f:Addr)(fd:FuncData):Prop where
 ex:∃(oc:Value) (od:Option Addr) (kV doc pm:Value) (an:Option Addr) (cdv ct:Value) (osl:Array (Option Value)),
  fd=PySem.W.fnOf x qual (i9 st) (fE st) (aZ st) .none kV doc pm an cdv ct/\K.lookup f=some ⟨oc,od,.func fd,osl⟩/\PySem.W.codeIn K cdv qual=true
 kp:PySem.W.keepIn K (.ref f)=true
section
variable{P:Program}{w:World}{K:xFg}{mg:Str->Option Value}{base:Heap}
theorem bV.binds{x qual:Str}{st:Stmt}{f:Addr}{fd:FuncData}{ps:List Str}(F:bV K x qual st f fd)
  (h:∀(kV doc pm:Value) (an:Option Addr) (cdv ct:Value) (us:List Value),us.length=ps.length->bindArgs (PySem.W.fnOf x qual (i9 st) (fE st) (aZ st) .none kV doc pm an cdv ct) ⟨us,[]⟩=pure (ps.zip us)):bU K fd ps []:=by
 obtain⟨oc,od,kV,doc,pm,an,cdv,ct,osl,rfl,lk,hcd⟩:=F.ex
 exact .all (h kV doc pm an cdv ct)
theorem wP{x qual:Str}{st:Stmt}{f:Addr}{oc:Value}{od an:Option Addr}{osl:Array (Option Value)}{kV doc pm cdv ct:Value}(l:K.lookup f=some ⟨oc,od,.func (PySem.W.fnOf x qual (i9 st) (fE st) (aZ st) .none kV doc pm an cdv ct),osl⟩)
  (c:PySem.W.codeIn K cdv qual=true) (k:PySem.W.keepIn K (.ref f)=true):bV K x qual st f (PySem.W.fnOf x qual (i9 st) (fE st) (aZ st) .none kV doc pm an cdv ct):=⟨⟨oc,od,kV,doc,pm,an,cdv,ct,osl,rfl,l,c⟩,k⟩
end
theorem C7{A:Around}{k:Nat}(hr:cH k A):A.units+1<cLine:=xa9 (Nat.add_le_add_left (by decide:1<=64) _) hr.units
theorem VJ{n:Nat}(h:n<=1000):n<sizeLine:=xa9 h (by decide)
section
variable{X:Cx}
theorem pv(i:Nat){x:Str}{pos:Pos}(hN:X.N[i]? = some x:=by rfl)(hv:cA X.env.scope x:=by first|exact Or.inl rfl|exact Or.inr (Or.inl rfl)|exact Or.inr (Or.inr rfl))(hd:(x==("__debug__":Str))=false:=by decide)
  (hcd:(x==("__classdict__":Str))=false:=by decide):PE X (.Name x pos) (BW i):=RA hN hv hd hcd
end
theorem jT{A B:Prop}(h:B):if false=true then A else B:=by
 rw[xal xa8]
 exact h
theorem jU{A B:Prop}(h:A):if true=true then A else B:=by
 rw[xao rfl]
 exact h
def Same(H H':Hp):Prop:=∀b o,H b=some o->H' b=some o
theorem Same.refl(H:Hp):Same H H:=fun _ _ h=>h
theorem Same.trans{H H1 H2:Hp}(a:Same H H1)(b:Same H1 H2):Same H H2:=fun c o h=>b c o (a c o h)
theorem Same.free{H H':Hp}(e:Same H H'){l:Addr}(h:H' l=Option.none):H l=Option.none:=by
 cases q:H l with
 |none=>rfl
 |some o=>
  rw[e l o q] at h
  cases h
theorem Same.seq{K:xFg}{H H':Hp}{a:Addr}{xs:List V}(e:Same H H')(h:aW K H a xs):aW K H' a xs:=by
 rcases h with (h|⟨o,h⟩)|h
 ·exact .inl (.inl (e _ _ h))
 ·exact .inl (.inr ⟨o,e _ _ h⟩)
 ·exact .inr h
end L2
end
namespace L2
open PySem.Spec PyProof.Rows
theorem C8{α β:Type}(g:β->α->β):∀{l:List α} {f:α->β->Sem (ForInStep β)} (c:β),(∀x∈l,∀c,f x c=pure (.yield (g c x)))->forIn l c f=pure (l.foldl g c)
 |[],_,_,_=>rfl
 |x::l,f,c,h=>by
  rw[List.forIn_cons,h x xba c,pure_bind]
  exact C8 g (g c x) fun y hy=>h y (xat _ hy)
def iO(env:Env)(cs:List (Str×Addr))(x:Str×NameKind):List (Str×Addr):=
 if (x.2==NameKind.free)=true then (x.1,(env.cells.lookup x.1).getD 0)::cs else cs
def nW(env:Env)(names:List (Str×NameKind)):List (Str×Addr):=names.foldl (iO env) []
theorem C9{env:Env}{scope:Scope}(h:∀x∈scope.names,x.2=.free->∃c,env.cells.lookup x.1=some c):closureFor scope env=pure (nW env scope.names):=by
 simp only[closureFor]
 rw[C8 (iO env) [] (fun x hx c=>by
  obtain⟨n,k⟩:=x
  by_cases hk:k=.free
  ·obtain⟨a,e⟩:=h (n,k) hx hk
   have e':env.cells.lookup n=some a:=e
   subst hk
   simp[iO,cellOf,e']
  ·have hb:(k==NameKind.free)=false:=by simpa using hk
   simp[iO,hb])]
 rfl
theorem wQ{env:Env}:∀(l:List (Str×NameKind)) (acc:List (Str×Addr)),(∀x∈l,x.2=.free->∃c,env.cells.lookup x.1=some c)->(∀y c,acc.lookup y=some c->env.cells.lookup y=some c)->
  ∀y c,(l.foldl (iO env) acc).lookup y=some c->env.cells.lookup y=some c
 |[],acc,_,ha,y,c,e=>ha y c e
 |x::l,acc,h,ha,y,c,e=>by
  refine wQ l (iO env acc x) (fun z hz=>h z (xat _ hz)) (fun z d q=>?_) y c e
  unfold iO at q
  split at q
  ·rename_i hk
   obtain⟨a,ea⟩:=h x xba (by simpa using hk)
   rw[xb4] at q
   cases hz:z==x.1 with
   |true=>
    rw[hz] at q
    rw[ea] at q
    have:z=x.1:=by simpa using hz
    rw[this,ea];simpa using q
   |false=>rw[hz] at q;exact ha z d q
  ·exact ha z d q
theorem wR{env:Env}:∀(l:List (Str×NameKind)) (acc:List (Str×Addr)) (y:Str),((∃c,acc.lookup y=some c)\/(y,NameKind.free)∈l)->∃c,(l.foldl (iO env) acc).lookup y=some c
 |[],acc,y,h=>by
  rcases h with h|h
  ·exact h
  ·exact xaq h (by simp)
 |x::l,acc,y,h=>by
  refine wR l (iO env acc x) y ?_
  rcases h with⟨c,h⟩|h
  ·left
   unfold iO
   split
   ·rw[xb4]
    cases hz:y==x.1 with
    |true=>exact⟨_,rfl⟩
    |false=>exact⟨c,h⟩
   ·exact⟨c,h⟩
  ·rcases xaz.mp h with e|h
   ·left
    subst e
    unfold iO
    rw[xao (by rfl),xb4]
    simp
   ·exact .inr h
theorem lX{scope:Scope}{env:Env}:∀{names:List (Str×NameKind)} {x:Str} {k:NameKind},
  (names.map fun (n,k)=>if (k==NameKind.free&&env.scope.kind==.function&&env.kindOf n==some .cell) then (n,NameKind.cell) else (n,k)).lookup x=some k->
  names.lookup x=some k\/(k=.cell/\names.lookup x=some .free)
 |[],_,_,h=>by simp at h
 |(n,k')::r,x,k,h=>by
  change List.lookup x ((if (k'==NameKind.free&&env.scope.kind==.function&&env.kindOf n==some .cell)=true then (n,NameKind.cell) else (n,k'))::_)=some k at h
  by_cases hc:(k'==NameKind.free&&env.scope.kind==.function&&env.kindOf n==some .cell)=true
  ·rw[xao hc,xb4] at h
   rw[xb4]
   cases hx:x==n with
   |true=>
    rw[hx] at h
    have hk:k'=.free:=by
     simp only[xau,beq_iff_eq] at hc
     exact hc.1.1
    subst hk
    have h':NameKind.cell=k:=by simpa using h
    exact .inr ⟨h'.symm,rfl⟩
   |false=>rw[hx] at h;exact lX (scope:=scope) h
  ·rw[xal hc,xb4] at h
   rw[xb4]
   cases hx:x==n with
   |true=>rw[hx] at h;exact .inl h
   |false=>rw[hx] at h;exact lX (scope:=scope) h
def wS(k:Nat)(NY N:List Str)(sc:Scope):Bool:=
 NY.length==k+N.length&&((NY.drop k).zip N).all fun p=>(sc.names.lookup p.1).isNone||(p.1==p.2&&sc.names.lookup p.1 != some .local)
structure LC(X:Cx)(k:Nat)(scope:Scope)(NY:List Str):Prop where
 cells:∀y∈scope.names,y.2≠.cell
 kind:scope.kind=.function
 names:∀y∈scope.names,y.2=.local->scope.names.lookup y.1=some .local
 free:∀y∈scope.names,y.2=.free->X.env.kindOf y.1=some .cell\/X.env.kindOf y.1=some .free
 ny:wS k NY X.N scope=true
 nd:NY.Nodup
def DB(k:Nat)(N:List Str)(sc0 scope:Scope)(NY:List Str):Bool:=
 (scope.names.all fun y=>y.2 != .cell)&&(scope.kind==.function)&&(scope.names.all fun y=>y.2 != .local||scope.names.lookup y.1==some .local) &&
 (scope.names.all fun y=>y.2 != .free||sc0.names.lookup y.1==some .cell||sc0.names.lookup y.1==some .free)&&wS k NY N scope&&decide NY.Nodup
theorem LC.of{X:Cx}{k:Nat}{N NY:List Str}{sc0 scope:Scope}(hN:X.N=N)(hs:X.env.scope=sc0)(h:DB k N sc0 scope NY=true):LC X k scope NY:=by
 unfold DB at h
 simp only[xau,xbn,Bool.or_eq_true,bne_iff_ne,beq_iff_eq,ne_eq] at h
 obtain⟨⟨⟨⟨⟨h1,h2⟩,h3⟩,h4⟩,h5⟩,h6⟩:=h
 refine⟨h1,h2,fun y hy e=>?_,fun y hy e=>?_,by rw[hN];exact h5,xa0 h6⟩
 ·rcases h3 y hy with z|z
  ·exact xaq e z
  ·exact z
 ·show X.env.scope.names.lookup y.1=_\/X.env.scope.names.lookup y.1=_
  rw[hs]
  rcases h4 y hy with (z|z)|z
  ·exact xaq e z
  ·exact .inl z
  ·exact .inr z
def cJ(X:Cx)(scope:Scope)(NY:List Str)(s₀:Shared)(H₀:Hp)(C:Addr)(ex:List Addr):Cx:=
 { X with N:=NY,s₀:=s₀,H₀:=H₀,env:=compEnvC scope (nW X.env scope.names) C X.env,outer:=X.stack,ex:=ex,fn:=fun _=>false,pn:=[],xe:=fun _ _=>False }
def jA(X:Cx)(cs:List Expr)(t:TT):Prop:=
 ∀(pins:List (Addr×Obj)) (s:Shared) (U:St) (H:Hp) (Q:Bool->Hp->Prop),Inv X pins U H s->t U H Q->
  wpAny (model X.prog X.w) X.A (forIn cs true fun c r=>if r=true then do let ok<-isTrue c X.env (eval c X.env);pure (ForInStep.yield ok) else pure (ForInStep.yield r)) (TP X pins U Q) X.xe s
def VL:TT:=fun _ H Q=>Q true H
theorem VM{X:Cx}:jA X [] VL:=fun _ _ _ H _ I h=>wpAny_tests_nil ⟨H,I,h⟩
theorem VN{X:Cx}{c:Expr}{t:TT}(hc:PT X c t):jA X [c] t:=fun pins s U H Q I h=>wpAny_tests_one (hc pins s U H Q I h)
def wT(U σ2:St):Prop:=σ2.length=U.length/\∀(j:Nat) (v:V),U[j]? = some (some v)->σ2[j]? = some (some v)
def sY(k:Nat)(wi:TI)(g:TG)(tc:TT)(te:TE):TE:=fun U H Q=>wi U H fun J H1=>∃W:Nat->Nat->List V->Hp->Prop,(∃m,W 0 m [] H1)/\∀i m ys H,W i m ys H->ys.length<sizeLine/\
 ((J.stop i H /\ ∀ D, H D = none -> Q (.ref D) (upd H D (.lst ys))) \/
  (J.go i H/\∃N:List V->Hp->Prop,(∀ys' H',N ys' H'->∃m',m'<m/\W (i+1) m' ys' H')/\
    ∀v H',J.yld i H v H'->g v (List.replicate k none++U) H' fun σ2 H2=>wT (List.replicate k none++U) σ2/\
      tc σ2 H2 fun b H3=>if b=true then te σ2 H3 fun y H4=>N (ys++[y]) H4 else N ys H3))
theorem wU{α:Type}{t:Sem α}{Q Q':α->Shared->Prop}{M:Model}{A:Around}{E:Value->Shared->Prop}{s:Shared}(h:wpAny M A t Q (fun _ _=>False) s)(hQ:∀a s,Q a s->Q' a s):wpAny M A t Q' E s:=
 wpAny_mono h hQ fun _ _ z=>False.elim z
section
variable{prog:Program}{w:World}{A:Around}{R:Result->Shared->Prop}{s:Shared}
theorem VO{elt tg iter:Expr}{ifs:List Expr}{scope:Scope}{pos:Pos}{it acc:Value}{env:Env}(W:Nat->Shared->Prop)
  (turn : ∀ n s, W n s -> ∀ E', wpAny (model prog w) A (pyNext it) (fun r s1 => match r with
   |none=>R (.ok .next) s1
   |some v=>wpAny (model prog w) A (letOwnedTupleGo tg it v) (fun _ s2=>wpAny (model prog w) A (assign tg env v) (fun _ s3=>
     wpAny (model prog w) A (forIn ifs true fun c r=>if r=true then do let ok<-isTrue c env (eval c env);pure (ForInStep.yield ok) else pure (ForInStep.yield r)) (fun ok s4=>
      if ok=true then wpAny (model prog w) A (eval elt env) (fun x s5=>wpAny (model prog w) A (call (.builtin "list.append") [acc,x]) (fun _ s6=>∃m,m<n/\W m s6) E' s5) E' s4
      else ∃m,m<n/\W m s4) E' s3) E' s2) E' s1) E' s)
  (n:Nat) (h:W n s):codeAny (model prog w) A (.compLoop (.ListComp elt [⟨tg,iter,ifs,0⟩] scope pos) 0 it acc env) R s:=by
 refine codeAny_loop rfl W (fun n s hW=>?_) n h
 show wpAny _ A ((compTurn (.ListComp elt [⟨tg,iter,ifs,0⟩] scope pos) 0 it acc env).onRaise (fun x=>do noteFrame x env;theTreesLotGoes x)) _ _ s
 refine wpAny_noted ?_
 rw[compTurn_list]
 refine xaa (wpAny_standAt (xaa (aH (turn n s hW _) fun r s1 h1=>?_)))
 cases r with
 |none=>exact xah h1
 |some v=>
  refine xaa (aH h1 fun _ s2 h2=>xaa (aH h2 fun _ s3 h3=>xaa (aH h3 fun ok s4 h4=>?_)))
  cases ok with
  |false=>exact xah ⟨rfl,h4⟩
  |true=>exact xaa (xaa (aH h4 fun x s5 h5=>xaa (aH h5 fun _ s6 h6=>xah (xah ⟨rfl,h6⟩))))
end
section
variable{X:Cx}{pins:List (Addr×Obj)}{U:St}{H2:Hp}{s2:Shared}{scope:Scope}{NY:List Str}{k:Nat}{C D:Addr}{fp:List Addr}
theorem VP(I2:Inv X pins U H2 s2)(lc:LC X k scope NY)(hf:∀b∈fp,eS X pins H2 b)(hfl:∀b∈fp,b<s2.heap.objs.size)(hC:s2.heap.objs.size<=C):(cJ X scope NY s2 H2 C fp).Ok:=by
 have hfree:∀x∈scope.names,x.2=.free->∃c,X.env.cells.lookup x.1=some c:=fun x hx e=>I2.ok.has x.1 (lc.free x hx e)
 have sub:∀x c,(nW X.env scope.names).lookup x=some c->X.env.cells.lookup x=some c:=wQ scope.names [] hfree (fun y c e=>by simp at e)
 refine⟨I2.ok.mod,?_,I2.ok.glob,I2.ok.blt,hC,fun x y c e1 e2=>I2.ok.inj x y c (sub x c e1) (sub y c e2),fun x hx=>?_,fun x c z=>xaq z (by show ¬(false=true);decide),I2.ok.hd,I2.ok.frames,.inl rfl,fun b hb=>⟨xay (xae (hfl b hb) hC),fun x c e=>(hf b hb).2.2.2.2.1 x c (sub x c e)⟩,
  I2.bs,xa1 I2.ok.bsz I2.sz,fun b o e hb=>?_,fun b hb z=>?_,I2.stack,I2.stkFree⟩
 ·show (relabel scope X.env).kind=.function
  exact lc.kind
 ·have hx:(relabel scope X.env).names.lookup x=some .cell\/(relabel scope X.env).names.lookup x=some .free:=hx
  have key:scope.names.lookup x=some .free:=by
   rcases hx with hx|hx
   ·rcases lX (scope:=scope) hx with z|⟨_,z⟩
    ·exact xaq rfl (lc.cells _ (PySem.mem_of_lookup z))
    ·exact z
   ·rcases lX (scope:=scope) hx with z|⟨_,z⟩
    ·exact z
    ·exact z
  exact wR scope.names [] x (.inr (PySem.mem_of_lookup key))
 ·have q:b∈X.ex\/X.s₀.heap.objs.size<=b:=(hf b hb).2.2.2.1
  rcases q with q|q
  ·exact I2.ok.noex b o e q
  ·exact xaq (xae (xai e) (xa1 I2.ok.bsz q)) (xbk _)
 ·rcases xaz.mp (I2.stkSub b z) with e|e
  ·exact(hf b hb).2.1 e
  ·exact(hf b hb).2.2.1 e
theorem VQ{h1:Heap}{tk:Nat}{m:Str->Option Value}{oD:Obj}(I2:Inv X pins U H2 s2)(lc:LC X k scope NY)(hf:∀b∈fp,eS X pins H2 b)(hfl:∀b∈fp,b<s2.heap.objs.size)(hC:s2.heap.objs.size<=C)(hD:s2.heap.objs.size<=D)(hDC:D≠C)
  (old:∀b o,s2.heap.get? b=some o->h1.get? b=some o) (hn:h1.Ns C m) (ho:h1.get? D=some oD) (hoD:∀v,oD.data≠.cell v) :
  Inv (cJ X scope NY s2 H2 C fp) [(D,oD)] (List.replicate k none++U) H2 { s2 with heap:=h1,toks:=tk }:=by
 have hfree:∀x∈scope.names,x.2=.free->∃c,X.env.cells.lookup x.1=some c:=fun x hx e=>I2.ok.has x.1 (lc.free x hx e)
 have sub:∀x c,(nW X.env scope.names).lookup x=some c->X.env.cells.lookup x=some c:=wQ scope.names [] hfree (fun y c e=>by simp at e)
 have hny:=lc.ny
 unfold wS at hny
 simp only[xau,beq_iff_eq,xbn,Bool.or_eq_true,bne_iff_ne,ne_eq] at hny
 obtain⟨hlen,hz⟩:=hny
 refine⟨VP I2 lc hf hfl hC,rfl,I2.bare,Un.kept old,⟨m,hn,fun i x v e1 e2 e3=>?_⟩,fun x c e=>?_,I2.hok.fresh hC,fun x c e=>I2.freeC x c (sub x c e),fun p hp=>?_,I2.hok.kept old,?_⟩
 ·have e1:NY[i]? = some x:=e1
  have hik:k<=i:=by
   refine Nat.le_of_not_lt fun z=>?_
   rw[xbh (by simpa using z),xcd,xao z] at e2
   cases e2
  rw[xb7 (by simpa using hik),xc7] at e2
  have hi2:i-k<X.N.length:=by
   rw[<- I2.len];exact(xam.mp e2).1
  obtain⟨y,ey⟩:∃y,X.N[i-k]? = some y:=⟨_,xa7 hi2⟩
  have em:(x,y)∈(NY.drop k).zip X.N:=by
   refine xbo (i:=i-k) ?_
   rw[List.getElem?_zip_eq_some]
   refine⟨?_,ey⟩
   rw[List.getElem?_drop,show k+(i-k)=i by omega];exact e1
  have e3:cA (relabel scope X.env) x:=e3
  have kf:scope.names.lookup x=some .free:=by
   have kk:∃q,scope.names.lookup x=some q:=by
    rcases e3 with z|z|z<;>rcases lX (scope:=scope) z with z|⟨_,z⟩<;>exact⟨_,z⟩
   have zz:=hz (x,y) em
   have nl:scope.names.lookup x≠some .local:=by
    rcases zz with zz|zz
    ·obtain⟨q,hq⟩:=kk
     have zz:(scope.names.lookup x).isNone=true:=zz
     rw[hq] at zz;cases zz
    ·exact zz.2
   rcases e3 with z|z|z<;>rcases lX (scope:=scope) z with z|⟨_,z⟩
   ·exact xaq z nl
   ·exact z
   ·exact xaq rfl (lc.cells _ (PySem.mem_of_lookup z))
   ·exact z
   ·exact z
   ·exact z
  have exy:x=y:=by
   rcases hz (x,y) em with zz|zz
   ·have zz:(scope.names.lookup x).isNone=true:=zz
    rw[kf] at zz;cases zz
   ·exact zz.1
  subst exy
  obtain⟨mX,hnX,hlX⟩:=I2.loc
  have hk:=lc.free (x,.free) (PySem.mem_of_lookup kf) rfl
  have hk:X.env.kindOf x=some .cell\/X.env.kindOf x=some .free:=hk
  obtain⟨u,ru,lu⟩:=hlX (i-k) x v ey e2 (.inr hk)
  refine⟨u,ru,?_⟩
  rcases lu with⟨z,_⟩|⟨_,c,hc,hcell⟩
  ·rcases hk with q|q<;>rw[q] at z<;>cases z
  ·obtain⟨c',hc'⟩:=wR (env:=X.env) scope.names [] x (.inr (PySem.mem_of_lookup kf))
   have:c'=c:=by
    have q:=sub x c' hc'
    rw[hc] at q;exact(xas q).symm
   subst this
   refine .inr ⟨?_,c',hc',hcell.keeps old⟩
   show (relabel scope X.env).names.lookup x=some .cell\/(relabel scope X.env).names.lookup x=some .free
   rcases e3 with z|z
   ·rcases lX (scope:=scope) z with z|⟨z,_⟩
    ·rw[kf] at z;cases z
    ·cases z
   ·exact z
 ·obtain⟨v,z⟩:=I2.cell x c (sub x c e)
  exact⟨v,z.keeps old⟩
 ·have e:p=(D,oD):=by simpa [cJ] using hp
  subst e
  refine⟨ho,I2.hok.fresh hD,hDC,fun z=>?_,hoD⟩
  have z:D∈cT X.stack:=z
  rcases xaz.mp (I2.stkSub D z) with q|q
  ·exact xaq (xae I2.lt hD) (by rw[q];exact xbk _)
  ·exact I2.nofs hD q
 ·show (List.replicate k none++U).length=NY.length
  rw[hlen,xav,xc7,I2.len]
theorem VR{H4:Hp}{s4:Shared}{U':St}{ys:List V}{us:List Value}(I2:Inv X pins U H2 s2)(hf:∀b∈fp,eS X pins H2 b)(hC:s2.heap.objs.size<=C)(hD:s2.heap.objs.size<=D)
  (I4:Inv (cJ X scope NY s2 H2 C fp) [(D,LCg.lst us)] U' H4 s4) (rv:aP ys us) (hz:ys.length<=sizeLine):Inv X pins U (upd H4 D (.lst ys)) s4:=by
 obtain⟨pD,nD,neD,nfD,dD⟩:=I4.pin (D,LCg.lst us) (by simp)
 have u0:Un (cT X.stack) fp H2 H4 s2.heap s4.heap:=I4.base
 have neb:∀b o,s2.heap.get? b=some o->b≠D:=fun b o e=>xay (xae (xai e) hD)
 have hok:cG X.prog X.w (upd H4 D (.lst ys)) s4.heap:=fun b u e=>by
  by_cases hb:b=D
  ·subst hb
   rw[aV] at e;cases e
   exact⟨hz,us,us.length,rv,pD⟩
  ·rw[aG hb] at e
   exact(I4.hok b u e).stay (fun _ _ _ q=>q) (fun c q=>by rw[aG (bN q nD)];exact q) fun c xs q=>by rw[aG (bN q nD)];exact q
 refine I2.call' (ch:=fp) I4.os ⟨u0.keep,u0.slot,fun b o e n hx=>?_,u0.there,fun b xs q=>?_,fun b o u q=>?_,fun b ps q=>?_⟩ hok I4.bare fun b hb=>⟨(hf b hb).2.2.2.1,(hf b hb).2.1,(hf b hb).2.2.2.2.1,(hf b hb).2.2.2.2.2⟩
 ·rw[aG (neb b o e)];exact u0.free b o e n hx
 ·have z:=u0.tups b xs q
  rw[aG (bN z nD)];exact z
 ·have z:=u0.frzs b o u q
  rw[aG (bN z nD)];exact z
 ·obtain⟨more,z⟩:=u0.tbls b ps q
  exact⟨more,by rw[aG (bN z nD)];exact z⟩
end
theorem DC{X:Cx}{tg elt iter:Expr}{ifs:List Expr}{scope:Scope}{pos:Pos}{NY:List Str}{k:Nat}{g:TG}{tc:TT}{te:TE}(hc:X.calm=true)(lc:LC X k scope NY)
  (hb:∀(s₀:Shared) (H₀:Hp) (C:Addr) (ex:List Addr),NY.Nodup->PG (cJ X scope NY s₀ H₀ C ex) tg g/\jA (cJ X scope NY s₀ H₀ C ex) ifs tc/\PE (cJ X scope NY s₀ H₀ C ex) elt te)
  {pins:List (Addr×Obj)} {U:St} {H2:Hp} {s2:Shared} {it:Addr} {fp:List Addr} {tn:Nat->Heap->Prop} {J:It} {RR:Value->Addr->Result->Shared->Prop} {E:Value->Shared->Prop} {Fin:List V->Hp->Prop}
  (I2:Inv X pins U H2 s2) (T:lO X.prog X.w X.K tg J fp it tn) (st2:tn 0 s2.heap) (f2:∀b∈fp,eS X pins H2 b) {W:Nat->Nat->List V->Hp->Prop} {m0:Nat} (w0:W 0 m0 [] H2)
  (turn : ∀ i m ys H, W i m ys H -> ys.length < sizeLine /\ ((J.stop i H /\ Fin ys H) \/ (J.go i H /\ ∃ N : List V -> Hp -> Prop, (∀ ys' H', N ys' H' -> ∃ m', m' < m /\ W (i + 1) m' ys' H') /\
   ∀v H',J.yld i H v H'->g v (List.replicate k none++U) H' fun σ2 H2=>wT (List.replicate k none++U) σ2/\tc σ2 H2 fun b H3=>if b=true then te σ2 H3 fun y H4=>N (ys++[y]) H4 else N ys H3)))
  (fin:∀(C D:Addr) (H4:Hp) (s4:Shared) (ys:List V) (m:Str->Option Value),s2.heap.objs.size<=C->H4 D=none->H4 C=none->D≠C->s4.heap.Ns C m->Inv X pins U (upd H4 D (.lst ys)) s4->Fin ys H4->RR (.ref D) C (.ok .next) s4) :
  wpAny (model X.prog X.w) X.A (newList []) (fun acc s3=>wpAny (model X.prog X.w) X.A (newFunctionEnv scope X.env.globals (nW X.env scope.names) [] X.env.qual none .none (some X.env)) (fun cenv s4=>
   codeAny (model X.prog X.w) X.A (.compStart (.ListComp elt [⟨tg,iter,ifs,0⟩] scope pos) 0 (.ref it) acc { cenv with scope:=relabel scope X.env }) (RR acc cenv.locals) s4) E s3) E s2:=by
 refine wpAny_newObj_type (wpAny_newFunctionEnv lc.cells (by intro y hy;simp at hy) (fun h1 hns1 hsb1=>?_) lc.kind)
 dsimp only at hns1 hsb1 ⊢
 generalize hG:s2.heap.push { cls:=.type "list",dict:=none,data:=.seq ([]:List Value).toArray }=G at hns1 hsb1 ⊢
 have hC:G.objs.size=s2.heap.objs.size+1:=by rw[<- hG,xcj]
 have hCle:s2.heap.objs.size<=G.objs.size:=by omega
 have hDC:s2.heap.objs.size≠G.objs.size:=by omega
 have hfl:∀b∈fp,b<s2.heap.objs.size:=fun b hb=>by obtain⟨o,e,_⟩:=T.obj 0 _ st2 b hb;exact xai e
 have old:∀b o,s2.heap.get? b=some o->h1.get? b=some o:=fun b o e=>by
  have lt:=xai e
  refine hsb1.extBut b o (xay (xae lt hCle)) (xad _ ?_)
  rw[<- hG];exact xad _ e
 have hacc:h1.get? s2.heap.objs.size=some (LCg.lst []):=by
  refine hsb1.extBut _ _ hDC (xad _ ?_)
  rw[<- hG];exact xax _ rfl
 have dl:∀(us:List Value) v,(LCg.lst us).data≠.cell v:=fun us v z=>by
  have z':Data.seq us.toArray us.length=Data.cell v:=z
  cases z'
 have I3:=VQ (h1:=h1) (tk:=s2.toks+([]:List (Str×Value)).length) I2 lc f2 hfl hCle (xap _) hDC old hns1 hacc (dl [])
 have fpY:∀{us:List Value} {H':Hp},(∀b∈fp,H' b=none)->∀b∈fp,eS (cJ X scope NY s2 H2 G.objs.size fp) [(s2.heap.objs.size,LCg.lst us)] H' b:=fun {us H'} hn b hb=>by
  have lt:=hfl b hb
  have okY:=I3.ok
  refine⟨hn b hb,(okY.exf b hb).1,okY.exfs b hb,.inl hb,(okY.exf b hb).2,fun p hp=>?_⟩
  have e:p=(s2.heap.objs.size,LCg.lst us):=by simpa [cJ] using hp
  subst e
  exact xa6 lt
 obtain⟨hg,ht,he⟩:=hb s2 H2 G.objs.size fp lc.nd
 have loop:∀s3:Shared,s3={ s2 with heap:=h1,toks:=s2.toks+([]:List (Str×Value)).length }->
   codeAny (model X.prog X.w) X.A (.compLoop (.ListComp elt [⟨tg,iter,ifs,0⟩] scope pos) 0 (.ref it) (.ref s2.heap.objs.size) (compEnvC scope (nW X.env scope.names) G.objs.size X.env)) (RR (.ref s2.heap.objs.size) G.objs.size) s3:=by
  rintro s3 rfl
  refine VO (fun n s'=>∃i H' ys us,Inv (cJ X scope NY s2 H2 G.objs.size fp) [(s2.heap.objs.size,LCg.lst us)] (List.replicate k none++U) H' s'/\aP ys us/\tn i s'.heap/\(∀b∈fp,H' b=none)/\W i n ys H') ?_ m0
   ⟨0,H2,[],[],I3,.nil,T.keep _ _ _ st2 fun b _ o e=>old b o e,fun b hb=>(f2 b hb).1,w0⟩
  rintro n s3 ⟨i,H3,ys,us,I3,rv,st3,fr3,w3⟩ E'
  obtain⟨hsz,hturn⟩:=turn i n ys H3 w3
  rcases hturn with⟨stop,qn⟩|⟨go,N,hN,step⟩
  ·refine aH (T.done (cJ X scope NY s2 H2 G.objs.size fp) rfl rfl rfl hc i _ s3 _ H3 E' I3 (fpY fr3) st3 stop) fun r s4 ⟨hr,I4⟩=>?_
   subst hr
   obtain⟨m4,hn4,_⟩:=I4.loc
   exact fin _ _ H3 s4 ys m4 hCle (I4.pin (s2.heap.objs.size,LCg.lst us) (by simp)).2.1 I4.free hDC hn4 (VR I2 f2 hCle (xap _) I4 rv (xcu hsz)) qn
  ·refine aH (T.item (cJ X scope NY s2 H2 G.objs.size fp) rfl rfl rfl hc i _ s3 _ H3 E' I3 (fpY fr3) st3 go) fun r s4 ⟨u,hr,h4⟩=>?_
   subst hr
   refine aH h4 fun _ s5 ⟨x,H5,I5,r5,y5,st5,fr5⟩=>?_
   have I5':=I5.pinned (fpY fr5) (T.obj _ _ st5)
   refine wU (hg _ s5 _ H5 x u _ I5' r5 (step x H5 y5)) fun _ s6 ⟨σ6,H6,I6,sub6,q6⟩=>?_
   have keep:∀{σ7:St} {H7:Hp} {s7:Shared},Inv (cJ X scope NY s2 H2 G.objs.size fp) ([(s2.heap.objs.size,LCg.lst us)]++pO fp s5.heap) σ7 H7 s7->tn (i+1) s7.heap/\(∀b∈fp,H7 b=none):=fun {σ7 H7 s7} I7=>by
    refine⟨T.keep _ _ _ st5 fun b hb o e=>(I7.pin (b,o) (xbd _ (xbd _ (sN hb e)))).1,fun b hb=>?_⟩
    obtain⟨o,e,d⟩:=T.obj _ _ st5 b hb
    exact(I7.pin (b,o) (xbd _ (xbd _ (sN hb e)))).2.1
   refine wU (ht _ s6 σ6 H6 _ I6 q6) fun ok s7 ⟨H7,I7,q7⟩=>?_
   cases ok with
   |false=>
    rw[xal xa8] at q7 ⊢
    obtain⟨m',hm,w7⟩:=hN _ _ q7
    obtain⟨k1,k2⟩:=keep I7
    exact⟨m',hm,i+1,H7,ys,us,(I7.weak (by rw[I7.len,I5.len]) sub6.2).unpinned,rv,k1,k2,w7⟩
   |true=>
    rw[xao rfl] at q7 ⊢
    refine wU (he _ s7 σ6 H7 _ I7 q7) fun y s8 ⟨v,H8,I8,r8,q8⟩=>?_
    obtain⟨m',hm,w8⟩:=hN _ _ q8
    obtain⟨k1,k2⟩:=keep I8
    obtain⟨pD,nD,neD,nfD,dD⟩:=I8.pin (s2.heap.objs.size,LCg.lst us) (by simp)
    have hul:us.toArray.size<=sizeLine:=by rw[xan,<- rv.length];exact xcu hsz
    refine append_at pD (fun h9 sb9 hD9=>?_) hul
    have I8':Inv (cJ X scope NY s2 H2 G.objs.size fp) [] (List.replicate k none++U) H8 s8:=(I8.weak (by rw[I8.len,I5.len]) sub6.2).pins_of fun p hp=>xaq hp (by simp)
    have hDfp:s2.heap.objs.size∉fp:=fun z=>xbk _ (hfl _ z)
    have I9:Inv (cJ X scope NY s2 H2 G.objs.size fp) [] (List.replicate k none++U) H8 { s8 with heap:=h9 }:=
     I8'.turned (t':=s8.toks) (it:=s2.heap.objs.size) (fun b o hb e=>(sb9.2 b hb).trans e) nD neD (.inr (xap _)) (fun x c e z=>by
      obtain⟨v',o',e1,e2⟩:=I8.cell x c e
      rw[z,pD] at e1
      have e1':LCg.lst us=o':=xas e1
      rw[<- e1'] at e2
      exact dl us v' e2) (fun p hp=>xaq hp (by simp[cJ]))
    refine⟨m',hm,i+1,H8,ys++[v],us++[y],I9.pins_of fun p hp=>?_,rv.append (.cons r8 .nil),T.keep _ _ _ k1 fun b hb o e=>(sb9.2 b fun z=>hDfp (z▸hb)).trans e,k2,w8⟩
    have e:p=(s2.heap.objs.size,LCg.lst (us++[y])):=by simpa using hp
    subst e
    exact⟨hD9.trans (congrArg some (LCg.lst_snoc us y)),nD,neD,nfD,dl _⟩
 exact codeAny_compStart_list (loop _ rfl) (T.self _ 0 _ _ _ (T.keep _ _ _ st2 fun b _ o e=>old b o e) (loop _ rfl))
section
variable{X:Cx}{tg elt iter:Expr}{ifs:List Expr}{scope:Scope}{pos:Pos}{NY:List Str}{k:Nat}{wi:TI}{g:TG}{tc:TT}{te:TE}
theorem VS(hc:X.calm=true)(lc:LC X k scope NY)(hi:PI X tg iter wi)
  (hb:∀(s₀:Shared) (H₀:Hp) (C:Addr) (ex:List Addr),NY.Nodup->PG (cJ X scope NY s₀ H₀ C ex) tg g/\jA (cJ X scope NY s₀ H₀ C ex) ifs tc/\PE (cJ X scope NY s₀ H₀ C ex) elt te)
  (hs:∀x,foldedSetIterable iter X.env x=pure x:=by intro _;rfl):PE X (.ListComp elt [⟨tg,iter,ifs,0⟩] scope pos) (sY k wi g tc te):=by
 intro pins s U H Q I h
 rw[eval_ListComp]
 refine wpAny_comprehension_free (use:=none) rfl hs (C9 fun x hx e=>I.ok.has x.1 (lc.free x hx e)) lc.kind lc.names (aH (hi pins s U H _ I h) fun v s1 h1=>aH h1 fun itv s2 h2=>?_)
 obtain⟨it,fp,tn,J,H2,e,I2,T,st2,f2,W,⟨m0,w0⟩,turn⟩:=h2
 subst e
 refine DC (RR:=fun acc C=>compPost (model X.prog X.w) X.A X.xe none (EP X pins U Q) acc C) hc lc hb I2 T st2 f2 w0 turn fun C D H4 s4 ys m hC nD nC hDC hn I4 q=>?_
 refine⟨m,hn,fun h' sb=>?_⟩
 have hCn:upd H4 D (.lst ys) C=none:=by rw[aG (xa5 hDC)];exact nC
 obtain⟨f0,f1,f2',f3,f4,f5⟩:=I2.fpOk (H':=upd H4 D (.lst ys)) hC hCn
 exact⟨.ref D,_,I4.turned (t':=s4.toks) (fun b o hb e=>(sb.2 b hb).trans e) f0 f1 f3 f4 f5,rfl,q D nD⟩
theorem VT{i:Nat}{y:Str}{py spos:Pos}(hc:X.calm=true)(hN:X.N.Nodup)(hi':X.N[i]? = some y)(hy:X.env.kindOf y=some .local)(lc:LC X k scope NY)(hi:PI X tg iter wi)
  (hb:∀(s₀:Shared) (H₀:Hp) (C:Addr) (ex:List Addr),NY.Nodup->PG (cJ X scope NY s₀ H₀ C ex) tg g/\jA (cJ X scope NY s₀ H₀ C ex) ifs tc/\PE (cJ X scope NY s₀ H₀ C ex) elt te)
  (hsw:swapsWith (.ListComp elt [⟨tg,iter,ifs,0⟩] scope pos) (some (.Name y py)) spos.line X.env=pure true:=by rfl)
  (hs:∀x,foldedSetIterable iter X.env x=pure x:=by intro _;rfl):PS X (.Assign [.Name y py] (.ListComp elt [⟨tg,iter,ifs,0⟩] scope pos) spos) (nK (sY k wi g tc te) (lN i)):=by
 intro pins s U H D0 I h
 rw[exec_Assign_Name_used _ _ _ _ hsw]
 refine xaa (wpAny_standAt (xaa ?_))
 show wpAny _ X.A (do let _<-comprehension (.ListComp elt [⟨tg,iter,ifs,0⟩] scope pos) scope X.env _ (newList []) false (eval iter X.env) (some (assign (.Name y py) X.env))) _ _ s
 refine xaa (aH (wpAny_comprehension_free (use:=some (assign (.Name y py) X.env)) (Q:=fun _ s'=>SP X pins D0 .next s') rfl hs (C9 fun x hx e=>I.ok.has x.1 (lc.free x hx e)) lc.kind lc.names
  (aH (hi pins s U H _ I h) fun v s1 h1=>aH h1 fun itv s2 h2=>?_)) fun _ s' q=>xah (xah q))
 obtain⟨it,fp,tn,J,H2,e,I2,T,st2,f2,W,⟨m0,w0⟩,turn⟩:=h2
 subst e
 refine DC (RR:=fun acc C=>compPost (model X.prog X.w) X.A X.xe (some (assign (.Name y py) X.env)) (fun _ s'=>SP X pins D0 .next s') acc C) hc lc hb I2 T st2 f2 w0 turn fun C D H4 s4 ys m hC nD nC hDC hn I4 q=>?_
 have hCn:upd H4 D (.lst ys) C=none:=by rw[aG (xa5 hDC)];exact nC
 obtain⟨f0,f1,f2',f3,f4,f5⟩:=I2.fpOk (H':=upd H4 D (.lst ys)) hC hCn
 obtain⟨oC,es,ep,eC,dC,rC⟩:=id hn
 have I5:Inv X (pins++[(C,oC)]) U (upd H4 D (.lst ys)) s4:=I4.pins_of fun p hp=>by
  rcases xbf.mp hp with z|z
  ·exact I4.pin p (xbd _ z)
  ·have e:p=(C,oC):=by simpa using z
   subst e
   exact⟨eC,hCn,f1,f2',fun v z=>by rw[show (C,oC).2.data=oC.data from rfl,dC] at z;cases z⟩
 show wpAny _ X.A (assign (.Name y py) X.env (.ref D)) _ _ _
 refine wpAny_assign_Name (pN (v:=.ref D) I5 hN hi' (.inl hy) rfl (fun s5 I6=>?_) (.inr hy))
 refine⟨m,⟨oC,es,ep,(I6.pin (C,oC) (by simp)).1,dC,rC⟩,fun h' sb=>?_⟩
 exact⟨_,_,I6.unpinned.turned (t':=s5.toks) (fun b o hb e=>(sb.2 b hb).trans e) f0 f1 f3 f4 f5,q D nD⟩
end
end L2
namespace L2
open PySem.Spec PyProof.Rows
def Sm(i:Int):Prop:=i.natAbs<2^4000
theorem Sm.of{i:Int}{n:Nat}(h:i.natAbs<=n)(hn:n<2^4000:=by decide +kernel):Sm i:=xa9 h hn
theorem DD{n k:Nat}(hk:0<k)(h:n<2^k):n.log2<k:=by
 rcases Nat.eq_zero_or_pos n with h0|hp
 ·rw[h0];simpa using hk
 ·exact(Nat.log2_lt (xa6 hp)).mpr h
theorem Sm.bits{i:Int}(h:Sm i):Builtin.Int.intBits i<=4000:=by
 unfold Builtin.Int.intBits
 split
 ·exact xbi _
 ·have q:i.natAbs.log2<4000:=DD (by decide) h
  omega
theorem Sm.mulOk{i j:Int}(a:Sm i)(b:Sm j):IntMulOk i j:=by
 have h1:=a.bits
 have h2:=b.bits
 unfold IntMulOk
 intro z
 simp only[xau,decide_eq_true_eq,Builtin.Int.intTooBig] at z
 have e:=z.2
 have l:(bitsLine:Int)=134217728:=by decide
 rw[l] at e
 omega
section
variable{X:Cx}
theorem VU:bE X (binaryOp .Mult) (rI (fun i j=>Sm i/\Sm j) fun i j=>.int (i*j)):=lP fun _ _ _ _ _ _ _ hc q=>mul_int q (hc.1.mulOk hc.2)
theorem VV:bE X (compareOp .Is) (fun x y H Q=>∃a b,x=.bl a/\y=.bl b/\Q (.bl (a==b)) H):=by
 intro pins s U H x y v u Q I rx ry h
 obtain⟨a,b,rfl,rfl,q⟩:=h
 cases rx
 cases ry
 exact is_bool (pP I q rfl)
theorem VW:bE X (compareOp .IsNot) (fun x y H Q=>∃a b,x=.bl a/\y=.bl b/\Q (.bl (a != b)) H):=by
 intro pins s U H x y v u Q I rx ry h
 obtain⟨a,b,rfl,rfl,q⟩:=h
 cases rx
 cases ry
 exact isnot_bool (pP I q rfl)
theorem VX(hc:X.calm=true):eK X (.builtin "sum") (fun xs H Q=>∃(p:Addr) (ns:List Int),xs=[.ref p]/\aW X.K H p (ns.map V.int)/\Q (.int ns.sum) H):=by
 intro pins s U H xs us Q I r h
 obtain⟨p,ns,rfl,hq,q⟩:=h
 obtain⟨u,rfl,e⟩:=kR r
 cases e
 obtain⟨its,rv,pl,hz⟩:=I.list hq
 have hi:=UQ rv
 obtain⟨zs,e⟩:=hi.allInts.items
 have hl:s.heap.IsList p (intItems zs):=by rw[<- e];exact pl.isList
 have hn:(zs.toList.map (·.1))=ns:=by
  have a1:=nums_intItems zs
  rw[<- e] at a1
  rw[show its.toArray.toList=its from rfl,hi.numsOf] at a1
  exact a1.symm
 refine sum_intListG (I.ok.hd hc) hl fun h' tk t' hk=>⟨.int ns.sum,H,I.kept hk,⟨t',?_⟩,q⟩
 rw[preSum_eq,List.take_of_length_le (by simp),hn]
def VY(K:xFg)(n:Nat)(t:i6):TG:=fun v U H Q=>∃a xs,v=.ref a/\aW K H a xs/\xs.length=n/\t xs U H Q
theorem VZ{es:List Expr}{k:Nat}{t:i6}{n:Nat}{pos:Pos}(hc:X.calm=true)(h:nJ X es t)
  (hn:(assignEach es X.env).length=n:=by rfl) (hst:(assignEach es X.env).findIdx? (·.1)=none:=by rfl):PG X (.Tuple es k pos) (VY X.K n t):=by
 intro pins s U H v u Q I r hw
 obtain⟨a,xs,e1,hq,hl,hw⟩:=hw
 subst e1
 cases r
 obtain⟨its,rv,pl,hz⟩:=I.list hq
 have hsz:(assignEach es X.env).length=its.toArray.size:=by simp[hn,<- hl,rv.length]
 rw[assign_Tuple]
 refine xaa (wpAny_standAt ?_)
 unfold unpack
 rw[hsz,hst]
 refine xaa (wpAny_holding (PySem.W.kun_itemsOf (I.ok.hd hc) pl.isList fun h' hx=>?_))
 have I1:Inv X pins U H { s with heap:=h' }:=I.kept (t':=s.toks) fun b o e=>hx b o (xay (xai e)) e
 exact h pins _ U H xs _ Q I1 (by simpa using rv) hw
def pS(lo st:Int)(n:Nat):It:=⟨fun i _=>i<n,fun i H x H'=>H'=H/\x=.int (lo+i*st),fun i _=>n<=i⟩
theorem V0{P:Program}{w:World}{K:xFg}{tg:Expr}(it:Addr)(lo c:Int)(n:Nat):lO P w K tg (pS lo c n) [it] it (fun i h=>IsRangeIter h it (lo+(i:Nat)*c) ((n:Int)-(i:Nat)) c) where
 mem:=by simp
 obj:=fun i h st b hb=>by
  have e:b=it:=by simpa using hb
  subst e
  exact⟨_,st,fun v z=>by
   have z':Data.fields _=Data.cell v:=z
   cases z'⟩
 keep:=fun i h h' st k=>k it (by simp) _ st
 item:=by
  intro X hP hw hK hc i pins s U H E I hf st hg
  subst hP hw hK
  obtain⟨f0,f1,f2,f3,f4,f5⟩:=hf it (by simp)
  have W:=Walks.range (prog:=X.prog) (w:=X.w) (A:=X.A) (I.ok.hd hc) it lo c n
  refine W.item i s _ _ hg st fun v h' tk hv st' kk=>?_
  obtain⟨t,rfl⟩:=hv
  have I1:Inv X pins U H { s with heap:=h',toks:=tk }:=I.turned (fun b o hb e=>kk b o (by simpa using hb) e) f0 f1 f3 f4 f5
  exact⟨_,rfl,sL (s:={ s with heap:=h',toks:=tk }) (n:="range_iterator") st' rfl rfl (by decide) ⟨.int (lo+i*c),H,I1,⟨t,rfl⟩,⟨rfl,rfl⟩,st',fun b hb=>(hf b hb).1⟩⟩
 done:=by
  intro X hP hw hK hc i pins s U H E I hf st hg
  subst hP hw hK
  obtain⟨f0,f1,f2,f3,f4,f5⟩:=hf it (by simp)
  exact wpAny_pyNext_range_end (I.ok.hd hc) st (by have:n<=i:=hg;omega) fun h' eb=>⟨rfl,I.turned (t':=s.toks) (fun b o hb e=>eb b o hb e) f0 f1 f3 f4 f5⟩
 self:=fun _ _ _ _ _ st h=>wpAny_pyIter_rangeiter st h
theorem V1{lo c:Int}{n:Nat}{g:TG}{tb:TS}{D:iM}{U:St}{H:Hp}(Pv:Nat->St->Hp->Prop)(h0:Pv 0 U H)
  (hs:∀i U H,i<n->Pv i U H->g (.int (lo+i*c)) U H fun σ2 H2=>tb { D with nx:=Pv (i+1),ct:=Pv (i+1),bk:=D.nx } σ2 H2) (hd:∀U H,Pv n U H->D.nx U H) :
  ∃W:Nat->Nat->St->Hp->Prop,(∃m,W 0 m U H)/\∀i m U H,W i m U H->
   ((pS lo c n).stop i H/\D.nx U H)\/((pS lo c n).go i H/\∃N:St->Hp->Prop,(∀U' H',N U' H'->∃m',m'<m/\W (i+1) m' U' H')/\∀x H',(pS lo c n).yld i H x H'->g x U H' fun σ2 H2=>tb { D with nx:=N,ct:=N,bk:=D.nx } σ2 H2):=by
 refine⟨fun i m U H=>m=n-i/\i<=n/\Pv i U H,⟨n,by simp,xbi _,h0⟩,?_⟩
 rintro i m U H ⟨rfl,hi,p⟩
 by_cases hlt:i<n
 ·refine .inr ⟨hlt,Pv (i+1),fun U' H' p'=>⟨n-(i+1),by omega,rfl,hlt,p'⟩,fun x H' y=>?_⟩
  obtain⟨e,y⟩:=y
  subst e y
  exact hs i U _ hlt p
 ·have e:i=n:=by omega
  subst e
  exact .inl ⟨xap _,hd U H p⟩
end
end L2
namespace Mth
theorem gcd_step(m n:Nat):Nat.gcd n (m%n)=Nat.gcd m n:=by
 rw[Nat.gcd_comm n (m%n),<- Nat.gcd_rec n m,Nat.gcd_comm]
structure jV(s x y z x' y' z':Int):Prop where
 ne:s≠0
 x:x=s*x'
 y:y=s*y'
 z:z=s*z'
theorem wV{s x x':Int}(h:s≠0)(e:x=s*x'):x.fdiv s=x':=by
 rw[e];exact xby x' h
theorem wW{s x x':Int}(h:s≠0)(e:x=s*x'):x'.natAbs<=x.natAbs:=by
 rw[e,xb9]
 exact xc1 _ (by omega)
theorem V2(x y z:Int)(h:¬(x=0/\y=0/\z=0)):∃x' y' z',jV ((Nat.gcd (Nat.gcd x.natAbs y.natAbs) z.natAbs:Nat):Int) x y z x' y' z':=by
 have d1:(Nat.gcd (Nat.gcd x.natAbs y.natAbs) z.natAbs) ∣ x.natAbs:=Nat.dvd_trans (xc4 _ _) (xc4 _ _)
 have d2:(Nat.gcd (Nat.gcd x.natAbs y.natAbs) z.natAbs) ∣ y.natAbs:=Nat.dvd_trans (xc4 _ _) (xcz _ _)
 have d3:(Nat.gcd (Nat.gcd x.natAbs y.natAbs) z.natAbs) ∣ z.natAbs:=xcz _ _
 have n0:Nat.gcd (Nat.gcd x.natAbs y.natAbs) z.natAbs≠0:=by
  intro e
  rw[e] at d1 d2 d3
  exact h ⟨by have:=xcy d1;omega,by have:=xcy d2;omega,by have:=xcy d3;omega⟩
 have c1:((Nat.gcd (Nat.gcd x.natAbs y.natAbs) z.natAbs:Nat):Int) ∣ x:=xc8.mp (by rw[xcv];exact d1)
 have c2:((Nat.gcd (Nat.gcd x.natAbs y.natAbs) z.natAbs:Nat):Int) ∣ y:=xc8.mp (by rw[xcv];exact d2)
 have c3:((Nat.gcd (Nat.gcd x.natAbs y.natAbs) z.natAbs:Nat):Int) ∣ z:=xc8.mp (by rw[xcv];exact d3)
 obtain⟨x',e1⟩:=c1
 obtain⟨y',e2⟩:=c2
 obtain⟨z',e3⟩:=c3
 exact⟨x',y',z',by omega,e1,e2,e3⟩
theorem jV.neg{s x y z x' y' z':Int}(p:jV s x y z x' y' z'):jV (0-s) x y z (-x') (-y') (-z'):=by
 refine⟨by have:=p.ne;omega,?_,?_,?_⟩
 ·rw[p.x,xdb,Int.neg_mul_neg]
 ·rw[p.y,xdb,Int.neg_mul_neg]
 ·rw[p.z,xdb,Int.neg_mul_neg]
theorem DH{a b B:Nat}(ha:a<=B)(hb:b<=B):Nat.gcd a b<=B:=by
 rcases Nat.eq_zero_or_pos a with h|h
 ·rw[h,Nat.gcd_zero_left];exact hb
 ·exact xa1 (Nat.gcd_le_left b h) ha
end Mth
namespace L2
open PySem.Spec PyProof.Rows
theorem V3{H:Hp}{p:Addr}(h:H p=none)(o:HO):Same H (upd H p o):=fun b u q=>by rw[aG (bN q h)];exact q
theorem Same.tup{K:xFg}{H H':Hp}{a:Addr}{xs:List V}(e:Same H H')(h:bJ K H a xs):bJ K H' a xs:=by
 rcases h with (h|⟨o,h⟩)|h
 ·exact .inl (.inl (e _ _ h))
 ·exact .inl (.inr ⟨o,e _ _ h⟩)
 ·exact .inr h
theorem small{n:Nat}(h:n<=1000):n<=sizeLine:=xcu (VJ h)
section
variable{K:xFg}{a:Addr}{xs:List V}{H:Hp}
theorem lgo(h:aW K H a xs):(nM K a).stop xs.length H/\∀i,i<xs.length->(nM K a).go i H/\∀v H',(nM K a).yld i H v H'->H'=H/\xs[i]? = some v:=
 ⟨⟨xs,h,xap _⟩,fun i hi=>⟨⟨xs,xs[i],h,by simp[hi]⟩,fun v H' y=>⟨y.1,y.2 xs h⟩⟩⟩
theorem tgo(h:bJ K H a xs):(nO K a).stop xs.length H/\∀i,i<xs.length->(nO K a).go i H/\∀v H',(nO K a).yld i H v H'->H'=H/\xs[i]? = some v:=
 ⟨⟨xs,h,xap _⟩,fun i hi=>⟨⟨xs,xs[i],h,by simp[hi]⟩,fun v H' y=>⟨y.1,y.2 xs h⟩⟩⟩
end
end L2
namespace L2
open PySem.Spec PyProof.Rows
structure jB(B:Heap)(l:List Env)(x:Addr)(cls:Value)(dct:Option Addr)(fl:Value)(h:Heap):Prop where
 stays:B.StaysIn h
 new:B.get? x=none
 frames:h.FunFrames B l
 obj:∃ox vs T oT ts,h.get? x=some ox/\ox.cls=cls/\ox.dict=dct/\ox.data=.fields vs/\vs[1]? = some (.ref T)/\B.get? T=none/\T≠x/\h.get? T=some oT/\oT.data=.fields ts/\ts[3]? = some fl
theorem V4(o:Obj)(f:Array Value->Array Value):(o.mapFields f).dict=o.dict:=by
 obtain⟨c,d,dt,sl⟩:=o;cases dt<;>rfl
section
variable{M:Model}{A:Around}{E:Value->Shared->Prop}{s:Shared}{B:Heap}{env:Env}{outer:List Env}{L x:Addr}{Q:Unit->Shared->Prop}
theorem lY{h:Heap}{y:Addr}{oy:Obj}{ws:Array Value}(ey:h.get? y=some oy)(dy:oy.data=.fields ws){b:Addr}{o:Obj}(eb:h.get? b=some o)(nf:∀us,o.data≠.fields us):b≠y:=fun z=>by
 rw[z,ey] at eb
 have z':oy=o:=xas eb
 rw[<- z'] at nf
 exact nf ws dy
theorem DM{ox:Obj}{vs:Array Value}{head:Value}{hadNext:Bool}(hfr:A.frames=some (env::outer))(hl:s.heap.FunFrames B (env::outer))(hf:env.frame=some L)
  (ex:s.heap.get? x=some ox) (hB:B.StaysIn s.heap) (nx:B.get? x=none) (dx:ox.data=.fields vs) (sz:1<vs.size)
  (k:∀h',jB B (env::outer) x ox.cls ox.dict (rawInt L) h'->s.heap.UpToSlots h'->Q () { s with heap:=h' }) :
  wpAny M A (do let a<-frameOf env;let pl<-entryPlaceOf L hadNext;let b<-EntryCells.newEntry head a .none (rawInt L) .none pl;setField (.ref x) 1 b) Q E s:=by
 have nfr:x∉(env::outer).filterMap (·.frame):=fun hm=>by
  obtain⟨_,o,ho,nf⟩:=hl.mem hm
  exact lY ex dx ho nf rfl
 refine xaa (wpAny_frameOf_fun hfr hl hf fun g1 so=>xaa (wpAny_entryPlaceOf fun pl hpl=>?_))
 unfold EntryCells.newEntry newFields
 refine xaa (wpAny_newObj_type ?_ (hpl.sizeOk5 _ _ _ _ _))
 have ex1:g1.get? x=some ox:=(so.2.1 x nfr).trans ex
 have B1:B.StaysIn g1:=fun b o eb=>(so.2.1 b fun hm=>by rw[(hl.mem hm).1] at eb;cases eb).trans (hB b o eb)
 generalize eo:({ cls:=.type "traceback",dict:=none,data:=.fields ([head,.ref L,.none,rawInt L,.none]++(if pl.isEmpty then List.replicate 6 Value.none else pl)).toArray }:Obj)=ob
 have ex2:=xad (h:=g1) ob ex1
 refine wpAny_setField ex2 dx sz (k _ ?_ ?_)
 ·have Tx:g1.objs.size≠x:=xa6 (xai ex1)
  have d3:=Obj.data_mapFields dx (·.setIfInBounds 1 (Value.ref g1.objs.size))
  have e3:=Heap.get?_update_self (Obj.mapFields (·.setIfInBounds 1 (Value.ref g1.objs.size))) ex2 (Obj.isFreed_of_fields d3)
  have freeOb:ob.isFreed=false:=by rw[<- eo];rfl
  have T3:=(xbl (g1.push ob) (Obj.mapFields (·.setIfInBounds 1 (Value.ref g1.objs.size))) (xa5 Tx)).trans (xax g1 freeOb)
  refine⟨fun b o eb=>?_,nx,hl.of_keeps fun b o eb nf=>?_,_,_,g1.objs.size,ob,_,e3,Obj.cls_mapFields _ _,V4 _ _,d3,by simp[sz],B1.fresh,Tx,T3,by rw[<- eo],?_⟩
  ·rw[xbl _ _ (fun z=>by rw[<- z,nx] at eb;cases eb)]
   exact xad _ (B1 b o eb)
  ·obtain⟨sl,q⟩:=so.2.2 b o eb
   refine⟨{ o with slots:=sl },?_,rfl⟩
   rw[xbl _ _ (xa5 (lY ex dx eb nf))]
   exact xad _ q
  ·rcases hpl with rfl|⟨_,_,_,_,_,_,_,rfl⟩<;>simp
 ·intro b o eb nf
  obtain⟨sl,q⟩:=so.2.2 b o eb
  refine⟨sl,?_⟩
  rw[xbl _ _ (xa5 (lY ex dx eb nf))]
  exact xad _ q
theorem V5{ox:Obj}{vs:Array Value}(hfr:A.frames=some (env::outer))(hl:s.heap.FunFrames B (env::outer))(hf:env.frame=some L)
  (ex:s.heap.get? x=some ox) (hB:B.StaysIn s.heap) (nx:B.get? x=none) (dx:ox.data=.fields vs) (v1:vs[1]? = some .none)
  (k:∀h',jB B (env::outer) x ox.cls ox.dict (rawInt L) h'->s.heap.UpToSlots h'->Q () { s with heap:=h' }):wpAny M A (noteFrame (.ref x) env) Q E s:=by
 unfold noteFrame
 simp only[hf]
 refine xaa (wpAny_field ex dx v1 ?_)
 rw[xal (show ¬((Value.none != Value.none)=true) by decide)]
 exact DM hfr hl hf ex hB nx dx (xbs.mp v1).1 k
theorem V6{cls:Value}{dct:Option Addr}(hfr:A.frames=some (env::outer))(hf:env.frame=some L)(F:jB B (env::outer) x cls dct .none s.heap)
  (k:∀h',jB B (env::outer) x cls dct (rawInt L) h'->s.heap.UpToSlots h'->Q () { s with heap:=h' }):wpAny M A (noteFrame (.ref x) env) Q E s:=by
 obtain⟨ox,vs,T,oT,ts,ex,hc,hd,dx,v1,nT,Tx,eT,dT,t3⟩:=F.obj
 subst hc hd
 unfold noteFrame
 simp only[hf]
 refine xaa (wpAny_field ex dx v1 ?_)
 rw[xao (show (Value.ref T != Value.none)=true by simp)]
 refine xaa (wpAny_field eT dT t3 ?_)
 rw[xal (show ¬((Value.none==rawInt L)=true) by simp[rawInt])]
 refine xaa (wpAny_setField eT dT (xbs.mp t3).1 ?_)
 have oth:∀b,b≠T->(s.heap.update T (Obj.mapFields (·.setIfInBounds 3 Value.none))).get? b=s.heap.get? b:=fun b hb=>xbl _ _ (xa5 hb)
 have up:s.heap.UpToSlots (s.heap.update T (Obj.mapFields (·.setIfInBounds 3 Value.none))):=fun b o eb nf=>⟨o.slots,(oth b (lY eT dT eb nf)).trans eb⟩
 refine DM hfr (F.frames.of_keeps fun b o eb nf=>⟨o,(oth b (lY eT dT eb nf)).trans eb,rfl⟩) hf ((oth x (xa5 Tx)).trans ex) (fun b o eb=>(oth b fun z=>by rw[z,nT] at eb;cases eb).trans (F.stays b o eb)) F.new dx
  (xbs.mp v1).1 fun h' f u=>k h' f (up.trans u)
theorem DN{l:List Env}{cls fl:Value}{dct:Option Addr}(F:jB B l x cls dct fl s.heap)
  (k:∀h',jB B l x cls dct .none h'->s.heap.UpToSlots h'->Q () { s with heap:=h' }):wpAny M A (setFlight (.ref x) none) Q E s:=by
 obtain⟨ox,vs,T,oT,ts,ex,hc,hd,dx,v1,nT,Tx,eT,dT,t3⟩:=F.obj
 have sz:3<ts.size:=(xbs.mp t3).1
 unfold setFlight
 refine xaa (wpAny_field ex dx v1 ?_)
 rw[xao (show (Value.ref T != Value.none)=true by simp)]
 have oth:∀b,b≠T->(s.heap.update T (Obj.mapFields (·.setIfInBounds 3 ((none:Option Addr).elim Value.none fun f=>rawInt f)))).get? b=s.heap.get? b:=fun b hb=>xbl _ _ (xa5 hb)
 refine wpAny_setField eT dT sz (k _ ⟨fun b o eb=>(oth b fun z=>by rw[z,nT] at eb;cases eb).trans (F.stays b o eb),F.new,F.frames.of_keeps fun b o eb nf=>⟨o,(oth b (lY eT dT eb nf)).trans eb,rfl⟩,
  ox,vs,T,_,_,(oth x (xa5 Tx)).trans ex,hc,hd,dx,v1,nT,Tx,Heap.get?_update_self _ eT (Obj.isFreed_of_fields (Obj.data_mapFields dT _)),Obj.data_mapFields dT _,by simp[sz]⟩
  fun b o eb nf=>⟨o.slots,(oth b (lY eT dT eb nf)).trans eb⟩)
theorem jB.out{cls:Value}{dct:Option Addr}{fl:Value}{h:Heap}(F:jB B (env::outer) x cls dct fl h):jB B outer x cls dct fl h:=⟨F.stays,F.new,F.frames.2.2,F.obj⟩
end
end L2
namespace L2
open PySem.Spec PyProof.Rows
theorem c6.there{P:Program}{w:World}{H:Hp}{h:Heap}{a:Addr}{o:HO}(x:c6 P w H h a o):∃ob,h.get? a=some ob:=by
 cases o with
 |lst xs=>obtain⟨_,_,_,_,e⟩:=x;exact⟨_,e⟩
 |tup xs=>obtain⟨_,_,_,ob,e,_⟩:=x;exact⟨ob,e⟩
 |dK kvs=>obtain⟨_,_,_,_,o,_,_,e,_⟩:=x;exact⟨o,e⟩
 |dT kvs=>obtain⟨_,_,_,_,o,_,_,e,_⟩:=x;exact⟨o,e⟩
 |set S n=>obtain⟨o,_,_,_,e,_⟩:=x;exact⟨o,e⟩
 |ins C dx fs=>obtain⟨_,_,_,e,_⟩:=x;exact⟨_,e⟩
 |own y=>exact x
 |xd fs=>obtain⟨_,⟨o,_,_,e,_⟩,_⟩:=x;exact⟨o,e⟩
 |rng lo hi=>obtain⟨_,_,_,e⟩:=x;exact⟨_,e⟩
 |frz ob u=>obtain⟨e,_⟩:=x;exact⟨_,e⟩
 |tbl ps=>exact⟨_,(show h.get? a=some _ from x)⟩
 |met f y=>exact⟨_,(show h.get? a=some _ from x)⟩
 |ext φ=>exact x.2.1
structure InB(B:Heap)(fs:List Addr)(h0:Heap)(H':Hp)(h':Heap):Prop where
 old:∀b o,h0.get? b=some o->b∉fs->∀o',h'.get? b=some o'->B.get? b=some o'
 trk:∀b u,H' b=some u->∀o',h'.get? b=some o'->B.get? b=some o'
def bT(P:Program)(w:World):fO:=fun outer H s E e s'=>∃(x C:Addr) (dct:Option Addr) (H':Hp) (B:Heap),e=.ref x/\s'.os=s.os/\AllBare s'.gens/\Un (cT outer) [] H H' s.heap s'.heap/\cG P w H' s'.heap/\
 jB B outer x (.ref C) dct .none s'.heap/\InB B (cT outer) s.heap H' s'.heap/\H' x=none/\E (.ref C) dct H'
section
variable{X:Cx}{pins:List (Addr×Obj)}{U:St}{H H':Hp}{s s':Shared}{x C:Addr}{B:Heap}{E:XK}{dct:Option Addr}{M:Model}{EE:Value->Shared->Prop}
theorem DP{env:Env}{outer:List Env}{L:Addr}(hf:env.frame=some L):cT (env::outer)=L::cT outer:=by
 unfold cT;rw[xcp,hf]
theorem V8{h':Heap}{args:List Value}{tk:Nat}(I:Inv X pins U H s)(hst:X.stack=X.env::X.outer)(hf:X.env.frame=some X.env.locals)(hex:X.ex=[])(m:Heap.MadeExcOf s.heap h' x (.ref C) args)(hE:E (.ref C) none H) :
  wpAny M X.A (leaving X.env (.ref x)) (fun _ s2=>bT X.prog X.w X.outer X.H₀ X.s₀ E (.ref x) s2) EE { s with heap:=h',toks:=tk }:=by
 have stk:=I.stack
 have hfr:X.A.frames=some (X.env::X.outer):=by rw[<- hst];exact I.ok.frames
 rw[hst] at stk
 have fc:cT (X.env::X.outer)=X.env.locals::X.fs:=DP hf
 have hin:∀env∈(X.env::X.outer),∀b,env.frame=some b->b∈cT (X.env::X.outer):=fun env he b hb=>List.mem_filterMap.mpr ⟨env,he,hb⟩
 generalize eB:PySem.W.hideAll s.heap (cT (X.env::X.outer))=B
 have inB:∀b o,s.heap.get? b=some o->b∉cT (X.env::X.outer)->B.get? b=some o:=fun b o e n=>by rw[<- eB];exact PySem.W.hideAll_get _ e n
 have ofB:∀b o,B.get? b=some o->s.heap.get? b=some o:=fun b o e=>by rw[<- eB] at e;exact PySem.W.of_hideAll _ e
 have fl0:s.heap.FunFrames B (X.env::X.outer):=by rw[<- eB];exact PySem.W.funFrames_hide stk hin
 have nx:B.get? x=none:=by
  cases q:B.get? x with
  |none=>rfl
  |some o=>have:=ofB x o q;rw[m.new] at this;cases this
 obtain⟨t,et,_,_⟩:=m.there
 have tfree:∀b u,H b=some u->b∉cT (X.env::X.outer):=fun b u e hb=>by
  have:=I.stkFree b (by rw[hst];exact hb)
  rw[e] at this;cases this
 have hHx:H x=none:=by
  cases q:H x with
  |none=>rfl
  |some u=>
   obtain⟨ob,e⟩:=(I.hok x u q).there
   rw[m.new] at e;cases e
 unfold leaving
 refine xaa (V5 (s:={ s with heap:=h',toks:=tk }) hfr (fl0.of_keeps fun b o e _=>⟨o,m.keeps b o e,rfl⟩) hf et (fun b o e=>m.keeps b o (ofB b o e)) nx rfl rfl fun h1 F1 u1=>DN F1 fun h2 F2 u2=>?_)
 have up:s.heap.UpToSlots h2:=(Heap.UpToSlots.of_keeps m.keeps).trans (u1.trans u2)
 have keep2:∀b o,s.heap.get? b=some o->b∉cT (X.env::X.outer)->h2.get? b=some o:=fun b o e n=>F2.stays b o (inB b o e n)
 have below:∀b o,X.s₀.heap.get? b=some o->b∉X.fs->b∉cT (X.env::X.outer):=fun b o e nb hb=>by
  rw[fc] at hb
  rcases xaz.mp hb with z|z
  ·exact xaq (xae (xai e) I.ok.above) (by rw[z];exact xbk _)
  ·exact nb z
 have noex:∀b,b∉X.ex:=fun b z=>by rw[hex] at z;cases z
 have slot2:∀b o,s.heap.get? b=some o->b∈X.fs->∃sl,h2.get? b=some { o with slots:=sl }:=fun b o e hb=>by
  obtain⟨_,o1,e1,nf⟩:=stk.mem (b:=b) (by show b∈cT (X.env::X.outer);rw[fc];exact xat _ hb)
  rw[e] at e1;cases e1
  exact up b o e nf
 refine⟨x,C,none,H,B,rfl,I.os,I.bare,⟨fun b o e n hb _=>keep2 b o (I.base.keep b o e n hb (noex b)) (below b o e hb),fun b o e n hb _=>?_,fun b o e n _=>I.base.free b o e n (noex b),fun b o e _=>?_,I.base.tups,I.base.frzs,I.base.tbls⟩,
  fun b u e=>(I.hok b u e).stay (fun c v hc q=>keep2 c v q ?_) (fun _ q=>q) fun _ _ q=>q,F2.out,⟨fun b o e nb o' e'=>?_,fun b u e o' e'=>?_⟩,hHx,hE⟩
 ·obtain⟨sl,e1⟩:=I.base.slot b o e n hb (noex b)
  obtain⟨sl2,e2⟩:=slot2 b _ e1 hb
  exact⟨sl2,e2⟩
 ·obtain⟨o1,e1⟩:=I.base.there b o e (noex b)
  by_cases hb:b∈X.fs
  ·obtain⟨sl2,e2⟩:=slot2 b _ e1 hb
   exact⟨_,e2⟩
  ·exact⟨o1,keep2 b o1 e1 (below b o e hb)⟩
 ·rcases hc with z|z
  ·rw[z];exact tfree b u e
  ·exact tfree c _ z
 ·obtain⟨o1,e1⟩:=I.base.there b o e (noex b)
  have q:=inB b o1 e1 (below b o e nb)
  rw[F2.stays b o1 q] at e'
  cases e';exact q
 ·obtain⟨o1,e1⟩:=(I.hok b u e).there
  have q:=inB b o1 e1 (tfree b u e)
  rw[F2.stays b o1 q] at e'
  cases e';exact q
theorem V9{e:Value}(I:Inv X pins U H s)(hst:X.stack=X.env::X.outer)(hf:X.env.frame=some X.env.locals)(hex:X.ex=[])(h:bT X.prog X.w X.stack H s E e s') :
  wpAny M X.A (leaving X.env e) (fun _ s2=>bT X.prog X.w X.outer X.H₀ X.s₀ E e s2) EE s':=by
 obtain⟨x,C,dct,H',B,rfl,ho,hg,un,hok,F,ib,nx,hE⟩:=h
 have stk:=I.stack
 have hfr:X.A.frames=some (X.env::X.outer):=by rw[<- hst];exact I.ok.frames
 rw[hst] at stk F ib un
 have fc:cT (X.env::X.outer)=X.env.locals::X.fs:=DP hf
 unfold leaving
 refine xaa (V6 hfr hf F fun h1 F1 u1=>DN F1 fun h2 F2 u2=>?_)
 have up:s'.heap.UpToSlots h2:=u1.trans u2
 have below:∀b o,X.s₀.heap.get? b=some o->b∉X.fs->b∉cT (X.env::X.outer):=fun b o e nb hb=>by
  rw[fc] at hb
  rcases xaz.mp hb with z|z
  ·exact xaq (xae (xai e) I.ok.above) (by rw[z];exact xbk _)
  ·exact nb z
 have inFs:∀b,b∈X.fs->b∈cT (X.env::X.outer):=fun b hb=>by rw[fc];exact xat _ hb
 have noex:∀b,b∉X.ex:=fun b z=>by rw[hex] at z;cases z
 have no0:∀b:Addr,b∉([]:List Addr):=fun b=>by simp
 have slot2:∀b o,s.heap.get? b=some o->H b=none->b∈X.fs->∃sl,h2.get? b=some { o with slots:=sl }:=fun b o e n hb=>by
  obtain⟨_,o1,e1,nf⟩:=stk.mem (b:=b) (inFs b hb)
  rw[e] at e1;cases e1
  obtain⟨sl,e2⟩:=un.slot b o e n (inFs b hb) (no0 b)
  obtain⟨sl2,e3⟩:=up b _ e2 nf
  exact⟨sl2,e3⟩
 have free1:∀b o,X.s₀.heap.get? b=some o->X.H₀ b=none->H b=none:=fun b o e n=>I.base.free b o e n (noex b)
 refine⟨x,C,dct,H',B,rfl,ho.trans I.os,hg,⟨fun b o e n hb _=>?_,fun b o e n hb _=>?_,fun b o e n _=>?_,fun b o e _=>?_,fun b xs q=>un.tups b xs (I.base.tups b xs q),fun b o u q=>un.frzs b o u (I.base.frzs b o u q),fun b ps q=>?_⟩,
  fun b u e=>(hok b u e).stay (fun c v hc q=>F2.stays c v ?_) (fun _ q=>q) fun _ _ q=>q,F2.out,⟨fun b o e nb o' e'=>?_,fun b u e o' e'=>?_⟩,nx,hE⟩
 ·have e1:=I.base.keep b o e n hb (noex b)
  have e2:=un.keep b o e1 (free1 b o e n) (below b o e hb) (no0 b)
  exact F2.stays b o (ib.old b o e1 (below b o e hb) o e2)
 ·obtain⟨sl,e1⟩:=I.base.slot b o e n hb (noex b)
  obtain⟨sl2,e2⟩:=slot2 b _ e1 (free1 b o e n) hb
  exact⟨sl2,e2⟩
 ·obtain⟨o1,e1⟩:=I.base.there b o e (noex b)
  exact un.free b o1 e1 (free1 b o e n) (no0 b)
 ·obtain⟨o1,e1⟩:=I.base.there b o e (noex b)
  obtain⟨o2,e2⟩:=un.there b o1 e1 (no0 b)
  by_cases hb:b∈X.fs
  ·have n:H b=none:=I.stkFree b (by rw[hst];exact inFs b hb)
   obtain⟨sl2,e3⟩:=slot2 b _ e1 n hb
   exact⟨_,e3⟩
  ·exact⟨o2,F2.stays b o2 (ib.old b o1 e1 (below b o e hb) o2 e2)⟩
 ·obtain⟨m1,e1⟩:=I.base.tbls b ps q
  obtain⟨m2,e2⟩:=un.tbls b _ e1
  exact⟨m1++m2,by rw[e2,Array.append_assoc]⟩
 ·rcases hc with z|z
  ·subst z;exact ib.trk c u e v q
  ·exact ib.trk c _ z v q
 ·obtain⟨o1,e1⟩:=I.base.there b o e (noex b)
  obtain⟨o2,e2⟩:=un.there b o1 e1 (no0 b)
  have q:=ib.old b o1 e1 (below b o e nb) o2 e2
  rw[F2.stays b o2 q] at e'
  cases e';exact q
 ·obtain⟨o1,e1⟩:=(hok b u e).there
  have q:=ib.trk b u e o1 e1
  rw[F2.stays b o1 q] at e'
  cases e';exact q
def pT(x C:Addr)(dct:Option Addr):HO:=.ext fun h=>∃o,h.get? x=some o/\o.cls=.ref C/\o.dict=dct/\PySem.W.notCls o=true
end
end L2
namespace L2
open PySem.Spec PyProof.Rows PySem.W
section
variable{prog:Program}{w:World}{A:Around}{E:Value->Shared->Prop}{s:Shared}{K:Frag}{x D:Addr}{ox:Obj}{od:Option Obj}{name:Str}{tk:Tok}
theorem WA{M:Model}{nameV:Value}{Q:Unit->Shared->Prop}(X:K.In s.heap)(I:InstAt s.heap x ox D od)(hb:mroIn K D (.type "BaseException")=some true)(hq:Q () s) :
  wpAny M A (checkBuiltinCall "BaseException.__getattribute__" ⟨[.ref x,nameV],[]⟩) Q E s:=by
 have hk:builtinKind "BaseException.__getattribute__"=some .slot:=by decide +kernel
 have hsp:splitId "BaseException.__getattribute__"=some ("BaseException","__getattribute__"):=by decide +kernel
 have ha:=F.args_bexc_ga (.ref x) nameV
 obtain⟨hh,g,d,t,os⟩:=s
 have L0:Looks M hh (isInstance (.ref x) (.type "BaseException")) true:=(I.type (M:=M)).andThen (looks_mroIn X hb)
 simp only[checkBuiltinCall,hk,hsp]
 refine xaa (L0.at ?_)
 repeat (any_goals (first|assumption|wp_step))
theorem WB{R:Result->Shared->Prop}{g a:Value}(X:K.In s.heap)(I:InstAt s.heap x ox D od)(hb:mroIn K D (.type "BaseException")=some true)(hf:findObj K D od name=some (.bind g a))
  (h:wpAny (model prog w) A.in1 (call g [a,.ref x,.ref D]) (fun v s'=>R (.ok (.ret v)) s') (fun e s'=>R (.error e) s') s) :
  codeAny (model prog w) A (.call (.builtin "BaseException.__getattribute__") ⟨[.ref x,.str name tk],[]⟩) R s:=by
 refine codeAny_call_builtin F.attr_ValueError.ga.plain F.entry_bexc_ga (WA X I hb ?_)
 obtain⟨hh,gg,d,t,os⟩:=s
 have L0:=I.type (M:=model prog w)
 have L1:=looks_find (M:=model prog w) X I hf
 unfold Builtin.«object.__getattribute__»
 refine xaa (wpAny_of_eq (a:=(Value.ref x,[Value.str name tk])) rfl ?_)
 refine xaa (wpAny_of_eq (a:=name) rfl ?_)
 refine xaa (L0.at (xaa (L1.at ?_)))
 show wpAny _ _ (do ret (<- holding [a] (call g [a,Value.ref x,Value.ref D]))) _ _ _
 exact xaa (wpAny_holding (wpAny_mono h (fun v s' q=>xah q) fun e s' q=>q))
theorem WC{a g:Value}(hc:(clsIn K D).isSome=true)(ha:findIn K (.ref D) name=some (some a))(hg:specialIn K a "__get__"=some (some g))(ht:takesIn K a=some true):findObj K D od name=some (.bind g a):=by
 obtain⟨cd,hc⟩:=xbw.mp hc
 unfold findObj
 rw[hc,xbg,ha,xbg]
 simp[hg,ht]
structure lZ(K:Frag)(D:Addr):Prop where
 cls:(clsIn K D).isSome=true
 ga:findIn K (.ref D) "__getattribute__"=some (some (.builtin "BaseException.__getattribute__"))
 gh:findIn K (.ref D) "__getattr__"=some none
 base:mroIn K D (.type "BaseException")=some true
 obj:mroIn K D (.type "object")=some true
 ca:findIn K (.ref D) "__class__"=some (some (.builtin "object.__class__"))
 cg:specialIn K (.builtin "object.__class__") "__get__"=some (some (.builtin "getset_descriptor.__get__"))
 ct:takesIn K (.builtin "object.__class__")=some true
theorem WD{Q:Option Value->Shared->Prop}(c:lZ K D)(X:K.In s.heap)(I:InstAt s.heap x ox D od)(h:Q (some (.ref D)) { s with toks:=s.toks+1 }) :
  wpAny (model prog w) A (getAttr? (.ref x) "__class__") Q E s:=by
 obtain⟨hh,gg,d,t,os⟩:=s
 have L0:=I.type (M:=model prog w)
 have L1:=looks_findIn (M:=model prog w) X c.ga
 have L2:=looks_findIn (M:=model prog w) X c.gh
 have hf:findObj K D od "__class__"=some (.bind (.builtin "getset_descriptor.__get__") (.builtin "object.__class__")):=WC c.cls c.ca c.cg c.ct
 have hx1:(onTheHeap (Value.ref D)&&Value.builtin "BaseException.__getattribute__"==Value.builtin "object.__getattribute__")=false:=by
  rw[show (Value.builtin "BaseException.__getattribute__"==Value.builtin "object.__getattribute__")=false by decide +kernel];rfl
 unfold getAttr? getAttrBy? getAttrBy
 refine xaa (wpAny_mkText (xaa (wpAny_attempt (wpAny_holding (xaa (L0.at (xaa (L1.at ?_))))))))
 dsimp only
 rw[hx1,xal xa8]
 unfold getAttrByItsOwn
 refine xaa ?_
 show wpAny _ _ (typeLookup (.ref D) "__getattr__") _ _ _
 refine L2.at ?_
 refine xaa (wpAny_attempt (wpAny_holding ?_))
 show wpAny _ _ (boundAndCalled (.builtin "BaseException.__getattribute__") (.ref x) (.str "__class__" t)) _ _ _
 unfold boundAndCalled
 refine xaa (wpAny_of_eq (F.attr_ValueError.ga.bind (.ref x)) ?_)
 refine wpAny_call (WB X I c.base hf ?_)
 refine wpAny_call (class_get X I c.obj ?_)
 exact handed_on rfl (xah h)
theorem WE(c:lZ K D):KitX K (.ref x) (.ref D) (fun h=>∃ox od,InstAt h x ox D od) where
 ty:=fun _ _ _ ⟨_,_,I⟩=>I.type
 it:=fun _ _ X _=>by
  obtain⟨cdD,hcD⟩:=xbw.mp c.cls
  unfold clsIn at hcD
  split at hcD
  ·rename_i c' d' cd' sl' ho
   intro A' Q' E' s' k q
   unfold isType loadHead
   exact xaa (wpAny_loadPart (k _ _ (X _ _ ho)) (xah q))
  ·cases hcD
 ne:=fun h tp dd its n sl X htp=>by
  obtain⟨cdD,hcD⟩:=xbw.mp c.cls
  refine Bool.eq_false_iff.mpr fun q=>?_
  have e:D=tp:=Value.ref.inj (beq_iff_eq.mp q)
  subst e
  unfold clsIn at hcD
  split at hcD
  ·rename_i c' d' cd' sl' ho
   have z:=(X _ _ ho).symm.trans htp
   cases z
  ·cases hcD
 ca:=fun X ⟨_,_,I⟩ k=>WD c X I k
end
end L2
namespace L2
open PySem.Spec PyProof.Rows
section
variable{P:Program}{w:World}{K:xFg}{mg:Str->Option Value}{base:Heap}
theorem bV.okX{CX:fO}{x qual:Str}{st:Stmt}{f:Addr}{fd:FuncData}{N ps:List Str}{k:Nat}{sp:Sp}(F:bV K x qual st f fd)(S:cI N ps (aZ st))(len:∀vs H Q E,sp vs H Q E->vs.length=ps.length)
  (hbody : ∀ (cdv : Value) (A : Around) (outer : List Env) (s : Shared) (H : Hp) (vs : List V) (Q : VK) (E : XK), cH k (A.deeper (envOfC qual (aZ st) s.heap.objs.size f cdv)) -> sp vs H Q E ->
   ∃t,cB (dF CX P w K mg base N qual (aZ st) f cdv A outer s H E) (fE st) t/\t { nx:=fun _ H'=>Q .non H',rt:=Q } (start N vs) H):cO P w K mg base CX (k+1) f fd ps sp:=by
 obtain⟨oc,od,kV,doc,pm,an,cdv,ct,osl,rfl,lk,hcd⟩:=F.ex
 exact UI lk hcd S len fun A outer s H vs Q E hr hsp=>hbody cdv A outer s H vs Q E hr hsp
theorem sZ{N:List Str}{qual:Str}{scope:Scope}{f:Addr}{cdv:Value}{A:Around}{outer:List Env}{s:Shared}{H:Hp}{E:XK}:jS (bT P w) (dF (bT P w) P w K mg base N qual scope f cdv A outer s H E) E:=
 fun pins U H1 s1 e s' I h=>V9 (X:=dF (bT P w) P w K mg base N qual scope f cdv A outer s H E) I rfl rfl rfl h
theorem DQ{X:Cx}:jS (bT P w) X E0:=fun _ _ _ _ _ _ _ h=>by
 obtain⟨_,_,_,_,_,_,_,_,_,_,_,_,_,z⟩:=h
 exact z.elim
end
theorem WF{K:xFg}{h:Heap}{C:Addr}{bmB:List Value}{newId:String}(X:K.In h)(q:PySem.W.excIn K C bmB newId=true) :
  ∃bm N nm qn bs hdct sn sub ab col dd k0 k1 k2 k3 k5 mN,h.get? C=some (excClassObj nm qn C N bs bm hdct sn sub ab col dd k0 k1 k2 k3 k5 newId)/\h.Ns N mN/\mN "__init__"=none/\OwnTail h bmB bm:=by
 unfold PySem.W.excIn at q
 split at q
 ·rename_i dd cd sl lk
  split at q
  ·rename_i C' bm k0 k1 k2 k3 nn k5 hm hs
   simp only[xau,beq_iff_eq,xci] at q
   obtain⟨⟨⟨⟨⟨rfl,rfl⟩,hdel⟩,ht⟩,hok⟩,hni⟩:=q
   obtain⟨nm,bs,mro,ns,qn,hd,sn,sub,ab,col,del⟩:=cd
   dsimp only at hm hdel hok hni
   subst hm hdel
   obtain rfl:sl=#[k0,k1,k2,k3,some (.builtin nn),k5]:=by
    obtain⟨l⟩:=sl
    simp only at hs
    rw[hs]
   exact⟨bm,ns,nm,qn,bs,hd,sn,sub,ab,col,dd,k0,k1,k2,k3,k5,_,X _ _ lk,.of_isNs (PySem.W.isNs_of_in X hok),PySem.W.nsMap_none_of_in X hok hni,PySem.W.tail_of_in X ht⟩
  ·cases q
 ·cases q
def WG(C:Addr)(ta:TA)(E:XK):TS:=fun _ U H=>ta U H fun vs H1=>vs.length<=sizeLine/\E (.ref C) none H1
section
variable{P:Program}{w:World}{K:xFg}{mg:Str->Option Value}{base:Heap}{N:List Str}{qual:Str}{scope:Scope}{f:Addr}{cdv:Value}{A:Around}{outer:List Env}{s0:Shared}{H0:Hp}{E:XK}
theorem WH{x:Str}{C:Addr}{e0:Expr}{aK:List Expr}{np cpos pos:Pos}{ta:TA}(q:PySem.W.excIn K C [.type "ValueError",.type "Exception",.type "BaseException",.type "object"] "ValueError.__new__"=true)
  (hg:Gl (dF (bT P w) P w K mg base N qual scope f cdv A outer s0 H0 E) x) (hm:mg x=some (.ref C)) (ha:PA (dF (bT P w) P w K mg base N qual scope f cdv A outer s0 H0 E) (e0::aK) ta)
  (hdb:(x==("__debug__":Str))=false:=by decide)
  (he:starEach (e0::aK) (envOfC qual scope s0.heap.objs.size f cdv)=(false,eval e0 (envOfC qual scope s0.heap.objs.size f cdv))::starEach aK (envOfC qual scope s0.heap.objs.size f cdv):=by rfl)
  (hpl:(backTo cpos (starEach aK (envOfC qual scope s0.heap.objs.size f cdv))).any (·.1)=false:=by rfl) :
  PS (dF (bT P w) P w K mg base N qual scope f cdv A outer s0 H0 E) (.Raise (some (.Call (.Name x np) (e0::aK) [] cpos)) none pos) (WG C ta E):=by
 intro pins s U H D I h
 obtain⟨bm,Nn,nm,qn,bs,hdct,sn,sub,ab,col,dd,k0,k1,k2,k3,k5,mN,hC,hN,hni,T⟩:=WF I.mod.kin q
 refine wpAny_Raise_call_subT (C:=C) (nm:=nm) (q:=qn) (N:=Nn) (bs:=bs) (bm:=bm) (hdct:=hdct) (sn:=sn) (sub:=sub) (ab:=ab) (col:=col) (dd:=dd) (k0:=k0) (k1:=k1) (k2:=k2) (k3:=k3) (k5:=k5)
  PySem.F.excBase_ValueError (mN:=mN) (T.hasType PySem.F.excBase_ValueError.hasBase) (I.ok.hd rfl) (by
   show (backTo cpos (starEach (e0::aK) (envOfC qual scope s0.heap.objs.size f cdv))).any (·.1)=false
   rw[he];show (false||(backTo cpos (starEach aK (envOfC qual scope s0.heap.objs.size f cdv))).any (·.1))=false;rw[hpl];rfl) hni (sJ I hg hm ⟨rfl,?_⟩ hdb)
 have ha':=ha cpos pins s U H _ I h
 show wpAny _ _ (evalArgs (.ref C) true (backTo cpos (starEach (e0::aK) (envOfC qual scope s0.heap.objs.size f cdv))) []) _ _ _
 change wpAny _ _ (spliced (backTo cpos (starEach (e0::aK) (envOfC qual scope s0.heap.objs.size f cdv)))) _ _ _ at ha'
 rw[he] at ha' ⊢
 refine Calls.evalArgs_plain (aH ha' fun us s2 ⟨vs,H1,I1,r,hz,hE⟩=>?_)
 have hl:us.length<=sizeLine:=by rw[<- r.length];exact hz
 exact⟨rfl,hl,I1.bk _ _ hC,hN.keeps I1.bk,T.keeps I1.bk,fun h' e m=>V8 (tk:=s2.toks) I1 rfl rfl rfl m hE⟩
end
end L2
namespace L2
open PySem.Spec PyProof.Rows
def XP(X:Cx)(CX:fO)(pins:List (Addr×Obj))(U:St)(E:XK)(e:Value)(s':Shared):Prop:=∃s1 H1,Inv X pins U H1 s1/\CX X.stack H1 s1 E e s'
theorem WI{X:Cx}:eK X (.builtin "isinstance") (fun xs H Q=>∃(a C:Addr) (c:V) (cv:Value) (b:Bool),xs=[.ref a,c]/\H a=some (pT a C none)/\((∃D,c=.ref D/\cv=.ref D)\/∃T,c=.ty T/\cv=.type T)/\lZ X.K C/\PySem.W.kitOne X.K (.ref C) cv=some b/\Q (.bl b) H):=by
 intro pins s U H xs us Q I r h
 obtain⟨a,C,c,cv,b,rfl,ha,hc,ec,hk,q⟩:=h
 obtain⟨u,w',rfl,ru,rw'⟩:=CA r
 obtain rfl:u=Value.ref a:=ru
 have e:w'=cv:=by
  rcases hc with⟨D,rfl,rfl⟩|⟨T,rfl,rfl⟩
  ·exact rw'
  ·exact rw'
 subst e
 obtain⟨⟨o,e1,e2,e3,e4⟩,_,_⟩:=I.hok a _ ha
 have hI:PySem.W.InstAt s.heap a o C none:=⟨e1,e2,e4,by rw[e3];trivial⟩
 exact PySem.W.kia_one (WE ec) I.kIn ⟨o,none,hI⟩ hk (fun z=>nomatch z) fun tk=>⟨.bl b,H,I.tok tk,rfl,q⟩
end L2
namespace Mth
def cC(x y z:Int):Int:=if z≠0 then z else if y≠0 then y else x
def g3(x y z:Int):Nat:=Nat.gcd (Nat.gcd x.natAbs y.natAbs) z.natAbs
def cK(x y z:Int):Int:=if cC x y z<0 then 0-((g3 x y z:Nat):Int) else ((g3 x y z:Nat):Int)
abbrev NZ(x y z:Int):Prop:=¬(x=0/\y=0/\z=0)
theorem l0{x y z:Int}(h:NZ x y z):jV (cK x y z) x y z (x.fdiv (cK x y z)) (y.fdiv (cK x y z)) (z.fdiv (cK x y z)):=by
 obtain⟨x',y',z',p⟩:=V2 x y z h
 have key:∃x' y' z',jV (cK x y z) x y z x' y' z':=by
  unfold cK
  by_cases c:cC x y z<0
  ·rw[xao c];exact⟨-x',-y',-z',p.neg⟩
  ·rw[xal c];exact⟨x',y',z',p⟩
 obtain⟨x',y',z',p⟩:=key
 rw[wV p.ne p.x,wV p.ne p.y,wV p.ne p.z]
 exact p
theorem jV.nz{s x y z x' y' z':Int}(p:jV s x y z x' y' z')(h:NZ x y z):NZ x' y' z':=fun q=>h (by rw[p.x,p.y,p.z,q.1,q.2.1,q.2.2];simp)
theorem WJ{x y z:Int}(h:NZ x y z):g3 x y z≠0:=by
 unfold g3
 intro e
 have e1:=Nat.eq_zero_of_gcd_eq_zero_left e
 have e2:=Nat.eq_zero_of_gcd_eq_zero_right e
 have e3:=Nat.eq_zero_of_gcd_eq_zero_left e1
 have e4:=Nat.eq_zero_of_gcd_eq_zero_right e1
 exact h ⟨by omega,by omega,by omega⟩
theorem DR(x y z:Int):(cK x y z).natAbs=g3 x y z:=by
 unfold cK
 split<;>omega
theorem wX(s x y z:Int):g3 (s*x) (s*y) (s*z)=s.natAbs*g3 x y z:=by
 unfold g3
 rw[xb9,xb9,xb9,Nat.gcd_mul_left,Nat.gcd_mul_left]
theorem WK{s:Int}(hs:s≠0)(x y z:Int):cC (s*x) (s*y) (s*z)=s*cC x y z:=by
 unfold cC
 by_cases hz:z=0
 ·subst hz
  by_cases hy:y=0
  ·subst hy;simp
  ·have:s*y≠0:=fun e=>by rcases xbm.mp e with q|q<;>contradiction
   simp[hy,this]
 ·have:s*z≠0:=fun e=>by rcases xbm.mp e with q|q<;>contradiction
  simp[hz,this]
theorem DU{x y z:Int}(h:NZ x y z):cC x y z≠0:=by
 unfold cC
 by_cases hz:z=0
 ·by_cases hy:y=0
  ·have:x≠0:=fun e=>h ⟨e,hy,hz⟩
   simp[hz,hy,this]
  ·simp[hz,hy]
 ·simp[hz]
theorem WL{x y z x' y' z':Int}(h:NZ x y z)(p:jV (cK x y z) x y z x' y' z'):cK x' y' z'=1:=by
 have hg:g3 x y z=(cK x y z).natAbs*g3 x' y' z':=by
  have e:=wX (cK x y z) x' y' z'
  rw[<- p.x,<- p.y,<- p.z] at e
  exact e
 rw[DR] at hg
 have n0:=WJ h
 have g1:g3 x' y' z'=1:=by
  have:g3 x y z*1=g3 x y z*g3 x' y' z':=by rw[Nat.mul_one];exact hg
  exact(Nat.eq_of_mul_eq_mul_left (Nat.pos_of_ne_zero n0) this).symm
 have hl:cC x y z=cK x y z*cC x' y' z':=by
  have e:=WK p.ne x' y' z'
  rw[<- p.x,<- p.y,<- p.z] at e
  exact e
 have ln:=DU (p.nz h)
 have lp:0<cC x' y' z':=by
  by_cases c:cC x y z<0
  ·have es:cK x y z<0:=by unfold cK;rw[xao c];omega
   rcases(show 0<cC x' y' z'\/cC x' y' z'<=0 by omega) with q|q
   ·exact q
   ·have q':cC x' y' z'<0:=by omega
    have:=Int.mul_pos_of_neg_of_neg es q'
    rw[<- hl] at this;omega
  ·have es:0<cK x y z:=by unfold cK;rw[xal c];omega
   rcases(show 0<cC x' y' z'\/cC x' y' z'<=0 by omega) with q|q
   ·exact q
   ·have q':cC x' y' z'<0:=by omega
    have:=Int.mul_neg_of_pos_of_neg es q'
    rw[<- hl] at this;omega
 unfold cK
 rw[xal (by omega),g1];rfl
theorem wY(x:Int):x.fdiv 1=x:=by
 rw[xcn _ (by decide)];exact Int.ediv_one x
theorem WM{x y z:Int}{B:Nat}(hx:x.natAbs<=B)(hy:y.natAbs<=B)(hz:z.natAbs<=B):g3 x y z<=B:=DH (DH hx hy) hz
theorem WN{x y z:Int}{B:Nat}(hx:x.natAbs<=B)(hy:y.natAbs<=B)(hz:z.natAbs<=B):(cK x y z).natAbs<=B:=by rw[DR];exact WM hx hy hz
end Mth
namespace Mth
abbrev P3:=Int×Int×Int
def dot(p q:P3):Int:=p.1*q.1+p.2.1*q.2.1+p.2.2*q.2.2
def crs(p q:P3):P3:=(p.2.1*q.2.2-p.2.2*q.2.1,p.2.2*q.1-p.1*q.2.2,p.1*q.2.1-p.2.1*q.1)
abbrev Nz(p:P3):Prop:=NZ p.1 p.2.1 p.2.2
abbrev iP(p:P3):Int:=cK p.1 p.2.1 p.2.2
def low(p:P3):P3:=(p.1.fdiv (iP p),p.2.1.fdiv (iP p),p.2.2.fdiv (iP p))
structure cY(p:P3):Prop where
 nz:Nz p
 one:iP p=1
theorem nX{p:P3}(h:Nz p):iP p≠0/\p.1=iP p*(low p).1/\p.2.1=iP p*(low p).2.1/\p.2.2=iP p*(low p).2.2:=
 ⟨(l0 h).ne,(l0 h).x,(l0 h).y,(l0 h).z⟩
theorem pU{p:P3}(h:Nz p):cY (low p):=⟨(l0 h).nz h,WL h (l0 h)⟩
theorem cY.low{p:P3}(h:cY p):Mth.low p=p:=by
 unfold Mth.low;rw[h.one,wY,wY,wY]
theorem WO{p:P3}(h:Nz p):(low p).1.natAbs<=p.1.natAbs/\(low p).2.1.natAbs<=p.2.1.natAbs/\(low p).2.2.natAbs<=p.2.2.natAbs:=by
 obtain⟨h0,h1,h2,h3⟩:=nX h
 exact⟨wW h0 h1,wW h0 h2,wW h0 h3⟩
theorem cY.last{p:P3}(h:cY p):0<cC p.1 p.2.1 p.2.2/\g3 p.1 p.2.1 p.2.2=1:=by
 have h1:=h.one
 have h2:=DU h.nz
 unfold iP cK at h1
 split at h1<;>constructor<;>omega
theorem WP{p q:P3}(hp:Nz p)(hq:Nz q)(h:crs p q=(0,0,0)) :
  cC q.1 q.2.1 q.2.2*p.1=cC p.1 p.2.1 p.2.2*q.1/\cC q.1 q.2.1 q.2.2*p.2.1=cC p.1 p.2.1 p.2.2*q.2.1/\cC q.1 q.2.1 q.2.2*p.2.2=cC p.1 p.2.1 p.2.2*q.2.2:=by
 obtain⟨a,b,c⟩:=p
 obtain⟨x,y,z⟩:=q
 simp only[crs,Prod.mk.injEq] at h
 obtain⟨h1,h2,h3⟩:=h
 simp only[Nz,NZ] at hp hq
 unfold cC
 simp only
 by_cases hc:c=0
 ·subst hc
  by_cases hz:z=0
  ·subst hz
   by_cases hb:b=0
   ·subst hb
    by_cases hy:y=0
    ·subst hy;grind
    ·have:a=0:=by
      have:=h3
      simp at this
      exact(xbm.mp this).resolve_right hy
     exact xaq ⟨this,rfl,rfl⟩ hp
   ·by_cases hy:y=0
    ·subst hy
     have:x=0:=by
      have:=h3
      simp at this
      exact(xbm.mp this).resolve_left hb
     exact xaq ⟨this,rfl,rfl⟩ hq
    ·simp only[ne_eq,not_true_eq_false,if_false,hb,hy,not_false_eq_true,if_true]
     grind
  ·have hb:b=0:=by
    have:=h1
    simp at this
    exact(xbm.mp this).resolve_right hz
   have ha:a=0:=by
    have:=h2
    simp at this
    exact(xbm.mp this).resolve_right hz
   exact xaq ⟨ha,hb,rfl⟩ hp
 ·by_cases hz:z=0
  ·subst hz
   have hy:y=0:=by
    have:=h1
    simp at this
    exact(xbm.mp this).resolve_left hc
   have hx:x=0:=by
    have:=h2
    simp at this
    exact(xbm.mp this).resolve_left hc
   exact xaq ⟨hx,hy,rfl⟩ hq
  ·simp only[ne_eq,hc,hz,not_false_eq_true,if_true]
   grind
theorem DV{p q:P3}(hp:cY p)(hq:cY q)(h:p≠q):Nz (crs p q):=by
 intro hz
 apply h
 obtain⟨e1,e2,e3⟩:=WP hp.nz hq.nz (xag hz.1 (xag hz.2.1 hz.2.2))
 obtain⟨sp,gp⟩:=hp.last
 obtain⟨sq,gq⟩:=hq.last
 have g1:=wX (cC q.1 q.2.1 q.2.2) p.1 p.2.1 p.2.2
 have g2:=wX (cC p.1 p.2.1 p.2.2) q.1 q.2.1 q.2.2
 rw[e1,e2,e3,g2,gp,gq] at g1
 have e:cC q.1 q.2.1 q.2.2=cC p.1 p.2.1 p.2.2:=by omega
 rw[e] at e1 e2 e3
 have ne:cC p.1 p.2.1 p.2.2≠0:=by omega
 exact xag (xcr ne e1) (xag (xcr ne e2) (xcr ne e3))
end Mth
namespace Mth
abbrev M3:=P3×P3×P3
def mul(m:M3)(p:P3):P3:=(dot m.1 p,dot m.2.1 p,dot m.2.2 p)
def cof(m:M3):M3:=(crs m.2.1 m.2.2,crs m.2.2 m.1,crs m.1 m.2.1)
def bM(m:M3):Int:=dot m.1 (crs m.2.1 m.2.2)
theorem wZ(a b p q:P3):dot a p*dot b q-dot b p*dot a q=dot (crs a b) (crs p q):=by unfold dot crs;grind
theorem WQ(m:M3)(p q:P3):crs (mul m p) (mul m q)=mul (cof m) (crs p q):=by
 have h1:=wZ m.2.1 m.2.2 p q
 have h2:=wZ m.2.2 m.1 p q
 have h3:=wZ m.1 m.2.1 p q
 exact xag h1 (xag h2 h3)
theorem WR(m:M3)(p:P3):bM m*p.1=dot m.1 p*(crs m.2.1 m.2.2).1+dot m.2.1 p*(crs m.2.2 m.1).1+dot m.2.2 p*(crs m.1 m.2.1).1:=by unfold bM dot crs;grind
theorem WS(m:M3)(p:P3):bM m*p.2.1=dot m.1 p*(crs m.2.1 m.2.2).2.1+dot m.2.1 p*(crs m.2.2 m.1).2.1+dot m.2.2 p*(crs m.1 m.2.1).2.1:=by unfold bM dot crs;grind
theorem WT(m:M3)(p:P3):bM m*p.2.2=dot m.1 p*(crs m.2.1 m.2.2).2.2+dot m.2.1 p*(crs m.2.2 m.1).2.2+dot m.2.2 p*(crs m.1 m.2.1).2.2:=by unfold bM dot crs;grind
theorem DX(m:M3)(p:P3):bM m*p.1=dot (crs m.2.1 m.2.2) p*m.1.1+dot (crs m.2.2 m.1) p*m.2.1.1+dot (crs m.1 m.2.1) p*m.2.2.1:=by unfold bM dot crs;grind
theorem DY(m:M3)(p:P3):bM m*p.2.1=dot (crs m.2.1 m.2.2) p*m.1.2.1+dot (crs m.2.2 m.1) p*m.2.1.2.1+dot (crs m.1 m.2.1) p*m.2.2.2.1:=by unfold bM dot crs;grind
theorem DZ(m:M3)(p:P3):bM m*p.2.2=dot (crs m.2.1 m.2.2) p*m.1.2.2+dot (crs m.2.2 m.1) p*m.2.1.2.2+dot (crs m.1 m.2.1) p*m.2.2.2.2:=by unfold bM dot crs;grind
theorem jW{a b:Int}(h:a≠0)(e:a*b=0):b=0:=(xbm.mp e).resolve_left h
theorem s9{m:M3}{p:P3}(h:bM m≠0)(hp:Nz p):Nz (mul m p):=by
 rintro⟨h1,h2,h3⟩
 have h1:dot m.1 p=0:=h1
 have h2:dot m.2.1 p=0:=h2
 have h3:dot m.2.2 p=0:=h3
 exact hp ⟨jW h (by rw[WR,h1,h2,h3];simp),jW h (by rw[WS,h1,h2,h3];simp),jW h (by rw[WT,h1,h2,h3];simp)⟩
theorem WU{m:M3}{p:P3}(h:bM m≠0)(hp:Nz p):Nz (mul (cof m) p):=by
 rintro⟨h1,h2,h3⟩
 have h1:dot (crs m.2.1 m.2.2) p=0:=h1
 have h2:dot (crs m.2.2 m.1) p=0:=h2
 have h3:dot (crs m.1 m.2.1) p=0:=h3
 exact hp ⟨jW h (by rw[DX,h1,h2,h3];simp),jW h (by rw[DY,h1,h2,h3];simp),jW h (by rw[DZ,h1,h2,h3];simp)⟩
def bB(s:Int)(p:P3):P3:=(s*p.1,s*p.2.1,s*p.2.2)
theorem tD{p:P3}(h:Nz p):p=bB (iP p) (low p):=by
 obtain⟨_,h1,h2,h3⟩:=nX h
 exact xag h1 (xag h2 h3)
theorem D1(s t:Int)(p q:P3):crs (bB s p) (bB t q)=bB (s*t) (crs p q):=by
 unfold crs bB;exact xag (by grind) (xag (by grind) (by grind))
theorem WV(m:M3)(s:Int)(p:P3):mul m (bB s p)=bB s (mul m p):=by
 unfold mul bB dot;exact xag (by grind) (xag (by grind) (by grind))
theorem D2{s:Int}{p:P3}(hs:s≠0)(h:bB s p=(0,0,0)):p=(0,0,0):=by
 unfold bB at h
 simp only[Prod.mk.injEq] at h
 exact xag (jW hs h.1) (xag (jW hs h.2.1) (jW hs h.2.2))
theorem pV{p:P3}(h:Nz p):p≠(0,0,0):=fun e=>h (by rw[e];exact⟨rfl,rfl,rfl⟩)
theorem D3{p:P3}(h:p≠(0,0,0)):Nz p:=fun⟨a,b,c⟩=>h (xag a (xag b c))
theorem D4{s:Int}{p:P3}(hs:s≠0)(h:Nz p):Nz (bB s p):=D3 fun e=>pV h (D2 hs e)
theorem w9{a b:Int}(ha:a≠0)(hb:b≠0):a*b≠0:=fun e=>by rcases xbm.mp e with q|q<;>contradiction
theorem WW{u v:P3}(hu:Nz u)(hv:Nz v)(h:crs u v=(0,0,0)):low u=low v:=by
 refine Classical.byContradiction fun hne=>?_
 have hz:=DV (pU hu) (pU hv) hne
 have e:=h
 rw[tD hu,tD hv,D1] at e
 exact pV hz (D2 (w9 (nX hu).1 (nX hv).1) e)
theorem xA{s:Int}{p:P3}(hs:s≠0)(h:Nz p):low (bB s p)=low p:=WW (D4 hs h) h (by unfold crs bB;exact xag (by grind) (xag (by grind) (by grind)))
end Mth
namespace Mth
def flat(m:M3):List Int:=[m.1.1,m.1.2.1,m.1.2.2,m.2.1.1,m.2.1.2.1,m.2.1.2.2,m.2.2.1,m.2.2.2.1,m.2.2.2.2]
def kU(c:Int)(m:M3):M3:=(bB c m.1,bB c m.2.1,bB c m.2.2)
def tr(m:M3):M3:=((m.1.1,m.2.1.1,m.2.2.1),(m.1.2.1,m.2.1.2.1,m.2.2.2.1),(m.1.2.2,m.2.1.2.2,m.2.2.2.2))
def kW(m:M3):M3:=tr (cof m)
theorem D5(c:Int)(m:M3)(p:P3):mul (kU c m) p=bB c (mul m p):=by
 unfold mul kU bB dot
 exact xag (by grind) (xag (by grind) (by grind))
theorem D6{m m':M3}(h1:m.1.1=m'.1.1)(h2:m.1.2.1=m'.1.2.1)(h3:m.1.2.2=m'.1.2.2)(h4:m.2.1.1=m'.2.1.1)(h5:m.2.1.2.1=m'.2.1.2.1)(h6:m.2.1.2.2=m'.2.1.2.2)(h7:m.2.2.1=m'.2.2.1)(h8:m.2.2.2.1=m'.2.2.2.1)(h9:m.2.2.2.2=m'.2.2.2.2):m=m':=
 xag (xag h1 (xag h2 h3)) (xag (xag h4 (xag h5 h6)) (xag h7 (xag h8 h9)))
theorem WX(m:M3):kW (kW m)=kU (bM m) m:=by
 refine D6 ?_ ?_ ?_ ?_ ?_ ?_ ?_ ?_ ?_<;>simp only[kW,tr,cof,crs,dot,kU,bB,bM]<;>grind
end Mth
namespace Mth
theorem WY{s:Int}{p:P3}(h:Nz (bB s p)):Nz p:=D3 fun e=>pV h (by rw[e];unfold bB;simp)
theorem WZ(p q:P3):dot p q=dot q p:=by unfold dot;grind
end Mth
namespace Mth
theorem D7(m:M3)(x v:P3):dot (mul m x) (mul (cof m) v)=bM m*dot x v:=by
 obtain⟨a,b,c⟩:=m
 have h1:=DX (a,b,c) v
 have h2:=DY (a,b,c) v
 have h3:=DZ (a,b,c) v
 have e:dot (mul (a,b,c) x) (mul (cof (a,b,c)) v)=x.1*(dot (crs b c) v*a.1+dot (crs c a) v*b.1+dot (crs a b) v*c.1)+x.2.1*(dot (crs b c) v*a.2.1+dot (crs c a) v*b.2.1+dot (crs a b) v*c.2.1)+x.2.2*(dot (crs b c) v*a.2.2+dot (crs c a) v*b.2.2+dot (crs a b) v*c.2.2):=by
  show dot (dot a x,dot b x,dot c x) (dot (crs b c) v,dot (crs c a) v,dot (crs a b) v)=_
  generalize dot (crs b c) v=p
  generalize dot (crs c a) v=q
  generalize dot (crs a b) v=r
  unfold dot;grind
 rw[e,<- h1,<- h2,<- h3]
 unfold dot;grind
theorem W0(m:M3):bM (tr m)=bM m:=by unfold bM tr dot crs;grind
end Mth
namespace Mth
theorem W1(m:M3):cof (kW m)=kU (bM m) (tr m):=by
 have h:tr (kW (kW m))=tr (kU (bM m) m):=by rw[WX]
 exact h
theorem D8(m:M3):cof (cof m)=kU (bM m) m:=by
 have h:=W1 (tr m)
 rw[W0] at h
 have e:kW (tr m)=cof m:=by unfold kW cof tr crs;exact D6 (by grind) (by grind) (by grind) (by grind) (by grind) (by grind) (by grind) (by grind) (by grind)
 rw[e] at h
 exact h
theorem W2(p:P3):crs p p=(0,0,0):=by unfold crs;exact xag (by grind) (xag (by grind) (by grind))
theorem W3(m:M3):bM (cof m)=bM m*bM m:=by
 have:=D7 (cof m) (1,0,0) (1,0,0)
 rw[D8] at this
 have e:dot (mul (cof m) (1,0,0)) (mul (kU (bM m) m) (1,0,0))=bM m*bM m:=by
  rw[D5,WZ]
  have t:=D7 m (1,0,0) (1,0,0)
  have u:dot (bB (bM m) (mul m (1,0,0))) (mul (cof m) (1,0,0))=bM m*dot (mul m (1,0,0)) (mul (cof m) (1,0,0)):=by unfold bB dot;grind
  rw[u,t];unfold dot;simp
 rw[e] at this
 have d1:dot ((1,0,0):P3) (1,0,0)=1:=by decide
 rw[d1] at this;omega
end Mth
namespace SetT
open PySem.SetTable
def iter(t:SetTable):Nat->Probe->Probe
 |0,p=>p
 |k+1,p=>iter t k (t.advance p)
def start(mask i perturb:Nat):Probe:={ j:=i,more:=runEnd mask i-i,i,perturb,dummy:=none }
theorem bits_lt(h:Int):bits h<2^64:=by
 unfold bits
 have h1:=Int.emod_nonneg h (show (2^64:Int)≠0 by decide)
 have h2:=Int.emod_lt_of_pos h (show (0:Int)<2^64 by decide)
 omega
def cnt(n:Nat)(owner:Array (Option Nat)):Nat:=((List.range n).filterMap fun j=>owner.getD j none).length
end SetT
namespace TxtA
open PySem.StrLaws PySem.Builtin.Str
def flat(y:List Nat):List (List Nat)->List Nat
 |[]=>[]
 |[r]=>r
 |r::r'::rs=>r++y++flat y (r'::rs)
def xB(l y:List Nat)(i:Nat):Prop:=(l.drop i).take y.length=y
theorem W4{l t:List Nat}{c i:Nat}(h:xB l (c::t) i):l[i]? = some c:=by
 unfold xB at h
 have:((l.drop i).take (c::t).length)[0]? = some c:=by rw[h];rfl
 rw[List.getElem?_take,xao (by simp)] at this
 rw[List.getElem?_drop] at this
 simpa using this
def W5(c:Nat)(t r:List Nat):Prop:=∀i,i<r.length->∀p,(p=[]\/p.head? = some c)->¬xB (r++p) (c::t) i
theorem free_no{c:Nat}{t r:List Nat}(h:c∉r):W5 c t r:=fun i hi p _ q=>by
 have:=W4 q
 rw[xbh hi] at this
 exact h (xbo this)
def cP(l:List Nat):Str:=⟨l.toArray⟩
end TxtA
namespace DL
open L2
inductive D where
 |non|bl (b:Bool)|int (i:Int)|str (x:Str)|ty (n:String)|cls (c:Str)
 |tup (xs:List D)|lst (xs:List D)|dct (ks:List Key) (vs:List D)|exc (c:Str) (as:List D)
instance:Inhabited D:=⟨.non⟩
inductive R (α:Type) where
 |ok (a:α)|err (e:D)|bad
def R.bind{α β:Type}:R α->(α->R β)->R β
 |.ok a,k=>k a
 |.err e,_=>.err e
 |.bad,_=>.bad
theorem R.ok_bind{α β:Type}(a:α)(k:α->R β):(R.ok a).bind k=k a:=rfl
def RW{α:Type}(r:R α)(Q:α->Prop)(E:D->Prop):Prop:=match r with
 |.ok a=>Q a
 |.err e=>E e
 |.bad=>False
theorem RW.mono{α:Type}{r:R α}{Q Q':α->Prop}{E E':D->Prop}(h:RW r Q E)(hq:∀a,r=.ok a->Q a->Q' a)(he:∀e,E e->E' e):RW r Q' E':=by
 cases r with
 |ok a=>exact hq a rfl h
 |err e=>exact he e h
 |bad=>exact h
theorem RW.of_bind{α β:Type}{r:R α}{k:α->R β}{Q:β->Prop}{E:D->Prop}(h:RW (r.bind k) Q E):RW r (fun a=>RW (k a) Q E) E:=by
 cases r with
 |ok a=>exact h
 |err e=>exact h
 |bad=>exact h
def kY:List Str:=["ChalkError","NoPlace","Same","NoFloor","Endless","NoDeed","NoText","NoName","TooMany","NoChange","NoFrame","NoValue","Unlike","NoRatio","NoBow","NoRow"]
def kZ(c d:Str):Option Bool:=bif kY.contains c&&kY.contains d then some (c==d||d=="ChalkError") else none
structure jC(K:xFg)(mg:Str->Option Value)(c:Str)(C:Addr):Prop where
 here:mg c=some (.ref C)
 exc:lZ K C
 isi:∀d Dd b,kZ c d=some b->mg d=some (.ref Dd)->PySem.W.kitOne K (.ref C) (.ref Dd)=some b
 val:PySem.W.kitOne K (.ref C) (.type "ValueError")=some true
 ctc:∀d Dd,kZ c d=some true->mg d=some (.ref Dd)->PySem.W.exmOne K (.ref C) (.ref Dd)=some true
def pW(G:Hp)(dct:Option Addr)(vs:List V):Prop:=(dct=none/\vs=[])\/∃dx v,dct=some dx/\vs=[v]/\G dx=some (.xd [("at",v)])
mutual
def aS(K:xFg)(mg:Str->Option Value)(G:Hp):D->V->Prop
 |.non,v=>v=.non
 |.bl b,v=>v=.bl b
 |.int i,v=>v=.int i
 |.str x,v=>v=.str x
 |.ty n,v=>v=.ty n
 |.cls c,v=>∃C,v=.ref C/\mg c=some (.ref C)
 |.tup ds,v=>∃a vs,v=.ref a/\bJ K G a vs/\Reps K mg G ds vs
 |.lst ds,v=>∃a vs,v=.ref a/\aW K G a vs/\Reps K mg G ds vs
 |.dct ks ds,v=>∃a vs,v=.ref a/\Rd G a (.dK (ks.zip vs))/\ks.length=vs.length/\Reps K mg G ds vs
 |.exc c as,v=>∃x C dct vs,v=.ref x/\G x=some (pT x C dct)/\jC K mg c C/\pW G dct vs/\Reps K mg G as vs
def Reps(K:xFg)(mg:Str->Option Value)(G:Hp):List D->List V->Prop
 |[],vs=>vs=[]
 |d::ds,vs=>∃v r,vs=v::r/\aS K mg G d v/\Reps K mg G ds r
end
def W6(K:xFg)(mg:Str->Option Value)(G:Hp)(e:D)(C:Addr)(dct:Option Addr):Prop:=∃c as vs,e=.exc c as/\jC K mg c C/\pW G dct vs/\Reps K mg G as vs
section
variable{K:xFg}{mg:Str->Option Value}{G G' H H':Hp}
theorem Same.sqT{a:Addr}{xs:List V}(e:Same G G')(h:bJ K G a xs):bJ K G' a xs:=e.tup h
theorem Same.rd{a:Addr}{u:HO}(e:Same G G')(h:Rd G a u):Rd G' a u:=by
 rcases h with h|⟨o,h⟩
 ·exact .inl (e _ _ h)
 ·exact .inr ⟨o,e _ _ h⟩
theorem pW.mono{dct:Option Addr}{vs:List V}(e:Same G G')(h:pW G dct vs):pW G' dct vs:=by
 rcases h with h|⟨dx,v,h1,h2,h3⟩
 ·exact .inl h
 ·exact .inr ⟨dx,v,h1,h2,e _ _ h3⟩
mutual
theorem aS.mono(e:Same G G'):∀{d:D} {v:V},aS K mg G d v->aS K mg G' d v
 |.non,_,h=>h
 |.bl _,_,h=>h
 |.int _,_,h=>h
 |.str _,_,h=>h
 |.ty _,_,h=>h
 |.cls _,_,h=>h
 |.tup _,_,⟨a,vs,h1,h2,h3⟩=>⟨a,vs,h1,Same.sqT e h2,Reps.mono e h3⟩
 |.lst _,_,⟨a,vs,h1,h2,h3⟩=>⟨a,vs,h1,e.seq h2,Reps.mono e h3⟩
 |.dct _ _,_,⟨a,vs,h1,h2,h3,h4⟩=>⟨a,vs,h1,Same.rd e h2,h3,Reps.mono e h4⟩
 |.exc _ _,_,⟨x,C,dct,vs,h1,h2,h3,h4,h5⟩=>⟨x,C,dct,vs,h1,e _ _ h2,h3,h4.mono e,Reps.mono e h5⟩
theorem Reps.mono(e:Same G G'):∀{ds:List D} {vs:List V},Reps K mg G ds vs->Reps K mg G' ds vs
 |[],_,h=>h
 |_::_,_,⟨v,r,h1,h2,h3⟩=>⟨v,r,h1,aS.mono e h2,Reps.mono e h3⟩
end
theorem Reps.length:∀{ds:List D} {vs:List V},Reps K mg G ds vs->ds.length=vs.length
 |[],_,h=>by cases h;rfl
 |_::_,_,⟨v,r,h1,_,h3⟩=>by cases h1;rw[xaw,xaw,Reps.length h3]
theorem Reps.nil:Reps K mg G [] []:=rfl
theorem Reps.cons{d:D}{v:V}{ds:List D}{vs:List V}(h:aS K mg G d v)(t:Reps K mg G ds vs):Reps K mg G (d::ds) (v::vs):=⟨v,vs,rfl,h,t⟩
theorem Reps.append:∀{ds es:List D} {vs ws:List V},Reps K mg G ds vs->Reps K mg G es ws->Reps K mg G (ds++es) (vs++ws)
 |[],_,_,_,h,t=>by cases h;exact t
 |_::_,_,_,_,⟨v,r,h1,h2,h3⟩,t=>by cases h1;exact⟨v,r++_,rfl,h2,h3.append t⟩
theorem Reps.get:∀{ds:List D} {vs:List V} {i:Nat} {d:D},Reps K mg G ds vs->ds[i]? = some d->∃v,vs[i]? = some v/\aS K mg G d v
 |[],_,_,_,_,e=>by simp at e
 |_::_,_,0,_,⟨v,r,h1,h2,_⟩,e=>by simp at e;subst e;subst h1;exact⟨v,rfl,h2⟩
 |_::ds,_,i+1,d,⟨v,r,h1,_,h3⟩,e=>by
  subst h1
  obtain⟨w,e1,e2⟩:=Reps.get (i:=i) (d:=d) h3 (by simpa using e)
  exact⟨w,by simpa using e1,e2⟩
theorem Reps.drop:∀{ds:List D} {vs:List V} (n:Nat),Reps K mg G ds vs->Reps K mg G (ds.drop n) (vs.drop n)
 |_,_,0,h=>h
 |[],_,_+1,h=>by cases h;exact rfl
 |_::_,_,n+1,⟨_,_,h1,_,h3⟩=>by subst h1;exact h3.drop n
theorem Reps.take:∀{ds:List D} {vs:List V} (n:Nat),Reps K mg G ds vs->Reps K mg G (ds.take n) (vs.take n)
 |_,_,0,h=>by simp only[List.take_zero];exact rfl
 |[],_,_+1,h=>by cases h;exact rfl
 |_::_,_,n+1,⟨v,_,h1,h2,h3⟩=>by subst h1;exact⟨v,_,rfl,h2,h3.take n⟩
theorem Reps.ints(ns:List Int):Reps K mg G (ns.map D.int) (ns.map V.int):=by
 induction ns with
 |nil=>exact rfl
 |cons n r ih=>exact⟨_,_,rfl,rfl,ih⟩
theorem Reps.of_ints:∀{ns:List Int} {vs:List V},Reps K mg G (ns.map D.int) vs->vs=ns.map V.int
 |[],_,h=>h
 |_::_,_,⟨_,_,h1,h2,h3⟩=>by subst h1;cases h2;rw[Reps.of_ints h3];rfl
theorem Reps.at{ds:List D}{vs:List V}{i:Int}{d:D}(h:Reps K mg G ds vs)(e:eF ds i=some d):∃v,eF vs i=some v/\aS K mg G d v:=by
 unfold eF at e ⊢
 rw[h.length] at e
 cases q:iN vs.length i with
 |none=>rw[q] at e;cases e
 |some j=>rw[q] at e;exact h.get e
structure Step(G H G' H':Hp):Prop where
 g:Same G G'
 h:Same H H'
 e:Same G' H'
 c:∀a o,H a=some o->G a=none->G' a=none
theorem Step.refl(e:Same G H):Step G H G H:=⟨Same.refl _,Same.refl _,e,fun _ _ _ h=>h⟩
theorem Step.trans{G1 H1:Hp}(a:Step G H G1 H1)(b:Step G1 H1 G' H'):Step G H G' H':=
 ⟨a.g.trans b.g,a.h.trans b.h,b.e,fun x o p q=>b.c x o (a.h x o p) (a.c x o p q)⟩
theorem same_upd{p:Addr}{o:HO}(h:H p=none):Same H (upd H p o):=V3 h o
theorem Step.pub{p:Addr}{o:HO}(e:Same G H)(h:H p=none):Step G H (upd G p o) (upd H p o):=by
 refine⟨same_upd (e.free h),same_upd h,fun b u q=>?_,fun a u p1 q1=>?_⟩
 ·by_cases hb:b=p
  ·subst hb;rw[aV] at q ⊢;exact q
  ·rw[aG hb] at q ⊢;exact e b u q
 ·have hb:a≠p:=bN p1 h
  rw[aG hb];exact q1
theorem Step.hid{p:Addr}{o:HO}(e:Same G H)(h:H p=none):Step G H G (upd H p o):=
 ⟨Same.refl _,same_upd h,e.trans (same_upd h),fun _ _ _ q=>q⟩
theorem Step.heap(e:Same G H)(h:Same H H'):Step G H G H':=⟨Same.refl _,h,e.trans h,fun _ _ _ q=>q⟩
end
abbrev DSt:=List (Option D)
structure bO(K:xFg)(mg:Str->Option Value)(Ud:DSt)(U:St)(G H:Hp):Prop where
 ext:Same G H
 len:Ud.length=U.length
 val:∀(i:Nat) (d:D),Ud[i]? = some (some d)->∃v,U[i]? = some (some v)/\aS K mg G d v
section
variable{K:xFg}{mg:Str->Option Value}{G G' H H':Hp}{Ud:DSt}{U:St}
theorem bO.step(o:bO K mg Ud U G H)(s:Step G H G' H'):bO K mg Ud U G' H':=
 ⟨s.e,o.len,fun i d q=>let⟨v,h1,h2⟩:=o.val i d q;⟨v,h1,h2.mono s.g⟩⟩
theorem bO.set{i:Nat}{d:D}{v:V}(o:bO K mg Ud U G H)(h:aS K mg G d v):bO K mg (Ud.set i (some d)) (U.set i (some v)) G H:=by
 refine⟨o.ext,by simp[o.len],fun j e q=>?_⟩
 by_cases hj:j=i
 ·subst hj
  have hl:j<Ud.length:=by have:=(xam.mp q).1;simpa using this
  rw[xa2 hl] at q
  cases q
  exact⟨v,by rw[xa2 (by rw[<- o.len];exact hl)],h⟩
 ·rw[xaf (xa5 hj)] at q ⊢
  exact o.val j e q
theorem bO.cons{x:Option D}{y:Option V}(o:bO K mg Ud U G H)(h:∀d,x=some d->∃v,y=some v/\aS K mg G d v):bO K mg (x::Ud) (y::U) G H:=by
 refine⟨o.ext,by simp[o.len],fun j e q=>?_⟩
 cases j with
 |zero=>
  have q':x=some e:=by simpa using q
  obtain⟨v,h1,h2⟩:=h e q'
  exact⟨v,by simp[h1],h2⟩
 |succ j=>exact o.val j e (by simpa using q)
theorem bO.nones(o:bO K mg Ud U G H):∀k:Nat,bO K mg (List.replicate k none++Ud) (List.replicate k none++U) G H
 |0=>o
 |k+1=>(bO.nones o k).cons (x:=none) (y:=none) (fun d e=>by cases e)
end
section
variable(K:xFg)(mg:Str->Option Value)(E:XK)
def aL(Q:VK)(G H:Hp)(d:D):Prop:=∀v G' H',Step G H G' H'->aS K mg G' d v->Q v H'
def jX(Q:Bool->Hp->Prop)(G H:Hp)(b:Bool):Prop:=∀G' H',Step G H G' H'->Q b H'
def tF(Q:List V->Hp->Prop)(G H:Hp)(ds:List D):Prop:=∀vs G' H',Step G H G' H'->Reps K mg G' ds vs->Q vs H'
def jY(Q:VK)(G H:Hp)(ds:List D):Prop:=∀a vs G' H',Step G H G' H'->H a=none->H' a=some (.lst vs)->G' a=none->Reps K mg G' ds vs->Q (.ref a) H'
def bA(G H:Hp)(e:D):Prop:=∀G' H' C dct,Step G H G' H'->W6 K mg G' e C dct->E (.ref C) dct H'
def tE(f:DSt->R D):TE:=fun U H Q=>∃G Ud,bO K mg Ud U G H/\RW (f Ud) (aL K mg Q G H) (bA K mg E G H)
def tT(f:DSt->R Bool):TT:=fun U H Q=>∃G Ud,bO K mg Ud U G H/\RW (f Ud) (jX Q G H) (bA K mg E G H)
def tAr(f:DSt->R (List D)):TA:=fun U H Q=>∃G Ud,bO K mg Ud U G H/\RW (f Ud) (tF K mg Q G H) (bA K mg E G H)
def tH(f:DSt->R (List D)):TE:=fun U H Q=>∃G Ud,bO K mg Ud U G H/\RW (f Ud) (jY K mg Q G H) (bA K mg E G H)
end
def DE(X:Cx)(E:XK)(e:Expr)(f:DSt->R D):Prop:=PE X e (tE X.K X.mg E f)
def DT(X:Cx)(E:XK)(e:Expr)(f:DSt->R Bool):Prop:=PT X e (tT X.K X.mg E f)
def DW(X:Cx)(E:XK)(e:Expr)(f:DSt->R Bool):Prop:=PW X e (tT X.K X.mg E f)
def DA(X:Cx)(E:XK)(es:List Expr)(f:DSt->R (List D)):Prop:=PA X es (tAr X.K X.mg E f)
def DF(X:Cx)(E:XK)(e:Expr)(f:DSt->R (List D)):Prop:=PE X e (tH X.K X.mg E f)
section
variable{X:Cx}{E:XK}{K:xFg}{mg:Str->Option Value}{G G1 H H1:Hp}
theorem PE.mono'{e:Expr}{t t':TE}(h:PE X e t)(m:∀U H Q,t' U H Q->t U H Q):PE X e t':=fun pins s U H Q I q=>h pins s U H Q I (m U H Q q)
theorem PT.mono'{e:Expr}{t t':TT}(h:PT X e t)(m:∀U H Q,t' U H Q->t U H Q):PT X e t':=fun pins s U H Q I q=>h pins s U H Q I (m U H Q q)
theorem PW.mono'{e:Expr}{t t':TT}(h:PW X e t)(m:∀U H Q,t' U H Q->t U H Q):PW X e t':=fun wh pins s U H Q I q=>h wh pins s U H Q I (m U H Q q)
theorem PA.mono'{es:List Expr}{t t':TA}(h:PA X es t)(m:∀U H Q,t' U H Q->t U H Q):PA X es t':=fun pos pins s U H Q I q=>h pos pins s U H Q I (m U H Q q)
theorem PS.mono'{st:Stmt}{t t':TS}(h:PS X st t)(m:∀D U H,t' D U H->t D U H):PS X st t':=fun pins s U H D I q=>h pins s U H D I (m D U H q)
theorem cB.mono'{st:List Stmt}{t t':TS}(h:cB X st t)(m:∀D U H,t' D U H->t D U H):cB X st t':=fun pins s U H D I q=>h pins s U H D I (m D U H q)
theorem aL.step{Q:VK}{d:D}(h:aL K mg Q G H d)(s:Step G H G1 H1):aL K mg Q G1 H1 d:=fun v G' H' s' r=>h v G' H' (s.trans s') r
theorem bA.step{e:D}(h:bA K mg E G H e)(s:Step G H G1 H1):bA K mg E G1 H1 e:=fun G' H' C dct s' r=>h G' H' C dct (s.trans s') r
theorem jX.step{Q:Bool->Hp->Prop}{b:Bool}(h:jX Q G H b)(s:Step G H G1 H1):jX Q G1 H1 b:=fun G' H' s'=>h G' H' (s.trans s')
theorem jY.step{Q:VK}{ds:List D}(h:jY K mg Q G H ds)(s:Step G H G1 H1):jY K mg Q G1 H1 ds:=fun a vs G' H' s' n e g r=>h a vs G' H' (s.trans s') (s.h.free n) e g r
theorem aL.now{Q:VK}{d:D}{v:V}(h:aL K mg Q G H d)(e:Same G H)(r:aS K mg G d v):Q v H:=h v G H (.refl e) r
theorem DF.de{e:Expr}{f:DSt->R (List D)}(h:DF X E e f):DE X E e (fun U=>(f U).bind fun ds=>.ok (.lst ds)):=by
 refine PE.mono' h fun U H Q ⟨G,Ud,ok,q⟩=>⟨G,Ud,ok,q.of_bind.mono (fun ds _ q=>?_) fun _ z=>z⟩
 intro a vs G' H' s n e g r
 have q':aL X.K X.mg Q G H (.lst ds):=q
 have sg:Same G' (upd G' a (.lst vs)):=same_upd g
 refine q' (.ref a) (upd G' a (.lst vs)) H' ⟨s.g.trans sg,s.h,fun b u p=>?_,fun b u p1 p2=>?_⟩ ⟨a,vs,rfl,aW.of aV,r.mono sg⟩
 ·by_cases hb:b=a
  ·subst hb;rw[aV] at p;cases p;exact e
  ·rw[aG hb] at p;exact s.e b u p
 ·have hb:b≠a:=bN p1 n
  rw[aG hb];exact s.c b u p1 p2
def aA(i:Nat):DSt->R D:=fun U=>match U[i]? with
 |some (some d)=>.ok d
 |_=>.bad
theorem EA(i:Nat){x:Str}{pos:Pos}(hN:X.N[i]? = some x:=by rfl)(hv:cA X.env.scope x:=by first|exact Or.inl rfl|exact Or.inr (Or.inl rfl)|exact Or.inr (Or.inr rfl))(hd:(x==("__debug__":Str))=false:=by decide)
  (hcd:(x==("__classdict__":Str))=false:=by decide):DE X E (.Name x pos) (aA i):=by
 refine PE.mono' (pv i hN hv hd hcd) fun U H Q ⟨G,Ud,ok,q⟩=>?_
 unfold aA at q
 split at q
 ·rename_i d e
  obtain⟨v,h1,h2⟩:=ok.val i d e
  exact⟨v,h1,aL.now q ok.ext h2⟩
 ·exact q.elim
def eC(d:D):DSt->R D:=fun _=>.ok d
theorem gZ{i j pos}:DE X E (.Constant (.int i) j pos) (eC (.int i)):=PE.mono' i0 fun _ _ _ ⟨_,_,ok,q⟩=>aL.now q ok.ext rfl
theorem W7{b j pos}:DE X E (.Constant (.bool b) j pos) (eC (.bl b)):=PE.mono' RB fun _ _ _ ⟨_,_,ok,q⟩=>aL.now q ok.ext rfl
theorem nY{j pos}:DE X E (.Constant .none j pos) (eC .non):=PE.mono' BX fun _ _ _ ⟨_,_,ok,q⟩=>aL.now q ok.ext rfl
theorem tK{x j pos}:DE X E (.Constant (.str x) j pos) (eC (.str x)):=PE.mono' vX fun _ _ _ ⟨_,_,ok,q⟩=>aL.now q ok.ext rfl
theorem W8{x:Str}{d:D}{v:V}{u:Value}{pos:Pos}(hm:X.mg x=some u)(r:aJ v u)(rp:∀G,aS X.K X.mg G d v)(hg:Gl X x:=by rfl)(hd:(x==("__debug__":Str))=false:=by decide):DE X E (.Name x pos) (eC d):=
 PE.mono' (RC hg hm r hd) fun _ _ _ ⟨_,_,ok,q⟩=>aL.now q ok.ext (rp _)
theorem pX{x:Str}{n:String}{pos:Pos}(hm:X.mg x=none)(hv:bootBuiltins x=some (.type n):=by rfl)(hg:Gl X x:=by rfl)(hn:x≠"__name__":=by decide)(hd:(x==("__debug__":Str))=false:=by decide):DE X E (.Name x pos) (eC (.ty n)):=
 PE.mono' (RD hg hm hv (v:=.ty n) rfl hn hd) fun _ _ _ ⟨_,_,ok,q⟩=>aL.now q ok.ext rfl
def fF(K:xFg)(mg:Str->Option Value)(r:R2)(g:D->D->R D):Prop:=
 ∀(G H:Hp) (a b:D) (x y:V) (Q:VK),Same G H->aS K mg G a x->aS K mg G b y->RW (g a b) (aL K mg Q G H) (fun _=>False)->r x y H Q
def aC(g:D->D->R D)(fa fb:DSt->R D):DSt->R D:=fun U=>(fa U).bind fun x=>(fb U).bind fun y=>g x y
theorem fX{f:DSt->R D}{α:Type}{k:D->R α}{U:St}{H:Hp}{Q:VK}{P:Hp->Hp->α->Prop}{G:Hp}{Ud:DSt}
  (ok:bO K mg Ud U G H) (q:RW ((f Ud).bind k) (P G H) (bA K mg E G H))
  (h:∀d v G' H',Step G H G' H'->bO K mg Ud U G' H'->aS K mg G' d v->RW (k d) (P G H) (bA K mg E G' H')->Q v H'):tE K mg E f U H Q:=
 ⟨G,Ud,ok,q.of_bind.mono (fun d _ q v G' H' s r=>h d v G' H' s (ok.step s) r (q.mono (fun _ _ z=>z) fun e z=>z.step s)) fun _ z=>z⟩
theorem xC{α:Type}{r:R α}{Q:α->Prop}{E':D->Prop}(hr:∀e,r≠.err e)(h:RW r Q E'):RW r Q (fun _=>False):=by
 cases r with
 |ok a=>exact h
 |err e=>exact xaq rfl (hr e)
 |bad=>exact h
def fG(g:D->D->R D):Prop:=∀a b e,g a b≠.err e
theorem pY{r:R2}{g:D->D->R D}(hd:fF X.K X.mg r g)(hn:fG g){fa fb:DSt->R D}{U:St}{H:Hp}{Q:VK}(h:tE X.K X.mg E (aC g fa fb) U H Q):nQ r (tE X.K X.mg E fa) (tE X.K X.mg E fb) U H Q:=by
 obtain⟨G,Ud,ok,q⟩:=h
 refine fX (P:=aL X.K X.mg Q) ok q fun a x G1 H1 s1 ok1 r1 q1=>?_
 refine fX (P:=fun _ _=>aL X.K X.mg Q G H) ok1 q1 fun b y G2 H2 s2 ok2 r2 q2=>?_
 exact hd G2 H2 a b x y Q ok2.ext (r1.mono s2.g) r2 (xC (hn a b) (q2.mono (fun _ _ z=>z.step (s1.trans s2)) fun _ z=>z))
variable{a b c:Expr}{fa fb fc:DSt->R D}{pos:Pos}
theorem nZ{op:Operator}{r:R2}{g:D->D->R D}(ho:bE X (binaryOp op) r)(hd:fF X.K X.mg r g)(hn:fG g)(ha:DE X E a fa)(hb:DE X E b fb):DE X E (.BinOp a op b pos) (aC g fa fb):=
 PE.mono' (wB ho ha hb) fun _ _ _ h=>pY hd hn h
theorem W9{op:CmpOp}{r:R2}{g:D->D->R D}(ho:bE X (compareOp op) r)(hd:fF X.K X.mg r g)(hn:fG g)(ha:DE X E a fa)(hb:DE X E b fb)(hm:behindInMarks op b=false:=by first|exact dA _ (by decide) (by decide)|rfl):DE X E (.Compare a [op] [b] pos) (aC g fa fb):=
 PE.mono' (TJ ho ha hb hm) fun _ _ _ h=>pY hd hn h
def iQ:D->R Bool
 |.bl b=>.ok b
 |_=>.bad
def aR(f:DSt->R D):DSt->R Bool:=fun U=>(f U).bind iQ
theorem xD{t:TE}{f:DSt->R D}(h:∀U H Q,tE X.K X.mg E f U H Q->t U H Q){U:St}{H:Hp}{Q:Bool->Hp->Prop}(q:tT X.K X.mg E (aR f) U H Q):wC t U H Q:=by
 obtain⟨G,Ud,ok,q⟩:=q
 refine h U H _ ⟨G,Ud,ok,q.of_bind.mono (fun d _ q v G' H' s r=>?_) fun _ z=>z⟩
 cases d with
 |bl k=>cases r;exact⟨k,rfl,(show jX Q G H k from q) G' H' s⟩
 |_=>exact(show False from q).elim
theorem XA{op:CmpOp}{r:R2}{g:D->D->R D}(ho:bE X (compareOp op) r)(hd:fF X.K X.mg r g)(hn:fG g)(ha:DE X E a fa)(hb:DE X E b fb)(hm:behindInMarks op b=false:=by first|exact dA _ (by decide) (by decide)|rfl):DT X E (.Compare a [op] [b] pos) (aR (aC g fa fb)):=
 PT.mono' (TK ho ha hb hm) fun _ _ _ q=>xD (fun _ _ _ h=>pY hd hn h) q
def jZ(g g':D->D->R D)(fa fb fc:DSt->R D):DSt->R D:=fun U=>(fa U).bind fun x=>(fb U).bind fun y=>(g x y).bind fun z=>(iQ z).bind fun k=>bif k then (fc U).bind fun w=>g' y w else .ok (.bl false)
theorem EB{r r':R2}{g g':D->D->R D}(hd:fF X.K X.mg r g)(hn:fG g)(hd':fF X.K X.mg r' g')(hn':fG g'){U:St}{H:Hp}{Q:VK}(h:tE X.K X.mg E (jZ g g' fa fb fc) U H Q) :
  wD r r' (tE X.K X.mg E fa) (tE X.K X.mg E fb) (tE X.K X.mg E fc) U H Q:=by
 obtain⟨G,Ud,ok,q⟩:=h
 refine fX (P:=aL X.K X.mg Q) ok q fun a x G1 H1 s1 ok1 r1 q1=>?_
 refine fX (P:=fun _ _=>aL X.K X.mg Q G H) ok1 q1 fun b y G2 H2 s2 ok2 r2 q2=>?_
 refine hd G2 H2 a b x y _ ok2.ext (r1.mono s2.g) r2 ?_
 have s12:=s1.trans s2
 cases ez:g a b with
 |bad=>rw[ez] at q2;exact q2.elim
 |err e=>exact xaq ez (hn a b e)
 |ok z=>
  rw[ez] at q2
  intro v G3 H3 s3 r3
  cases z with
  |bl k=>
   cases r3
   have ok3:=ok2.step s3
   have s13:=s12.trans s3
   refine⟨k,rfl,?_⟩
   cases k with
   |false=>
    rw[xal xa8]
    have q3:aL X.K X.mg Q G H (.bl false):=q2
    exact q3 _ G3 H3 s13 rfl
   |true=>
    rw[xao rfl]
    have q3:RW ((fc Ud).bind fun w=>g' b w) (aL X.K X.mg Q G H) (bA X.K X.mg E G2 H2):=q2
    refine fX (k:=fun w=>g' b w) (P:=fun _ _=>aL X.K X.mg Q G H) ok3 (q3.mono (fun _ _ z=>z) fun _ z=>z.step s3) fun c w G4 H4 s4 ok4 r4 q4=>?_
    exact hd' G4 H4 b c y w Q ok4.ext (r2.mono (s3.g.trans s4.g)) r4 (xC (hn' b c) (q4.mono (fun _ _ z=>z.step (s13.trans s4)) fun _ z=>z))
  |_=>exact(show False from q2).elim
theorem XB{op op':CmpOp}{r r':R2}{g g':D->D->R D}(ho:bE X (compareOp op) r)(hd:fF X.K X.mg r g)(hn:fG g)(ho':bE X (compareOp op') r')(hd':fF X.K X.mg r' g')(hn':fG g')(ha:DE X E a fa)(hb:DE X E b fb)(hc:DE X E c fc)
  (hm:lastMarks [op,op'] [b,c]=false:=by with_unfolding_all rfl):DE X E (.Compare a [op,op'] [b,c] pos) (jZ g g' fa fb fc):=
 PE.mono' (TL ho ho' ha hb hc hm) fun _ _ _ h=>EB hd hn hd' hn' h
theorem XE{op op':CmpOp}{r r':R2}{g g':D->D->R D}(ho:bE X (compareOp op) r)(hd:fF X.K X.mg r g)(hn:fG g)(ho':bE X (compareOp op') r')(hd':fF X.K X.mg r' g')(hn':fG g')(ha:DE X E a fa)(hb:DE X E b fb)(hc:DE X E c fc)
  (hm:lastMarks [op,op'] [b,c]=false:=by with_unfolding_all rfl):DT X E (.Compare a [op,op'] [b,c] pos) (aR (jZ g g' fa fb fc)):=
 PT.mono' (TM ho ho' ha hb hc hm) fun _ _ _ q=>xD (fun _ _ _ h=>EB hd hn hd' hn' h) q
theorem pZ{e:Expr}{f:DSt->R D}(h:DE X E e f)(he:∀whole,isTrue e X.env whole=(do let v<-whole;standAt e.pos;holding [v] (truthy v)):=by intro _;rfl):DT X E e (aR f):=
 PT.mono' (RK h he) fun U H Q q=>xD (t:=tE X.K X.mg E f) (fun _ _ _ h=>h) q
theorem DW.dt{e:Expr}{f:DSt->R Bool}(h:DW X E e f):DT X E e f:=h _
variable{aK:List Expr}{ga gb:DSt->R Bool}
def l6(fa fb:DSt->R Bool):DSt->R Bool:=fun U=>(fa U).bind fun k=>bif k then fb U else .ok false
def eU(fa fb:DSt->R Bool):DSt->R Bool:=fun U=>(fa U).bind fun k=>bif k then .ok true else fb U
def dX(fa:DSt->R Bool):DSt->R Bool:=fun U=>(fa U).bind fun k=>.ok (!k)
theorem xE{f:DSt->R Bool}{α:Type}{k:Bool->R α}{U:St}{H:Hp}{Q:Bool->Hp->Prop}{P:α->Prop}{G:Hp}{Ud:DSt}
  (ok:bO K mg Ud U G H) (q:RW ((f Ud).bind k) P (bA K mg E G H))
  (h:∀b G' H',Step G H G' H'->bO K mg Ud U G' H'->RW (k b) P (bA K mg E G' H')->Q b H'):tT K mg E f U H Q:=
 ⟨G,Ud,ok,q.of_bind.mono (fun d _ q G' H' s=>h d G' H' s (ok.step s) (q.mono (fun _ _ z=>z) fun e z=>z.step s)) fun _ z=>z⟩
theorem xF(ha:DT X E a ga):DW X E (.BoolOp .And [a] pos) ga:=RO ha
theorem xG(ha:DT X E a ga):DW X E (.BoolOp .Or [a] pos) ga:=RP ha
theorem tL(ha:DT X E a ga)(hb:DW X E (.BoolOp .And (b::aK) pos) gb):DW X E (.BoolOp .And (a::b::aK) pos) (l6 ga gb):=by
 refine PW.mono' (RQ ha hb) fun U H Q ⟨G,Ud,ok,q⟩=>?_
 refine xE ok q fun k G' H' s ok' q'=>?_
 cases k with
 |true=>rw[xao rfl];exact⟨G',Ud,ok',q'.mono (fun _ _ z=>z.step s) fun _ z=>z⟩
 |false=>rw[xal xa8];exact(show jX Q G H false from q') G' H' s
theorem j0(ha:DT X E a ga)(hb:DW X E (.BoolOp .Or (b::aK) pos) gb):DW X E (.BoolOp .Or (a::b::aK) pos) (eU ga gb):=by
 refine PW.mono' (RS ha hb) fun U H Q ⟨G,Ud,ok,q⟩=>?_
 refine xE ok q fun k G' H' s ok' q'=>?_
 cases k with
 |true=>rw[xao rfl];exact(show jX Q G H true from q') G' H' s
 |false=>rw[xal xa8];exact⟨G',Ud,ok',q'.mono (fun _ _ z=>z.step s) fun _ z=>z⟩
theorem n6(ha:DT X E a ga):DT X E (.UnaryOp .Not a pos) (dX ga):=by
 refine PT.mono' (RT ha) fun U H Q ⟨G,Ud,ok,q⟩=>?_
 exact xE ok q fun k G' H' s _ q'=>(show jX Q G H (!k) from q') G' H' s
def qA(fa fb:DSt->R D):DSt->R D:=fun U=>(fa U).bind fun x=>(iQ x).bind fun k=>bif k then fb U else .ok (.bl false)
def vOr(fa fb:DSt->R D):DSt->R D:=fun U=>(fa U).bind fun x=>(iQ x).bind fun k=>bif k then .ok (.bl true) else fb U
def xH(fa:DSt->R D):DSt->R D:=fun U=>(fa U).bind fun x=>(iQ x).bind fun k=>.ok (.bl !k)
theorem EC{op}{f:DSt->R D}(h:DE X E a f):DE X E (.BoolOp op [a] pos) f:=RX h
theorem xI(ha:DE X E a fa)(hb:DE X E (.BoolOp .And (b::aK) pos) fb):DE X E (.BoolOp .And (a::b::aK) pos) (qA fa fb):=by
 refine PE.mono' (RY ha hb) fun U H Q ⟨G,Ud,ok,q⟩=>?_
 refine fX (P:=aL X.K X.mg Q) ok q fun d v G' H' s ok' r q'=>?_
 cases d with
 |bl k=>
  cases r
  refine⟨k,rfl,?_⟩
  cases k with
  |true=>rw[xao rfl];exact⟨G',Ud,ok',q'.mono (fun _ _ z=>z.step s) fun _ z=>z⟩
  |false=>rw[xal xa8];exact(show aL X.K X.mg Q G H (.bl false) from q') _ G' H' s rfl
 |_=>exact(show False from q').elim
theorem XG(ha:DE X E a fa):DE X E (.UnaryOp .Not a pos) (xH fa):=by
 refine PE.mono' (RZ ha) fun U H Q ⟨G,Ud,ok,q⟩=>?_
 refine fX (P:=aL X.K X.mg Q) ok q fun d v G' H' s ok' r q'=>?_
 cases d with
 |bl k=>cases r;exact⟨k,rfl,(show aL X.K X.mg Q G H (.bl !k) from q') _ G' H' s rfl⟩
 |_=>exact(show False from q').elim
def eIf(c:DSt->R Bool)(fa fb:DSt->R D):DSt->R D:=fun U=>(c U).bind fun k=>bif k then fa U else fb U
def UnD(K:xFg)(mg:Str->Option Value)(r:V->Hp->VK->Prop)(g:D->R D):Prop:=
 ∀(G H:Hp) (a:D) (x:V) (Q:VK),Same G H->aS K mg G a x->RW (g a) (aL K mg Q G H) (fun _=>False)->r x H Q
def qB(g:D->R D)(fa:DSt->R D):DSt->R D:=fun U=>(fa U).bind g
theorem XJ{op:UnaryOp}{r:V->Hp->VK->Prop}{g:D->R D}(ho:sP X (unaryOp op) r)(hd:UnD X.K X.mg r g)(hn:∀a e,g a≠.err e)(ha:DE X E a fa):DE X E (.UnaryOp op a pos) (qB g fa):=by
 refine PE.mono' (B6 ho ha) fun U H Q ⟨G,Ud,ok,q⟩=>?_
 refine fX (P:=aL X.K X.mg Q) ok q fun d v G' H' s ok' r q'=>?_
 exact hd G' H' d v Q ok'.ext r (xC (hn d) (q'.mono (fun _ _ z=>z.step s) fun _ z=>z))
def aE:DSt->R (List D):=fun _=>.ok []
def aB(fa:DSt->R D)(fs:DSt->R (List D)):DSt->R (List D):=fun U=>(fa U).bind fun x=>(fs U).bind fun xs=>.ok (x::xs)
variable{es:List Expr}{fs:DSt->R (List D)}
theorem gG:DA X E [] aE:=PA.mono' eL fun U H Q ⟨G,Ud,ok,q⟩=>(show tF X.K X.mg Q G H [] from q) [] G H (.refl ok.ext) Reps.nil
theorem eM(ha:DE X E a fa)(hr:DA X E es fs)(hs:starEach (a::es) X.env=(false,eval a X.env)::starEach es X.env:=by rfl):DA X E (a::es) (aB fa fs):=by
 refine PA.mono' (cN ha hr hs) fun U H Q ⟨G,Ud,ok,q⟩=>?_
 refine fX (P:=tF X.K X.mg Q) ok q fun d v G' H' s ok' r q'=>?_
 refine⟨G',Ud,ok',q'.of_bind.mono (fun ds _ z vs G2 H2 s2 r2=>?_) fun _ z=>z⟩
 exact(show tF X.K X.mg Q G H (d::ds) from z) _ G2 H2 (s.trans s2) (Reps.cons (r.mono s2.g) r2)
def few(n:Nat):Bool:=decide (n<=1000)
theorem xJ{n:Nat}(h:few n=true):n<=sizeLine:=small (xa0 h)
def dM(fs:DSt->R (List D)):DSt->R D:=fun U=>(fs U).bind fun ds=>bif few ds.length then .ok (.tup ds) else .bad
theorem ED{α:Type}{k:List D->R α}{U:St}{H:Hp}{Q:List V->Hp->Prop}{P:α->Prop}{G:Hp}{Ud:DSt}
  (ok:bO K mg Ud U G H) (q:RW ((fs Ud).bind k) P (bA K mg E G H))
  (h:∀ds vs G' H',Step G H G' H'->bO K mg Ud U G' H'->Reps K mg G' ds vs->RW (k ds) P (bA K mg E G' H')->Q vs H'):tAr K mg E fs U H Q:=
 ⟨G,Ud,ok,q.of_bind.mono (fun ds _ q vs G' H' s r=>h ds vs G' H' s (ok.step s) r (q.mono (fun _ _ z=>z) fun e z=>z.step s)) fun _ z=>z⟩
theorem XM{x1}(h:DA X E es fs):DE X E (.Tuple es x1 pos) (dM fs):=by
 refine PE.mono' (nR h) fun U H Q ⟨G,Ud,ok,q⟩=>?_
 refine ED (P:=aL X.K X.mg Q G H) ok q fun ds vs G' H' s ok' r q'=>?_
 cases hf:few ds.length with
 |false=>rw[hf] at q';exact(show False from q').elim
 |true=>
  rw[hf] at q'
  have q2:aL X.K X.mg Q G H (.tup ds):=q'
  refine⟨by rw[<- r.length];exact xJ hf,fun p hp=>?_⟩
  have s2:Step G' H' (upd G' p (.tup vs)) (upd H' p (.tup vs)):=.pub ok'.ext hp
  exact q2 _ _ _ (s.trans s2) ⟨p,vs,rfl,bJ.of aV,r.mono s2.g⟩
def bW(fs:DSt->R (List D)):DSt->R (List D):=fun U=>(fs U).bind fun ds=>bif few ds.length then .ok ds else .bad
theorem XN(h:DA X E es fs):DF X E (.List es pos) (bW fs):=by
 refine PE.mono' (sV h) fun U H Q ⟨G,Ud,ok,q⟩=>?_
 refine ED (P:=jY X.K X.mg Q G H) ok q fun ds vs G' H' s ok' r q'=>?_
 cases hf:few ds.length with
 |false=>rw[hf] at q';exact(show False from q').elim
 |true=>
  rw[hf] at q'
  have q2:jY X.K X.mg Q G H ds:=q'
  refine⟨by rw[<- r.length];exact xJ hf,fun p hp=>?_⟩
  exact q2 p vs G' _ (s.trans (.hid ok'.ext hp)) (s.h.free hp) aV (ok'.ext.free hp) r
def aF:D->D->R D
 |.tup xs,.int i=>match eF xs i with
  |some d=>.ok d
  |none=>.bad
 |.lst xs,.int i=>match eF xs i with
  |some d=>.ok d
  |none=>.bad
 |_,_=>.bad
theorem XO:fG aF:=by
 intro a b e h
 cases a<;>cases b<;>simp only[aF] at h<;>first|exact xaq h (by simp)|(split at h<;>cases h)
theorem XQ:fF K mg (fun x y H Q=>C3 K x y H Q\/C4 K x y H Q) aF:=by
 intro G H a b x y Q e ra rb q
 cases b with
 |int i=>
  cases rb
  cases a with
  |lst xs=>
   obtain⟨p,vs,rfl,h1,h2⟩:=ra
   cases ed:eF xs i with
   |none=>simp only[aF,ed] at q;exact q.elim
   |some d=>
    simp only[aF,ed] at q
    obtain⟨v,h3,h4⟩:=h2.at ed
    exact .inl ⟨p,vs,i,v,rfl,rfl,e.seq h1,h3,aL.now q e h4⟩
  |tup xs=>
   obtain⟨p,vs,rfl,h1,h2⟩:=ra
   cases ed:eF xs i with
   |none=>simp only[aF,ed] at q;exact q.elim
   |some d=>
    simp only[aF,ed] at q
    obtain⟨v,h3,h4⟩:=h2.at ed
    exact .inr ⟨p,vs,i,v,rfl,rfl,Same.sqT e h1,h3,aL.now q e h4⟩
  |_=>exact(show False from q).elim
 |_=>cases a<;>exact(show False from q).elim
theorem EF(ha:DE X E a fa)(hb:DE X E b fb)(hs:nU b:=by intro _ _;rfl):DE X E (.Subscript a b pos) (aC aF fa fb):=
 PE.mono' (lU (wL.or pQ) ha hb hs) fun _ _ _ h=>pY XQ XO h
end
def qC(K:xFg)(mg:Str->Option Value)(m:List D->R D):Sp:=fun vs H Q E=>∃G ds,Same G H/\Reps K mg G ds vs/\RW (m ds) (aL K mg Q G H) (bA K mg E G H)
structure aU(P:Program)(w:World)(K:xFg)(mg:Str->Option Value)(base:Heap)(k:Nat)(x:Str)(m:List D->R D):Prop where
 ex:∃(f:Addr) (fd:FuncData) (ps:List Str),cO P w K mg base (bT P w) k f fd ps (qC K mg m)/\mg x=some (.ref f)/\PySem.W.keepIn K (.ref f)=true/\bU K fd ps []
theorem aU.mono{P:Program}{w:World}{K:xFg}{mg:Str->Option Value}{base:Heap}{j k:Nat}{x:Str}{m:List D->R D}(F:aU P w K mg base j x m)(h:j<=k):aU P w K mg base k x m:=by
 obtain⟨f,fd,ps,h1,h2⟩:=F.ex
 exact⟨f,fd,ps,h1.mono h,h2⟩
structure XC(X:Cx)(E:XK)(k:Nat):Prop where
 calm:X.calm=true
 room:cH k X.A
 pass:jS (bT X.prog X.w) X E
def aQ(m:List D->R D)(fs:DSt->R (List D)):DSt->R D:=fun U=>(fs U).bind m
def j3(K:xFg)(mg:Str->Option Value)(r:List V->Hp->VK->Prop)(g:List D->R D):Prop:=
 ∀(G H:Hp) (ds:List D) (vs:List V) (Q:VK),Same G H->Reps K mg G ds vs->RW (g ds) (aL K mg Q G H) (fun _=>False)->r vs H Q
def R.noerr{α:Type}:R α->R α
 |.ok a=>.ok a
 |_=>.bad
def bD(g:List D->R D)(fs:DSt->R (List D)):DSt->R D:=fun U=>(fs U).bind fun ds=>(g ds).noerr
theorem n8{α:Type}{r:R α}{Q:α->Prop}{E':D->Prop}(h:RW r.noerr Q E'):∃a,r=.ok a/\Q a:=by
 cases r with
 |ok a=>exact⟨a,rfl,h⟩
 |err e=>exact(show False from h).elim
 |bad=>exact(show False from h).elim
section
variable{X:Cx}{E:XK}{k:Nat}{x:Str}{m:List D->R D}{p pos:Pos}{e:Expr}{es:List Expr}{fs:DSt->R (List D)}
theorem EG(C:XC X E k)(F:aU X.prog X.w X.K X.mg X.base k x m)(ha:DA X E (e::es) fs)(hg:Gl X x:=by rfl)(hdb:(x==("__debug__":Str))=false:=by decide)
  (he:starEach (e::es) X.env=(false,eval e X.env)::starEach es X.env:=by rfl) (hpl:(backTo pos (starEach es X.env)).any (·.1)=false:=by rfl):DE X E (.Call (.Name x p) (e::es) [] pos) (aQ m fs):=by
 obtain⟨f,fd,ps,h1,h2,h3,h4⟩:=F.ex
 refine PE.mono' (CM h1 C.room hg h2 h3 h4 .nil C.pass ha hdb he hpl) fun U H Q ⟨G,Ud,ok,q⟩=>?_
 refine⟨G,Ud,ok,q.of_bind.mono (fun ds hds z vs G' H' s r=>?_) fun _ z=>z⟩
 show qC X.K X.mg m (vs++[]) H' Q E
 rw[xb5]
 exact⟨G',ds,s.e,r,z.mono (fun _ _ z=>z.step s) fun _ z=>z.step s⟩
theorem tM{id:String}{r:List V->Hp->VK->Prop}{g:List D->R D}(hc:eK X (.builtin id) r)(hd:j3 X.K X.mg r g)(hm:X.mg x=none)(hv:bootBuiltins x=some (.builtin id))(ha:DA X E (e::es) fs)(hg:Gl X x:=by rfl)(hn:x≠"__name__":=by decide)(hdb:(x==("__debug__":Str))=false:=by decide)
  (he:starEach (e::es) X.env=(false,eval e X.env)::starEach es X.env:=by rfl) (hpl:(backTo pos (starEach es X.env)).any (·.1)=false:=by rfl):DE X E (.Call (.Name x p) (e::es) [] pos) (bD g fs):=by
 refine PE.mono' (CV hc hg hm hv ha hn hdb he hpl) fun U H Q ⟨G,Ud,ok,q⟩=>?_
 refine⟨G,Ud,ok,q.of_bind.mono (fun ds _ z vs G' H' s r=>?_) fun _ z=>z⟩
 obtain⟨d,e1,z⟩:=n8 z
 exact hd G' H' ds vs Q s.e r (by rw[e1];exact z.step s)
theorem EH{T:String}{r:List V->Hp->VK->Prop}{g:List D->R D}(hc:eK X (.type T) r)(hd:j3 X.K X.mg r g)(hm:X.mg x=none)(ha:DA X E (e::es) fs)(hv:bootBuiltins x=some (.type T):=by rfl)(hg:Gl X x:=by rfl)(hn:x≠"__name__":=by decide)(hdb:(x==("__debug__":Str))=false:=by decide)
  (he:starEach (e::es) X.env=(false,eval e X.env)::starEach es X.env:=by rfl) (hpl:(backTo pos (starEach es X.env)).any (·.1)=false:=by rfl):DE X E (.Call (.Name x p) (e::es) [] pos) (bD g fs):=by
 refine PE.mono' (CW hc hg hm hv ha hn hdb he hpl) fun U H Q ⟨G,Ud,ok,q⟩=>?_
 refine⟨G,Ud,ok,q.of_bind.mono (fun ds _ z vs G' H' s r=>?_) fun _ z=>z⟩
 obtain⟨d,e1,z⟩:=n8 z
 exact hd G' H' ds vs Q s.e r (by rw[e1];exact z.step s)
end
def setAll{α:Type}:List (Option α)->List Nat->List α->List (Option α)
 |U,k::ks,v::vs=>setAll (U.set k (some v)) ks vs
 |U,_,_=>U
theorem EI{α:Type}:∀(ks:List Nat) (U:List (Option α)) (vs:List α),(setAll U ks vs).length=U.length
 |[],_,_=>by unfold setAll;rfl
 |_::_,_,[]=>by unfold setAll;rfl
 |_::ks,U,_::vs=>by unfold setAll;rw[EI ks];simp
theorem EJ{α:Type}{j:Nat}:∀(ks:List Nat) (U:List (Option α)) (vs:List α),j∉ks->(setAll U ks vs)[j]? = U[j]?
 |[],_,_,_=>by unfold setAll;rfl
 |_::_,_,[],_=>by unfold setAll;rfl
 |k::ks,U,_::vs,h=>by
  unfold setAll
  rw[EJ ks _ vs fun z=>h (xat _ z),xaf (fun z=>h (by rw[<- z];exact xba))]
def tG(K:xFg)(mg:Str->Option Value)(ks:List Nat)(gp:D->R (List D)):TG:=fun v U H Q=>∃G d,Same G H/\aS K mg G d v/\RW (gp d) (fun us=>∀ws,Reps K mg G us ws->Q (setAll U ks ws) H) (fun _=>False)
def DG(X:Cx)(tg:Expr)(ks:List Nat)(gp:D->R (List D)):Prop:=PG X tg (tG X.K X.mg ks gp)
def bK:D->R (List D):=fun d=>.ok [d]
def eN(n:Nat):D->R (List D)
 |.tup ds=>bif ds.length==n then .ok ds else .bad
 |.lst ds=>bif ds.length==n then .ok ds else .bad
 |_=>.bad
section
variable{X:Cx}{pos:Pos}
theorem PG.mono'{tg:Expr}{t t':TG}(h:PG X tg t)(m:∀v U H Q,t' v U H Q->t v U H Q):PG X tg t':=fun pins s U H v u Q I r q=>h pins s U H v u Q I r (m v U H Q q)
theorem PG.or{tg:Expr}{t t':TG}(h:PG X tg t)(h':PG X tg t'):PG X tg (fun v U H Q=>t v U H Q\/t' v U H Q):=fun pins s U H v u Q I r q=>by
 rcases q with q|q
 ·exact h pins s U H v u Q I r q
 ·exact h' pins s U H v u Q I r q
theorem XR(i:Nat){x:Str}(hN:X.N.Nodup)(hi:X.N[i]? = some x:=by rfl)(hx:fB X.env.scope x:=by first|exact Or.inl rfl|exact Or.inr rfl)(hf:X.fn x=true\/X.env.scope.names.lookup x=some .local:=by first|exact .inl rfl|exact .inr rfl|assumption):DG X (.Name x pos) [i] bK:=
 PG.mono' (wA hN hi hx hf) fun v U H Q ⟨G,d,e,r,q⟩=>by
  have q':=(show ∀ws,Reps X.K X.mg G [d] ws->Q (setAll U [i] ws) H from q) [v] (Reps.cons r Reps.nil)
  exact q'
def xK:List Nat->i6
 |[]=>BZ
 |i::r=>B2 (lN i) (xK r)
theorem xL:∀(ks:List Nat) (vs:List V) (U:St) (H:Hp) (Q:St->Hp->Prop),vs.length=ks.length->Q (setAll U ks vs) H->xK ks vs U H Q
 |[],[],_,_,_,_,q=>⟨rfl,q⟩
 |i::r,v::vs,U,H,Q,hl,q=>⟨v,vs,rfl,xL r vs _ H Q (by simpa using hl) q⟩
theorem XS{es:List Expr}{k:Nat}(ks:List Nat)(n:Nat)(hc:X.calm=true)(h:nJ X es (xK ks))(hk:ks.length=n:=by rfl)
  (hn:(assignEach es X.env).length=n:=by rfl) (hst:(assignEach es X.env).findIdx? (·.1)=none:=by rfl):DG X (.Tuple es k pos) ks (eN n):=by
 refine PG.mono' (PG.or (SD hc h hn hst) (VZ hc h hn hst)) fun v U H Q ⟨G,d,e,r,q⟩=>?_
 cases d with
 |tup ds=>
  obtain⟨a,vs,rfl,h1,h2⟩:=r
  by_cases hd:ds.length=n
  ·have q':∀ws,Reps X.K X.mg G ds ws->Q (setAll U ks ws) H:=by
    simp only[eN,hd,beq_self_eq_true,cond_true] at q;exact q
   exact .inl ⟨a,vs,rfl,Same.sqT e h1,by rw[<- h2.length];exact hd,xL ks vs U H Q (by rw[<- h2.length,hd,hk]) (q' vs h2)⟩
  ·have:(ds.length==n)=false:=by simpa using hd
   simp only[eN,this,cond_false] at q;exact q.elim
 |lst ds=>
  obtain⟨a,vs,rfl,h1,h2⟩:=r
  by_cases hd:ds.length=n
  ·have q':∀ws,Reps X.K X.mg G ds ws->Q (setAll U ks ws) H:=by
    simp only[eN,hd,beq_self_eq_true,cond_true] at q;exact q
   exact .inr ⟨a,vs,rfl,e.seq h1,by rw[<- h2.length];exact hd,xL ks vs U H Q (by rw[<- h2.length,hd,hk]) (q' vs h2)⟩
  ·have:(ds.length==n)=false:=by simpa using hd
   simp only[eN,this,cond_false] at q;exact q.elim
 |_=>exact(show False from q).elim
end
theorem bO.setAll{K:xFg}{mg:Str->Option Value}{G H:Hp}:∀{ks:List Nat} {us:List D} {ws:List V} {Ud:DSt} {U:St},bO K mg Ud U G H->Reps K mg G us ws->bO K mg (setAll Ud ks us) (setAll U ks ws) G H
 |[],_,_,_,_,o,_=>by unfold DL.setAll;exact o
 |_::_,[],_,_,_,o,h=>by cases h;unfold DL.setAll;exact o
 |k::ks,_::_,_,_,_,o,⟨v,r,h1,h2,h3⟩=>by subst h1;unfold DL.setAll;exact bO.setAll (o.set h2) h3
structure g6(K:xFg)(mg:Str->Option Value)(J:It)(G:Hp)(ds:List D):Prop where
 stop:∀H,Same G H->J.stop ds.length H
 turn:∀(H:Hp) (i:Nat) (d:D),Same G H->ds[i]? = some d->J.go i H/\∀x H',J.yld i H x H'->∀G1,Same G G1->Same G1 H->∃G2,Step G1 H G2 H'/\aS K mg G2 d x
def tI(K:xFg)(mg:Str->Option Value)(E:XK)(f:DSt->R (List D)):TI:=fun U H R=>∃G Ud,bO K mg Ud U G H/\RW (f Ud) (fun ds=>∀J G' H',Step G H G' H'->g6 K mg J G' ds->R J H') (bA K mg E G H)
def DI(X:Cx)(E:XK)(tg iter:Expr)(f:DSt->R (List D)):Prop:=PI X tg iter (tI X.K X.mg E f)
section
variable{X:Cx}{E:XK}{tg:Expr}
theorem PI.mono'{iter:Expr}{t t':TI}(h:PI X tg iter t)(m:∀U H R,t' U H R->t U H R):PI X tg iter t':=fun pins s U H R I q=>h pins s U H R I (m U H R q)
theorem g6.list{K:xFg}{mg:Str->Option Value}{G:Hp}{a:Addr}{vs:List V}{ds:List D}(h:aW K G a vs)(r:Reps K mg G ds vs):g6 K mg (nM K a) G ds:=by
 refine⟨fun H e=>by rw[r.length];exact(lgo (e.seq h)).1,fun H i d e hd=>?_⟩
 have hi:i<vs.length:=by rw[<- r.length];exact(xam.mp hd).1
 obtain⟨g1,g2⟩:=(lgo (e.seq h)).2 i hi
 refine⟨g1,fun x H' y G1 e1 e2=>?_⟩
 obtain⟨rfl,hx⟩:=g2 x H' y
 obtain⟨v,h1,h2⟩:=r.get hd
 rw[hx] at h1;cases h1
 exact⟨G1,.refl e2,h2.mono e1⟩
theorem g6.tup{K:xFg}{mg:Str->Option Value}{G:Hp}{a:Addr}{vs:List V}{ds:List D}(h:bJ K G a vs)(r:Reps K mg G ds vs):g6 K mg (nO K a) G ds:=by
 refine⟨fun H e=>by rw[r.length];exact(tgo (Same.sqT e h)).1,fun H i d e hd=>?_⟩
 have hi:i<vs.length:=by rw[<- r.length];exact(xam.mp hd).1
 obtain⟨g1,g2⟩:=(tgo (Same.sqT e h)).2 i hi
 refine⟨g1,fun x H' y G1 e1 e2=>?_⟩
 obtain⟨rfl,hx⟩:=g2 x H' y
 obtain⟨v,h1,h2⟩:=r.get hd
 rw[hx] at h1;cases h1
 exact⟨G1,.refl e2,h2.mono e1⟩
def eO(lo:Int)(n:Nat):List D:=(List.range n).map fun (i:Nat)=>D.int (lo+(i:Int))
theorem g6.rng{K:xFg}{mg:Str->Option Value}{G:Hp}(lo:Int)(n:Nat):g6 K mg (sM lo n) G (eO lo n):=by
 have hl:(eO lo n).length=n:=by simp[eO]
 refine⟨fun H e=>by rw[hl];exact xap _,fun H i d e hd=>?_⟩
 have hi:i<n:=by have:=(xam.mp hd).1;omega
 refine⟨hi,fun x H' y G1 e1 e2=>?_⟩
 obtain⟨rfl,rfl⟩:=y
 have:d=.int (lo+(i:Int)):=by simp[eO,hi] at hd;exact hd.symm
 subst this
 exact⟨G1,.refl e2,rfl⟩
def xM:D->R (List D)
 |.tup ds=>.ok ds
 |.lst ds=>.ok ds
 |_=>.bad
def dB(f:DSt->R D):DSt->R (List D):=fun U=>(f U).bind xM
theorem XT{l:Expr}{f:DSt->R D}(hl:DE X E l f):DI X E tg l (dB f):=by
 have hL:PI X tg l (B4 X.K (tE X.K X.mg E f)):=SN hl
 have hT:PI X tg l (B5 X.K (tE X.K X.mg E f)):=SQ hl
 intro pins s U H R I ⟨G,Ud,ok,q⟩
 cases hf:f Ud with
 |bad=>unfold dB at q;rw[hf] at q;exact(show False from q).elim
 |err e=>
  unfold dB at q;rw[hf] at q
  refine hL pins s U H R I ⟨G,Ud,ok,?_⟩
  rw[hf];exact q
 |ok d=>
  unfold dB at q;rw[hf] at q
  cases d with
  |lst ds=>
   have q':∀J G' H',Step G H G' H'->g6 X.K X.mg J G' ds->R J H':=q
   refine hL pins s U H R I ⟨G,Ud,ok,?_⟩
   rw[hf]
   rintro v G' H' st ⟨a,vs,rfl,h1,h2⟩
   exact⟨a,rfl,⟨vs,st.e.seq h1⟩,q' _ G' H' st (.list h1 h2)⟩
  |tup ds=>
   have q':∀J G' H',Step G H G' H'->g6 X.K X.mg J G' ds->R J H':=q
   refine hT pins s U H R I ⟨G,Ud,ok,?_⟩
   rw[hf]
   rintro v G' H' st ⟨a,vs,rfl,h1,h2⟩
   exact⟨a,rfl,⟨vs,Same.sqT st.e h1⟩,q' _ G' H' st (.tup h1 h2)⟩
  |_=>exact(show False from q).elim
def fY(i:Int):Bool:=Nat.blt i.natAbs 1073741824
theorem XU{i:Int}(h:fY i=true):-(2^30)<=i/\i<2^30:=by
 unfold fY at h
 rw[xdc] at h
 omega
def fH:List D->R (List D)
 |[.int j]=>bif fY j then .ok (eO 0 j.toNat) else .bad
 |_=>.bad
def XV:List D->R (List D)
 |[.int i,.int j]=>bif fY i&&fY j then .ok (eO i (j-i).toNat) else .bad
 |_=>.bad
def fZ(g:List D->R (List D))(fs:DSt->R (List D)):DSt->R (List D):=fun U=>(fs U).bind g
variable{fs:DSt->R (List D)}{a b c:Expr}{p pos:Pos}
theorem XW(hm:X.mg "range"=none)(ha:DA X E [a] fs)(hg:Gl X "range":=by rfl)(hs:starEach [a] X.env=[(false,eval a X.env)]:=by rfl):DI X E tg (.Call (.Name "range" p) [a] [] pos) (fZ fH fs):=by
 refine PI.mono' (SU hg hm ha hs) fun U H R ⟨G,Ud,ok,q⟩=>?_
 refine⟨G,Ud,ok,q.of_bind.mono (fun ds _ z vs G' H' s r=>?_) fun _ z=>z⟩
 match ds,z,r with
 |[.int j],z,r=>
  obtain rfl:=Reps.of_ints (ns:=[j]) r
  cases hj:fY j with
  |false=>simp only[fH,hj,cond_false] at z;exact z.elim
  |true=>
   simp only[fH,hj,cond_true] at z
   have:=XU hj
   exact⟨j,rfl,by omega,by omega,z _ G' H' s (.rng 0 _)⟩
end
def dY(ks:List Nat)(gp:D->R (List D))(c:DSt->R Bool)(e:DSt->R D)(U:DSt):List D->R (List D)
 |[]=>.ok []
 |d::ds=>(gp d).bind fun us=>(c (setAll U ks us)).bind fun k=>bif k then (e (setAll U ks us)).bind fun y=>(dY ks gp c e U ds).bind fun ys=>.ok (y::ys) else dY ks gp c e U ds
def most(n:Nat):Bool:=decide (n<sizeLine)
def dZ(k:Nat)(ks:List Nat)(fi:DSt->R (List D))(gp:D->R (List D))(c:DSt->R Bool)(e:DSt->R D):DSt->R (List D):=fun U=>(fi U).bind fun ds=>bif most ds.length then (dY ks gp c e (List.replicate k none++U) ds).noerr else .bad
def cQ:DSt->R Bool:=fun _=>.ok true
def qD(X:Cx)(E:XK)(cs:List Expr)(f:DSt->R Bool):Prop:=jA X cs (tT X.K X.mg E f)
theorem jA.mono'{X:Cx}{cs:List Expr}{t t':TT}(h:jA X cs t)(m:∀U H Q,t' U H Q->t U H Q):jA X cs t':=fun pins s U H Q I q=>h pins s U H Q I (m U H Q q)
theorem k6{X:Cx}{E:XK}:qD X E [] cQ:=jA.mono' VM fun U H Q ⟨G,Ud,ok,q⟩=>(show jX Q G H true from q) G H (.refl ok.ext)
theorem XY{X:Cx}{E:XK}{c:Expr}{f:DSt->R Bool}(h:DT X E c f):qD X E [c] f:=VN h
theorem RW.ok_of{α:Type}{r:R α}{a:α}{Q:α->Prop}{E:D->Prop}(e:r=.ok a)(h:Q a):RW r Q E:=by rw[e];exact h
theorem tN{α β:Type}{r:R α}{k:α->R β}{b:β}(h:r.bind k=.ok b):∃a,r=.ok a/\k a=.ok b:=by
 cases r with
 |ok a=>exact⟨a,rfl,h⟩
 |err e=>cases h
 |bad=>cases h
section
variable{X:Cx}{E:XK}{tg elt iter:Expr}{ifs:List Expr}{scope:Scope}{pos:Pos}{NY:List Str}{k:Nat}{ks:List Nat}{fi:DSt->R (List D)}{gp:D->R (List D)}{fc:DSt->R Bool}{fe:DSt->R D}
theorem XZ{k:Nat}{ks:List Nat}{U:St}(h:ks.all (fun i=>decide (i<k))=true)(ws:List V):wT (List.replicate k none++U) (setAll (List.replicate k none++U) ks ws):=by
 refine⟨EI _ _ _,fun j v e=>?_⟩
 rw[EJ _ _ _ fun hj=>?_]
 ·exact e
 ·have hk:j<k:=xa0 (xbn.mp h j hj)
  rw[xbh (by simpa using hk),xcd,xao hk] at e
  cases e
theorem EK{te:TE}{tc:TT}(hk:ks.all (fun i=>decide (i<k))=true){U:St}{H:Hp}{Q:VK}
  (h:tH X.K X.mg E (dZ k ks fi gp fc fe) U H Q):sY k (tI X.K X.mg E fi) (tG X.K X.mg ks gp) (tT X.K X.mg E0 fc) (tE X.K X.mg E0 fe) U H Q:=by
 obtain⟨G,Ud,ok,q⟩:=h
 refine⟨G,Ud,ok,q.of_bind.mono (fun ds _ z J G1 H1 s1 it=>?_) fun _ z=>z⟩
 cases hm:most ds.length with
 |false=>rw[hm] at z;exact(show False from z).elim
 |true=>
  rw[hm] at z
  obtain⟨tot,ht,z⟩:=n8 (show RW (dY ks gp fc fe (List.replicate k none++Ud) ds).noerr _ _ from z)
  have hlt:ds.length<sizeLine:=xa0 hm
  have ok1:=ok.step s1
  refine⟨fun i m ys H'=>m=ds.length-i/\i<=ds.length/\∃G' yd aK,Step G1 H1 G' H'/\Reps X.K X.mg G' yd ys/\yd.length<=i/\dY ks gp fc fe (List.replicate k none++Ud) (ds.drop i)=.ok aK/\tot=yd++aK,
   ⟨ds.length,by simp,xbi _,G1,[],tot,.refl ok1.ext,Reps.nil,xbi _,ht,rfl⟩,?_⟩
  rintro i m ys H' ⟨rfl,hi,G',yd,aK,s,r,hyl,hr,rfl⟩
  refine⟨by rw[<- r.length];omega,?_⟩
  by_cases hlt2:i<ds.length
  ·right
   obtain⟨d,hd⟩:∃d,ds[i]? = some d:=⟨ds[i],by simp[hlt2]⟩
   obtain⟨g1,g2⟩:=it.turn H' i d (s.g.trans s.e) hd
   have hdrop:ds.drop i=d::ds.drop (i+1):=by
    rw[xb8 hlt2]
    congr 1
    exact xas ((xa7 hlt2).symm.trans hd)
   rw[hdrop] at hr
   refine⟨g1,fun ys' H''=>∃G' yd aK,Step G1 H1 G' H''/\Reps X.K X.mg G' yd ys'/\yd.length<=i+1/\dY ks gp fc fe (List.replicate k none++Ud) (ds.drop (i+1))=.ok aK/\_=yd++aK,fun ys' H'' h=>⟨ds.length-(i+1),by omega,rfl,hlt2,h⟩,fun v H'' hy=>?_⟩
   obtain⟨G2,s2,rv⟩:=g2 v H'' hy G' s.g s.e
   unfold dY at hr
   obtain⟨us,e1,hr⟩:=tN hr
   obtain⟨kk,e2,hr⟩:=tN hr
   have s12:=s.trans s2
   have okN:bO X.K X.mg (List.replicate k none++Ud) (List.replicate k none++U) G2 H'':=(ok1.step s12).nones k
   refine⟨G2,d,s2.e,rv,RW.ok_of e1 fun ws rws=>⟨XZ hk ws,?_⟩⟩
   have okS:=okN.setAll (ks:=ks) rws
   refine⟨G2,_,okS,RW.ok_of e2 fun G3 H3 s3=>?_⟩
   cases kk with
   |false=>
    rw[xal xa8]
    exact⟨G3,yd,aK,s12.trans s3,r.mono (s2.g.trans s3.g),by omega,hr,rfl⟩
   |true=>
    rw[xao rfl]
    obtain⟨y,e3,hr⟩:=tN (show (fe (setAll (List.replicate k none++Ud) ks us)).bind _=_ from hr)
    obtain⟨ys2,e4,hr⟩:=tN hr
    cases hr
    refine⟨G3,_,okS.step s3,RW.ok_of e3 fun w G4 H4 s4 r4=>?_⟩
    exact⟨G4,yd++[y],ys2,(s12.trans s3).trans s4,(r.mono ((s2.g.trans s3.g).trans s4.g)).append (Reps.cons r4 Reps.nil),by simp;omega,e4,by simp⟩
  ·left
   have hi2:i=ds.length:=by omega
   subst hi2
   refine⟨it.stop H' (s.g.trans s.e),fun Dd hD=>?_⟩
   rw[xc5] at hr
   have hre:aK=[]:=by unfold dY at hr;cases hr;rfl
   subst hre
   rw[xb5] at z
   have st:=(s1.trans s)
   exact z Dd ys G' _ (st.trans (.hid st.e hD)) (st.h.free hD) aV (st.e.free hD) r
theorem k7(C:X.calm=true)(lc:LC X k scope NY)(hk:ks.all (fun i=>decide (i<k))=true)(hi:DI X E tg iter fi)
  (hb:∀(s₀:Shared) (H₀:Hp) (C:Addr) (ex:List Addr),NY.Nodup->DG (cJ X scope NY s₀ H₀ C ex) tg ks gp/\qD (cJ X scope NY s₀ H₀ C ex) E0 ifs fc/\DE (cJ X scope NY s₀ H₀ C ex) E0 elt fe)
  (hs:∀x,foldedSetIterable iter X.env x=pure x:=by intro _;rfl):DF X E (.ListComp elt [⟨tg,iter,ifs,0⟩] scope pos) (dZ k ks fi gp fc fe):=
 PE.mono' (VS (g:=tG X.K X.mg ks gp) (tc:=tT X.K X.mg E0 fc) (te:=tE X.K X.mg E0 fe) C lc hi (fun s0 H0 Ca ex nd=>hb s0 H0 Ca ex nd) hs) fun _ _ _ h=>EK (te:=tE X.K X.mg E0 fe) (tc:=tT X.K X.mg E0 fc) hk h
end
end DL
namespace DL
open L2
mutual
def imm:D->Bool
 |.lst _=>false
 |.dct _ _=>false
 |.tup ds=>imms ds
 |.exc _ as=>imms as
 |.non=>true
 |.bl _=>true
 |.int _=>true
 |.str _=>true
 |.ty _=>true
 |.cls _=>true
def imms:List D->Bool
 |[]=>true
 |d::ds=>imm d&&imms ds
end
def qE(G G':Hp):Prop:=∀a o,G a=some o->(∀xs,o≠.lst xs)->G' a=some o
section
variable{K:xFg}{mg:Str->Option Value}{G G' H H' H0:Hp}
theorem qE.sqT{a:Addr}{xs:List V}(e:qE G G')(h:bJ K G a xs):bJ K G' a xs:=by
 rcases h with (h|⟨o,h⟩)|h
 ·exact .inl (.inl (e _ _ h fun xs z=>by cases z))
 ·exact .inl (.inr ⟨o,e _ _ h fun xs z=>by cases z⟩)
 ·exact .inr h
mutual
theorem aS.imm(e:qE G G'):∀{d:D} {v:V},imm d=true->aS K mg G d v->aS K mg G' d v
 |.non,_,_,h=>h
 |.bl _,_,_,h=>h
 |.int _,_,_,h=>h
 |.str _,_,_,h=>h
 |.ty _,_,_,h=>h
 |.cls _,_,_,h=>h
 |.tup _,_,i,⟨a,vs,h1,h2,h3⟩=>⟨a,vs,h1,e.sqT h2,Reps.imm e (by unfold DL.imm at i;exact i) h3⟩
 |.lst _,_,i,_=>by unfold DL.imm at i;cases i
 |.dct _ _,_,i,_=>by unfold DL.imm at i;cases i
 |.exc _ _,_,i,⟨x,C,dct,vs,h1,h2,h3,h4,h5⟩=>⟨x,C,dct,vs,h1,e _ _ h2 fun xs z=>(by unfold pT at z;cases z),h3,by
   rcases h4 with h|⟨dx,v,q1,q2,q3⟩
   ·exact .inl h
   ·exact .inr ⟨dx,v,q1,q2,e _ _ q3 fun xs z=>by cases z⟩,Reps.imm e (by unfold DL.imm at i;exact i) h5⟩
theorem Reps.imm(e:qE G G'):∀{ds:List D} {vs:List V},imms ds=true->Reps K mg G ds vs->Reps K mg G' ds vs
 |[],_,_,h=>h
 |_::_,_,i,⟨v,r,h1,h2,h3⟩=>by
  unfold imms at i
  rw[xau] at i
  exact⟨v,r,h1,aS.imm e i.1 h2,Reps.imm e i.2 h3⟩
end
end
structure Ok(K:xFg)(mg:Str->Option Value)(H0:Hp)(own:List Nat)(Ud:DSt)(U:St)(G H:Hp):Prop where
 ext:Same G H
 len:Ud.length=U.length
 val:∀(i:Nat) (d:D),i∉own->Ud[i]? = some (some d)->∃v,U[i]? = some (some v)/\aS K mg G d v
 mine:∀(i:Nat) (d:D),i∈own->Ud[i]? = some (some d)->∃a ds vs,U[i]? = some (some (.ref a))/\d=.lst ds/\H a=some (.lst vs)/\G a=none/\H0 a=none/\Reps K mg G ds vs
 dj:∀(i j:Nat) (a:Addr) (d d':D),i∈own->j∈own->Ud[i]? = some (some d)->Ud[j]? = some (some d')->U[i]? = some (some (.ref a))->U[j]? = some (some (.ref a))->i=j
def hU(own:List Nat):Nat->DSt->DSt
 |_,[]=>[]
 |i,d::ds=>(bif own.contains i then none else d)::hU own (i+1) ds
def mask(own:List Nat)(U:DSt):DSt:=hU own 0 U
theorem EL{own:List Nat}:∀(U:DSt) (k i:Nat) (d:D),(hU own k U)[i]? = some (some d)->k+i∉own/\U[i]? = some (some d)
 |[],_,_,_,h=>by unfold hU at h;simp at h
 |x::U,k,0,d,h=>by
  unfold hU at h
  simp only[xbp,Option.some.injEq] at h
  cases hc:own.contains k with
  |true=>rw[hc] at h;cases h
  |false=>
   rw[hc] at h
   have h':x=some d:=h
   subst h'
   exact⟨by simpa using hc,rfl⟩
 |x::U,k,i+1,d,h=>by
  unfold hU at h
  have:=EL U (k+1) i d (by simpa using h)
  rw[show k+(i+1)=k+1+i by omega]
  exact⟨this.1,by simpa using this.2⟩
theorem EM{own:List Nat}:∀(U:DSt) (k:Nat),(hU own k U).length=U.length
 |[],_=>rfl
 |_::U,k=>by unfold hU;simp[EM U]
def tP(own:List Nat)(Ud:DSt)(U:St)(b:Addr):Prop:=∃i d,i∈own/\Ud[i]? = some (some d)/\U[i]? = some (some (.ref b))
open Classical in
noncomputable def gH(own:List Nat)(Ud:DSt)(U:St)(G H:Hp):Hp:=fun b=>if tP own Ud U b then H b else G b
open Classical in
noncomputable def n9(own:List Nat)(Ud:DSt)(U:St)(G:Hp):Hp:=fun b=>if tP own Ud U b then none else G b
section
variable{K:xFg}{mg:Str->Option Value}{G G' G0 H H' H0:Hp}{own:List Nat}{Ud:DSt}{U:St}
theorem Ok.masked(o:Ok K mg H0 own Ud U G H):bO K mg (mask own Ud) U G H:=
 ⟨o.ext, by unfold mask; rw [EM]; exact o.len, fun i d h => by
  have:=EL Ud 0 i d h
  rw[xdd] at this
  exact o.val i d this.1 this.2⟩
theorem Ok.zero(o:bO K mg Ud U G H):Ok K mg H0 [] Ud U G H:=
 ⟨o.ext,o.len,fun i d _ h=>o.val i d h,fun i d h=>xaq h (by simp),fun i j a d d' h=>xaq h (by simp)⟩
theorem Ok.step(o:Ok K mg H0 own Ud U G H)(s:Step G H G' H'):Ok K mg H0 own Ud U G' H':=
 ⟨s.e, o.len, fun i d hi h => let ⟨v, h1, h2⟩ := o.val i d hi h; ⟨v, h1, h2.mono s.g⟩, fun i d hi h => by
  obtain⟨a,ds,vs,h1,h2,h3,h4,h5,h6⟩:=o.mine i d hi h
  exact⟨a,ds,vs,h1,h2,s.h _ _ h3,s.c _ _ h3 h4,h5,h6.mono s.g⟩,o.dj⟩
theorem Ok.notOwn(o:Ok K mg H0 own Ud U G H){b:Addr}{u:HO}(h:G b=some u):¬tP own Ud U b:=by
 rintro⟨i,d,h1,h2,h3⟩
 obtain⟨a,ds,vs,q1,q2,q3,q4,_⟩:=o.mine i d h1 h2
 rw[q1] at h3
 cases h3
 rw[q4] at h;cases h
theorem Ok.ownLst(o:Ok K mg H0 own Ud U G H){b:Addr}(h:tP own Ud U b):(∃vs,H b=some (.lst vs))/\G b=none/\H0 b=none:=by
 obtain⟨i,d,h1,h2,h3⟩:=h
 obtain⟨a,ds,vs,q1,q2,q3,q4,q5,_⟩:=o.mine i d h1 h2
 rw[q1] at h3
 cases h3
 exact⟨⟨vs,q3⟩,q4,q5⟩
theorem Ok.pub(o:Ok K mg H0 own Ud U G H):bO K mg Ud U (gH own Ud U G H) H/\Same G (gH own Ud U G H):=by
 have sg:Same G (gH own Ud U G H):=fun b u h=>by unfold gH;rw[xal (o.notOwn h)];exact h
 refine⟨⟨fun b u h=>?_,o.len,fun i d h=>?_⟩,sg⟩
 ·unfold gH at h
  split at h
  ·exact h
  ·exact o.ext b u h
 ·by_cases hi:i∈own
  ·obtain⟨a,ds,vs,q1,rfl,q3,q4,q5,q6⟩:=o.mine i d hi h
   refine⟨_,q1,a,vs,rfl,aW.of ?_,q6.mono sg⟩
   unfold gH
   rw[xao ⟨i,_,hi,h,q1⟩];exact q3
  ·obtain⟨v,h1,h2⟩:=o.val i d hi h
   exact⟨v,h1,h2.mono sg⟩
theorem Ok.pubStep(o:Ok K mg H0 own Ud U G H)(s0:Step G0 H0 G H):Step G0 H0 (gH own Ud U G H) H:=by
 refine⟨s0.g.trans o.pub.2,s0.h,o.pub.1.ext,fun b u h1 h2=>?_⟩
 unfold gH
 rw[xal fun z=>by rw[(o.ownLst z).2.2] at h1;cases h1]
 exact s0.c b u h1 h2
theorem Ok.drop(o:Ok K mg H0 own Ud U G H)(s:Same H H'):Ok K mg H0 own Ud U G H':=
 o.step (.heap o.ext s)
theorem Ok.hide(o:Ok K mg H0 own Ud U G H)(s:Step (gH own Ud U G H) H G' H'):Step G H (n9 own Ud U G') H'/\qE G' (n9 own Ud U G'):=by
 refine⟨⟨fun b u h=>?_,s.h,fun b u h=>?_,fun b u h1 h2=>?_⟩,fun b u h1 h2=>?_⟩
 ·unfold n9
  rw[xal (o.notOwn h)]
  exact s.g b u (o.pub.2 b u h)
 ·unfold n9 at h
  split at h
  ·cases h
  ·exact s.e b u h
 ·unfold n9
  split
  ·rfl
  ·rename_i n
   refine s.c b u h1 ?_
   unfold gH
   rw[xal n];exact h2
 ·unfold n9
  rw[xal fun z=>?_]
  ·exact h1
  ·obtain⟨⟨vs,q⟩,_⟩:=o.ownLst z
   have:gH own Ud U G H b=some (.lst vs):=by unfold gH;rw[xao z];exact q
   have:=s.g b _ this
   rw[h1] at this;cases this
   exact h2 vs rfl
theorem qF{α:Type}{l:List (Option α)}{i:Nat}{x d:α}(h:(l.set i (some x))[i]? = some (some d)):d=x/\i<l.length:=by
 have hl:i<l.length:=by have:=(xam.mp h).1;simpa using this
 rw[xa2 hl] at h
 cases h
 exact⟨rfl,hl⟩
theorem Ok.set{i:Nat}{d:D}{v:V}(o:Ok K mg H0 own Ud U G H)(hi:i∉own)(h:aS K mg G d v):Ok K mg H0 own (Ud.set i (some d)) (U.set i (some v)) G H:=by
 have ne:∀{j:Nat},j∈own->j≠i:=fun hj z=>hi (z▸hj)
 refine⟨o.ext,by simp[o.len],fun j e hj q=>?_,fun j e hj q=>?_,fun j k a d1 d2 h1 h2 h3 h4 h5 h6=>?_⟩
 ·by_cases hji:j=i
  ·subst hji
   obtain⟨rfl,hl⟩:=qF q
   exact⟨v,by rw[xa2 (by rw[<- o.len];exact hl)],h⟩
  ·rw[xaf (xa5 hji)] at q ⊢
   exact o.val j e hj q
 ·rw[xaf (xa5 (ne hj))] at q ⊢
  exact o.mine j e hj q
 ·rw[xaf (xa5 (ne h1))] at h3 h5
  rw[xaf (xa5 (ne h2))] at h4 h6
  exact o.dj j k a d1 d2 h1 h2 h3 h4 h5 h6
theorem Ok.setAll:∀{ks:List Nat} {us:List D} {ws:List V} {Ud:DSt} {U:St},Ok K mg H0 own Ud U G H->(∀k∈ks,k∉own)->Reps K mg G us ws->Ok K mg H0 own (DL.setAll Ud ks us) (DL.setAll U ks ws) G H
 |[],_,_,_,_,o,_,_=>by unfold DL.setAll;exact o
 |_::_,[],_,_,_,o,_,h=>by cases h;unfold DL.setAll;exact o
 |k::ks,_::_,_,_,_,o,hk,⟨v,r,h1,h2,h3⟩=>by
  subst h1;unfold DL.setAll
  exact Ok.setAll (o.set (hk k xba) h2) (fun j hj=>hk j (xat _ hj)) h3
theorem Ok.new{i:Nat}{ds:List D}{vs:List V}{a:Addr}{own':List Nat}(o:Ok K mg H0 own Ud U G H)(s:Step G H G' H')(n:H a=none)(e:H' a=some (.lst vs))(g:G' a=none)(n0:H0 a=none)(r:Reps K mg G' ds vs)
  (hown:∀j,j∈own'↔j=i\/j∈own):Ok K mg H0 own' (Ud.set i (some (.lst ds))) (U.set i (some (.ref a))) G' H':=by
 have o':=o.step s
 have away:∀{j:Nat} {d:D},j∈own->j≠i->Ud[j]? = some (some d)->U[j]? = some (some (.ref a))->False:=fun {j d} hj _ hd hs=>by
  obtain⟨b,_,_,q1,_,q3,_⟩:=o.mine j d hj hd
  rw[q1] at hs;cases hs
  rw[n] at q3;cases q3
 refine⟨o'.ext,by simp[o.len],fun j d hj q=>?_,fun j d hj q=>?_,fun j k b d1 d2 h1 h2 h3 h4 h5 h6=>?_⟩
 ·have hji:j≠i:=fun z=>hj ((hown j).mpr (.inl z))
  rw[xaf (xa5 hji)] at q ⊢
  exact o'.val j d (fun z=>hj ((hown j).mpr (.inr z))) q
 ·by_cases hji:j=i
  ·subst hji
   obtain⟨rfl,hl⟩:=qF q
   exact⟨a,ds,vs,by rw[xa2 (by rw[<- o.len];exact hl)],rfl,e,g,n0,r⟩
  ·rw[xaf (xa5 hji)] at q ⊢
   exact o'.mine j d (((hown j).mp hj).resolve_left hji) q
 ·by_cases hji:j=i
  ·by_cases hki:k=i
   ·rw[hji,hki]
   ·subst hji
    obtain⟨rfl,hl⟩:=qF h3
    rw[xa2 (by rw[<- o.len];exact hl)] at h5
    cases h5
    rw[xaf (xa5 hki)] at h4 h6
    exact(away (((hown k).mp h2).resolve_left hki) hki h4 h6).elim
  ·by_cases hki:k=i
   ·subst hki
    obtain⟨rfl,hl⟩:=qF h4
    rw[xa2 (by rw[<- o.len];exact hl)] at h6
    cases h6
    rw[xaf (xa5 hji)] at h3 h5
    exact(away (((hown j).mp h1).resolve_left hji) hji h3 h5).elim
   ·rw[xaf (xa5 hji)] at h3 h5
    rw[xaf (xa5 hki)] at h4 h6
    exact o.dj j k b d1 d2 (((hown j).mp h1).resolve_left hji) (((hown k).mp h2).resolve_left hki) h3 h4 h5 h6
theorem Ok.write{i:Nat}{d:D}{ds:List D}{vs:List V}{a:Addr}(o:Ok K mg H0 own Ud U G H)(hi:i∈own)(hd:Ud[i]? = some (some d))(ha:U[i]? = some (some (.ref a)))(r:Reps K mg G ds vs) :
  Ok K mg H0 own (Ud.set i (some (.lst ds))) U G (upd H a (.lst vs)):=by
 obtain⟨b,ds0,vs0,q1,q2,q3,q4,q5,q6⟩:=o.mine i d hi hd
 rw[ha] at q1;cases q1
 have hl:i<Ud.length:=(xam.mp hd).1
 refine⟨fun b u h=>?_,by simp[o.len],fun j e hj q=>?_,fun j e hj q=>?_,fun j k b d1 d2 h1 h2 h3 h4 h5 h6=>?_⟩
 ·rw[aG (bN h q4)];exact o.ext b u h
 ·have hji:j≠i:=fun z=>hj (z▸hi)
  rw[xaf (xa5 hji)] at q
  exact o.val j e hj q
 ·by_cases hji:j=i
  ·subst hji
   obtain⟨rfl,_⟩:=qF q
   exact⟨a,ds,vs,ha,rfl,aV,q4,q5,r⟩
  ·rw[xaf (xa5 hji)] at q
   obtain⟨c,es,ws,p1,p2,p3,p4⟩:=o.mine j e hj q
   have hc:c≠a:=fun z=>by subst z;exact hji (o.dj j i c e d hj hi q hd p1 ha)
   exact⟨c,es,ws,p1,p2,by rw[aG hc];exact p3,p4⟩
 ·have back:∀{j:Nat} {e:D},(Ud.set i (some (.lst ds)))[j]? = some (some e)->∃e',Ud[j]? = some (some e'):=fun {j e} q=>by
   by_cases hji:j=i
   ·exact⟨d,hji▸hd⟩
   ·rw[xaf (xa5 hji)] at q;exact⟨e,q⟩
  obtain⟨e1,h3⟩:=back h3
  obtain⟨e2,h4⟩:=back h4
  exact o.dj j k b e1 e2 h1 h2 h3 h4 h5 h6
theorem Step.write{a:Addr}{o u:HO}(s0:Step G0 H0 G H)(n:H0 a=none)(g:G a=none):Step G0 H0 G (upd H a u):=
 ⟨s0.g,fun b v h=>by rw[aG (bN h n)];exact s0.h b v h,fun b v h=>by rw[aG (bN h g)];exact s0.e b v h,s0.c⟩
theorem Ok.release{i:Nat}{own':List Nat}(o:Ok K mg H0 own Ud U G H)(s0:Step G0 H0 G H)(hi:i∈own)(hown:∀j,j∈own'↔j≠i/\j∈own):∃G',Ok K mg H0 own' Ud U G' H/\Step G0 H0 G' H/\Same G G':=by
 by_cases hb:∃d,Ud[i]? = some (some d)
 ·obtain⟨d,hd⟩:=hb
  obtain⟨a,ds,vs,q1,rfl,q3,q4,q5,q6⟩:=o.mine i d hi hd
  have sg:Same G (upd G a (.lst vs)):=same_upd q4
  have eh:Same (upd G a (.lst vs)) H:=fun b u h=>by
   by_cases hb:b=a
   ·subst hb;rw[aV] at h;cases h;exact q3
   ·rw[aG hb] at h;exact o.ext b u h
  refine⟨upd G a (.lst vs),⟨eh,o.len,fun j e hj q=>?_,fun j e hj q=>?_,fun j k b d1 d2 h1 h2 h3 h4 h5 h6=>?_⟩,⟨s0.g.trans sg,s0.h,eh,fun b u h1 h2=>?_⟩,sg⟩
  ·by_cases hji:j=i
   ·subst hji
    rw[hd] at q;cases q
    exact⟨_,q1,a,vs,rfl,aW.of aV,q6.mono sg⟩
   ·obtain⟨v,h1,h2⟩:=o.val j e (fun z=>hj ((hown j).mpr ⟨hji,z⟩)) q
    exact⟨v,h1,h2.mono sg⟩
  ·obtain⟨hji,hj'⟩:=(hown j).mp hj
   obtain⟨c,es,ws,p1,p2,p3,p4,p5,p6⟩:=o.mine j e hj' q
   have hc:c≠a:=fun z=>by subst z;exact hji (o.dj j i c e _ hj' hi q hd p1 q1)
   exact⟨c,es,ws,p1,p2,p3,by rw[aG hc];exact p4,p5,p6.mono sg⟩
  ·exact o.dj j k b d1 d2 ((hown j).mp h1).2 ((hown k).mp h2).2 h3 h4 h5 h6
  ·rw[aG (bN h1 q5)];exact s0.c b u h1 h2
 ·refine⟨G,⟨o.ext,o.len,fun j e hj q=>?_,fun j e hj q=>o.mine j e ((hown j).mp hj).2 q,fun j k b d1 d2 h1 h2=>o.dj j k b d1 d2 ((hown j).mp h1).2 ((hown k).mp h2).2⟩,s0,Same.refl _⟩
  have hji:j≠i:=fun z=>hb ⟨e,z▸q⟩
  exact o.val j e (fun z=>hj ((hown j).mpr ⟨hji,z⟩)) q
end
inductive aD where
 |nx (U:DSt)|rt (d:D)|bk (U:DSt)|ct (U:DSt)|rf (ds:List D)
section
variable(K:xFg)(mg:Str->Option Value)(E:XK)
def bG(G0 H0:Hp)(own' ol:List Nat)(Dn:iM)(G:Hp):aD->Prop
 |.nx Ud'=>∀U' G' H',Ok K mg H0 own' Ud' U' G' H'->Step G0 H0 G' H'->Same G G'->Dn.nx U' H'
 |.bk Ud'=>∀U' G' H',Ok K mg H0 ol Ud' U' G' H'->Step G0 H0 G' H'->Same G G'->Dn.bk U' H'
 |.ct Ud'=>∀U' G' H',Ok K mg H0 ol Ud' U' G' H'->Step G0 H0 G' H'->Same G G'->Dn.ct U' H'
 |.rt d=>∀v G' H',Step G0 H0 G' H'->aS K mg G' d v->Dn.rt v H'
 |.rf ds=>∀a vs G' H',Step G0 H0 G' H'->H0 a=none->H' a=some (.lst vs)->G' a=none->Reps K mg G' ds vs->Dn.rt (.ref a) H'
def tS(G0 H0:Hp)(own own' ol:List Nat)(f:DSt->R aD):TS:=fun Dn U H=>∃G Ud,Ok K mg H0 own Ud U G H/\Step G0 H0 G H/\RW (f Ud) (bG K mg G0 H0 own' ol Dn G) (bA K mg E G0 H0)
end
theorem bG.shift{K:xFg}{mg:Str->Option Value}{G0 H0 G G':Hp}{own' ol:List Nat}{Dn:iM}(s:Same G G'){o:aD}(h:bG K mg G0 H0 own' ol Dn G o):bG K mg G0 H0 own' ol Dn G' o:=by
 cases o with
 |nx _=>exact fun a b c d e f=>h a b c d e (s.trans f)
 |bk _=>exact fun a b c d e f=>h a b c d e (s.trans f)
 |ct _=>exact fun a b c d e f=>h a b c d e (s.trans f)
 |rt _=>exact h
 |rf _=>exact h
def DS(X:Cx)(E:XK)(own own' ol:List Nat)(st:Stmt)(f:DSt->R aD):Prop:=∀G0,PS X st (tS X.K X.mg E G0 X.H₀ own own' ol f)
def eV(X:Cx)(E:XK)(own own' ol:List Nat)(st:List Stmt)(f:DSt->R aD):Prop:=∀G0,cB X st (tS X.K X.mg E G0 X.H₀ own own' ol f)
def aM(f g:DSt->R aD):DSt->R aD:=fun U=>(f U).bind fun o=>match o with
 |.nx U'=>g U'
 |o=>.ok o
def dE:DSt->R aD:=fun U=>.ok (.nx U)
section
variable{X:Cx}{E:XK}{own own1 own2 own' ol:List Nat}{st:Stmt}{aK:List Stmt}{f g:DSt->R aD}{pos:Pos}
theorem iR:eV X E own own ol [] dE:=fun G0=>cB.mono' nI fun Dn U H ⟨G,Ud,ok,s0,q⟩=>(show bG X.K X.mg G0 X.H₀ own ol Dn G (.nx Ud) from q) U G H ok s0 (Same.refl _)
theorem aO(h1:DS X E own own1 ol st f)(h2:eV X E own1 own2 ol aK g):eV X E own own2 ol (st::aK) (aM f g):=fun G0=>cB.mono' (cX (h1 G0) (h2 G0)) fun Dn U H ⟨G,Ud,ok,s0,q⟩=>by
 refine⟨G,Ud,ok,s0,q.of_bind.mono (fun o _ z=>?_) fun _ z=>z⟩
 cases o with
 |nx σ1=>
  intro U' G' H' ok' s' e'
  exact⟨G',σ1,ok',s',(show RW (g σ1) _ _ from z).mono (fun o _ z=>z.shift e') fun _ z=>z⟩
 |rt d=>exact z
 |rf d=>exact z
 |bk d=>exact z
 |ct d=>exact z
theorem dG(h1:DS X E own own1 ol st f):eV X E own own1 ol [st] f:=fun G0=>gX (h1 G0)
theorem k8(i:Nat)(hi:own.contains i=true)(ho:own'=own.filter fun j=>j != i)(h:eV X E own' own2 ol aK g):eV X E own own2 ol aK g:=fun G0=>cB.mono' (h G0) fun Dn U H ⟨G,Ud,ok,s0,q⟩=>by
 obtain⟨G',ok',s',e'⟩:=ok.release (i:=i) (own':=own') s0 (by simpa using hi) fun j=>by subst ho;simp[and_comm]
 exact⟨G',Ud,ok',s',q.mono (fun o _ z=>z.shift e') fun _ z=>z⟩
def bP(fe:DSt->R D):DSt->R aD:=fun U=>(fe U).bind fun d=>.ok (.rt d)
theorem qG{e:Expr}{fe:DSt->R D}(h:DE X E e fe):DS X E own own' ol (.Return (some e) pos) (bP fe):=fun G0=>PS.mono' (lL h) fun Dn U H ⟨G,Ud,ok,s0,q⟩=>by
 have s1:=ok.pubStep s0
 exact⟨_,Ud,ok.pub.1,q.of_bind.mono (fun d _ z v G' H' s r=>(show bG X.K X.mg G0 X.H₀ own' ol Dn G (.rt d) from z) v G' H' (s1.trans s) r) fun _ z=>z.step s1⟩
def cZ(c:DSt->R Bool)(f g:DSt->R aD):DSt->R aD:=fun U=>(c U).bind fun k=>bif k then f U else g U
theorem gJ{c:Expr}{a b:List Stmt}{fc:DSt->R Bool}(hc:DT X E c fc)(ha:eV X E own own' ol a f)(hb:eV X E own own' ol b g):DS X E own own' ol (.If c a b pos) (cZ fc f g):=fun G0=>
 PS.mono' (lM hc (ha G0) (hb G0)) fun Dn U H ⟨G,Ud,ok,s0,q⟩=>by
 have s1:=ok.pubStep s0
 refine⟨_,Ud,ok.pub.1,q.of_bind.mono (fun k _ z G' H' s=>?_) fun _ z=>z.step s1⟩
 have ok':=ok.drop s.h
 have s':Step G0 X.H₀ G H':=s0.trans (.heap ok.ext s.h)
 cases k with
 |true=>exact jU ⟨G,Ud,ok',s',z⟩
 |false=>exact jT ⟨G,Ud,ok',s',z⟩
def X0(fe:DSt->R D):DSt->R aD:=fun U=>(fe U).bind fun _=>.ok (.nx U)
def hV(own:List Nat)(i:Nat)(fe:DSt->R D):DSt->R aD:=fun U=>(fe (mask own U)).bind fun d=>.ok (.nx (U.set i (some d)))
def bQ(i:Nat)(fe:DSt->R D):DSt->R aD:=fun U=>(fe U).bind fun d=>.ok (.nx (U.set i (some d)))
def xN(i:Nat)(fe:DSt->R D):DSt->R aD:=fun U=>(fe U).bind fun d=>bif imm d then .ok (.nx (U.set i (some d))) else .bad
theorem oA{own:List Nat}{i:Nat}(h:own.contains i=false):i∉own:=by simpa using h
theorem xO(U:DSt):mask [] U=U:=by
 have:∀(U:DSt) (k:Nat),hU [] k U=U:=fun U=>by
  induction U with
  |nil=>intro k;rfl
  |cons d ds ih=>intro k;unfold hU;rw[ih];rfl
 exact this U 0
theorem xP{te:TE}{fe:DSt->R D}{i:Nat}{G0:Hp}(h:∀U H Q,tE X.K X.mg E fe U H Q->te U H Q)(ho:own.contains i=false){Dn:iM}{U:St}{H:Hp}(q:tS X.K X.mg E G0 X.H₀ own own ol (hV own i fe) Dn U H):nK te (lN i) Dn U H:=by
 obtain⟨G,Ud,ok,s0,q⟩:=q
 refine h U H _ ⟨G,mask own Ud,ok.masked,q.of_bind.mono (fun d _ z v G' H' s r=>?_) fun _ z=>z.step s0⟩
 exact(show bG X.K X.mg G0 X.H₀ own ol Dn G (.nx (Ud.set i (some d))) from z) _ G' H' ((ok.step s).set (oA ho) r) (s0.trans s) s.g
def iT(own:List Nat)(i:Nat)(fe:DSt->R (List D)):DSt->R aD:=fun U=>(fe (mask own U)).bind fun ds=>.ok (.nx (U.set i (some (.lst ds))))
def qH(own:List Nat)(i:Nat):List Nat:=if own.contains i then own else i::own
theorem X1{own:List Nat}{i j:Nat}:j∈qH own i↔j=i\/j∈own:=by
 unfold qH
 split
 ·rename_i h
  have hi:i∈own:=by simpa using h
  exact⟨.inr,fun h=>h.elim (fun e=>e▸hi) id⟩
 ·simp
theorem X2{te:TE}{fe:DSt->R (List D)}{i:Nat}{G0:Hp}(h:∀U H Q,tH X.K X.mg E fe U H Q->te U H Q){Dn:iM}{U:St}{H:Hp}(q:tS X.K X.mg E G0 X.H₀ own (qH own i) ol (iT own i fe) Dn U H):nK te (lN i) Dn U H:=by
 obtain⟨G,Ud,ok,s0,q⟩:=q
 refine h U H _ ⟨G,mask own Ud,ok.masked,q.of_bind.mono (fun ds _ z a vs G' H' s n e g r=>?_) fun _ z=>z.step s0⟩
 exact(show bG X.K X.mg G0 X.H₀ (qH own i) ol Dn G (.nx (Ud.set i (some (.lst ds)))) from z) _ G' H' (ok.new s n e g (s0.h.free n) r fun j=>X1) (s0.trans s) s.g
variable{i:Nat}{x:Str}{e:Expr}{pos':Pos}{fe:DSt->R D}{fl:DSt->R (List D)}
theorem X3(i:Nat)(hN:X.N.Nodup)(he:DE X E e fe)(ho:own.contains i=false:=by rfl)(hi:X.N[i]? = some x:=by rfl)(hx:fB X.env.scope x:=by first|exact Or.inl rfl|exact Or.inr rfl)(hs:swapsWith e (some (.Name x pos')) pos.line X.env=pure false:=by rfl)
  (hf:X.fn x=true\/X.env.scope.names.lookup x=some .local:=by first|exact .inl rfl|exact .inr rfl|assumption):DS X E own own ol (.Assign [.Name x pos'] e pos) (hV own i fe):=fun G0=>
 PS.mono' (gF hN hi hx he hs hf) fun Dn U H q=>xP (fun _ _ _ z=>z) ho q
theorem qI(i:Nat)(hN:X.N.Nodup)(he:DE X E e fe)(hi:X.N[i]? = some x:=by rfl)(hx:fB X.env.scope x:=by first|exact Or.inl rfl|exact Or.inr rfl)(hs:swapsWith e (some (.Name x pos')) pos.line X.env=pure false:=by rfl)
  (hf:X.fn x=true\/X.env.scope.names.lookup x=some .local:=by first|exact .inl rfl|exact .inr rfl|assumption):DS X E [] [] ol (.Assign [.Name x pos'] e pos) (bQ i fe):=fun G0=>by
 have:bQ i fe=hV [] i fe:=by funext U;unfold bQ hV;rw[xO]
 rw[this]
 exact PS.mono' (gF hN hi hx he hs hf) fun Dn U H q=>xP (fun _ _ _ z=>z) rfl q
theorem X4(i:Nat)(hN:X.N.Nodup)(he:DF X E e fl)(hw:own'=qH own i:=by rfl)(hi:X.N[i]? = some x:=by rfl)(hx:fB X.env.scope x:=by first|exact Or.inl rfl|exact Or.inr rfl)(hs:swapsWith e (some (.Name x pos')) pos.line X.env=pure false:=by rfl)
  (hf:X.fn x=true\/X.env.scope.names.lookup x=some .local:=by first|exact .inl rfl|exact .inr rfl|assumption):DS X E own own' ol (.Assign [.Name x pos'] e pos) (iT own i fl):=fun G0=>by
 subst hw;exact PS.mono' (gF hN hi hx he hs hf) fun Dn U H q=>X2 (fun _ _ _ z=>z) q
theorem X5{te:TE}(h:∀U H Q,tH X.K X.mg E fl U H Q->te U H Q):∀U H Q,tE X.K X.mg E (fun U=>(fl U).bind fun ds=>.ok (.lst ds)) U H Q->te U H Q:=fun U H Q ⟨G,Ud,ok,q⟩=>by
 refine h U H Q ⟨G,Ud,ok,q.of_bind.mono (fun ds _ q=>?_) fun _ z=>z⟩
 intro a vs G' H' s n e g r
 have q':aL X.K X.mg Q G H (.lst ds):=q
 have sg:Same G' (upd G' a (.lst vs)):=same_upd g
 refine q' (.ref a) (upd G' a (.lst vs)) H' ⟨s.g.trans sg,s.h,fun b u p=>?_,fun b u p1 p2=>?_⟩ ⟨a,vs,rfl,aW.of aV,r.mono sg⟩
 ·by_cases hb:b=a
  ·subst hb;rw[aV] at p;cases p;exact e
  ·rw[aG hb] at p;exact s.e b u p
 ·have hb:b≠a:=bN p1 n
  rw[aG hb];exact s.c b u p1 p2
def bH(fl:DSt->R (List D)):DSt->R D:=fun U=>(fl U).bind fun ds=>.ok (.lst ds)
theorem DF.val(h:DF X E e fl):DE X E e (bH fl):=h.de
variable{tg elt iter:Expr}{ifs:List Expr}{scope:Scope}{NY:List Str}{k:Nat}{ks:List Nat}{fi:DSt->R (List D)}{gp:D->R (List D)}{fc:DSt->R Bool}{lpos:Pos}
theorem X6(i:Nat)(C:X.calm=true)(hN:X.N.Nodup)(hi':X.N[i]? = some x)(hy:X.env.kindOf x=some .local)(lc:LC X k scope NY)(hi:DI X E tg iter fi)
  (hb:∀(s₀:Shared) (H₀:Hp) (C:Addr) (ex:List Addr),NY.Nodup->DG (cJ X scope NY s₀ H₀ C ex) tg ks gp/\qD (cJ X scope NY s₀ H₀ C ex) E0 ifs fc/\DE (cJ X scope NY s₀ H₀ C ex) E0 elt fe)
  (hsw:swapsWith (.ListComp elt [⟨tg,iter,ifs,0⟩] scope lpos) (some (.Name x pos')) pos.line X.env=pure true)
  (hs:∀x,foldedSetIterable iter X.env x=pure x):PS X (.Assign [.Name x pos'] (.ListComp elt [⟨tg,iter,ifs,0⟩] scope lpos) pos) (nK (sY k (tI X.K X.mg E fi) (tG X.K X.mg ks gp) (tT X.K X.mg E0 fc) (tE X.K X.mg E0 fe)) (lN i)):=
 VT (g:=tG X.K X.mg ks gp) (tc:=tT X.K X.mg E0 fc) (te:=tE X.K X.mg E0 fe) C hN hi' hy lc hi (fun s0 H0 Ca ex nd=>hb s0 H0 Ca ex nd) hsw hs
theorem X7(i:Nat)(C:X.calm=true)(hN:X.N.Nodup)(lc:LC X k scope NY)(hk:ks.all (fun i=>decide (i<k))=true)(hi:DI X E tg iter fi)
  (hb:∀(s₀:Shared) (H₀:Hp) (C:Addr) (ex:List Addr),NY.Nodup->DG (cJ X scope NY s₀ H₀ C ex) tg ks gp/\qD (cJ X scope NY s₀ H₀ C ex) E0 ifs fc/\DE (cJ X scope NY s₀ H₀ C ex) E0 elt fe)
  (ho:own.contains i=false:=by rfl) (hi':X.N[i]? = some x:=by rfl) (hy:X.env.kindOf x=some .local:=by rfl)
  (hsw:swapsWith (.ListComp elt [⟨tg,iter,ifs,0⟩] scope lpos) (some (.Name x pos')) pos.line X.env=pure true:=by rfl)
  (hs:∀x,foldedSetIterable iter X.env x=pure x:=by intro _;rfl):DS X E own own ol (.Assign [.Name x pos'] (.ListComp elt [⟨tg,iter,ifs,0⟩] scope lpos) pos) (hV own i (bH (dZ k ks fi gp fc fe))):=fun G0=>
 PS.mono' (X6 i C hN hi' hy lc hi hb hsw hs) fun Dn U H q=>xP (X5 fun _ _ _ h=>EK (te:=tE X.K X.mg E0 fe) (tc:=tT X.K X.mg E0 fc) hk h) ho q
def xQ(own:List Nat)(ks:List Nat)(gp:D->R (List D))(fe:DSt->R D):DSt->R aD:=fun U=>(fe (mask own U)).bind fun d=>(gp d).noerr.bind fun us=>.ok (.nx (setAll U ks us))
theorem X8(he:DE X E e fe)(hg:DG X tg ks gp)(ho:ks.all (fun i=>!own.contains i)=true:=by rfl)(hs:swapsWithSole [tg] e pos.line X.env=pure false:=by rfl)(hw:swappedStores [tg] e X.env=pure none:=by rfl)
  (h1:(assignEach [tg] X.env).map (·.2)=[assign tg X.env]:=by rfl):DS X E own own ol (.Assign [tg] e pos) (xQ own ks gp fe):=fun G0=>PS.mono' (SE he hg hs hw h1) fun Dn U H ⟨G,Ud,ok,s0,q⟩=>by
 refine⟨G,mask own Ud,ok.masked,q.of_bind.mono (fun d _ z v G' H' s r=>?_) fun _ z=>z.step s0⟩
 obtain⟨us,e1,z⟩:=n8 z.of_bind
 refine⟨G',d,s.e,r,RW.ok_of e1 fun ws rw'=>?_⟩
 refine(show bG X.K X.mg G0 X.H₀ own ol Dn G (.nx (setAll Ud ks us)) from z) _ G' H' ((ok.step s).setAll (fun k hk=>?_) rw') (s0.trans s) s.g
 simpa using xbn.mp ho k hk
def xR(own:List Nat)(i j:Nat)(fs:DSt->R (List D)):DSt->R aD:=fun U=>(fs (mask own U)).bind fun ds=>match ds with
 |[a,b]=>.ok (.nx ((U.set i (some a)).set j (some b)))
 |_=>.bad
theorem X9(i j:Nat){x y:Str}{a b:Expr}{fs:DSt->R (List D)}{px py pt:Pos}{kt k2 pt2}(hc:X.calm=true)(hN:X.N.Nodup)(ha:DA X E [a,b] fs)(hij:i≠j:=by decide)(ho:(own.contains i||own.contains j)=false:=by rfl)(hi:X.N[i]? = some x:=by rfl)(hj:X.N[j]? = some y:=by rfl)
  (hx:X.env.scope.names.lookup x=some .local:=by rfl) (hy:X.env.scope.names.lookup y=some .local:=by rfl)
  (hw:swappedStores [.Tuple [.Name x px,.Name y py] kt pt] (.Tuple [a,b] k2 pt2) X.env=pure (some [x,y]):=by rfl)
  (hs:swapsWithSole [.Tuple [.Name x px,.Name y py] kt pt] (.Tuple [a,b] k2 pt2) pos.line X.env=pure false:=by rfl):DS X E own own ol (.Assign [.Tuple [.Name x px,.Name y py] kt pt] (.Tuple [a,b] k2 pt2) pos) (xR own i j fs):=fun G0=>
 PS.mono' (SG hc hN hi hj hij hx hy ha hw hs) fun Dn U H ⟨G,Ud,ok,s0,q⟩=>by
 refine⟨G,mask own Ud,ok.masked,q.of_bind.mono (fun ds _ z vs G' H' s r=>?_) fun _ z=>z.step s0⟩
 rw[xde] at ho
 match ds,z,r with
 |[a,b],z,⟨v,_,e1,r1,⟨w,_,e2,r2,r3⟩⟩=>
  subst e1;subst e2;cases r3
  exact⟨v,w,rfl,(show bG X.K X.mg G0 X.H₀ own ol Dn G (.nx ((Ud.set i (some a)).set j (some b))) from z) _ G' H' (((ok.step s).set (oA ho.1) r1).set (oA ho.2) r2) (s0.trans s) s.g⟩
def aX(U:DSt)(i:Nat):R (List D):=match U[i]? with
 |some (some (.lst ds))=>.ok ds
 |_=>.bad
def iU(own:List Nat)(i:Nat)(fe:DSt->R D):DSt->R aD:=fun U=>(aX U i).bind fun ds=>(fe (mask own U)).bind fun d=>bif most ds.length then .ok (.nx (U.set i (some (.lst (ds++[d]))))) else .bad
def YA(i:Nat)(fe:DSt->R D):DSt->R aD:=fun U=>(aX U i).bind fun ds=>(fe U).bind fun d=>bif most ds.length&&imm d then .ok (.nx (U.set i (some (.lst (ds++[d]))))) else .bad
theorem dN{U:DSt}{i:Nat}{ds:List D}(h:aX U i=.ok ds):U[i]? = some (some (.lst ds)):=by
 unfold aX at h
 split at h
 ·cases h;assumption
 ·cases h
theorem fI{U:DSt}{i:Nat}{e:D}:aX U i≠.err e:=by
 unfold aX
 split<;>simp
theorem xS(i:Nat){apos cpos:Pos}{np:Pos}(he:DE X E e fe)(ho:own.contains i=true:=by rfl)(hN:X.N[i]? = some x:=by rfl)(hv:cA X.env.scope x:=by first|exact Or.inl rfl|exact Or.inr (Or.inl rfl)|exact Or.inr (Or.inr rfl))(hd:(x==("__debug__":Str))=false:=by decide)
  (hcd:(x==("__classdict__":Str))=false:=by decide)
  (hbase:attributeBase (.Name x np) "append" X.env (eval (.Name x np) X.env)=eval (.Name x np) X.env:=by rfl)
  (hfew:((backTo cpos (starEach [e] X.env)).all (fun x=>!x.1)&&(backToKw cpos (keywordEach [] X.env)).all (fun x=>x.1.isSome)&&decide ([e].length+([]:List Keyword).length+(if ([]:List Keyword).isEmpty then 0 else 1)<30))=true:=by rfl)
  (hline:(apos.endLine==cpos.line)=true:=by rfl) (hs:starEach [e] X.env=(false,eval e X.env)::starEach [] X.env:=by rfl) (hplain:(backTo cpos (starEach [] X.env)).any (·.1)=false:=by rfl)
  (hsw:swapsWith (.Call (.Attribute (.Name x np) "append" apos) [e] [] cpos) none pos.line X.env=pure false:=by rfl) :
  DS X E own own ol (.Expr (.Call (.Attribute (.Name x np) "append" apos) [e] [] cpos) pos) (iU own i fe):=fun G0=>
 PS.mono' (jR (kT PySem.F.plainAttrs_list PySem.F.slot_list_append PySem.F.type_list_append lW (pv i hN hv hd hcd) (eM he gG hs) hbase hfew hline hs hplain) hsw) fun Dn U H ⟨G,Ud,ok,s0,q⟩=>by
 have q1:=q.of_bind
 cases hL:aX Ud i with
 |bad=>rw[hL] at q1;exact q1.elim
 |err e=>exact xaq hL fI
 |ok ds=>
  rw[hL] at q1
  have q2:RW ((fe (mask own Ud)).bind fun d=>bif most ds.length then R.ok (.nx (Ud.set i (some (.lst (ds++[d]))))) else .bad) (bG X.K X.mg G0 X.H₀ own ol Dn G) (bA X.K X.mg E G0 X.H₀):=q1
  have hd:=dN hL
  have hi:i∈own:=by simpa using ho
  obtain⟨a,ds',vs,p1,p2,p3,p4,p5,p6⟩:=ok.mine i _ hi hd
  cases p2
  refine⟨_,p1,.inl ⟨rfl,_,aW.of p3⟩,?_⟩
  refine⟨G,mask own Ud,ok.masked,(show RW ((aB fe aE) (mask own Ud)) _ _ from ?_)⟩
  unfold aB
  have q3:=q2.of_bind
  cases hf:fe (mask own Ud) with
  |bad=>rw[hf] at q3;exact q3.elim
  |err e=>rw[hf] at q3;exact(show bA X.K X.mg E G0 X.H₀ e from q3).step s0
  |ok d=>
   rw[hf] at q3
   rintro ws G' H' s ⟨v,_,e1,r1,r2⟩
   subst e1
   cases r2
   cases hm:most ds.length with
   |false=>rw[hm] at q3;exact(show False from q3).elim
   |true=>
    rw[hm] at q3
    have hlt:ds.length<sizeLine:=xa0 hm
    have ok':=ok.step s
    refine⟨a,vs,v,rfl,rfl,s.h _ _ p3,by rw[<- p6.length];exact hlt,?_⟩
    exact(show bG X.K X.mg G0 X.H₀ own ol Dn G (.nx (Ud.set i (some (.lst (ds++[d]))))) from q3) U G' _ (ok'.write hi hd p1 ((p6.mono s.g).append (Reps.cons r1 Reps.nil))) ((s0.trans s).write (o:=.lst vs) p5 (s.c _ _ p3 p4)) s.g
end
def eP(ks:List Nat)(gp:D->R (List D))(fb:DSt->R aD):List D->DSt->R aD
 |[],U=>.ok (.nx U)
 |d::ds,U=>(gp d).noerr.bind fun us=>(fb (setAll U ks us)).bind fun o=>match o with
  |.nx U'=>eP ks gp fb ds U'
  |.ct U'=>eP ks gp fb ds U'
  |.bk U'=>.ok (.nx U')
  |.rt d=>.ok (.rt d)
  |.rf d=>.ok (.rf d)
def j4(own ks:List Nat)(gp:D->R (List D))(fi:DSt->R (List D))(fb:DSt->R aD):DSt->R aD:=fun U=>(fi (mask own U)).bind fun ds=>eP ks gp fb ds U
structure XL(X:Cx):Prop where
 own:PassesOwn (model X.prog X.w) X.A X.env X.xe
section
variable{X:Cx}{E:XK}{own ol ks:List Nat}{tg iter:Expr}{body:List Stmt}{gp:D->R (List D)}{fi:DSt->R (List D)}{fb:DSt->R aD}{pos:Pos}
theorem l7(L:XL X)(hc:X.calm=true)(hi:DI X E tg iter fi)(hg:DG X tg ks gp)(hb:eV X E own own own body fb)(ho:ks.all (fun i=>!own.contains i)=true:=by rfl)(hs:∀x,foldedSetIterable iter X.env x=pure x:=by intro _;rfl) :
  DS X E own own ol (.For tg iter body [] pos) (j4 own ks gp fi fb):=fun G0=>PS.mono' (sO L.own hc hi hg (hb G0) hs) fun Dn U H ⟨G,Ud,ok,s0,q⟩=>by
 refine⟨G,mask own Ud,ok.masked,q.of_bind.mono (fun ds _ z J G1 H1 s1 it=>?_) fun _ z=>z.step s0⟩
 have hko:∀k∈ks,k∉own:=fun k hk=>by simpa using xbn.mp ho k hk
 refine⟨fun i m U' H'=>m=ds.length-i/\i<=ds.length/\∃G' Ud',Ok X.K X.mg X.H₀ own Ud' U' G' H'/\Same G1 G'/\Step G0 X.H₀ G' H'/\RW (eP ks gp fb (ds.drop i) Ud') (bG X.K X.mg G0 X.H₀ own ol Dn G1) (bA X.K X.mg E G0 X.H₀),
  ⟨ds.length,by simp,xbi _,G1,Ud,ok.step s1,Same.refl _,s0.trans s1,z.mono (fun _ _ z=>z.shift s1.g) fun _ z=>z⟩,?_⟩
 rintro i m U' H' ⟨rfl,hi,G',Ud',ok',e',s',w⟩
 by_cases hlt:i<ds.length
 ·right
  obtain⟨d,hd⟩:∃d,ds[i]? = some d:=⟨ds[i],by simp[hlt]⟩
  obtain⟨g1,g2⟩:=it.turn H' i d (e'.trans ok'.ext) hd
  have hdrop:ds.drop i=d::ds.drop (i+1):=by
   rw[xb8 hlt]
   congr 1
   exact xas ((xa7 hlt).symm.trans hd)
  rw[hdrop] at w
  refine⟨g1,fun σ2 H2=>i+1<=ds.length/\∃G' Ud',Ok X.K X.mg X.H₀ own Ud' σ2 G' H2/\Same G1 G'/\Step G0 X.H₀ G' H2/\RW (eP ks gp fb (ds.drop (i+1)) Ud') (bG X.K X.mg G0 X.H₀ own ol Dn G1) (bA X.K X.mg E G0 X.H₀),
   fun σ2 H2 ⟨h1,h2⟩=>⟨ds.length-(i+1),by omega,rfl,h1,h2⟩,fun x H2 hy=>?_⟩
  obtain⟨G2,s2,r2⟩:=g2 x H2 hy G' e' ok'.ext
  unfold eP at w
  obtain⟨us,e1,w⟩:=n8 w.of_bind
  refine⟨G2,d,s2.e,r2,RW.ok_of e1 fun ws rws=>?_⟩
  have ok2:=(ok'.step s2).setAll hko rws
  refine⟨G2,_,ok2,s'.trans s2,w.of_bind.mono (fun o _ z=>?_) fun _ z=>z⟩
  cases o with
  |nx σ3=>exact fun σ4 G4 H4 ok4 s4 e4=>⟨hlt,G4,σ3,ok4,(e'.trans s2.g).trans e4,s4,z⟩
  |ct σ3=>exact fun σ4 G4 H4 ok4 s4 e4=>⟨hlt,G4,σ3,ok4,(e'.trans s2.g).trans e4,s4,z⟩
  |bk σ3=>exact fun σ4 G4 H4 ok4 s4 e4=>(show bG X.K X.mg G0 X.H₀ own ol Dn G1 (.nx σ3) from z) σ4 G4 H4 ok4 s4 ((e'.trans s2.g).trans e4)
  |rt d=>exact z
  |rf d=>exact z
 ·left
  have hi2:i=ds.length:=by omega
  subst hi2
  rw[xc5] at w
  refine⟨it.stop H' (e'.trans ok'.ext),?_⟩
  unfold eP at w
  exact(show bG X.K X.mg G0 X.H₀ own ol Dn G1 (.nx Ud') from w) U' G' H' ok' s' e'
def cL(c:DSt->R Bool)(fb:DSt->R aD):Nat->DSt->R aD
 |0,_=>.bad
 |n+1,U=>(c U).bind fun k=>bif k then (fb U).bind fun o=>match o with
   |.nx U'=>cL c fb n U'
   |.ct U'=>cL c fb n U'
   |.bk U'=>.ok (.nx U')
   |.rt d=>.ok (.rt d)
   |.rf d=>.ok (.rf d)
  else .ok (.nx U)
open Classical in
noncomputable def c7(c:DSt->R Bool)(fb:DSt->R aD):DSt->R aD:=fun U=>if h:∃n,cL c fb n U≠.bad then cL c fb (Classical.choose h) U else .bad
theorem tQ{c:DSt->R Bool}{fb:DSt->R aD}:∀(n:Nat) (U:DSt) (r:R aD),cL c fb n U=r->r≠.bad->∀k,cL c fb (n+k) U=r
 |0,U,r,h,hr,k=>xaq h.symm hr
 |n+1,U,r,h,hr,k=>by
  rw[show n+1+k=(n+k)+1 by omega]
  unfold cL at h ⊢
  cases hc:c U with
  |bad=>rw[hc] at h;exact xaq h.symm hr
  |err e=>rw[hc] at h;exact h
  |ok b=>
   rw[hc] at h
   cases b with
   |false=>exact h
   |true=>
    have h':(fb U).bind (fun o=>match o with
     |.nx U'=>cL c fb n U'
     |.ct U'=>cL c fb n U'
     |.bk U'=>.ok (.nx U')
     |.rt d=>.ok (.rt d)
     |.rf d=>.ok (.rf d))=r:=h
    show (fb U).bind (fun o=>match o with
     |.nx U'=>cL c fb (n+k) U'
     |.ct U'=>cL c fb (n+k) U'
     |.bk U'=>.ok (.nx U')
     |.rt d=>.ok (.rt d)
     |.rf d=>.ok (.rf d))=r
    cases hf:fb U with
    |bad=>rw[hf] at h';exact xaq h'.symm hr
    |err e=>rw[hf] at h';exact h'
    |ok o=>
     rw[hf] at h'
     cases o with
     |nx U'=>exact tQ n U' r h' hr k
     |ct U'=>exact tQ n U' r h' hr k
     |bk U'=>exact h'
     |rt d=>exact h'
     |rf d=>exact h'
theorem j5{c:DSt->R Bool}{fb:DSt->R aD}{n:Nat}{U:DSt}{r:R aD}(h:cL c fb n U=r)(hr:r≠.bad):c7 c fb U=r:=by
 unfold c7
 have hx:∃n,cL c fb n U≠.bad:=⟨n,by rw[h];exact hr⟩
 rw[dif_pos hx]
 have h1:=Classical.choose_spec hx
 have a:=tQ _ U _ rfl h1 n
 have b:=tQ _ U _ h hr (Classical.choose hx)
 rw[xdf] at b
 rw[<- a,b]
theorem EN(c:DSt->R Bool)(fb:DSt->R aD)(U:DSt):c7 c fb U=(c U).bind fun k=>bif k then (fb U).bind fun o=>match o with
   |.nx U'=>c7 c fb U'
   |.ct U'=>c7 c fb U'
   |.bk U'=>.ok (.nx U')
   |.rt d=>.ok (.rt d)
   |.rf d=>.ok (.rf d)
  else .ok (.nx U):=by
 cases hc:c U with
 |bad=>
  unfold c7
  rw[dif_neg]
  ·rfl
  ·rintro⟨n,h⟩
   cases n with
   |zero=>exact h rfl
   |succ n=>unfold cL at h;rw[hc] at h;exact h rfl
 |err e=>exact j5 (n:=1) (by unfold cL;rw[hc];rfl) (by simp[R.bind])
 |ok b=>
  cases b with
  |false=>exact j5 (n:=1) (by unfold cL;rw[hc];rfl) (by simp[R.bind])
  |true=>
   show c7 c fb U=(fb U).bind _
   cases hf:fb U with
   |bad=>
    unfold c7
    rw[dif_neg]
    ·rfl
    ·rintro⟨n,h⟩
     cases n with
     |zero=>exact h rfl
     |succ n=>unfold cL at h;rw[hc] at h;simp only[R.bind,cond_true] at h;rw[hf] at h;exact h rfl
   |err e=>exact j5 (n:=1) (by unfold cL;rw[hc];show (fb U).bind _=_;rw[hf];rfl) (by simp[R.bind])
   |ok o=>
    have go:∀U',(∀n,cL c fb (n+1) U=cL c fb n U')->c7 c fb U=c7 c fb U':=fun U' hn=>by
     by_cases hx:∃n,cL c fb n U'≠.bad
     ·obtain⟨n,h⟩:=hx
      rw[j5 (n:=n) rfl h,j5 (n:=n+1) (hn n) h]
     ·have:c7 c fb U'=.bad:=by unfold c7;rw[dif_neg hx]
      rw[this]
      unfold c7
      rw[dif_neg]
      rintro⟨n,h⟩
      cases n with
      |zero=>exact h rfl
      |succ n=>rw[hn n] at h;exact hx ⟨n,h⟩
    cases o with
    |nx U'=>exact go U' fun n=>by unfold cL;rw[hc];show (fb U).bind _=_;rw[hf];cases n<;>rfl
    |ct U'=>exact go U' fun n=>by unfold cL;rw[hc];show (fb U).bind _=_;rw[hf];cases n<;>rfl
    |bk U'=>exact j5 (n:=1) (by unfold cL;rw[hc];show (fb U).bind _=_;rw[hf];rfl) (by simp[R.bind])
    |rt d=>exact j5 (n:=1) (by unfold cL;rw[hc];show (fb U).bind _=_;rw[hf];rfl) (by simp[R.bind])
    |rf d=>exact j5 (n:=1) (by unfold cL;rw[hc];show (fb U).bind _=_;rw[hf];rfl) (by simp[R.bind])
theorem xT{c:Expr}{fc:DSt->R Bool}(L:XL X)(hc:DT X E c fc)(hb:eV X E own own own body fb):DS X E own own ol (.While c body [] pos) (c7 fc fb):=fun G0=>PS.mono' (SI L.own hc (hb G0)) fun Dn U H ⟨G,Ud,ok,s0,q⟩=>by
 have hx:∃n,cL fc fb n Ud≠.bad:=by
  by_cases hx:∃n,cL fc fb n Ud≠.bad
  ·exact hx
  ·unfold c7 at q;rw[dif_neg hx] at q;exact(show False from q).elim
 obtain⟨n,hn⟩:=hx
 rw[j5 rfl hn] at q
 refine⟨fun m U' H'=>∃G' Ud',Ok X.K X.mg X.H₀ own Ud' U' G' H'/\Same G G'/\Step G0 X.H₀ G' H'/\RW (cL fc fb m Ud') (bG X.K X.mg G0 X.H₀ own ol Dn G) (bA X.K X.mg E G0 X.H₀),⟨n,G,Ud,ok,Same.refl _,s0,q⟩,?_⟩
 rintro m σ1 H1 ⟨G1,Ud1,ok1,e1,s1,w⟩
 cases m with
 |zero=>exact(show False from w).elim
 |succ m=>
  unfold cL at w
  have sp:=ok1.pubStep s1
  refine⟨_,Ud1,ok1.pub.1,w.of_bind.mono (fun k _ z G' H' s=>?_) fun _ z=>z.step sp⟩
  have ok':=ok1.drop s.h
  have s':Step G0 X.H₀ G1 H':=s1.trans (.heap ok1.ext s.h)
  cases k with
  |true=>
   refine jU ?_
   refine⟨fun σ2 H2=>∃G' Ud',Ok X.K X.mg X.H₀ own Ud' σ2 G' H2/\Same G G'/\Step G0 X.H₀ G' H2/\RW (cL fc fb m Ud') (bG X.K X.mg G0 X.H₀ own ol Dn G) (bA X.K X.mg E G0 X.H₀),fun σ2 H2 h=>⟨m,xck _,h⟩,?_⟩
   refine⟨G1,Ud1,ok',s',(show RW ((fb Ud1).bind _) _ _ from z).of_bind.mono (fun o _ z=>?_) fun _ z=>z⟩
   cases o with
   |nx σ3=>exact fun σ4 G4 H4 ok4 s4 e4=>⟨G4,σ3,ok4,e1.trans e4,s4,z⟩
   |ct σ3=>exact fun σ4 G4 H4 ok4 s4 e4=>⟨G4,σ3,ok4,e1.trans e4,s4,z⟩
   |bk σ3=>exact fun σ4 G4 H4 ok4 s4 e4=>(show bG X.K X.mg G0 X.H₀ own ol Dn G (.nx σ3) from z) σ4 G4 H4 ok4 s4 (e1.trans e4)
   |rt d=>exact z
   |rf d=>exact z
  |false=>
   refine jT ?_
   exact(show bG X.K X.mg G0 X.H₀ own ol Dn G (.nx Ud1) from z) σ1 G1 H' ok' s' e1
end
def jD(n:Nat)(ds:List D):DSt:=ds.map some++List.replicate (n-ds.length) none
def fin:R aD->R D
 |.ok (.rt d)=>.ok d
 |.ok (.rf ds)=>.ok (.lst ds)
 |.ok (.nx _)=>.ok .non
 |.ok _=>.bad
 |.err e=>.err e
 |.bad=>.bad
def cE(n nN:Nat)(body:DSt->R aD):List D->R D:=fun ds=>bif ds.length==n then fin (body (jD nN ds)) else .bad
theorem Reps.startOk{K:xFg}{mg:Str->Option Value}{G H:Hp}(e:Same G H):∀{ds:List D} {vs:List V} (k:Nat),Reps K mg G ds vs->bO K mg (ds.map some++List.replicate k none) (vs.map some++List.replicate k none) G H
 |[],_,k,h=>by
  cases h
  have:=bO.nones (K:=K) (mg:=mg) (G:=G) (H:=H) (Ud:=[]) (U:=[]) ⟨e,rfl,fun i d q=>by simp at q⟩ k
  simpa using this
 |d::ds,_,k,⟨v,r,h1,h2,h3⟩=>by
  subst h1
  exact(Reps.startOk e k h3).cons (x:=some d) (y:=some v) fun d' q=>by cases q;exact⟨v,rfl,h2⟩
section
variable{P:Program}{w:World}{K:xFg}{mg:Str->Option Value}{base:Heap}
theorem aU.mk'{x qual:Str}{st:Stmt}{f:Addr}{fd:FuncData}{N ps:List Str}{k n nN:Nat}{own':List Nat}{body:DSt->R aD}(F:bV K x qual st f fd)(S:cI N ps (aZ st))(hm:mg x=some (.ref f))(b:bU K fd ps [])
  (hn:ps.length=n) (hN:N.length=nN)
  (hb:∀(X:Cx) (E:XK),(∃cdv A outer s H,X=dF (bT P w) P w K mg base N qual (aZ st) f cdv A outer s H E)->XC X E k->XL X->eV X E [] own' [] (fE st) body):aU P w K mg base (k+1) x (cE n nN body):=by
 refine⟨f,fd,ps,F.okX S (fun vs H Q E h=>?_) (fun cdv A outer s H vs Q E hr hsp=>?_),hm,F.kp,b⟩
 ·obtain⟨G,ds,e,r,q⟩:=h
  by_cases hd:ds.length=n
  ·rw[<- r.length,hd,hn]
  ·have:(ds.length==n)=false:=by simpa using hd
   unfold cE at q
   rw[this] at q
   exact(show False from q).elim
 ·obtain⟨G,ds,e,r,q⟩:=hsp
  have hd:ds.length=n:=by
   by_cases hd:ds.length=n
   ·exact hd
   ·have:(ds.length==n)=false:=by simpa using hd
    unfold cE at q
    rw[this] at q
    exact(show False from q).elim
  unfold cE at q
  rw[show (ds.length==n)=true by simpa using hd] at q
  have q':RW (fin (body (jD nN ds))) (aL K mg Q G H) (bA K mg E G H):=q
  refine⟨_,hb _ E ⟨cdv,A,outer,s,H,rfl⟩ ⟨rfl,hr,sZ⟩ ⟨PassesOwn.leaving⟩ G,G,jD nN ds,?_,.refl e,?_⟩
  ·have:=Reps.startOk e (N.length-vs.length) r
   unfold L2.start jD
   rw[<- hN,r.length]
   exact .zero this
  ·cases hbd:body (jD nN ds) with
   |bad=>rw[hbd] at q';exact q'
   |err e=>rw[hbd] at q';exact q'
   |ok o=>
    rw[hbd] at q'
    cases o with
    |rt d=>exact fun v G' H' s r=>(show aL K mg Q G H d from q') v G' H' s r
    |rf es=>
     intro a vs G' H' s n e g r
     have q2:aL K mg Q G H (.lst es):=q'
     have sg:Same G' (upd G' a (.lst vs)):=same_upd g
     refine q2 (.ref a) (upd G' a (.lst vs)) H' ⟨s.g.trans sg,s.h,fun b u p=>?_,fun b u p1 p2=>?_⟩ ⟨a,vs,rfl,aW.of aV,r.mono sg⟩
     ·by_cases hb:b=a
      ·subst hb;rw[aV] at p;cases p;exact e
      ·rw[aG hb] at p;exact s.e b u p
     ·have hb:b≠a:=bN p1 n
      rw[aG hb];exact s.c b u p1 p2
    |nx U=>exact fun U' G' H' ok s _=>(show aL K mg Q G H .non from q') .non G' H' s rfl
    |bk U=>exact(show False from q').elim
    |ct U=>exact(show False from q').elim
end
theorem XC.lc{X:Cx}{E:XK}{k:Nat}(C:XC X E k)(scope:Scope)(NY:List Str)(s0:Shared)(H0:Hp)(Ca:Addr)(ex:List Addr):XC (cJ X scope NY s0 H0 Ca ex) E0 k:=⟨C.calm,C.room,DQ⟩
end DL
namespace DL
open L2
mutual
def aY:D->D->Bool
 |.non,.non=>true
 |.bl a,.bl b=>a==b
 |.int a,.int b=>a==b
 |.str a,.str b=>a==b
 |.bl a,.int b=>(if a then (1:Int) else 0)==b
 |.int a,.bl b=>a==(if b then (1:Int) else 0)
 |.tup xs,.tup ys=>eqDs xs ys
 |.lst xs,.lst ys=>eqDs xs ys
 |_,_=>false
def eqDs:List D->List D->Bool
 |[],[]=>true
 |x::xs,y::ys=>aY x y&&eqDs xs ys
 |_,_=>false
end
def bX:Nat->D->Bool
 |_,.non=>true
 |_,.bl _=>true
 |_,.int _=>true
 |_,.str _=>true
 |n+1,.tup xs=>xs.all (bX n)
 |n+1,.lst xs=>xs.all (bX n)
 |_,_=>false
theorem tR:∀(xs ys:List D),((List.range (min xs.length ys.length)).all (fun j=>aY (xs.getD j .non) (ys.getD j .non))&&xs.length==ys.length)=eqDs xs ys
 |[],[]=>by unfold eqDs;rfl
 |[],_::_=>by unfold eqDs;simp
 |_::_,[]=>by unfold eqDs;simp
 |x::xs,y::ys=>by
  unfold eqDs
  rw[<- tR xs ys]
  simp only[xaw,Nat.succ_min_succ,List.range_succ_eq_map,List.all_cons,List.getD_cons_zero,List.all_map,Bool.and_assoc]
  congr 2
  rw[Bool.eq_iff_iff];simp
theorem xU:∀(n:Nat) (d:D),bX n d=true->aY d d=true:=by
 intro n
 induction n with
 |zero=>intro d h;cases d<;>first|(simp[bX] at h;done)|(unfold aY;simp;done)
 |succ n ih=>
  have hl:∀xs:List D,xs.all (bX n)=true->eqDs xs xs=true:=fun xs=>by
   induction xs with
   |nil=>intro _;unfold eqDs;rfl
   |cons x xs ihx=>
    intro h
    rw[List.all_cons,xau] at h
    unfold eqDs
    rw[ih x h.1,ihx h.2];rfl
  intro d h
  cases d with
  |tup xs=>unfold aY;exact hl xs (by unfold bX at h;exact h)
  |lst xs=>unfold aY;exact hl xs (by unfold bX at h;exact h)
  |_=>first|(simp[bX] at h;done)|(unfold aY;simp;done)
def eA:D->Option V
 |.non=>some .non
 |.bl b=>some (.bl b)
 |.int i=>some (.int i)
 |.str x=>some (.str x)
 |_=>none
theorem gA{K:xFg}{mg:Str->Option Value}{G:Hp}{d:D}{v x:V}(h:eA d=some v)(r:aS K mg G d x):x=v/\lV v=true:=by
 cases d<;>first|(simp[eA] at h;done)|(simp only[eA,Option.some.injEq] at h;subst h;simp only[aS] at r;exact⟨r,rfl⟩)
theorem YB{d d':D}{v v':V}(h:eA d=some v)(h':eA d'=some v'):aY d d'=pR v v':=by
 cases d<;>first|(simp[eA] at h;done)|(simp only[eA,Option.some.injEq] at h;subst h;cases d'<;>first|(simp[eA] at h';done)|(simp only[eA,Option.some.injEq] at h';subst h';unfold aY pR;first|rfl|simp))
theorem EO{d d':D}{v:V}(h:eA d=some v)(h':eA d'=some v):d=d':=by
 cases d<;>first|(simp[eA] at h;done)|(simp only[eA,Option.some.injEq] at h;subst h;cases d'<;>first|(simp[eA] at h';done)|(simp only[eA,Option.some.injEq] at h';cases h';rfl))
theorem hZ{n:Nat}{d:D}(h:bX n d=true):(∃v,eA d=some v)\/(∃m xs,n=m+1/\d=.tup xs/\xs.all (bX m)=true)\/(∃m xs,n=m+1/\d=.lst xs/\xs.all (bX m)=true):=by
 cases d with
 |tup xs=>cases n with
  |zero=>simp[bX] at h
  |succ m=>exact .inr (.inl ⟨m,xs,rfl,rfl,by unfold bX at h;exact h⟩)
 |lst xs=>cases n with
  |zero=>simp[bX] at h
  |succ m=>exact .inr (.inr ⟨m,xs,rfl,rfl,by unfold bX at h;exact h⟩)
 |non=>exact .inl ⟨_,rfl⟩
 |bl b=>exact .inl ⟨_,rfl⟩
 |int i=>exact .inl ⟨_,rfl⟩
 |str x=>exact .inl ⟨_,rfl⟩
 |_=>simp[bX] at h
section
variable{X:Cx}{pins:List (Addr×Obj)}{U:St}{G H:Hp}{s:Shared}
theorem EQ(I:Inv X pins U H s){a:Addr}{xs ys:List V}(h1:bJ X.K H a xs)(h2:aW X.K H a ys):False:=by
 obtain⟨_,_,⟨o,e,c,_⟩,_⟩:=I.tuple h1
 obtain⟨_,_,⟨o',_,e',c',_⟩,_⟩:=I.list h2
 rw[e] at e';cases e'
 rw[c] at c'
 exact xaq c' (by simp)
theorem tU{v:V}{a:Addr}(h:lV v=true):v≠.ref a:=by rintro rfl;cases h
theorem xV(I:Inv X pins U H s)(e:Same G H):∀(n:Nat) {d d':D} {v:V},bX n d=true->bX n d'=true->aS X.K X.mg G d v->aS X.K X.mg G d' v->d=d':=by
 intro n
 induction n with
 |zero=>
  intro d d' v h h' r r'
  rcases hZ h with⟨w,hw⟩|⟨_,_,z,_⟩|⟨_,_,z,_⟩<;>try omega
  rcases hZ h' with⟨w',hw'⟩|⟨_,_,z,_⟩|⟨_,_,z,_⟩<;>try omega
  have e1:=(gA hw r).1
  have e2:=(gA hw' r').1
  rw[<- e1] at hw;rw[<- e2] at hw'
  exact EO hw hw'
 |succ n ih=>
  have hl:∀(xs ys:List D) (vs:List V),xs.all (bX n)=true->ys.all (bX n)=true->Reps X.K X.mg G xs vs->Reps X.K X.mg G ys vs->xs=ys:=by
   intro xs
   induction xs with
   |nil=>
    intro ys vs _ _ r r'
    cases r
    cases ys with
    |nil=>rfl
    |cons y ys=>obtain⟨_,_,z,_⟩:=r';cases z
   |cons x xs ihx=>
    intro ys vs h h' r r'
    obtain⟨v,t,rfl,r1,r2⟩:=r
    cases ys with
    |nil=>cases r'
    |cons y ys=>
     obtain⟨v',t',z,r1',r2'⟩:=r'
     cases z
     rw[List.all_cons,xau] at h h'
     rw[ih h.1 h'.1 r1 r1',ihx ys _ h.2 h'.2 r2 r2']
  intro d d' v h h' r r'
  rcases hZ h with⟨w,hw⟩|⟨m,xs,hm,rfl,hx⟩|⟨m,xs,hm,rfl,hx⟩
  ·rcases hZ h' with⟨w',hw'⟩|⟨m',ys,hm',rfl,hy⟩|⟨m',ys,hm',rfl,hy⟩
   ·have e1:=(gA hw r).1
    have e2:=(gA hw' r').1
    rw[<- e1] at hw;rw[<- e2] at hw'
    exact EO hw hw'
   ·obtain⟨e1,e2⟩:=gA hw r
    obtain⟨a,vs,z,_⟩:=r'
    exact xaq (e1.symm.trans z) (tU e2)
   ·obtain⟨e1,e2⟩:=gA hw r
    obtain⟨a,vs,z,_⟩:=r'
    exact xaq (e1.symm.trans z) (tU e2)
  ·obtain rfl:n=m:=by omega
   obtain⟨a,vs,rfl,q1,q2⟩:=r
   rcases hZ h' with⟨w',hw'⟩|⟨m',ys,hm',rfl,hy⟩|⟨m',ys,hm',rfl,hy⟩
   ·obtain⟨e1,e2⟩:=gA hw' r'
    exact xaq e1.symm (tU e2)
   ·obtain rfl:n=m':=by omega
    obtain⟨a',vs',z,q1',q2'⟩:=r'
    cases z
    have:=I.tuple_inj (Same.sqT e q1) (Same.sqT e q1')
    subst this
    rw[hl xs ys _ hx hy q2 q2']
   ·obtain⟨a',vs',z,q1',q2'⟩:=r'
    cases z
    exact(EQ I (Same.sqT e q1) (e.seq q1')).elim
  ·obtain rfl:n=m:=by omega
   obtain⟨a,vs,rfl,q1,q2⟩:=r
   rcases hZ h' with⟨w',hw'⟩|⟨m',ys,hm',rfl,hy⟩|⟨m',ys,hm',rfl,hy⟩
   ·obtain⟨e1,e2⟩:=gA hw' r'
    exact xaq e1.symm (tU e2)
   ·obtain⟨a',vs',z,q1',q2'⟩:=r'
    cases z
    exact(EQ I (Same.sqT e q1') (e.seq q1)).elim
   ·obtain rfl:n=m':=by omega
    obtain⟨a',vs',z,q1',q2'⟩:=r'
    cases z
    have:=I.list_inj (e.seq q1) (e.seq q1')
    subst this
    rw[hl xs ys _ hx hy q2 q2']
theorem ER{α:Type}{us:List α}{j:Nat}(h:j<us.toArray.size):us.toArray[j]=us[j]'(by simpa using h):=by simp
theorem ES{α:Type}{xs:List α}{d:α}{j:Nat}(h:j<xs.length):xs.getD j d=xs[j]:=by simp[List.getD,h]
open SeqAt in
theorem tV{A:Around}{n:Nat}(ih:∀{d d':D} {x x':V} {u u':Value},bX n d=true->bX n d'=true->aS X.K X.mg G d x->aJ x u->aS X.K X.mg G d' x'->aJ x' u'->EqAt A s u u' (aY d d'))
  {xs ys:List D} {vs ws:List V} {us us':List Value} (h:xs.all (bX n)=true) (h':ys.all (bX n)=true) (r:Reps X.K X.mg G xs vs) (q:aP vs us) (r':Reps X.K X.mg G ys ws) (q':aP ws us') :
  ∀j (h1:j<us.toArray.size) (h2:j<us'.toArray.size),EqAt A s us.toArray[j] us'.toArray[j] (aY (xs.getD j .non) (ys.getD j .non)):=by
 intro j h1 h2
 have l1:j<vs.length:=by rw[q.length];simpa using h1
 have l2:j<ws.length:=by rw[q'.length];simpa using h2
 have l3:j<xs.length:=by rw[r.length];exact l1
 have l4:j<ys.length:=by rw[r'.length];exact l2
 obtain⟨v,e1,e2⟩:=r.get (i:=j) (d:=xs[j]) (by simp[l3])
 obtain⟨w,e3,e4⟩:=r'.get (i:=j) (d:=ys[j]) (by simp[l4])
 obtain⟨u,e5,e6⟩:=q.get e1
 obtain⟨u',e7,e8⟩:=q'.get e3
 have z1:us.toArray[j]=u:=by rw[ER h1];exact(xam.mp e5).2
 have z2:us'.toArray[j]=u':=by rw[ER h2];exact(xam.mp e7).2
 rw[z1,z2,ES l3,ES l4]
 exact ih (xbn.mp h _ (xcl l3)) (xbn.mp h' _ (xcl l4)) e2 e6 e4 e8
theorem ET(A:Around):A.in1.units=A.units+1:=rfl
open SeqAt in
theorem YC{A:Around}{x x':V}{u u':Value}(q:aJ x u)(q':aJ x' u')(f:lV x=true)(f':lV x'=true):RcAt A s u u' (pR x x')/\RcNeAt A s u u' (!pR x x'):=by
 cases x with
 |non=>
  cases (show u=Value.none from q)
  cases x' with
  |non=>cases (show u'=Value.none from q');exact⟨RcAt.none_none,RcNeAt.none_none⟩
  |bl b=>cases (show u'=Value.bool b from q');exact⟨RcAt.none_bool b,RcNeAt.none_bool b⟩
  |int b=>obtain⟨tb,rfl⟩:=(show ∃t,u'=Value.int b t from q');exact⟨RcAt.none_int b tb,RcNeAt.none_int b tb⟩
  |str b=>obtain⟨tb,rfl⟩:=(show ∃t,u'=Value.str b t from q');exact⟨RcAt.none_str b tb,RcNeAt.none_str b tb⟩
  |_=>cases f'
 |bl a=>
  cases (show u=Value.bool a from q)
  cases x' with
  |non=>cases (show u'=Value.none from q');exact⟨RcAt.bool_none a,RcNeAt.bool_none a⟩
  |bl b=>cases (show u'=Value.bool b from q');exact⟨RcAt.bool_bool a b,RcNeAt.bool_bool a b⟩
  |int b=>obtain⟨tb,rfl⟩:=(show ∃t,u'=Value.int b t from q');exact⟨RcAt.bool_int a b tb,RcNeAt.bool_int a b tb⟩
  |str b=>obtain⟨tb,rfl⟩:=(show ∃t,u'=Value.str b t from q');exact⟨RcAt.bool_str a b tb,RcNeAt.bool_str a b tb⟩
  |_=>cases f'
 |int a=>
  obtain⟨ta,rfl⟩:=(show ∃t,u=Value.int a t from q)
  cases x' with
  |non=>cases (show u'=Value.none from q');exact⟨RcAt.int_none a ta,RcNeAt.int_none a ta⟩
  |bl b=>cases (show u'=Value.bool b from q');exact⟨RcAt.int_bool a ta b,RcNeAt.int_bool a ta b⟩
  |int b=>obtain⟨tb,rfl⟩:=(show ∃t,u'=Value.int b t from q');exact⟨RcAt.int_int a ta b tb,RcNeAt.int_int a ta b tb⟩
  |str b=>obtain⟨tb,rfl⟩:=(show ∃t,u'=Value.str b t from q');exact⟨RcAt.int_str a ta b tb,RcNeAt.int_str a ta b tb⟩
  |_=>cases f'
 |str a=>
  obtain⟨ta,rfl⟩:=(show ∃t,u=Value.str a t from q)
  cases x' with
  |non=>cases (show u'=Value.none from q');exact⟨RcAt.str_none a ta,RcNeAt.str_none a ta⟩
  |bl b=>cases (show u'=Value.bool b from q');exact⟨RcAt.str_bool a ta b,RcNeAt.str_bool a ta b⟩
  |int b=>obtain⟨tb,rfl⟩:=(show ∃t,u'=Value.int b t from q');exact⟨RcAt.str_int a ta b tb,RcNeAt.str_int a ta b tb⟩
  |str b=>obtain⟨tb,rfl⟩:=(show ∃t,u'=Value.str b t from q');exact⟨RcAt.str_str a ta b tb,RcNeAt.str_str a ta b tb⟩
  |_=>cases f'
 |_=>cases f
open SeqAt in
theorem tW{A:Around}{x:V}{u:Value}{b:Addr}{items:Array Value}(fx:lV x=true)(q:aJ x u)(hA:A.units<cLine)(h:s.heap.IsTuple b items\/s.heap.IsList b items):EqAt A s u (.ref b) false/\EqAt A s (.ref b) u false/\RcAt A s u (.ref b) false/\RcAt A s (.ref b) u false/\RcNeAt A s u (.ref b) true/\RcNeAt A s (.ref b) u true:=by
 cases x with
 |non=>
  obtain rfl:u=Value.none:=q
  rcases h with h|h
  ·exact⟨EqAt.none_tuple h hA,EqAt.tuple_none h hA,RcAt.none_tuple h hA,RcAt.tuple_none h hA,RcNeAt.none_tuple h hA,RcNeAt.tuple_none h hA⟩
  ·exact⟨EqAt.none_list h hA,EqAt.list_none h hA,RcAt.none_list h hA,RcAt.list_none h hA,RcNeAt.none_list h hA,RcNeAt.list_none h hA⟩
 |bl a=>
  obtain rfl:u=Value.bool a:=q
  rcases h with h|h
  ·exact⟨EqAt.bool_tuple _ h hA,EqAt.tuple_bool _ h hA,RcAt.bool_tuple _ h hA,RcAt.tuple_bool _ h hA,RcNeAt.bool_tuple _ h hA,RcNeAt.tuple_bool _ h hA⟩
  ·exact⟨EqAt.bool_list _ h hA,EqAt.list_bool _ h hA,RcAt.bool_list _ h hA,RcAt.list_bool _ h hA,RcNeAt.bool_list _ h hA,RcNeAt.list_bool _ h hA⟩
 |int a=>
  obtain⟨t,rfl⟩:∃t,u=Value.int a t:=q
  rcases h with h|h
  ·exact⟨EqAt.int_tuple _ _ h hA,EqAt.tuple_int _ _ h hA,RcAt.int_tuple _ _ h hA,RcAt.tuple_int _ _ h hA,RcNeAt.int_tuple _ _ h hA,RcNeAt.tuple_int _ _ h hA⟩
  ·exact⟨EqAt.int_list _ _ h hA,EqAt.list_int _ _ h hA,RcAt.int_list _ _ h hA,RcAt.list_int _ _ h hA,RcNeAt.int_list _ _ h hA,RcNeAt.list_int _ _ h hA⟩
 |str a=>
  obtain⟨t,rfl⟩:∃t,u=Value.str a t:=q
  rcases h with h|h
  ·exact⟨EqAt.str_tuple _ _ h hA,EqAt.tuple_str _ _ h hA,RcAt.str_tuple _ _ h hA,RcAt.tuple_str _ _ h hA,RcNeAt.str_tuple _ _ h hA,RcNeAt.tuple_str _ _ h hA⟩
  ·exact⟨EqAt.str_list _ _ h hA,EqAt.list_str _ _ h hA,RcAt.str_list _ _ h hA,RcAt.list_str _ _ h hA,RcNeAt.str_list _ _ h hA,RcNeAt.list_str _ _ h hA⟩
 |_=>cases fx
theorem qJ{xs ys:List D}:aY (.tup xs) (.tup ys)=eqDs xs ys/\aY (.lst xs) (.lst ys)=eqDs xs ys/\aY (.tup xs) (.lst ys)=false/\aY (.lst xs) (.tup ys)=false:=by
 refine⟨?_,?_,?_,?_⟩<;>(unfold aY;rfl)
theorem tX{d:D}{v:V}{ys:List D}(h:eA d=some v):aY d (.tup ys)=false/\aY d (.lst ys)=false/\aY (.tup ys) d=false/\aY (.lst ys) d=false:=by
 cases d<;>first|(simp[eA] at h;done)|(refine⟨?_,?_,?_,?_⟩<;>(unfold aY;rfl))
set_option maxHeartbeats 4000000 in
open SeqAt in
theorem xW(I:Inv X pins U H s)(e:Same G H):∀(n:Nat) {A:Around} {d d':D} {x x':V} {u u':Value},A.units+n<cLine->bX n d=true->bX n d'=true->aS X.K X.mg G d x->aJ x u->aS X.K X.mg G d' x'->aJ x' u'->
  EqAt A s u u' (aY d d')/\RcAt A s u u' (aY d d')/\RcNeAt A s u u' (!aY d d'):=by
 have ff:∀{A:Around} {d d':D} {v v' x x':V} {u u':Value},eA d=some v->eA d'=some v'->aS X.K X.mg G d x->aJ x u->aS X.K X.mg G d' x'->aJ x' u'->EqAt A s u u' (aY d d')/\RcAt A s u u' (aY d d')/\RcNeAt A s u u' (!aY d d'):=by
  intro A d d' v v' x x' u u' hv hv' r q r' q'
  obtain⟨rfl,f1⟩:=gA hv r
  obtain⟨rfl,f2⟩:=gA hv' r'
  rw[YB hv hv']
  exact⟨U5 q q' f1 f2,YC q q' f1 f2⟩
 have seq:∀{d:D} {m:Nat} {xs:List D} {x:V} {u:Value},d=.tup xs\/d=.lst xs->aS X.K X.mg G d x->aJ x u->∃b items,u=.ref b/\(s.heap.IsTuple b items\/s.heap.IsList b items):=by
  intro d m xs x u hd r q
  rcases hd with rfl|rfl
  ·obtain⟨a,vs,rfl,q1,q2⟩:=r
   obtain⟨us,v1,t1,_⟩:=I.tuple (Same.sqT e q1)
   exact⟨a,_,q,.inl t1⟩
  ·obtain⟨a,vs,rfl,q1,q2⟩:=r
   obtain⟨us,v1,t1,_⟩:=I.list (e.seq q1)
   exact⟨a,_,q,.inr t1.isList⟩
 intro n
 induction n with
 |zero=>
  intro A d d' x x' u u' hu h h' r q r' q'
  rcases hZ h with⟨w,hw⟩|⟨_,_,z,_⟩|⟨_,_,z,_⟩<;>try omega
  rcases hZ h' with⟨w',hw'⟩|⟨_,_,z,_⟩|⟨_,_,z,_⟩<;>try omega
  exact ff hw hw' r q r' q'
 |succ n ih=>
  intro A d d' x x' u u' hu h h' r q r' q'
  have hA:A.units<cLine:=by omega
  have ih':∀{d d':D} {x x':V} {u u':Value},bX n d=true->bX n d'=true->aS X.K X.mg G d x->aJ x u->aS X.K X.mg G d' x'->aJ x' u'->EqAt A.in1 s u u' (aY d d'):=
   fun a b c d e f=>(ih (A:=A.in1) (by rw[ET];omega) a b c d e f).1
  rcases hZ h with⟨w,hw⟩|⟨m,xs,hm,rfl,hx⟩|⟨m,xs,hm,rfl,hx⟩
  ·rcases hZ h' with⟨w',hw'⟩|⟨m',ys,hm',rfl,hy⟩|⟨m',ys,hm',rfl,hy⟩
   ·exact ff hw hw' r q r' q'
   ·obtain⟨rfl,f1⟩:=gA hw r
    obtain⟨b,items,rfl,hb⟩:=seq (m:=m') (.inl rfl) r' q'
    obtain⟨z1,_,z3,_,z5,_⟩:=tW f1 q hA hb
    rw[(tX hw).1];exact⟨z1,z3,z5⟩
   ·obtain⟨rfl,f1⟩:=gA hw r
    obtain⟨b,items,rfl,hb⟩:=seq (m:=m') (.inr rfl) r' q'
    obtain⟨z1,_,z3,_,z5,_⟩:=tW f1 q hA hb
    rw[(tX hw).2.1];exact⟨z1,z3,z5⟩
  ·obtain rfl:n=m:=by omega
   rcases hZ h' with⟨w',hw'⟩|⟨m',ys,hm',rfl,hy⟩|⟨m',ys,hm',rfl,hy⟩
   ·obtain⟨rfl,f1⟩:=gA hw' r'
    obtain⟨b,items,rfl,hb⟩:=seq (m:=n) (.inl rfl) r q
    obtain⟨_,z2,_,z4,_,z6⟩:=tW f1 q' hA hb
    rw[(tX hw').2.2.1];exact⟨z2,z4,z6⟩
   ·obtain rfl:n=m':=by omega
    have hr:=r;have hr':=r'
    obtain⟨a,vs,rfl,q1,q2⟩:=r
    obtain rfl:u=Value.ref a:=q
    obtain⟨us,v1,t1,_⟩:=I.tuple (Same.sqT e q1)
    obtain⟨b,ws,rfl,q1',q2'⟩:=r'
    obtain rfl:u'=Value.ref b:=q'
    obtain⟨us',v1',t1',_⟩:=I.tuple (Same.sqT e q1')
    have t1:s.heap.IsTuple a us.toArray:=t1
    have t1':s.heap.IsTuple b us'.toArray:=t1'
    have z:=RcAt.tuples t1 t1' hA (tV ih' hx hy q2 v1 q2' v1')
    have zn:=RcNeAt.tuples t1 t1' hA (tV ih' hx hy q2 v1 q2' v1')
    have hz:((List.range (min us.toArray.size us'.toArray.size)).all (fun j=>aY (xs.getD j .non) (ys.getD j .non))&&us.toArray.size==us'.toArray.size)=aY (.tup xs) (.tup ys):=by
     rw[qJ.1,<- tR]
     simp only[xan,<- v1.length,<- v1'.length,<- q2.length,<- q2'.length]
    rw[hz] at z zn
    refine⟨?_,z,zn⟩
    by_cases hab:a=b
    ·subst hab
     have ed:=xV I e (n+1) h h' hr hr'
     rw[ed,xU _ _ h'];exact EqAt.same _
    ·exact EqAt.of_refs hab z
   ·obtain⟨a,vs,rfl,q1,q2⟩:=r
    obtain rfl:u=Value.ref a:=q
    obtain⟨us,v1,t1,_⟩:=I.tuple (Same.sqT e q1)
    obtain⟨b,ws,rfl,q1',q2'⟩:=r'
    obtain rfl:u'=Value.ref b:=q'
    obtain⟨us',v1',t1',_⟩:=I.list (e.seq q1')
    have t1:s.heap.IsTuple a us.toArray:=t1
    rw[qJ.2.2.1]
    exact⟨EqAt.tuple_list t1 t1'.isList hA,RcAt.tuple_list t1 t1'.isList hA,RcNeAt.tuple_list t1 t1'.isList hA⟩
  ·obtain rfl:n=m:=by omega
   rcases hZ h' with⟨w',hw'⟩|⟨m',ys,hm',rfl,hy⟩|⟨m',ys,hm',rfl,hy⟩
   ·obtain⟨rfl,f1⟩:=gA hw' r'
    obtain⟨b,items,rfl,hb⟩:=seq (m:=n) (.inr rfl) r q
    obtain⟨_,z2,_,z4,_,z6⟩:=tW f1 q' hA hb
    rw[(tX hw').2.2.2];exact⟨z2,z4,z6⟩
   ·obtain⟨a,vs,rfl,q1,q2⟩:=r
    obtain rfl:u=Value.ref a:=q
    obtain⟨us,v1,t1,_⟩:=I.list (e.seq q1)
    obtain⟨b,ws,rfl,q1',q2'⟩:=r'
    obtain rfl:u'=Value.ref b:=q'
    obtain⟨us',v1',t1',_⟩:=I.tuple (Same.sqT e q1')
    have t1':s.heap.IsTuple b us'.toArray:=t1'
    rw[qJ.2.2.2]
    exact⟨EqAt.list_tuple t1.isList t1' hA,RcAt.list_tuple t1.isList t1' hA,RcNeAt.list_tuple t1.isList t1' hA⟩
   ·obtain rfl:n=m':=by omega
    have hr:=r;have hr':=r'
    obtain⟨a,vs,rfl,q1,q2⟩:=r
    obtain rfl:u=Value.ref a:=q
    obtain⟨us,v1,t1,_⟩:=I.list (e.seq q1)
    obtain⟨b,ws,rfl,q1',q2'⟩:=r'
    obtain rfl:u'=Value.ref b:=q'
    obtain⟨us',v1',t1',_⟩:=I.list (e.seq q1')
    have both:RcAt A s (.ref a) (.ref b) (aY (.lst xs) (.lst ys))/\RcNeAt A s (.ref a) (.ref b) (!aY (.lst xs) (.lst ys)):=by
     by_cases hl:us.toArray.size=us'.toArray.size
     ·have z:=RcAt.lists t1.isList t1'.isList hl hA (tV ih' hx hy q2 v1 q2' v1')
      have zn:=RcNeAt.lists t1.isList t1'.isList hl hA (tV ih' hx hy q2 v1 q2' v1')
      have hz:(List.range us.toArray.size).all (fun j=>aY (xs.getD j .non) (ys.getD j .non))=aY (.lst xs) (.lst ys):=by
       have hl':xs.length=ys.length:=by rw[q2.length,q2'.length,v1.length,v1'.length];simpa using hl
       rw[qJ.2.1,<- tR,hl',Nat.min_self,xan,<- v1.length,<- q2.length,hl']
       simp
      rw[hz] at z zn
      exact⟨z,zn⟩
     ·have z:=RcAt.lists_lengths t1.isList t1'.isList (by simpa using hl) hA
      have zn:=RcNeAt.lists_lengths t1.isList t1'.isList (by simpa using hl) hA
      have hz:aY (.lst xs) (.lst ys)=false:=by
       have hl':¬xs.length=ys.length:=by rw[q2.length,q2'.length,v1.length,v1'.length];simpa using hl
       rw[qJ.2.1,<- tR]
       simp[hl']
      rw[hz]
      exact⟨z,zn⟩
    refine⟨?_,both⟩
    by_cases hab:a=b
    ·subst hab
     have ed:=xV I e (n+1) h h' hr hr'
     rw[ed,xU _ _ h'];exact EqAt.same _
    ·exact EqAt.of_refs hab both.1
end
end DL
namespace DL
open L2 PyProof.Rows
def B(n:Nat)(i:Int):Prop:=i.natAbs<2^n
theorem B.mono{m n:Nat}{i:Int}(h:B m i)(l:m<=n):B n i:=xae h (Nat.pow_le_pow_right (by decide) l)
theorem B.mul{m n:Nat}{i j:Int}(a:B m i)(b:B n j):B (m+n) (i*j):=by
 unfold B at *
 rw[xb9,Nat.pow_add]
 exact Nat.mul_lt_mul'' a b
theorem B.add{m n:Nat}{i j:Int}(a:B m i)(b:B n j):B (max m n+1) (i+j):=by
 have a':=a.mono (Nat.le_max_left m n)
 have b':=b.mono (Nat.le_max_right m n)
 unfold B at *
 rw[Nat.pow_succ]
 omega
theorem B.sub{m n:Nat}{i j:Int}(a:B m i)(b:B n j):B (max m n+1) (i-j):=by
 have a':=a.mono (Nat.le_max_left m n)
 have b':=b.mono (Nat.le_max_right m n)
 unfold B at *
 rw[Nat.pow_succ]
 omega
theorem B.of{n:Nat}{i:Int}{k:Nat}(h:i.natAbs<=k)(hk:k<2^n:=by decide +kernel):B n i:=xa9 h hk
theorem B.log{n:Nat}{i:Int}(h:B n i)(hn:0<n):i.natAbs.log2<n:=DD hn h
def fP(i:Int):Bool:=decide (i.natAbs.log2<60000000)
theorem tY{n:Nat}{i:Int}(h:B n i)(hn:n<=60000000:=by decide):fP i=true:=by
 refine xaj ?_
 cases n with
 |zero=>
  have:i.natAbs=0:=by unfold B at h;omega
  rw[this];decide
 |succ k=>exact xae (h.log (Nat.succ_pos _)) hn
theorem YD{i j:Int}(a:fP i=true)(b:fP j=true):IntMulOk i j:=by
 have h1:i.natAbs.log2<60000000:=xa0 a
 have h2:j.natAbs.log2<60000000:=xa0 b
 have bits:∀k:Int,k.natAbs.log2<60000000->Builtin.Int.intBits k<=60000000:=fun k h=>by
  unfold Builtin.Int.intBits
  split
  ·exact xbi _
  ·omega
 have b1:=bits i h1
 have b2:=bits j h2
 unfold IntMulOk
 intro z
 simp only[xau,decide_eq_true_eq,Builtin.Int.intTooBig] at z
 have e:=z.2
 have l:(bitsLine:Int)=134217728:=by decide
 rw[l] at e
 omega
def jE(i:Int):Bool:=decide (i≠0/\i.natAbs.log2<9000)
theorem xX{n:Nat}{i:Int}(h:B n i)(h0:i≠0)(hn:n<=9000:=by decide):jE i=true:=by
 refine xaj ⟨h0,?_⟩
 cases n with
 |zero=>
  have:i.natAbs=0:=by unfold B at h;omega
  omega
 |succ k=>exact xae (h.log (Nat.succ_pos _)) hn
def xY(i j:Int):Bool:=decide (0<=j/\j<=1000000/\i.natAbs<2^64)
section
variable{X:Cx}{K:xFg}{mg:Str->Option Value}
def gI(C:Int->Int->Bool)(h:Int->Int->Int):D->D->R D
 |.int i,.int j=>bif C i j then .ok (.int (h i j)) else .bad
 |_,_=>.bad
def gB(h:Int->Int->Bool):D->D->R D
 |.int i,.int j=>.ok (.bl (h i j))
 |_,_=>.bad
theorem qK{C:Int->Int->Bool}{h:Int->Int->Int}:fG (gI C h):=by
 intro a b e
 cases a<;>cases b<;>simp only[gI]<;>first|(intro z;cases z)|(intro z;revert z;cases C _ _<;>simp[cond])
theorem tZ{h:Int->Int->Bool}:fG (gB h):=by
 intro a b e
 cases a<;>cases b<;>simp only[gB]<;>(intro z;cases z)
theorem qL{C:Int->Int->Bool}{C':Int->Int->Prop}{h:Int->Int->Int}(hc:∀i j,C i j=true->C' i j):fF K mg (rI C' fun i j=>.int (h i j)) (gI C h):=by
 intro G H a b x y Q e ra rb q
 cases a with
 |int i=>cases b with
  |int j=>
   cases ra;cases rb
   cases hC:C i j with
   |false=>simp only[gI,hC,cond_false] at q;exact q.elim
   |true=>
    simp only[gI,hC,cond_true] at q
    exact⟨i,j,rfl,rfl,hc i j hC,aL.now q e rfl⟩
  |_=>exact(show False from q).elim
 |_=>exact(show False from q).elim
theorem t0{h:Int->Int->Bool}:fF K mg (i7 fun i j=>.bl (h i j)) (gB h):=by
 intro G H a b x y Q e ra rb q
 cases a with
 |int i=>cases b with
  |int j=>cases ra;cases rb;exact⟨i,j,rfl,rfl,aL.now q e rfl⟩
  |_=>exact(show False from q).elim
 |_=>exact(show False from q).elim
theorem YE:bE X (binaryOp .Mult) (rI (fun i j=>fP i=true/\fP j=true) fun i j=>.int (i*j)):=lP fun _ _ _ _ _ _ _ hc q=>mul_int q (YD hc.1 hc.2)
theorem YF:bE X (binaryOp .FloorDiv) (rI (fun _ j=>jE j=true) fun i j=>.int (i.fdiv j)):=lP fun i j _ _ _ _ _ hc q=>by
 have h:=xa0 (p:=j≠0/\j.natAbs.log2<9000) hc
 exact floordiv_int h.1 q (.inl (PyProof.noPylong_of_log2 h.2))
def EU(K:xFg):R2:=fun x y H Q=>∃l b xs zs,x=.ref l/\y=.ref b/\aW K H l xs/\aW K H b zs/\xs.length+zs.length<=sizeLine/\∀p,H p=none->Q (.ref p) (upd H p (.lst (xs++zs)))
theorem YG:bE X (binaryOp .Add) (EU X.K):=by
 intro pins s U H x y v u Q I rx ry h
 obtain⟨l,b,xs,zs,rfl,rfl,hH,hB,hz,q⟩:=h
 cases rx
 cases ry
 obtain⟨its,r,pl,_⟩:=I.list hH
 obtain⟨its2,r2,pl2,_⟩:=I.list hB
 obtain⟨⟨cls,dd,data,sl⟩,ho,hc,n,hd⟩:=id pl.isList
 obtain⟨⟨cls2,dd2,data2,sl2⟩,ho2,hc2,n2,hd2⟩:=id pl2.isList
 simp only at hc hd hc2 hd2
 subst hc hd hc2 hd2
 refine concat_meets ⟨_,ho,rfl⟩ ⟨_,ho2,rfl⟩ noFill_list_add seq_list_add PySem.F.slot_list_add PySem.F.entry_list_add (PySem.F.args_list_add_2 _ _) (list_addW l b its.toArray its2.toArray n n2 dd dd2 sl sl2 (by rw[xan,xan,<- r.length,<- r2.length];exact hz)) ⟨ho,ho2,?_⟩
 have ea:its.toArray++its2.toArray=(its++its2).toArray:=by simp
 rw[ea]
 exact⟨.ref _,_,I.lnew (t':=s.toks) (r.append r2) (by rw[xav];exact hz),rfl,q _ I.fresh⟩
def dR(n:Nat):Bool:=decide (n<=sizeLine)
def bL:D->D->R D
 |.int i,.int j=>.ok (.int (i+j))
 |.str x,.str y=>bif dR (x.length+y.length) then .ok (.str (x++y)) else .bad
 |.lst xs,.lst ys=>bif dR (xs.length+ys.length) then .ok (.lst (xs++ys)) else .bad
 |.tup xs,.tup ys=>bif dR (xs.length+ys.length) && !xs.isEmpty then .ok (.tup (xs++ys)) else .bad
 |_,_=>.bad
theorem YH:fG bL:=by
 intro a b e
 cases a<;>cases b<;>simp only[bL]<;>first|(intro z;cases z;done)|(generalize dR _=k;cases k<;>simp[cond]<;>(try (generalize List.isEmpty _=k2;cases k2<;>simp)))
abbrev YI(K:xFg):R2:=fun x y H Q=>i7 (fun i j=>.int (i+j)) x y H Q\/((∃i j,x=.str i/\y=.str j/\i.length+j.length<=sizeLine/\Q (.str (i++j)) H)\/(EU K x y H Q\/C1 K x y H Q))
theorem YJ:fF K mg (YI K) bL:=by
 intro G H a b x y Q e ra rb q
 cases a with
 |int i=>cases b with
  |int j=>cases ra;cases rb;exact .inl ⟨i,j,rfl,rfl,aL.now q e rfl⟩
  |_=>exact(show False from q).elim
 |str i=>cases b with
  |str j=>
   cases ra;cases rb
   cases hC:dR (i.length+j.length) with
   |false=>simp only[bL,hC,cond_false] at q;exact q.elim
   |true=>
    simp only[bL,hC,cond_true] at q
    exact .inr (.inl ⟨i,j,rfl,rfl,xa0 hC,aL.now q e rfl⟩)
  |_=>exact(show False from q).elim
 |lst xs=>cases b with
  |lst ys=>
   obtain⟨p,vs,rfl,h1,h2⟩:=ra
   obtain⟨p',ws,rfl,h1',h2'⟩:=rb
   cases hC:dR (xs.length+ys.length) with
   |false=>simp only[bL,hC,cond_false] at q;exact q.elim
   |true=>
    simp only[bL,hC,cond_true] at q
    refine .inr (.inr (.inl ⟨p,p',vs,ws,rfl,rfl,e.seq h1,e.seq h1',by rw[<- h2.length,<- h2'.length];exact xa0 hC,fun l hl=>?_⟩))
    have s:=Step.pub (o:=.lst (vs++ws)) e hl
    exact(show aL K mg Q G H (.lst (xs++ys)) from q) _ _ _ s ⟨l,_,rfl,aW.of aV,(h2.append h2').mono s.g⟩
  |_=>exact(show False from q).elim
 |tup xs=>cases b with
  |tup ys=>
   obtain⟨p,vs,rfl,h1,h2⟩:=ra
   obtain⟨p',ws,rfl,h1',h2'⟩:=rb
   cases hC:(dR (xs.length+ys.length) && !xs.isEmpty) with
   |false=>simp only[bL,hC,cond_false] at q;exact q.elim
   |true=>
    simp only[bL,hC,cond_true] at q
    rw[xau] at hC
    have q':aL K mg Q G H (.tup (xs++ys)):=q
    refine .inr (.inr (.inr ⟨p,p',vs,ws,rfl,rfl,Same.sqT e h1,Same.sqT e h1',fun z=>?_,by rw[<- h2.length,<- h2'.length];exact xa0 hC.1,fun z=>?_,fun z l hl=>?_⟩))
    ·subst z
     have:=h2.length
     have hx:xs=[]:=xb1.mp this
     subst hx;simp at hC
    ·subst z
     have:=h2'.length
     have hy:ys=[]:=xb1.mp this
     subst hy
     rw[xb5] at q'
     exact q'.now e ⟨p,vs,rfl,h1,h2⟩
    ·have s:=Step.pub (o:=.tup (vs++ws)) e hl
     exact q' _ _ _ s ⟨l,_,rfl,bJ.of aV,(h2.append h2').mono s.g⟩
  |_=>exact(show False from q).elim
 |_=>exact(show False from q).elim
abbrev gSub:D->D->R D:=gI (fun _ _=>true) fun i j=>i-j
abbrev bC:D->D->R D:=gI (fun i j=>fP i&&fP j) fun i j=>i*j
abbrev iV:D->D->R D:=gI (fun _ j=>jE j) fun i j=>i.fdiv j
abbrev bY:D->D->R D:=gI (fun _ j=>decide (j≠0)) fun i j=>i.fmod j
abbrev l8:D->D->R D:=gI xY fun i j=>i^j.toNat
abbrev YK:D->D->R D:=gI (fun _ j=>decide (0<=j)) fun i j=>i/2^j.toNat
variable{E:XK}{a b c:Expr}{fa fb fc:DSt->R D}{pos:Pos}
theorem EV(ha:DE X E a fa)(hb:DE X E b fb):DE X E (.BinOp a .Add b pos) (aC bL fa fb):=nZ (S0.or (TN.or (YG.or UX))) YJ YH ha hb
theorem YL(ha:DE X E a fa)(hb:DE X E b fb):DE X E (.BinOp a .Sub b pos) (aC gSub fa fb):=
 nZ (r:=rI (fun _ _=>True) fun i j=>.int (i-j)) (lP fun _ _ _ _ _ _ _ _ q=>sub_int q) (qL fun _ _ _=>trivial) qK ha hb
theorem YM(ha:DE X E a fa)(hb:DE X E b fb):DE X E (.BinOp a .Mult b pos) (aC bC fa fb):=nZ YE (qL fun i j h=>by simpa using h) qK ha hb
theorem YN(ha:DE X E a fa)(hb:DE X E b fb):DE X E (.BinOp a .FloorDiv b pos) (aC iV fa fb):=nZ YF (qL fun i j h=>h) qK ha hb
theorem YO(ha:DE X E a fa)(hb:DE X E b fb):DE X E (.BinOp a .Mod b pos) (aC bY fa fb):=nZ S3 (qL fun i j h=>xa0 h) qK ha hb
theorem YQ(ha:DE X E a fa)(hb:DE X E b fb):DE X E (.BinOp a .Pow b pos) (aC l8 fa fb):=nZ S4 (qL fun i j h=>xa0 (p:=0<=j/\j<=1000000/\i.natAbs<2^64) h) qK ha hb
def qM:D->R D
 |.int i=>.ok (.int (-i))
 |_=>.bad
theorem YR(ha:DE X E a fa):DE X E (.UnaryOp .USub a pos) (qB qM fa):=by
 refine XJ B8 (fun G H d x Q e r q=>?_) (fun d e=>?_) ha
 ·cases d with
  |int i=>cases r;exact⟨i,rfl,aL.now q e rfl⟩
  |_=>exact(show False from q).elim
 ·cases d<;>simp[qM]
structure eW(X:Cx)(op:CmpOp)(g:D->D->R D):Prop where
 ex:∃r,bE X (compareOp op) r/\fF X.K X.mg r g/\fG g
abbrev k9:D->D->R D:=gB fun i j=>decide (i<j)
abbrev qN:D->D->R D:=gB fun i j=>decide (i<=j)
abbrev j6:D->D->R D:=gB fun i j=>decide (j<i)
abbrev gGe:D->D->R D:=gB fun i j=>decide (j<=i)
theorem oB:eW X .Lt k9:=⟨_,S8,t0,tZ⟩
theorem xZ:eW X .LtE qN:=⟨_,S9,t0,tZ⟩
theorem l9:eW X .Gt j6:=⟨_,TB,t0,tZ⟩
theorem YS:eW X .GtE gGe:=⟨_,TC,t0,tZ⟩
def gK(a b:D):Bool:=bX 9 a&&bX 9 b
def a6(a b:D):R D:=bif gK a b then .ok (.bl (aY a b)) else .bad
def eD(a b:D):R D:=bif gK a b then .ok (.bl (!aY a b)) else .bad
def EY(K:xFg)(mg:Str->Option Value)(neg:Bool):R2:=fun x y H Q=>∃G d d',Same G H/\aS K mg G d x/\aS K mg G d' y/\gK d d'=true/\Q (.bl (bif neg then !aY d d' else aY d d')) H
theorem YT{k:Nat}(r:cH k X.A):bE X (compareOp .Eq) (EY X.K X.mg false):=by
 intro pins s U H x y v u Q I rx ry h
 obtain⟨G,d,d',e,r1,r2,c,q⟩:=h
 unfold gK at c
 rw[xau] at c
 have hu:X.A.units+9<cLine:=by have:=r.un;omega
 exact(xW I e 9 hu c.1 c.2 r1 rx r2 ry).2.1 _ _ _ _ ⟨.bl _,H,I,rfl,q⟩
theorem YU{k:Nat}(r:cH k X.A):bE X (compareOp .NotEq) (EY X.K X.mg true):=by
 intro pins s U H x y v u Q I rx ry h
 obtain⟨G,d,d',e,r1,r2,c,q⟩:=h
 unfold gK at c
 rw[xau] at c
 have hu:X.A.units+9<cLine:=by have:=r.un;omega
 exact(xW I e 9 hu c.1 c.2 r1 rx r2 ry).2.2 _ _ _ _ ⟨.bl _,H,I,rfl,q⟩
theorem EZ{k:Nat}(C:XC X E k):eW X .Eq a6:=⟨_,YT C.room,fun G H a b x y Q e ra rb q=>by
 unfold a6 at q
 cases hc:gK a b with
 |false=>rw[hc] at q;exact q.elim
 |true=>rw[hc] at q;exact⟨G,a,b,e,ra,rb,hc,aL.now q e rfl⟩,fun a b e=>by unfold a6;cases gK a b<;>simp[cond]⟩
theorem YV{k:Nat}(C:XC X E k):eW X .NotEq eD:=⟨_,YU C.room,fun G H a b x y Q e ra rb q=>by
 unfold eD at q
 cases hc:gK a b with
 |false=>rw[hc] at q;exact q.elim
 |true=>rw[hc] at q;exact⟨G,a,b,e,ra,rb,hc,aL.now q e rfl⟩,fun a b e=>by unfold eD;cases gK a b<;>simp[cond]⟩
def mB:D->Bool
 |.non=>true
 |_=>false
def mE:D->D->R D
 |d,.non=>.ok (.bl (mB d))
 |.bl a,.bl b=>.ok (.bl (a==b))
 |_,_=>.bad
def oE:D->D->R D
 |d,.non=>.ok (.bl (!mB d))
 |.bl a,.bl b=>.ok (.bl (a != b))
 |_,_=>.bad
theorem E1{G:Hp}{d:D}{x:V}(r:aS K mg G d x):decide (x=.non)=mB d:=by
 have nr:∀a:Addr,decide (V.ref a=V.non)=false:=fun a=>by simp
 cases d with
 |non=>cases r;rfl
 |bl b=>cases r;rfl
 |int i=>cases r;rfl
 |str y=>cases r;rfl
 |ty n=>cases r;rfl
 |cls c=>obtain⟨C,rfl,_⟩:=r;exact nr _
 |tup xs=>obtain⟨a,vs,rfl,_⟩:=r;exact nr _
 |lst xs=>obtain⟨a,vs,rfl,_⟩:=r;exact nr _
 |dct ks xs=>obtain⟨a,vs,rfl,_⟩:=r;exact nr _
 |exc c as=>obtain⟨a,C,dct,vs,rfl,_⟩:=r;exact nr _
theorem t7:eW X .Is mE:=⟨_,TF.or VV,fun G H a b x y Q e ra rb q=>by
 cases b with
 |non=>cases rb;exact .inl ⟨rfl,by rw[E1 ra];cases a<;>exact aL.now q e rfl⟩
 |bl k=>cases a with
  |bl k'=>cases ra;cases rb;exact .inr ⟨k',k,rfl,rfl,aL.now q e rfl⟩
  |_=>exact(show False from q).elim
 |_=>cases a<;>exact(show False from q).elim,fun a b e=>by cases a<;>cases b<;>simp[mE]⟩
theorem x0:eW X .IsNot oE:=⟨_,TH.or VW,fun G H a b x y Q e ra rb q=>by
 cases b with
 |non=>cases rb;exact .inl ⟨rfl,by rw[E1 ra];cases a<;>exact aL.now q e rfl⟩
 |bl k=>cases a with
  |bl k'=>cases ra;cases rb;exact .inr ⟨k',k,rfl,rfl,aL.now q e rfl⟩
  |_=>exact(show False from q).elim
 |_=>cases a<;>exact(show False from q).elim,fun a b e=>by cases a<;>cases b<;>simp[oE]⟩
theorem E2{op:CmpOp}{g:D->D->R D}(cf:eW X op g)(ha:DE X E a fa)(hb:DE X E b fb)(hm:behindInMarks op b=false:=by first|exact dA _ (by decide) (by decide)|rfl):DE X E (.Compare a [op] [b] pos) (aC g fa fb):=by
 obtain⟨r,h1,h2,h3⟩:=cf.ex
 exact W9 h1 h2 h3 ha hb hm
theorem fJ{op:CmpOp}{g:D->D->R D}(cf:eW X op g)(ha:DE X E a fa)(hb:DE X E b fb)(hm:behindInMarks op b=false:=by first|exact dA _ (by decide) (by decide)|rfl):DT X E (.Compare a [op] [b] pos) (aR (aC g fa fb)):=by
 obtain⟨r,h1,h2,h3⟩:=cf.ex
 exact XA h1 h2 h3 ha hb hm
theorem YW{op op':CmpOp}{g g':D->D->R D}(cf:eW X op g)(cf':eW X op' g')(ha:DE X E a fa)(hb:DE X E b fb)(hc:DE X E c fc)(hm:lastMarks [op,op'] [b,c]=false:=by with_unfolding_all rfl):DE X E (.Compare a [op,op'] [b,c] pos) (jZ g g' fa fb fc):=by
 obtain⟨r,h1,h2,h3⟩:=cf.ex
 obtain⟨r',h1',h2',h3'⟩:=cf'.ex
 exact XB h1 h2 h3 h1' h2' h3' ha hb hc hm
theorem YX{op op':CmpOp}{g g':D->D->R D}(cf:eW X op g)(cf':eW X op' g')(ha:DE X E a fa)(hb:DE X E b fb)(hc:DE X E c fc)(hm:lastMarks [op,op'] [b,c]=false:=by with_unfolding_all rfl):DT X E (.Compare a [op,op'] [b,c] pos) (aR (jZ g g' fa fb fc)):=by
 obtain⟨r,h1,h2,h3⟩:=cf.ex
 obtain⟨r',h1',h2',h3'⟩:=cf'.ex
 exact XE h1 h2 h3 h1' h2' h3' ha hb hc hm
end
end DL
namespace DL
open L2 PyProof.Rows
section
variable{X:Cx}{E:XK}{K:xFg}{mg:Str->Option Value}{G H:Hp}
theorem YY:bootBuiltins "isinstance"=some (.builtin "isinstance"):=by rfl
theorem E3:bootBuiltins "int"=some (.type "int"):=by rfl
theorem YZ:bootBuiltins "bool"=some (.type "bool"):=by rfl
theorem E4:bootBuiltins "tuple"=some (.type "tuple"):=by rfl
theorem bt_list:bootBuiltins "list"=some (.type "list"):=by rfl
theorem Reps.one{d:D}{vs:List V}(h:Reps K mg G [d] vs):∃v,vs=[v]/\aS K mg G d v:=by
 obtain⟨v,r,rfl,h2,h3⟩:=h
 cases h3
 exact⟨v,rfl,h2⟩
theorem Reps.two{d d':D}{vs:List V}(h:Reps K mg G [d,d'] vs):∃v w,vs=[v,w]/\aS K mg G d v/\aS K mg G d' w:=by
 obtain⟨v,r,rfl,h2,h3⟩:=h
 obtain⟨w,rfl,h4⟩:=h3.one
 exact⟨v,w,rfl,h2,h4⟩
def g1{α:Type}(g:D->R α):List D->R α
 |[d]=>g d
 |_=>.bad
def g2{α:Type}(g:D->D->R α):List D->R α
 |[d,e]=>g d e
 |_=>.bad
theorem t8{r:List V->Hp->VK->Prop}{g:D->R D}(h:∀(G H:Hp) (d:D) (v:V) (Q:VK),Same G H->aS K mg G d v->RW (g d) (aL K mg Q G H) (fun _=>False)->r [v] H Q):j3 K mg r (g1 g):=by
 intro G H ds vs Q e rp q
 match ds,rp,q with
 |[],rp,q=>exact(show False from q).elim
 |[d],rp,q=>obtain⟨v,rfl,h1⟩:=rp.one;exact h G H d v Q e h1 q
 |_::_::_,rp,q=>exact(show False from q).elim
theorem cd2{r:List V->Hp->VK->Prop}{g:D->D->R D}(h:∀(G H:Hp) (d d':D) (v v':V) (Q:VK),Same G H->aS K mg G d v->aS K mg G d' v'->RW (g d d') (aL K mg Q G H) (fun _=>False)->r [v,v'] H Q):j3 K mg r (g2 g):=by
 intro G H ds vs Q e rp q
 match ds,rp,q with
 |[],rp,q=>exact(show False from q).elim
 |[d],rp,q=>exact(show False from q).elim
 |[d,d'],rp,q=>obtain⟨v,w,rfl,h1,h2⟩:=rp.two;exact h G H d d' v w Q e h1 h2 q
 |_::_::_::_,rp,q=>exact(show False from q).elim
variable{x:Str}{p pos:Pos}{e:Expr}{es:List Expr}{fs:DSt->R (List D)}
def x9:D->R D
 |.lst xs=>.ok (.int xs.length)
 |.tup xs=>.ok (.int xs.length)
 |.str y=>bif dR y.length then .ok (.int y.length) else .bad
 |_=>.bad
abbrev cR:=g1 x9
theorem Y1:j3 K mg (fun xs H Q=>(∃p ys,xs=[.ref p]/\(aW K H p ys\/bJ K H p ys)/\Q (.int ys.length) H)\/(∃z,xs=[.str z]/\z.length<=sizeLine/\Q (.int z.length) H)) cR:=t8 fun G H d v Q e r q=>by
 cases d with
 |lst xs=>
  obtain⟨a,vs,rfl,h1,h2⟩:=r
  exact .inl ⟨a,vs,rfl,.inl (e.seq h1),by rw[<- h2.length];exact aL.now q e rfl⟩
 |tup xs=>
  obtain⟨a,vs,rfl,h1,h2⟩:=r
  exact .inl ⟨a,vs,rfl,.inr (Same.sqT e h1),by rw[<- h2.length];exact aL.now q e rfl⟩
 |str y=>
  cases r
  cases hC:dR y.length with
  |false=>simp only[x9,hC,cond_false] at q;exact q.elim
  |true=>simp only[x9,hC,cond_true] at q;exact .inr ⟨y,rfl,xa0 hC,aL.now q e rfl⟩
 |_=>exact(show False from q).elim
theorem Y2(hm:X.mg "len"=none)(ha:DA X E (e::es) fs)(hg:Gl X "len":=by rfl)(he:starEach (e::es) X.env=(false,eval e X.env)::starEach es X.env:=by rfl)(hpl:(backTo pos (starEach es X.env)).any (·.1)=false:=by rfl):DE X E (.Call (.Name "len" p) (e::es) [] pos) (bD cR fs):=
 tM (U7.or U8) Y1 hm PySem.boot_len ha hg (by decide) (by decide) he hpl
def Y3:D->R D
 |.int i=>.ok (.int (i.natAbs:Int))
 |_=>.bad
abbrev qO:=g1 Y3
theorem Y4:j3 K mg (fun xs H Q=>∃i,xs=[.int i]/\Q (.int (if i<0 then -i else i)) H) qO:=t8 fun G H d v Q e r q=>by
 cases d with
 |int i=>
  cases r
  have ea:(if i<0 then -i else i)=(i.natAbs:Int):=by split<;>omega
  exact⟨i,rfl,by rw[ea];exact aL.now q e rfl⟩
 |_=>exact(show False from q).elim
theorem Y5(hm:X.mg "abs"=none)(ha:DA X E (e::es) fs)(hg:Gl X "abs":=by rfl)(he:starEach (e::es) X.env=(false,eval e X.env)::starEach es X.env:=by rfl)(hpl:(backTo pos (starEach es X.env)).any (·.1)=false:=by rfl):DE X E (.Call (.Name "abs" p) (e::es) [] pos) (bD qO fs):=
 tM CB Y4 hm PyProof.Rows.boot_abs ha hg (by decide) (by decide) he hpl
def Y6:D->D->R D
 |.int i,.int j=>.ok (.int (min i j))
 |_,_=>.bad
def Y7:D->D->R D
 |.int i,.int j=>.ok (.int (max i j))
 |_,_=>.bad
abbrev Y8:=g2 Y6
abbrev Y9:=g2 Y7
def mF:List D->Option (List Int)
 |[]=>some []
 |.int i::r=>(mF r).map (i::·)
 |_=>none
theorem yA:∀{ds:List D} {ns:List Int},mF ds=some ns->ds=ns.map D.int
 |[],ns,h=>by simp only[mF,Option.some.injEq] at h;subst h;rfl
 |.int i::r,ns,h=>by
  simp only[mF,xbr] at h
  obtain⟨ms,h1,rfl⟩:=h
  rw[yA h1];rfl
def yB:D->R D
 |.lst xs=>match mF xs with
  |some ns=>.ok (.int ns.sum)
  |none=>.bad
 |_=>.bad
abbrev oF:=g1 yB
theorem ZA:j3 K mg (fun xs H Q=>∃(p:Addr) (ns:List Int),xs=[.ref p]/\aW K H p (ns.map V.int)/\Q (.int ns.sum) H) oF:=t8 fun G H d v Q e r q=>by
 cases d with
 |lst xs=>
  obtain⟨a,vs,rfl,h1,h2⟩:=r
  cases hn:mF xs with
  |none=>simp only[yB,hn] at q;exact q.elim
  |some ns=>
   simp only[yB,hn] at q
   rw[yA hn] at h2
   rw[Reps.of_ints h2] at h1
   exact⟨a,ns,rfl,e.seq h1,aL.now q e rfl⟩
 |_=>exact(show False from q).elim
theorem ZC(hc:X.calm=true)(hm:X.mg "sum"=none)(ha:DA X E (e::es) fs)(hg:Gl X "sum":=by rfl)(he:starEach (e::es) X.env=(false,eval e X.env)::starEach es X.env:=by rfl)(hpl:(backTo pos (starEach es X.env)).any (·.1)=false:=by rfl):DE X E (.Call (.Name "sum" p) (e::es) [] pos) (bD oF fs):=
 tM (VX hc) ZA hm PyProof.Rows.boot_sum ha hg (by decide) (by decide) he hpl
def ZD:D->R D
 |.int i=>.ok (.int i)
 |.bl b=>.ok (.int (if b then 1 else 0))
 |_=>.bad
abbrev qP:=g1 ZD
theorem ZE:j3 K mg (fun xs H Q=>(∃i,xs=[.int i]/\Q (.int i) H)\/∃k,xs=[.bl k]/\Q (.int (if k then 1 else 0)) H) qP:=t8 fun G H d v Q e r q=>by
 cases d with
 |int i=>cases r;exact .inl ⟨i,rfl,aL.now q e rfl⟩
 |bl b=>cases r;exact .inr ⟨b,rfl,aL.now q e rfl⟩
 |_=>exact(show False from q).elim
theorem ZF(hm:X.mg "int"=none)(ha:DA X E (e::es) fs)(hg:Gl X "int":=by rfl)(he:starEach (e::es) X.env=(false,eval e X.env)::starEach es X.env:=by rfl)(hpl:(backTo pos (starEach es X.env)).any (·.1)=false:=by rfl):DE X E (.Call (.Name "int" p) (e::es) [] pos) (bD qP fs):=
 EH TR ZE hm ha E3 hg (by decide) (by decide) he hpl
def tuple1:D->R D
 |.lst xs=>.ok (.tup xs)
 |.tup xs=>.ok (.tup xs)
 |_=>.bad
def oG(g:List D->R (List D))(fs:DSt->R (List D)):DSt->R (List D):=fun U=>(fs U).bind fun ds=>(g ds).noerr
def E5(K:xFg)(mg:Str->Option Value)(r:List V->Hp->VK->Prop)(g:List D->R (List D)):Prop:=
 ∀(G H:Hp) (ds:List D) (vs:List V) (Q:VK),Same G H->Reps K mg G ds vs->RW (g ds) (jY K mg Q G H) (fun _=>False)->r vs H Q
theorem ZG{T:String}{r:List V->Hp->VK->Prop}{g:List D->R (List D)}(hc:eK X (.type T) r)(hd:E5 X.K X.mg r g)(hm:X.mg x=none)(ha:DA X E (e::es) fs)(hv:bootBuiltins x=some (.type T):=by rfl)(hg:Gl X x:=by rfl)(hn:x≠"__name__":=by decide)(hdb:(x==("__debug__":Str))=false:=by decide)
  (he:starEach (e::es) X.env=(false,eval e X.env)::starEach es X.env:=by rfl) (hpl:(backTo pos (starEach es X.env)).any (·.1)=false:=by rfl):DF X E (.Call (.Name x p) (e::es) [] pos) (oG g fs):=by
 refine PE.mono' (CW hc hg hm hv ha hn hdb he hpl) fun U H Q ⟨G,Ud,ok,q⟩=>?_
 refine⟨G,Ud,ok,q.of_bind.mono (fun ds _ z vs G' H' s r=>?_) fun _ z=>z⟩
 obtain⟨d,e1,z⟩:=n8 z
 exact hd G' H' ds vs Q s.e r (by rw[e1];exact z.step s)
def ZH:D->R (List D)
 |.lst xs=>.ok xs
 |.tup xs=>.ok xs
 |_=>.bad
abbrev oH:=g1 ZH
theorem ZI:E5 K mg (fun xs H Q=>∃p ys,xs=[.ref p]/\(aW K H p ys\/bJ K H p ys)/\∀l,H l=none->Q (.ref l) (upd H l (.lst ys))) oH:=by
 intro G H ds vs Q e rp q
 have go:∀xs vs,Reps K mg G xs vs->jY K mg Q G H xs->∀l,H l=none->Q (.ref l) (upd H l (.lst vs)):=fun xs vs h z l hl=>z l vs G _ (.hid e hl) hl aV (e.free hl) h
 match ds,rp,q with
 |[],rp,q=>exact(show False from q).elim
 |[d],rp,q=>
  obtain⟨v,rfl,r⟩:=rp.one
  cases d with
  |lst xs=>obtain⟨a,vs,rfl,h1,h2⟩:=r;exact⟨a,vs,rfl,.inl (e.seq h1),go xs vs h2 q⟩
  |tup xs=>obtain⟨a,vs,rfl,h1,h2⟩:=r;exact⟨a,vs,rfl,.inr (Same.sqT e h1),go xs vs h2 q⟩
  |_=>exact(show False from q).elim
 |_::_::_,rp,q=>exact(show False from q).elim
theorem ZJ(hm:X.mg "list"=none)(ha:DA X E (e::es) fs)(hg:Gl X "list":=by rfl)(he:starEach (e::es) X.env=(false,eval e X.env)::starEach es X.env:=by rfl)(hpl:(backTo pos (starEach es X.env)).any (·.1)=false:=by rfl):DF X E (.Call (.Name "list" p) (e::es) [] pos) (oG oH fs):=
 ZG U9 ZI hm ha bt_list hg (by decide) (by decide) he hpl
def yC:D->Option String
 |.non=>some "NoneType"
 |.bl _=>some "bool"
 |.int _=>some "int"
 |.str _=>some "str"
 |.tup _=>some "tuple"
 |.lst _=>some "list"
 |.dct _ _=>some "dict"
 |_=>none
def qQ(T:String):Bool:=["int","bool","str","tuple","list","dict"].contains T
def t9(t T:String):Bool:=t==T||(t=="bool"&&T=="int")
theorem mG(t T:String)(ht:["NoneType","bool","int","str","tuple","list","dict"].contains t=true)(hT:qQ T=true):PySem.W.kitOne K (.type t) (.type T)=some (t9 t T):=by
 simp only[List.contains_eq_mem,xaz,xbe,or_false,decide_eq_true_eq] at ht
 simp only[qQ,List.contains_eq_mem,xaz,xbe,or_false,decide_eq_true_eq] at hT
 rcases ht with rfl|rfl|rfl|rfl|rfl|rfl|rfl<;>rcases hT with rfl|rfl|rfl|rfl|rfl|rfl<;>rfl
end
end DL
namespace DL
open L2 PyProof.Rows
section
variable{X:Cx}{E:XK}{K:xFg}{mg:Str->Option Value}{G H:Hp}
variable{x:Str}{p pos:Pos}{e:Expr}{es:List Expr}{fs:DSt->R (List D)}
def E6(K:xFg)(mg:Str->Option Value):List V->Hp->VK->Prop:=fun xs H Q=>∃G d T v b,xs=[v,.ty T]/\Same G H/\aS K mg G d v/\(∃t,yC d=some t/\qQ T=true/\b=t9 t T)/\Q (.bl b) H
theorem ZK:eK X (.builtin "isinstance") (E6 X.K X.mg):=by
 intro pins s U H xs us Q I r h
 obtain⟨G,d,T,v,b,rfl,e,rp,⟨t,ht,hT,rfl⟩,q⟩:=h
 obtain⟨u,w',rfl,ru,rw'⟩:=CA r
 cases (show w'=Value.type T from rw')
 have fin:∀tk,EP X pins U Q (.bool (t9 t T)) { s with toks:=tk }:=fun tk=>⟨.bl _,H,I.tok tk,rfl,q⟩
 cases d with
 |non=>cases ht;cases rp;cases (show u=Value.none from ru);exact PySem.W.kia_one PySem.W.kitx_none I.kIn True.intro (mG _ _ rfl hT) (fun z=>nomatch z) fin
 |bl y=>cases ht;cases rp;cases (show u=Value.bool y from ru);exact PySem.W.kia_one PySem.W.kitx_bool I.kIn True.intro (mG _ _ rfl hT) (fun z=>nomatch z) fin
 |int i=>cases ht;cases rp;obtain⟨tk,rfl⟩:=(show ∃tk,u=Value.int i tk from ru);exact PySem.W.kia_one PySem.W.kitx_int I.kIn True.intro (mG _ _ rfl hT) (fun z=>nomatch z) fin
 |str y=>cases ht;cases rp;obtain⟨tk,rfl⟩:=(show ∃tk,u=Value.str y tk from ru);exact PySem.W.kia_one PySem.W.kitx_str I.kIn True.intro (mG _ _ rfl hT) (fun z=>nomatch z) fin
 |tup ds=>
  cases ht
  obtain⟨a,vs,rfl,h1,h2⟩:=rp
  cases (show u=Value.ref a from ru)
  obtain⟨_,_,⟨o,h3,h4,_⟩,_⟩:=I.tuple (Same.sqT e h1)
  exact PySem.W.kia_one PySem.W.kitx_tuple I.kIn ⟨o,h3,h4⟩ (mG _ _ rfl hT) (fun z=>nomatch z) fin
 |lst ds=>
  cases ht
  obtain⟨a,vs,rfl,h1,h2⟩:=rp
  cases (show u=Value.ref a from ru)
  obtain⟨_,_,⟨o,n,h3,h4,_⟩,_⟩:=I.list (e.seq h1)
  exact PySem.W.kia_one PySem.W.kitx_list I.kIn ⟨o,h3,h4⟩ (mG _ _ rfl hT) (fun z=>nomatch z) fin
 |dct ks ds=>
  cases ht
  obtain⟨a,vs,rfl,h1,_⟩:=rp
  cases (show u=Value.ref a from ru)
  obtain⟨_,_,_,_,p⟩:=(show c6 X.prog X.w H s.heap a (.dK (ks.zip vs)) from (Same.rd e h1).ok I.hok)
  obtain⟨o,es,ep,h3,h4,_⟩:=p
  exact PySem.W.kia_one PySem.W.kitx_dict I.kIn ⟨o,h3,h4.1⟩ (mG _ _ rfl hT) (fun z=>nomatch z) fin
 |_=>cases ht
abbrev ZL(K:xFg):List V->Hp->VK->Prop:=fun xs H Q=>∃(a C:Addr) (c:V) (cv:Value) (b:Bool),xs=[.ref a,c]/\H a=some (pT a C none)/\((∃D,c=.ref D/\cv=.ref D)\/∃T,c=.ty T/\cv=.type T)/\lZ K C/\PySem.W.kitOne K (.ref C) cv=some b/\Q (.bl b) H
def cU:D->D->R D
 |d,.ty T=>match yC d with
  |some t=>bif qQ T then .ok (.bl (t9 t T)) else .bad
  |none=>match d with
   |.exc _ []=>bif T=="ValueError" then .ok (.bl true) else .bad
   |_=>.bad
 |.exc c [],.cls d=>match kZ c d with
  |some b=>.ok (.bl b)
  |none=>.bad
 |_,_=>.bad
theorem ZM:j3 K mg (fun xs H Q=>E6 K mg xs H Q\/ZL K xs H Q) (g2 cU):=cd2 fun G H d d' v v' Q e r r' q=>by
 have exc:∀{c as},d=.exc c as->as=[]->∃a C,v=.ref a/\H a=some (pT a C none)/\jC K mg c C:=fun {c as} hd ha=>by
  subst hd;subst ha
  obtain⟨a,C,dct,vs,rfl,h2,h3,h4,h5⟩:=r
  cases h5
  rcases h4 with⟨rfl,_⟩|⟨dx,w,_,z,_⟩
  ·exact⟨a,C,rfl,e _ _ h2,h3⟩
  ·cases z
 cases d' with
 |ty T=>
  cases r'
  cases ht:yC d with
  |some t=>
   cases hT:qQ T with
   |false=>simp only[cU,ht,hT,cond_false] at q;exact q.elim
   |true=>simp only[cU,ht,hT,cond_true] at q;exact .inl ⟨G,d,T,v,_,rfl,e,r,⟨t,ht,hT,rfl⟩,aL.now q e rfl⟩
  |none=>
   cases d with
   |exc c as=>
    cases as with
    |nil=>
     cases hT:T=="ValueError" with
     |false=>simp only[cU,ht,hT,cond_false] at q;exact q.elim
     |true=>
      simp only[cU,ht,hT,cond_true] at q
      obtain⟨a,C,rfl,h1,h2⟩:=exc rfl rfl
      have:=eq_of_beq hT
      subst this
      exact .inr ⟨a,C,_,_,true,rfl,h1,.inr ⟨_,rfl,rfl⟩,h2.exc,h2.val,aL.now q e rfl⟩
    |cons b bs=>simp only[cU,ht] at q;exact q.elim
   |_=>simp only[cU,ht] at q;exact q.elim
 |cls c'=>
  cases d with
  |exc c as=>
   cases as with
   |nil=>
    obtain⟨Dd,rfl,hD⟩:=r'
    cases hs:kZ c c' with
    |none=>simp only[cU,hs] at q;exact q.elim
    |some b=>
     simp only[cU,hs] at q
     obtain⟨a,C,rfl,h1,h2⟩:=exc rfl rfl
     exact .inr ⟨a,C,_,_,b,rfl,h1,.inl ⟨Dd,rfl,rfl⟩,h2.exc,h2.isi c' Dd b hs hD,aL.now q e rfl⟩
   |cons b bs=>exact(show False from q).elim
  |_=>exact(show False from q).elim
 |_=>cases d<;>first|exact(show False from q).elim|(rename_i as;cases as<;>exact(show False from q).elim)
theorem qR(hm:X.mg "isinstance"=none)(ha:DA X E (e::es) fs)(hg:Gl X "isinstance":=by rfl)(he:starEach (e::es) X.env=(false,eval e X.env)::starEach es X.env:=by rfl)(hpl:(backTo pos (starEach es X.env)).any (·.1)=false:=by rfl):DE X E (.Call (.Name "isinstance" p) (e::es) [] pos) (bD (g2 cU) fs):=
 tM (ZK.or WI) ZM hm YY ha hg (by decide) (by decide) he hpl
def tO(K:xFg)(mg:Str->Option Value)(E:XK)(f:DSt->R (Option Int)):TO:=fun U H Q=>∃G Ud,bO K mg Ud U G H/\RW (f Ud) (fun o=>∀G' H',Step G H G' H'->Q o H') (bA K mg E G H)
def DO(X:Cx)(E:XK)(e:Option Expr)(f:DSt->R (Option Int)):Prop:=PO X e (tO X.K X.mg E f)
def fQ:DSt->R (Option Int):=fun _=>.ok none
def asI:D->R (Option Int)
 |.int i=>.ok (some i)
 |_=>.bad
def dO(f:DSt->R D):DSt->R (Option Int):=fun U=>(f U).bind asI
theorem PO.mono'{e:Option Expr}{t t':TO}(h:PO X e t)(m:∀U H Q,t' U H Q->t U H Q):PO X e t':=fun pins s U H Q I q=>h pins s U H Q I (m U H Q q)
theorem ZO:DO X E none fQ:=PO.mono' UR fun U H Q ⟨G,Ud,ok,q⟩=>(show ∀G' H',Step G H G' H'->Q none H' from q) G H (.refl ok.ext)
theorem ZP{f:DSt->R D}(h:DE X E e f):DO X E (some e) (dO f):=PO.mono' (US h) fun U H Q ⟨G,Ud,ok,q⟩=>⟨G,Ud,ok,q.of_bind.mono (fun d _ z v G' H' s r=>by
 cases d with
 |int i=>cases r;exact⟨i,rfl,(show ∀G' H',Step G H G' H'->Q (some i) H' from z) G' H' s⟩
 |_=>exact(show False from z).elim) fun _ z=>z⟩
def iA{α:Type}(xs:List α)(lo hi:Option Int):List α:=(xs.drop (HT.sIx xs.length 0 lo)).take (HT.sIx xs.length xs.length hi-HT.sIx xs.length 0 lo)
def E7{α:Type}(xs:List α)(lo hi:Option Int):Bool:=decide (HT.sIx xs.length 0 lo=0/\HT.sIx xs.length xs.length hi=xs.length)
def yD:D->Option Int->Option Int->R D
 |.lst xs,lo,hi=>.ok (.lst (iA xs lo hi))
 |.tup xs,lo,hi=>bif E7 xs lo hi then .bad else .ok (.tup (iA xs lo hi))
 |_,_,_=>.bad
def eG(fe:DSt->R D)(fl fh:DSt->R (Option Int)):DSt->R D:=fun U=>(fe U).bind fun d=>(fl U).bind fun lo=>(fh U).bind fun hi=>yD d lo hi
theorem Reps.cut{ds:List D}{vs:List V}(h:Reps K mg G ds vs)(lo hi:Option Int):Reps K mg G (iA ds lo hi) (i8 vs lo hi):=by
 unfold iA i8
 rw[h.length]
 exact(h.drop _).take _
theorem ZQ{fe:DSt->R D}{lo hi:Option Expr}{fl fh:DSt->R (Option Int)}{p2:Pos}(he:DE X E e fe)(hl:DO X E lo fl)(hh:DO X E hi fh):DE X E (.Subscript e (.Slice lo hi none p2) pos) (eG fe fl fh):=by
 refine PE.mono' (UU (U4.or UW) he hl hh) fun U H Q ⟨G,Ud,ok,q⟩=>?_
 refine fX (P:=aL X.K X.mg Q) ok q fun d v G1 H1 s1 ok1 r1 q1=>?_
 refine⟨G1,Ud,ok1,q1.of_bind.mono (fun l _ q2 G2 H2 s2=>?_) fun _ z=>z⟩
 refine⟨G2,Ud,ok1.step s2,q2.of_bind.mono (fun u _ q3 G3 H3 s3=>?_) fun _ z=>z.step s2⟩
 have s:=(s1.trans s2).trans s3
 have r3:=r1.mono (s2.g.trans s3.g)
 cases d with
 |lst xs=>
  obtain⟨a,vs,rfl,h1,h2⟩:=r3
  refine .inl ⟨a,vs,rfl,s3.e.seq h1,fun pp hp=>?_⟩
  have sp:=Step.pub (o:=.lst (i8 vs l u)) s3.e hp
  exact(show aL X.K X.mg Q G H (.lst (iA xs l u)) from q3) _ _ _ (s.trans sp) ⟨pp,_,rfl,aW.of aV,(h2.cut l u).mono sp.g⟩
 |tup xs=>
  obtain⟨a,vs,rfl,h1,h2⟩:=r3
  cases hw:E7 xs l u with
  |true=>simp only[yD,hw,cond_true] at q3;exact q3.elim
  |false=>
   simp only[yD,hw,cond_false] at q3
   refine .inr ⟨a,vs,rfl,Same.sqT s3.e h1,by rw[<- h2.length];exact of_decide_eq_false hw,fun pp hp=>?_⟩
   have sp:=Step.pub (o:=.tup (i8 vs l u)) s3.e hp
   exact(show aL X.K X.mg Q G H (.tup (iA xs l u)) from q3) _ _ _ (s.trans sp) ⟨pp,_,rfl,bJ.of aV,(h2.cut l u).mono sp.g⟩
 |_=>exact(show False from q3).elim
end
def E8(c:Str)(fs:DSt->R (List D)):DSt->R aD:=fun U=>(fs U).bind fun ds=>bif few ds.length then .err (.exc c []) else .bad
section
variable{P:Program}{w:World}{K:xFg}{mg:Str->Option Value}{base:Heap}{N:List Str}{qual:Str}{scope:Scope}{f:Addr}{cdv:Value}{A:Around}{outer:List Env}{s0:Shared}{H0:Hp}{E:XK}{own own' ol:List Nat}
theorem ZR{x:Str}{C:Addr}{e0:Expr}{aK:List Expr}{np cpos pos:Pos}{fs:DSt->R (List D)}(q:PySem.W.excIn K C [.type "ValueError",.type "Exception",.type "BaseException",.type "object"] "ValueError.__new__"=true)(hx:jC K mg x C)
  (ha:DA (dF (bT P w) P w K mg base N qual scope f cdv A outer s0 H0 E) E (e0::aK) fs) (hg:Gl (dF (bT P w) P w K mg base N qual scope f cdv A outer s0 H0 E) x:=by rfl)
  (hdb:(x==("__debug__":Str))=false:=by decide)
  (he:starEach (e0::aK) (envOfC qual scope s0.heap.objs.size f cdv)=(false,eval e0 (envOfC qual scope s0.heap.objs.size f cdv))::starEach aK (envOfC qual scope s0.heap.objs.size f cdv):=by rfl)
  (hpl:(backTo cpos (starEach aK (envOfC qual scope s0.heap.objs.size f cdv))).any (·.1)=false:=by rfl) :
  DS (dF (bT P w) P w K mg base N qual scope f cdv A outer s0 H0 E) E own own' ol (.Raise (some (.Call (.Name x np) (e0::aK) [] cpos)) none pos) (E8 x fs):=fun G0=>
 PS.mono' (WH q hg hx.here ha hdb he hpl) fun Dn U H ⟨G,Ud,ok,s1,z⟩=>by
 have sp:=ok.pubStep s1
 refine⟨_,Ud,ok.pub.1,z.of_bind.mono (fun ds _ z vs G' H' s r=>?_) fun _ z=>z.step sp⟩
 cases hf:few ds.length with
 |false=>rw[hf] at z;exact(show False from z).elim
 |true=>
  rw[hf] at z
  refine⟨by rw[<- r.length];exact xJ hf,?_⟩
  exact(show bA K mg E G0 H0 (.exc x []) from z) G' H' C none (sp.trans s) ⟨x,[],[],rfl,hx,.inl ⟨rfl,rfl⟩,Reps.nil⟩
end
def yE(c:Str):DSt->R aD:=fun _=>.err (.exc c [])
theorem ZT{P:Program}{w:World}{K:xFg}{mg:Str->Option Value}{base:Heap}{N:List Str}{qual:Str}{scope:Scope}{f:Addr}{cdv:Value}{A:Around}{outer:List Env}{s0:Shared}{H0:Hp}{E:XK}{own own' ol:List Nat}{x t:Str}{C:Addr}{np cpos pos tp:Pos}{j}(q:PySem.W.excIn K C [.type "ValueError",.type "Exception",.type "BaseException",.type "object"] "ValueError.__new__"=true)(hx:jC K mg x C)
  (hg:Gl (dF (bT P w) P w K mg base N qual scope f cdv A outer s0 H0 E) x:=by rfl) (hdb:(x==("__debug__":Str))=false:=by decide) :
  DS (dF (bT P w) P w K mg base N qual scope f cdv A outer s0 H0 E) E own own' ol (.Raise (some (.Call (.Name x np) [.Constant (.str t) j tp] [] cpos)) none pos) (yE x):=
 ZR (fs:=aB (eC (.str t)) aE) q hx (eM tK gG) hg hdb
section
variable{X:Cx}{ol:List Nat}{k:Nat}{x y:Str}{m:List D->R D}{p pos cpos npos:Pos}{e:Expr}{es:List Expr}{fs:DSt->R (List D)}{f g:DSt->R aD}
def ZU(m:List D->R D)(fs:DSt->R (List D)):DSt->R D:=fun U=>(fs U).noerr.bind m
def ZV(i:Nat)(c:Str)(body hnd:DSt->R aD):DSt->R aD:=fun U=>match body U with
 |.ok o=>.ok o
 |.err (.exc cc as)=>bif kZ cc c==some true then (hnd (U.set i (some (.exc cc as)))).noerr.bind fun o=>match o with
   |.nx U'=>.ok (.nx (U'.set i none))
   |_=>.bad
  else .bad
 |_=>.bad
end
end DL
namespace DL
open L2 PyProof.Rows
theorem dS{n nN:Nat}{b:DSt->R aD}{ds:List D}{U:DSt}(hl:ds.length=n)(hs:jD nN ds=U):cE n nN b ds=fin (b U):=by
 subst hl;subst hs;unfold cE;rw[beq_self_eq_true];rfl
theorem ZW{X:Cx}{E:XK}{x:Str}{d:D}{pos:Pos}(h:∃u v,X.mg x=some u/\aJ v u/\∀G,aS X.K X.mg G d v)(hg:Gl X x:=by rfl)(hd:(x==("__debug__":Str))=false:=by decide):DE X E (.Name x pos) (eC d):=by
 obtain⟨u,v,h1,h2,h3⟩:=h
 exact W8 h1 h2 h3 hg hd
section
variable{K:xFg}{mg:Str->Option Value}
def mH(c d:Str):Bool:=c==d||d=="ChalkError"
def lA(K:xFg)(mg:Str->Option Value)(C:Addr)(d:Str)(b:Bool):Prop:=
 (∀D,mg d=some (.ref D)->PySem.W.kitOne K (.ref C) (.ref D)=some b)/\(b=true->∀D,mg d=some (.ref D)->PySem.W.exmOne K (.ref C) (.ref D)=some true)
theorem jC.mk'{c:Str}{C:Addr}(here:mg c=some (.ref C))(exc:lZ K C)(val:PySem.W.kitOne K (.ref C) (.type "ValueError")=some true)(rows:∀d∈kY,lA K mg C d (mH c d)):jC K mg c C:=by
 have sub:∀d b,kZ c d=some b->d∈kY/\b=mH c d:=fun d b h=>by
  unfold kZ at h
  cases hc:(kY.contains c&&kY.contains d) with
  |false=>rw[hc] at h;cases h
  |true=>
   rw[hc] at h
   have h':some (c==d||d=="ChalkError")=some b:=h
   rw[xau] at hc
   exact⟨by simpa using hc.2,by cases h';rfl⟩
 refine⟨here,exc,fun d Dd b h hd=>?_,val,fun d Dd h hd=>?_⟩
 ·obtain⟨h1,rfl⟩:=sub d b h
  exact(rows d h1).1 Dd hd
 ·obtain⟨h1,h2⟩:=sub d true h
  exact(rows d h1).2 h2.symm Dd hd
theorem lA.of{C D0:Addr}{d:Str}{b:Bool}(h:mg d=some (.ref D0))(t:PySem.W.kitOne K (.ref C) (.ref D0)=some b)(u:b=true->PySem.W.exmOne K (.ref C) (.ref D0)=some true):lA K mg C d b:=
 ⟨fun D hD=>by rw[h] at hD;cases hD;exact t,fun hb D hD=>by rw[h] at hD;cases hD;exact u hb⟩
theorem lA.no{C:Addr}{d:Str}{b:Bool}(h:mg d=none):lA K mg C d b:=⟨fun D hD=>(by rw[h] at hD;cases hD),fun _ D hD=>(by rw[h] at hD;cases hD)⟩
end
section
variable{P:Program}{w:World}{K:xFg}{mg:Str->Option Value}{base:Heap}
theorem ZX{x qual:Str}{st:Stmt}{f:Addr}{fd:FuncData}{N ps:List Str}{k n nN:Nat}{own':List Nat}{body:DSt->R aD}(F:bV K x qual st f fd)(S:cI N ps (aZ st))
  (hn:ps.length=n) (hN:N.length=nN)
  (hb:∀(X:Cx) (E:XK),(∃cdv A outer s H,X=dF (bT P w) P w K mg base N qual (aZ st) f cdv A outer s H E)->XC X E k->XL X->eV X E [] own' [] (fE st) body):cO P w K mg base (bT P w) (k+1) f fd ps (qC K mg (cE n nN body)):=by
 refine F.okX S (fun vs H Q E h=>?_) (fun cdv A outer s H vs Q E hr hsp=>?_)
 ·obtain⟨G,ds,e,r,q⟩:=h
  by_cases hd:ds.length=n
  ·rw[<- r.length,hd,hn]
  ·have:(ds.length==n)=false:=by simpa using hd
   unfold cE at q
   rw[this] at q
   exact(show False from q).elim
 ·obtain⟨G,ds,e,r,q⟩:=hsp
  have hd:ds.length=n:=by
   by_cases hd:ds.length=n
   ·exact hd
   ·have:(ds.length==n)=false:=by simpa using hd
    unfold cE at q
    rw[this] at q
    exact(show False from q).elim
  unfold cE at q
  rw[show (ds.length==n)=true by simpa using hd] at q
  have q':RW (fin (body (jD nN ds))) (aL K mg Q G H) (bA K mg E G H):=q
  refine⟨_,hb _ E ⟨cdv,A,outer,s,H,rfl⟩ ⟨rfl,hr,sZ⟩ ⟨PassesOwn.leaving⟩ G,G,jD nN ds,?_,.refl e,?_⟩
  ·have:=Reps.startOk e (N.length-vs.length) r
   unfold L2.start jD
   rw[<- hN,r.length]
   exact .zero this
  ·cases hbd:body (jD nN ds) with
   |bad=>rw[hbd] at q';exact q'
   |err e=>rw[hbd] at q';exact q'
   |ok o=>
    rw[hbd] at q'
    cases o with
    |rt d=>exact fun v G' H' s r=>(show aL K mg Q G H d from q') v G' H' s r
    |rf es=>
     intro a vs G' H' s n e g r
     have q2:aL K mg Q G H (.lst es):=q'
     have sg:Same G' (upd G' a (.lst vs)):=same_upd g
     refine q2 (.ref a) (upd G' a (.lst vs)) H' ⟨s.g.trans sg,s.h,fun b u p=>?_,fun b u p1 p2=>?_⟩ ⟨a,vs,rfl,aW.of aV,r.mono sg⟩
     ·by_cases hb:b=a
      ·subst hb;rw[aV] at p;cases p;exact e
      ·rw[aG hb] at p;exact s.e b u p
     ·have hb:b≠a:=bN p1 n
      rw[aG hb];exact s.c b u p1 p2
    |nx U=>exact fun U' G' H' ok s _=>(show aL K mg Q G H .non from q') .non G' H' s rfl
    |bk U=>exact(show False from q').elim
    |ct U=>exact(show False from q').elim
def uA(K:xFg):Sp:=fun vs H Q _=>∃(a:Addr) (ns:List Int),vs=[.ref a]/\aW K H a (ns.map V.int)/\ns.length<=63/\∀H',Q (.bl true) H'
theorem ZY{k:Nat}{f:Addr}{fd:FuncData}{m:List D->R D}(F:cO P w K mg base (bT P w) k f fd ["_law_script"] (qC K mg m))(hm:∀ns:List Int,ns.length<=63->m [.lst (ns.map .int)]=.ok (.bl true)) :
  cO P w K mg base (bT P w) k f fd ["_law_script"] (uA K):=F.imp fun vs H Q E h=>by
 obtain⟨a,ns,rfl,hS,hl,q⟩:=h
 refine⟨H,[.lst (ns.map .int)],Same.refl _,Reps.cons ⟨a,_,rfl,hS,Reps.ints ns⟩ Reps.nil,RW.ok_of (hm ns hl) fun v G' H' s r=>?_⟩
 cases r;exact q H'
end
theorem walkD{l:PySem.W.OpenLaw}{q:Program}{loose:List Str}{XP:(Str->Option Value)->Heap->Prop}{YP:World->Heap->Prop}{d:DefRec}{K:Params->xFg}(k:Nat)(hr:cH k callerA)(hn:l.most=some 63)(hdf:d.params.defaults=[])
  (hY:∀(w:World) (h:Heap),YP w h->(K w.params).In h)
  (F : ∀ (w : World) (mg : Str -> Option Value) (fa : Addr) (h : Heap), (K w.params).In h -> h.Ns mainGlobals mg -> mg d.name = some (.ref fa) ->
   ∃fd:FuncData,(∀(s:Shared) (u:Value),BindsTo s fd ⟨[u],[]⟩ [("_law_script",u)])/\∀base:Heap,(K w.params).In base->base.Ns mainGlobals mg->cO l.prog w (K w.params) mg base (bT l.prog w) k fa fd ["_law_script"] (uA (K w.params))) :
  PySem.W.WalkO q loose XP YP l.row.toRowW d [] (fun f vs=>PySem.call f vs):=
 L2.walk_of (n:=63) (k:=k) (x:="_law_script") (CX:=fun w=>bT l.prog w) (sp:=fun w=>uA (K w.params)) hn (by decide) hdf hr hY F (fun _ _ a ns hl _ hS=>⟨a,ns,rfl,hS,hl,fun _=>rfl⟩) fun w H s e s' z=>by
  obtain⟨_,_,_,_,_,_,_,_,_,_,_,_,_,z⟩:=z
  exact z.elim
end DL
namespace DL
open L2
def eX(r:R aD)(g:DSt->R aD):R aD:=r.bind fun o=>match o with
 |.nx U'=>g U'
 |o=>.ok o
theorem cV(f g:DSt->R aD)(U:DSt):aM f g U=eX (f U) g:=rfl
theorem iB(U:DSt)(g:DSt->R aD):eX (.ok (.nx U)) g=g U:=rfl
theorem E9(d:D)(g:DSt->R aD):eX (.ok (.rt d)) g=.ok (.rt d):=rfl
theorem FB(U:DSt)(g:DSt->R aD):eX (.ok (.bk U)) g=.ok (.bk U):=rfl
theorem FC(U:DSt)(g:DSt->R aD):eX (.ok (.ct U)) g=.ok (.ct U):=rfl
theorem FE(e:D)(g:DSt->R aD):eX (.err e) g=.err e:=rfl
theorem qS(U:DSt):dE U=.ok (.nx U):=rfl
theorem FF(d:D)(U:DSt):aA 0 (some d::U)=.ok d:=rfl
theorem FG(n:Nat)(x:Option D)(U:DSt):aA (n+1) (x::U)=aA n U:=rfl
theorem FH(d:D)(U:DSt):eC d U=.ok d:=rfl
def lB(g:D->D->R D)(a b:R D):R D:=a.bind fun x=>b.bind fun y=>g x y
theorem qT(g:D->D->R D)(fa fb:DSt->R D)(U:DSt):aC g fa fb U=lB g (fa U) (fb U):=rfl
theorem lC(g:D->D->R D)(x y:D):lB g (.ok x) (.ok y)=g x y:=rfl
def unK(g:D->R D)(a:R D):R D:=a.bind g
theorem FJ(g:D->R D)(fa:DSt->R D)(U:DSt):qB g fa U=unK g (fa U):=rfl
theorem FK(g:D->R D)(x:D):unK g (.ok x)=g x:=rfl
def yF(m:List D->R D)(a:R (List D)):R D:=a.bind m
theorem qU(m:List D->R D)(fs:DSt->R (List D))(U:DSt):aQ m fs U=yF m (fs U):=rfl
theorem FL(m:List D->R D)(ds:List D):yF m (.ok ds)=m ds:=rfl
theorem FM(m:List D->R D)(e:D):yF m (.err e)=.err e:=rfl
def FN(m:List D->R D)(a:R (List D)):R D:=a.noerr.bind m
theorem FP(m:List D->R D)(fs:DSt->R (List D))(U:DSt):ZU m fs U=FN m (fs U):=rfl
theorem FR(m:List D->R D)(ds:List D):FN m (.ok ds)=m ds:=rfl
def FU(g:List D->R D)(a:R (List D)):R D:=a.bind fun ds=>(g ds).noerr
theorem qV(g:List D->R D)(fs:DSt->R (List D))(U:DSt):bD g fs U=FU g (fs U):=rfl
theorem FV(g:List D->R D)(ds:List D):FU g (.ok ds)=(g ds).noerr:=rfl
def FW(g:List D->R (List D))(a:R (List D)):R (List D):=a.bind fun ds=>(g ds).noerr
theorem FX(g:List D->R (List D))(fs:DSt->R (List D))(U:DSt):oG g fs U=FW g (fs U):=rfl
theorem FY(g:List D->R (List D))(ds:List D):FW g (.ok ds)=(g ds).noerr:=rfl
theorem FZ{α:Type}(a:α):(R.ok a).noerr=.ok a:=rfl
theorem GA(U:DSt):aE U=.ok []:=rfl
def qW(a:R D)(b:R (List D)):R (List D):=a.bind fun x=>b.bind fun xs=>.ok (x::xs)
theorem jF(fa:DSt->R D)(fs:DSt->R (List D))(U:DSt):aB fa fs U=qW (fa U) (fs U):=rfl
theorem GB(x:D)(xs:List D):qW (.ok x) (.ok xs)=.ok (x::xs):=rfl
theorem GC(e:D)(b:R (List D)):qW (.err e) b=.err e:=rfl
def j7(a:R (List D)):R D:=a.bind fun ds=>bif few ds.length then .ok (.tup ds) else .bad
theorem GD(fs:DSt->R (List D))(U:DSt):dM fs U=j7 (fs U):=rfl
theorem GF:j7 (.ok [])=.ok (.tup []):=rfl
theorem GG(a:D):j7 (.ok [a])=.ok (.tup [a]):=rfl
theorem GH(a b:D):j7 (.ok [a,b])=.ok (.tup [a,b]):=rfl
theorem GI(a b c:D):j7 (.ok [a,b,c])=.ok (.tup [a,b,c]):=rfl
theorem GJ(a b c d:D):j7 (.ok [a,b,c,d])=.ok (.tup [a,b,c,d]):=rfl
theorem GK(a b c d e:D):j7 (.ok [a,b,c,d,e])=.ok (.tup [a,b,c,d,e]):=rfl
theorem GL(a b c d e f:D):j7 (.ok [a,b,c,d,e,f])=.ok (.tup [a,b,c,d,e,f]):=rfl
theorem GM(a b c d e f g h i:D):j7 (.ok [a,b,c,d,e,f,g,h,i])=.ok (.tup [a,b,c,d,e,f,g,h,i]):=rfl
def j8(a:R (List D)):R (List D):=a.bind fun ds=>bif few ds.length then .ok ds else .bad
theorem GN(fs:DSt->R (List D))(U:DSt):bW fs U=j8 (fs U):=rfl
theorem GO:j8 (.ok [])=.ok []:=rfl
theorem GP(a:D):j8 (.ok [a])=.ok [a]:=rfl
theorem GQ(a b:D):j8 (.ok [a,b])=.ok [a,b]:=rfl
theorem GR(a b c:D):j8 (.ok [a,b,c])=.ok [a,b,c]:=rfl
theorem GU(a b c d:D):j8 (.ok [a,b,c,d])=.ok [a,b,c,d]:=rfl
theorem GV(a b c d e:D):j8 (.ok [a,b,c,d,e])=.ok [a,b,c,d,e]:=rfl
theorem GW(a b c d e f:D):j8 (.ok [a,b,c,d,e,f])=.ok [a,b,c,d,e,f]:=rfl
def yG(a:R (List D)):R D:=a.bind fun ds=>.ok (.lst ds)
theorem iW(fl:DSt->R (List D))(U:DSt):bH fl U=yG (fl U):=rfl
theorem yH(ds:List D):yG (.ok ds)=.ok (.lst ds):=rfl
def qX(a:R D):R Bool:=a.bind iQ
theorem yI(f:DSt->R D)(U:DSt):aR f U=qX (f U):=rfl
theorem GX(b:Bool):qX (.ok (.bl b))=.ok b:=rfl
def uB(a:R Bool)(fb:DSt->R Bool)(U:DSt):R Bool:=a.bind fun k=>bif k then fb U else .ok false
theorem GY(fa fb:DSt->R Bool)(U:DSt):l6 fa fb U=uB (fa U) fb U:=rfl
theorem GZ(fb:DSt->R Bool)(U:DSt):uB (.ok true) fb U=fb U:=rfl
theorem HA(fb:DSt->R Bool)(U:DSt):uB (.ok false) fb U=.ok false:=rfl
def yJ(a:R Bool)(fb:DSt->R Bool)(U:DSt):R Bool:=a.bind fun k=>bif k then .ok true else fb U
theorem oI(fa fb:DSt->R Bool)(U:DSt):eU fa fb U=yJ (fa U) fb U:=rfl
theorem HB(fb:DSt->R Bool)(U:DSt):yJ (.ok true) fb U=.ok true:=rfl
theorem oJ(fb:DSt->R Bool)(U:DSt):yJ (.ok false) fb U=fb U:=rfl
def uC(a:R Bool):R Bool:=a.bind fun k=>.ok (!k)
theorem yK(fa:DSt->R Bool)(U:DSt):dX fa U=uC (fa U):=rfl
theorem HC(b:Bool):uC (.ok b)=.ok (!b):=rfl
def yL(a:R D)(fb:DSt->R D)(U:DSt):R D:=a.bind fun x=>(iQ x).bind fun k=>bif k then fb U else .ok (.bl false)
theorem HD(fa fb:DSt->R D)(U:DSt):qA fa fb U=yL (fa U) fb U:=rfl
theorem HE(fb:DSt->R D)(U:DSt):yL (.ok (.bl true)) fb U=fb U:=rfl
theorem HF(fb:DSt->R D)(U:DSt):yL (.ok (.bl false)) fb U=.ok (.bl false):=rfl
def yM(a:R D)(fb:DSt->R D)(U:DSt):R D:=a.bind fun x=>(iQ x).bind fun k=>bif k then .ok (.bl true) else fb U
theorem HG(fa fb:DSt->R D)(U:DSt):vOr fa fb U=yM (fa U) fb U:=rfl
theorem HH(fb:DSt->R D)(U:DSt):yM (.ok (.bl true)) fb U=.ok (.bl true):=rfl
theorem HI(fb:DSt->R D)(U:DSt):yM (.ok (.bl false)) fb U=fb U:=rfl
def HJ(a:R D):R D:=a.bind fun x=>(iQ x).bind fun k=>.ok (.bl !k)
theorem HK(fa:DSt->R D)(U:DSt):xH fa U=HJ (fa U):=rfl
theorem HL(b:Bool):HJ (.ok (.bl b))=.ok (.bl !b):=rfl
def yN(c:R Bool)(fa fb:DSt->R D)(U:DSt):R D:=c.bind fun k=>bif k then fa U else fb U
theorem HM(c:DSt->R Bool)(fa fb:DSt->R D)(U:DSt):eIf c fa fb U=yN (c U) fa fb U:=rfl
theorem HN(fa fb:DSt->R D)(U:DSt):yN (.ok true) fa fb U=fa U:=rfl
theorem HP(fa fb:DSt->R D)(U:DSt):yN (.ok false) fa fb U=fb U:=rfl
def yO(c:R Bool)(f g:DSt->R aD)(U:DSt):R aD:=c.bind fun k=>bif k then f U else g U
theorem oK(c:DSt->R Bool)(f g:DSt->R aD)(U:DSt):cZ c f g U=yO (c U) f g U:=rfl
theorem HQ(f g:DSt->R aD)(U:DSt):yO (.ok true) f g U=f U:=rfl
theorem qY(f g:DSt->R aD)(U:DSt):yO (.ok false) f g U=g U:=rfl
def HR(g g':D->D->R D)(a b c:R D):R D:=a.bind fun x=>b.bind fun y=>(g x y).bind fun z=>(iQ z).bind fun k=>bif k then c.bind fun w=>g' y w else .ok (.bl false)
theorem HS(g g':D->D->R D)(fa fb fc:DSt->R D)(U:DSt):jZ g g' fa fb fc U=HR g g' (fa U) (fb U) (fc U):=rfl
theorem HU(p q:Int->Int->Bool)(i j k:Int):HR (gB p) (gB q) (.ok (.int i)) (.ok (.int j)) (.ok (.int k))=.ok (.bl (p i j&&q j k)):=by
 show (bif p i j then R.ok (D.bl (q j k)) else R.ok (D.bl false))=_
 cases p i j<;>rfl
def HV(i:Nat)(l:R (List D))(a:R D)(U:DSt):R aD:=l.bind fun ds=>a.bind fun d=>bif most ds.length then .ok (.nx (U.set i (some (.lst (ds++[d]))))) else .bad
theorem oM(own:List Nat)(i:Nat)(fe:DSt->R D)(U:DSt):iU own i fe U=HV i (aX U i) (fe (mask own U)) U:=rfl
theorem HW{n:Nat}(h:n<=1000000):most n=true:=xaj (xa9 h (by decide))
theorem qZ(i:Nat)(ds:List D)(d:D)(U:DSt)(h:ds.length<=1000000):HV i (.ok ds) (.ok d) U=.ok (.nx (U.set i (some (.lst (ds++[d]))))):=by
 show (bif most ds.length then _ else _)=_
 rw[HW h];rfl
def HX(i:Nat)(l:R (List D))(a:R D)(U:DSt):R aD:=l.bind fun ds=>a.bind fun d=>bif most ds.length&&imm d then .ok (.nx (U.set i (some (.lst (ds++[d]))))) else .bad
theorem HY(i:Nat)(fe:DSt->R D)(U:DSt):YA i fe U=HX i (aX U i) (fe U) U:=rfl
theorem ZZ(i:Nat)(ds:List D)(d:D)(U:DSt)(h:ds.length<=1000000)(h':imm d=true):HX i (.ok ds) (.ok d) U=.ok (.nx (U.set i (some (.lst (ds++[d]))))):=by
 show (bif most ds.length&&imm d then _ else _)=_
 rw[HW h,h'];rfl
theorem HZ(ds:List D)(U:DSt):aX (some (.lst ds)::U) 0=.ok ds:=rfl
theorem H9(x:Option D)(U:DSt)(n:Nat):aX (x::U) (n+1)=aX U n:=rfl
theorem gL{i:Int}(h1:-(10^100)<=i)(h2:i<=10^100):fP i=true:=tY (n:=400) (B.of (k:=10^100) (by omega))
theorem IA{i:Int}(h1:-(10^100)<=i)(h2:i<=10^100)(h:i≠0):jE i=true:=xX (n:=400) (B.of (k:=10^100) (by omega)) h
def gM(a:R D):R aD:=a.bind fun d=>.ok (.rt d)
theorem yP(fe:DSt->R D)(U:DSt):bP fe U=gM (fe U):=rfl
theorem IB(d:D):gM (.ok d)=.ok (.rt d):=rfl
theorem IC(e:D):gM (.err e)=.err e:=rfl
def yQ(a:R D)(U:DSt):R aD:=a.bind fun _=>.ok (.nx U)
theorem ID(fe:DSt->R D)(U:DSt):X0 fe U=yQ (fe U) U:=rfl
theorem IE(d:D)(U:DSt):yQ (.ok d) U=.ok (.nx U):=rfl
theorem IF(e:D)(U:DSt):yQ (.err e) U=.err e:=rfl
def rA(i:Nat)(a:R D)(U:DSt):R aD:=a.bind fun d=>.ok (.nx (U.set i (some d)))
theorem fK(i:Nat)(fe:DSt->R D)(U:DSt):bQ i fe U=rA i (fe U) U:=rfl
theorem rB(own:List Nat)(i:Nat)(fe:DSt->R D)(U:DSt):hV own i fe U=rA i (fe (mask own U)) U:=rfl
theorem oN(i:Nat)(d:D)(U:DSt):rA i (.ok d) U=.ok (.nx (U.set i (some d))):=rfl
theorem IG(i:Nat)(e:D)(U:DSt):rA i (.err e) U=.err e:=rfl
def IH(i:Nat)(a:R D)(U:DSt):R aD:=a.bind fun d=>bif imm d then .ok (.nx (U.set i (some d))) else .bad
theorem II(i:Nat)(fe:DSt->R D)(U:DSt):xN i fe U=IH i (fe U) U:=rfl
theorem IJ(i:Nat)(d:D)(U:DSt)(h:imm d=true):IH i (.ok d) U=.ok (.nx (U.set i (some d))):=by
 show (bif imm d then _ else _)=_
 rw[h];rfl
def IK(i:Nat)(a:R (List D))(U:DSt):R aD:=a.bind fun ds=>.ok (.nx (U.set i (some (.lst ds))))
theorem IL(own:List Nat)(i:Nat)(fe:DSt->R (List D))(U:DSt):iT own i fe U=IK i (fe (mask own U)) U:=rfl
theorem IM(i:Nat)(ds:List D)(U:DSt):IK i (.ok ds) U=.ok (.nx (U.set i (some (.lst ds)))):=rfl
def rD(ks:List Nat)(gp:D->R (List D))(a:R D)(U:DSt):R aD:=a.bind fun d=>(gp d).noerr.bind fun us=>.ok (.nx (setAll U ks us))
theorem IN(own ks:List Nat)(gp:D->R (List D))(fe:DSt->R D)(U:DSt):xQ own ks gp fe U=rD ks gp (fe (mask own U)) U:=rfl
theorem IP(i j:Nat)(a b:D)(U:DSt):rD [i,j] (eN 2) (.ok (.tup [a,b])) U=.ok (.nx ((U.set i (some a)).set j (some b))):=rfl
theorem IQ(i j:Nat)(a b:D)(U:DSt):rD [i,j] (eN 2) (.ok (.lst [a,b])) U=.ok (.nx ((U.set i (some a)).set j (some b))):=rfl
theorem IR(i j k:Nat)(a b c:D)(U:DSt):rD [i,j,k] (eN 3) (.ok (.tup [a,b,c])) U=.ok (.nx (((U.set i (some a)).set j (some b)).set k (some c))):=rfl
theorem IS(i j k:Nat)(a b c:D)(U:DSt):rD [i,j,k] (eN 3) (.ok (.lst [a,b,c])) U=.ok (.nx (((U.set i (some a)).set j (some b)).set k (some c))):=rfl
def IT(i j:Nat)(a:R (List D))(U:DSt):R aD:=a.bind fun ds=>match ds with
 |[a,b]=>.ok (.nx ((U.set i (some a)).set j (some b)))
 |_=>.bad
theorem IU(own:List Nat)(i j:Nat)(fs:DSt->R (List D))(U:DSt):xR own i j fs U=IT i j (fs (mask own U)) U:=rfl
theorem IV(i j:Nat)(a b:D)(U:DSt):IT i j (.ok [a,b]) U=.ok (.nx ((U.set i (some a)).set j (some b))):=rfl
def IW(c:Str)(a:R (List D)):R aD:=a.bind fun ds=>bif few ds.length then .err (.exc c []) else .bad
theorem IX(c:Str)(fs:DSt->R (List D))(U:DSt):E8 c fs U=IW c (fs U):=rfl
theorem IY(c:Str)(a:D):IW c (.ok [a])=.err (.exc c []):=rfl
theorem IZ(c:Str)(U:DSt):yE c U=.err (.exc c []):=rfl
def I0(i:Nat)(c:Str)(r:R aD)(hnd:DSt->R aD)(U:DSt):R aD:=match r with
 |.ok o=>.ok o
 |.err (.exc cc as)=>bif kZ cc c==some true then (hnd (U.set i (some (.exc cc as)))).noerr.bind fun o=>match o with
   |.nx U'=>.ok (.nx (U'.set i none))
   |_=>.bad
  else .bad
 |_=>.bad
theorem JA(i:Nat)(c:Str)(body hnd:DSt->R aD)(U:DSt):ZV i c body hnd U=I0 i c (body U) hnd U:=rfl
theorem JB(i:Nat)(c:Str)(o:aD)(hnd:DSt->R aD)(U:DSt):I0 i c (.ok o) hnd U=.ok o:=rfl
def Z0(i:Nat)(r:R aD):R aD:=r.noerr.bind fun o=>match o with
 |.nx U'=>.ok (.nx (U'.set i none))
 |_=>.bad
theorem JC(i:Nat)(U:DSt):Z0 i (.ok (.nx U))=.ok (.nx (U.set i none)):=rfl
theorem JD(d:D):fin (.ok (.rt d))=.ok d:=rfl
theorem JE(U:DSt):fin (.ok (.nx U))=.ok .non:=rfl
theorem JG(e:D):fin (.err e)=.err e:=rfl
theorem yR(i j:Int):bL (.int i) (.int j)=.ok (.int (i+j)):=rfl
theorem JH(i j:Int):gSub (.int i) (.int j)=.ok (.int (i-j)):=rfl
theorem fR(i j:Int)(hi:fP i=true)(hj:fP j=true):bC (.int i) (.int j)=.ok (.int (i*j)):=by
 show (bif fP i&&fP j then _ else _)=_
 rw[hi,hj];rfl
theorem JI(i j:Int)(h:jE j=true)(h0:0<j):iV (.int i) (.int j)=.ok (.int (i/j)):=by
 show (bif jE j then R.ok (D.int (i.fdiv j)) else .bad)=_
 rw[h,xcn _ (xdg h0)];rfl
theorem jG(i j:Int)(h:jE j=true):iV (.int i) (.int j)=.ok (.int (i.fdiv j)):=by
 show (bif jE j then _ else _)=_
 rw[h];rfl
theorem iC(i j:Int)(h0:0<j):bY (.int i) (.int j)=.ok (.int (i%j)):=by
 have:decide (j≠0)=true:=xaj (by omega)
 show (bif decide (j≠0) then R.ok (D.int (i.fmod j)) else .bad)=_
 rw[this,Int.fmod_eq_emod_of_nonneg _ (xdg h0)];rfl
theorem Z1(i j:Int)(h:xY i j=true):l8 (.int i) (.int j)=.ok (.int (i^j.toNat)):=by
 show (bif xY i j then _ else _)=_
 rw[h];rfl
theorem Z2(i j:Int)(h:0<=j):YK (.int i) (.int j)=.ok (.int (i/2^j.toNat)):=by
 show (bif decide (0<=j) then _ else _)=_
 rw[xaj h];rfl
theorem JJ(i:Int):qM (.int i)=.ok (.int (-i)):=rfl
theorem JK(i j:Int):k9 (.int i) (.int j)=.ok (.bl (decide (i<j))):=rfl
theorem JL(i j:Int):qN (.int i) (.int j)=.ok (.bl (decide (i<=j))):=rfl
theorem JM(i j:Int):j6 (.int i) (.int j)=.ok (.bl (decide (j<i))):=rfl
theorem JN(i j:Int):gGe (.int i) (.int j)=.ok (.bl (decide (j<=i))):=rfl
theorem uD{a b:D}(h:gK a b=true):a6 a b=.ok (.bl (aY a b)):=by unfold a6;rw[h];rfl
theorem yS{a b:D}(h:gK a b=true):eD a b=.ok (.bl (!aY a b)):=by unfold eD;rw[h];rfl
theorem lD(i j:Int):aY (.int i) (.int j)=decide (i=j):=by unfold aY;rfl
theorem JO(i j:Int):a6 (.int i) (.int j)=.ok (.bl (decide (i=j))):=by rw[uD rfl,lD]
theorem JP(i j:Int):eD (.int i) (.int j)=.ok (.bl (!decide (i=j))):=by rw[yS rfl,lD]
theorem JQ(i j:Bool):a6 (.bl i) (.bl j)=.ok (.bl (i==j)):=by rw[uD rfl];unfold aY;rfl
theorem JR(i j:Bool):eD (.bl i) (.bl j)=.ok (.bl (!(i==j))):=by rw[yS rfl];unfold aY;rfl
abbrev t3(x y z:Int):D:=.tup [.int x,.int y,.int z]
abbrev l3(x y z:Int):D:=.lst [.int x,.int y,.int z]
theorem JT:∀(ns ms:List Int),eqDs (ns.map D.int) (ms.map D.int)=decide (ns=ms)
 |[],[]=>by unfold eqDs;rfl
 |[],_::_=>by unfold eqDs;rfl
 |_::_,[]=>by unfold eqDs;rfl
 |n::ns,m::ms=>by
  show eqDs (D.int n::ns.map D.int) (D.int m::ms.map D.int)=_
  unfold eqDs
  rw[JT ns ms,lD,Bool.eq_iff_iff]
  simp
theorem yT(a b c x y z:Int):aY (t3 a b c) (t3 x y z)=decide (a=x/\b=y/\c=z):=by
 have:=JT [a,b,c] [x,y,z]
 unfold aY
 rw[show ([D.int a,.int b,.int c]:List D)=[a,b,c].map D.int from rfl,show ([D.int x,.int y,.int z]:List D)=[x,y,z].map D.int from rfl,this,Bool.eq_iff_iff]
 simp
theorem Z3(a b c x y z:Int):aY (l3 a b c) (l3 x y z)=decide (a=x/\b=y/\c=z):=by
 have:=yT a b c x y z
 unfold aY at this ⊢
 exact this
theorem JU(a b c x y z:Int):a6 (t3 a b c) (t3 x y z)=.ok (.bl (decide (a=x/\b=y/\c=z))):=by rw[uD rfl,yT]
theorem JV(a b c x y z:Int):eD (t3 a b c) (t3 x y z)=.ok (.bl (!decide (a=x/\b=y/\c=z))):=by rw[yS rfl,yT]
theorem JW(a b c x y z:Int):a6 (l3 a b c) (l3 x y z)=.ok (.bl (decide (a=x/\b=y/\c=z))):=by rw[uD rfl,Z3]
theorem JX(a b:Bool):mE (.bl a) (.bl b)=.ok (.bl (a==b)):=rfl
theorem JY(a b:Bool):oE (.bl a) (.bl b)=.ok (.bl (a != b)):=rfl
theorem JZ(d:D):mE d .non=.ok (.bl (mB d)):=by cases d<;>rfl
theorem J0(d:D):oE d .non=.ok (.bl (!mB d)):=by cases d<;>rfl
theorem J2(a b c:D):aF (.tup [a,b,c]) (.int 0)=.ok a:=rfl
theorem J3(a b c:D):aF (.tup [a,b,c]) (.int 1)=.ok b:=rfl
theorem J4(a b c:D):aF (.tup [a,b,c]) (.int 2)=.ok c:=rfl
theorem J5(a b c:D):aF (.lst [a,b,c]) (.int 0)=.ok a:=rfl
theorem J6(a b c:D):aF (.lst [a,b,c]) (.int 1)=.ok b:=rfl
theorem J7(a b c:D):aF (.lst [a,b,c]) (.int 2)=.ok c:=rfl
theorem uE{xs:List D}{j:Nat}{d:D}(h:xs[j]? = some d):aF (.lst xs) (.int (j:Int))=.ok d:=by
 show (match eF xs (j:Int) with|some d=>R.ok d|none=>.bad)=_
 rw[UZ h]
theorem Z4(xs:List D)(d:D):aF (.lst (xs++[d])) (.int (-1))=.ok d:=by
 show (match eF (xs++[d]) (-1) with|some d=>R.ok d|none=>.bad)=_
 rw[U0]
theorem J8(xs:List D):cR [.lst xs]=.ok (.int xs.length):=rfl
theorem J9:cR [.tup []]=.ok (.int 0):=rfl
theorem KA(a:D):cR [.tup [a]]=.ok (.int 1):=rfl
theorem KB(a b:D):cR [.tup [a,b]]=.ok (.int 2):=rfl
theorem KC(a b c:D):cR [.tup [a,b,c]]=.ok (.int 3):=rfl
theorem KD(a b c d:D):cR [.tup [a,b,c,d]]=.ok (.int 4):=rfl
theorem KF(i:Int):qO [.int i]=.ok (.int (i.natAbs:Int)):=rfl
theorem KG(i j:Int):Y8 [.int i,.int j]=.ok (.int (min i j)):=rfl
theorem KH(i j:Int):Y9 [.int i,.int j]=.ok (.int (max i j)):=rfl
theorem KI(b:Bool):qP [.bl b]=.ok (.int (if b then 1 else 0)):=rfl
theorem KJ(i:Int):g2 cU [.int i,.ty "int"]=.ok (.bl true):=rfl
theorem KK(i:Int):g2 cU [.int i,.ty "bool"]=.ok (.bl false):=rfl
theorem KL(i:Bool):g2 cU [.bl i,.ty "bool"]=.ok (.bl true):=rfl
theorem KM(i:Bool):g2 cU [.bl i,.ty "int"]=.ok (.bl true):=rfl
theorem KN(xs:List D):g2 cU [.tup xs,.ty "tuple"]=.ok (.bl true):=rfl
theorem KO(xs:List D):g2 cU [.lst xs,.ty "list"]=.ok (.bl true):=rfl
theorem KP(xs:List D):g2 cU [.lst xs,.ty "tuple"]=.ok (.bl false):=rfl
theorem KQ(xs:List D):g2 cU [.tup xs,.ty "list"]=.ok (.bl false):=rfl
theorem KR(c:Str):g2 cU [.exc c [],.ty "ValueError"]=.ok (.bl true):=rfl
theorem Z5(j:Int)(h:fY j=true):fH [.int j]=.ok (eO 0 j.toNat):=by
 show (bif fY j then _ else _)=_
 rw[h];rfl
theorem Z6(i j:Int)(h:fY i=true)(h':fY j=true):XV [.int i,.int j]=.ok (eO i (j-i).toNat):=by
 show (bif fY i&&fY j then _ else _)=_
 rw[h,h'];rfl
theorem Z7{i:Int}(h:-1000000000<=i)(h':i<=1000000000):fY i=true:=by
 unfold fY
 rw[xdc]
 omega
def KS(g:List D->R (List D))(a:R (List D)):R (List D):=a.bind g
theorem KU(g:List D->R (List D))(fs:DSt->R (List D))(U:DSt):fZ g fs U=KS g (fs U):=(rfl)
theorem KW(g:List D->R (List D))(ds:List D):KS g (.ok ds)=g ds:=(rfl)
def yU(a:R D):R (List D):=a.bind xM
theorem KY(f:DSt->R D)(U:DSt):dB f U=yU (f U):=rfl
theorem KZ(xs:List D):yU (.ok (.tup xs))=.ok xs:=rfl
theorem K0(xs:List D):yU (.ok (.lst xs))=.ok xs:=rfl
def K1(ks:List Nat)(gp:D->R (List D))(fb:DSt->R aD)(a:R (List D))(U:DSt):R aD:=a.bind fun ds=>eP ks gp fb ds U
theorem K2(own ks:List Nat)(gp:D->R (List D))(fi:DSt->R (List D))(fb:DSt->R aD)(U:DSt):j4 own ks gp fi fb U=K1 ks gp fb (fi (mask own U)) U:=rfl
theorem K3(ks:List Nat)(gp:D->R (List D))(fb:DSt->R aD)(ds:List D)(U:DSt):K1 ks gp fb (.ok ds) U=eP ks gp fb ds U:=rfl
def jH(r:R aD)(k:DSt->R aD):R aD:=r.bind fun o=>match o with
 |.nx U'=>k U'
 |.ct U'=>k U'
 |.bk U'=>.ok (.nx U')
 |.rt d=>.ok (.rt d)
 |.rf d=>.ok (.rf d)
theorem rE(U:DSt)(k:DSt->R aD):jH (.ok (.nx U)) k=k U:=rfl
theorem K4(U:DSt)(k:DSt->R aD):jH (.ok (.ct U)) k=k U:=rfl
theorem K5(U:DSt)(k:DSt->R aD):jH (.ok (.bk U)) k=.ok (.nx U):=rfl
theorem K6(d:D)(k:DSt->R aD):jH (.ok (.rt d)) k=.ok (.rt d):=rfl
theorem K7(d:D)(k:DSt->R aD):jH (.err d) k=.err d:=rfl
theorem K8(ks:List Nat)(gp:D->R (List D))(fb:DSt->R aD)(U:DSt):eP ks gp fb [] U=.ok (.nx U):=rfl
theorem uF(i:Nat)(fb:DSt->R aD)(d:D)(ds:List D)(U:DSt):eP [i] bK fb (d::ds) U=jH (fb (U.set i (some d))) (eP [i] bK fb ds):=by
 show (fb (U.set i (some d))).bind _=_
 unfold jH
 cases fb (U.set i (some d)) with
 |ok o=>cases o<;>rfl
 |err e=>rfl
 |bad=>rfl
theorem yV{i:Nat}{fb:DSt->R aD}(I:Nat->DSt->Prop)(ds:List D)(hs:∀(k:Nat) (d:D) (U:DSt),ds[k]? = some d->I k U->∃U',(fb (U.set i (some d))=.ok (.nx U')\/fb (U.set i (some d))=.ok (.ct U'))/\I (k+1) U')(U:DSt)(h:I 0 U):∃U',eP [i] bK fb ds U=.ok (.nx U')/\I ds.length U':=by
 have go:∀(ds:List D) (n:Nat),(∀(k:Nat) (d:D) (U:DSt),ds[k]? = some d->I (n+k) U->∃U',(fb (U.set i (some d))=.ok (.nx U')\/fb (U.set i (some d))=.ok (.ct U'))/\I (n+k+1) U')->∀U,I n U->∃U',eP [i] bK fb ds U=.ok (.nx U')/\I (n+ds.length) U':=by
  intro ds
  induction ds with
  |nil=>intro n _ U h;exact⟨U,rfl,h⟩
  |cons d ds ih=>
   intro n hs U h
   obtain⟨σ1,h1,h2⟩:=hs 0 d U rfl h
   obtain⟨σ2,h3,h4⟩:=ih (n+1) (fun k d' U hd hI=>by
    have:=hs (k+1) d' U (by simpa using hd) (by rw[show n+(k+1)=n+1+k by omega];exact hI)
    rw[show n+(k+1)+1=n+1+k+1 by omega] at this
    exact this) σ1 h2
   refine⟨σ2,?_,by rw[xaw,show n+(ds.length+1)=n+1+ds.length by omega];exact h4⟩
   rw[uF]
   rcases h1 with h1|h1<;>rw[h1]
   ·exact h3
   ·exact h3
 obtain⟨U',h1,h2⟩:=go ds 0 (fun k d U hd hI=>by
  rw[xdd] at hI ⊢
  exact hs k d U hd hI) U h
 exact⟨U',h1,by rw[xdd] at h2;exact h2⟩
theorem uG{c:DSt->R Bool}{fb:DSt->R aD}{U U':DSt}(h:c U=.ok true)(h':fb U=.ok (.nx U')):c7 c fb U=c7 c fb U':=by rw[EN,h];show (fb U).bind _=_;rw[h'];rfl
theorem yW{c:DSt->R Bool}{fb:DSt->R aD}{U:DSt}(h:c U=.ok false):c7 c fb U=.ok (.nx U):=by rw[EN,h];rfl
def j9(k:Nat)(ks:List Nat)(a:R (List D))(gp:D->R (List D))(c:DSt->R Bool)(e:DSt->R D)(U:DSt):R (List D):=a.bind fun ds=>bif most ds.length then (dY ks gp c e (List.replicate k none++U) ds).noerr else .bad
theorem kA(k:Nat)(ks:List Nat)(fi:DSt->R (List D))(gp:D->R (List D))(c:DSt->R Bool)(e:DSt->R D)(U:DSt):dZ k ks fi gp c e U=j9 k ks (fi U) gp c e U:=rfl
theorem kB{n:Nat}(h:n<=1000000):most n=true:=xaj (xa9 h (by decide))
theorem K9{ds:List D}{e:DSt->R D}{U:DSt}{g:D->D}(hl:ds.length<=1000000)(h:∀d∈ds,e (some d::U)=.ok (g d)):j9 1 [0] (.ok ds) bK cQ e U=.ok (ds.map g):=by
 have go:∀ds:List D,(∀d∈ds,e (some d::U)=.ok (g d))->dY [0] bK cQ e (List.replicate 1 none++U) ds=.ok (ds.map g):=by
  intro ds
  induction ds with
  |nil=>intro _;rfl
  |cons d ds ih=>
   intro h
   show (e (some d::U)).bind (fun y=>(dY [0] bK cQ e (List.replicate 1 none++U) ds).bind fun ys=>.ok (y::ys))=_
   rw[h d xba,ih fun d' hd=>h d' (xat _ hd)];rfl
 show (bif most ds.length then _ else _)=_
 rw[kB hl,go ds h];rfl
theorem Z8{ds:List D}{c:DSt->R Bool}{e:DSt->R D}{U:DSt}{p:D->Bool}{g:D->D}(hl:ds.length<=1000000)(hc:∀d∈ds,c (some d::U)=.ok (p d))(h:∀d∈ds,p d=true->e (some d::U)=.ok (g d)) :
  j9 1 [0] (.ok ds) bK c e U=.ok ((ds.filter p).map g):=by
 have go:∀ds:List D,(∀d∈ds,c (some d::U)=.ok (p d))->(∀d∈ds,p d=true->e (some d::U)=.ok (g d))->dY [0] bK c e (List.replicate 1 none++U) ds=.ok ((ds.filter p).map g):=by
  intro ds
  induction ds with
  |nil=>intro _ _;rfl
  |cons d ds ih=>
   intro hc h
   have ih':=ih (fun d' hd=>hc d' (xat _ hd)) fun d' hd=>h d' (xat _ hd)
   show (c (some d::U)).bind (fun k=>bif k then (e (some d::U)).bind (fun y=>(dY [0] bK c e (List.replicate 1 none++U) ds).bind fun ys=>.ok (y::ys)) else dY [0] bK c e (List.replicate 1 none++U) ds)=_
   rw[hc d xba,ih']
   cases hp:p d with
   |true=>
    show (e (some d::U)).bind _=_
    rw[h d xba hp,List.filter_cons_of_pos hp];rfl
   |false=>rw[List.filter_cons_of_neg (by rw[hp];exact xa8)];rfl
 show (bif most ds.length then _ else _)=_
 rw[kB hl,go ds hc h];rfl
end DL
namespace DL
open L2 PyProof.Rows
section
variable{X:Cx}{E:XK}{e:Expr}{te:TE}{pos:Pos}
theorem Reps.reverse{K:xFg}{mg:Str->Option Value}{G:Hp}:∀{ds:List D} {vs:List V},Reps K mg G ds vs->Reps K mg G ds.reverse vs.reverse
 |[],_,h=>by cases h;exact rfl
 |d::ds,_,⟨v,r,h1,h2,h3⟩=>by
  subst h1
  rw[xbq,xbq]
  exact(Reps.reverse h3).append (Reps.cons h2 Reps.nil)
def putK(i:Nat)(l:R (List D))(a k:R D)(U:DSt):R aD:=l.bind fun ds=>a.bind fun d=>k.bind fun kd=>match kd with
 |.int n=>match iN ds.length n with
  |some j=>.ok (.nx (U.set i (some (.lst (ds.set j d)))))
  |none=>.bad
 |_=>.bad
variable{own ol:List Nat}{x:Str}{k:Expr}{fk fe:DSt->R D}{np tpos:Pos}
end
end DL
namespace DL
open L2 PyProof.Rows
def mI(d:D)(xs:List D):Bool:=xs.any fun y=>aY y d
def fS(d:D)(xs:List D):Bool:=bX 9 d&&xs.all (bX 9)
def gC:D->D->R D
 |d,.lst xs=>bif fS d xs then .ok (.bl (mI d xs)) else .bad
 |d,.tup xs=>bif fS d xs then .ok (.bl (mI d xs)) else .bad
 |.str i,.str j=>.ok (.bl (!(Builtin.Str.occurrences j i 0 j.length 1).isEmpty))
 |_,_=>.bad
def jI:D->D->R D
 |d,.lst xs=>bif fS d xs then .ok (.bl (!mI d xs)) else .bad
 |d,.tup xs=>bif fS d xs then .ok (.bl (!mI d xs)) else .bad
 |.str i,.str j=>.ok (.bl (!(!(Builtin.Str.occurrences j i 0 j.length 1).isEmpty)))
 |_,_=>.bad
section
variable{X:Cx}{E:XK}
theorem LA{K:xFg}{mg:Str->Option Value}{G:Hp}{d:D}(f:Value->Bool):∀{ds:List D} {vs:List V} {its:List Value},(∀d' v' u,d'∈ds->aS K mg G d' v'->aJ v' u->f u=aY d' d)->Reps K mg G ds vs->aP vs its->its.any f=ds.any fun y=>aY y d
 |[],_,_,_,r,t=>by cases r;cases t;rfl
 |d'::ds,_,_,h,⟨v,vs,e,r1,r2⟩,t=>by
  subst e
  cases t with
  |cons q t=>
   rw[xc2,xc2,h d' _ _ xba r1 q,LA f (fun d'' v'' u hd=>h d'' v'' u (xat _ hd)) r2 t]
theorem LB{K:xFg}{mg:Str->Option Value}{G:Hp}:∀{ds:List D} {vs:List V} {its:List Value},Reps K mg G ds vs->aP vs its->∀u∈its,∃d' v',d'∈ds/\aS K mg G d' v'/\aJ v' u
 |[],_,_,r,t,u,hu=>by cases r;cases t;cases hu
 |d'::ds,_,_,⟨v,vs,e,r1,r2⟩,t,u,hu=>by
  subst e
  cases t with
  |cons q t=>
   rcases xaz.mp hu with rfl|hu
   ·exact⟨d',v,xba,r1,q⟩
   ·obtain⟨d'',v'',h1,h2,h3⟩:=LB r2 t u hu
    exact⟨d'',v'',xat _ h1,h2,h3⟩
def LD(K:xFg)(mg:Str->Option Value)(neg:Bool):R2:=fun x y H Q=>∃G d ds p vs,Same G H/\aS K mg G d x/\y=.ref p/\(aW K G p vs\/bJ K G p vs)/\Reps K mg G ds vs/\fS d ds=true/\Q (.bl (bif neg then !mI d ds else mI d ds)) H
open Classical in
theorem uH{pins:List (Addr×Obj)}{U:L2.St}{G H:Hp}{s:Shared}(I:Inv X pins U H s){k:Nat}(r:cH k X.A)(e:Same G H){d:D}{x:V}{v:Value}{ds:List D}{vs:List V}{its:List Value}(rx:aS X.K X.mg G d x)(qx:aJ x v)(rs:Reps X.K X.mg G ds vs)(t:aP vs its)(h:fS d ds=true) :
  ∃f:Value->Bool,(∀u∈its,SeqAt.EqAt X.A.in1 s u v (f u))/\its.any f=mI d ds:=by
 unfold fS at h
 rw[xau,xbn] at h
 obtain⟨h1,h2⟩:=h
 have key:∀d' v' u,d'∈ds->aS X.K X.mg G d' v'->aJ v' u->decide (∃d'' v'',d''∈ds/\aS X.K X.mg G d'' v''/\aJ v'' u/\aY d'' d=true)=aY d' d:=by
  intro d' v' u hd r1 q1
  by_cases hq:aY d' d=true
  ·rw[hq];exact xaj ⟨d',v',hd,r1,q1,hq⟩
  ·rw[Bool.not_eq_true] at hq
   rw[hq]
   refine xar ?_
   rintro⟨d'',v'',hd',r2,q2,hq'⟩
   have ev:=q1.inj q2
   subst ev
   have:=xV I e 9 (h2 _ hd) (h2 _ hd') r1 r2
   subst this
   rw[hq] at hq';cases hq'
 refine⟨fun u=>decide (∃d'' v'',d''∈ds/\aS X.K X.mg G d'' v''/\aJ v'' u/\aY d'' d=true),fun u hu=>?_,LA _ key rs t⟩
 obtain⟨d',v',hd,r1,q1⟩:=LB rs t u hu
 show SeqAt.EqAt X.A.in1 s u v (decide _)
 rw[key d' v' u hd r1 q1]
 exact(xW I e 9 (by rw[ET];have:=r.un;omega) (h2 _ hd) h1 r1 q1 rx qx).1
theorem Z9{k:Nat}(r:cH k X.A):bE X (compareOp .In) (LD X.K X.mg false):=by
 intro pins s U H x y v u Q I rx ry h
 obtain⟨G,d,ds,p,vs,e,r1,rfl,hq,rs,c,q⟩:=h
 cases ry
 rcases hq with hq|hq
 ·obtain⟨its,t,pl,hz⟩:=I.list (e.seq hq)
  obtain⟨f,h1,h2⟩:=uH I r e r1 rx rs t c
  refine SeqAt.in_listAt f pl.isList (fun w hw=>h1 w (by simpa using hw)) ⟨.bl _,H,I,rfl,?_⟩
  rw[show its.toArray.any f=its.any f by simp,h2];exact q
 ·obtain⟨its,t,pl,hz⟩:=I.tuple (Same.sqT e hq)
  obtain⟨f,h1,h2⟩:=uH I r e r1 rx rs t c
  refine SeqAt.in_tupleAt f pl (fun w hw=>h1 w (by simpa using hw)) ⟨.bl _,H,I,rfl,?_⟩
  rw[show its.toArray.any f=its.any f by simp,h2];exact q
theorem zaa{k:Nat}(r:cH k X.A):bE X (compareOp .NotIn) (LD X.K X.mg true):=by
 intro pins s U H x y v u Q I rx ry h
 obtain⟨G,d,ds,p,vs,e,r1,rfl,hq,rs,c,q⟩:=h
 cases ry
 rcases hq with hq|hq
 ·obtain⟨its,t,pl,hz⟩:=I.list (e.seq hq)
  obtain⟨f,h1,h2⟩:=uH I r e r1 rx rs t c
  refine SeqAt.notIn_listAt f pl.isList (fun w hw=>h1 w (by simpa using hw)) ⟨.bl _,H,I,rfl,?_⟩
  rw[show its.toArray.any f=its.any f by simp,h2];exact q
 ·obtain⟨its,t,pl,hz⟩:=I.tuple (Same.sqT e hq)
  obtain⟨f,h1,h2⟩:=uH I r e r1 rx rs t c
  refine SeqAt.notIn_tupleAt f pl (fun w hw=>h1 w (by simpa using hw)) ⟨.bl _,H,I,rfl,?_⟩
  rw[show its.toArray.any f=its.any f by simp,h2];exact q
abbrev LF(neg:Bool):R2:=fun x y H Q=>∃i j,x=.str i/\y=.str j/\Q (.bl (bif neg then !(!(Builtin.Str.occurrences j i 0 j.length 1).isEmpty) else !(Builtin.Str.occurrences j i 0 j.length 1).isEmpty)) H
theorem zab{k:Nat}(C:XC X E k):eW X .In gC:=⟨_,(Z9 C.room).or (TD:bE X _ (LF false)),fun G H a b x y Q e ra rb q=>by
 cases b with
 |lst xs=>
  obtain⟨p,vs,rfl,h1,h2⟩:=rb
  cases hc:fS a xs with
  |false=>simp only[gC,hc,cond_false] at q;exact q.elim
  |true=>simp only[gC,hc,cond_true] at q;exact .inl ⟨G,a,xs,p,vs,e,ra,rfl,.inl h1,h2,hc,aL.now q e rfl⟩
 |tup xs=>
  obtain⟨p,vs,rfl,h1,h2⟩:=rb
  cases hc:fS a xs with
  |false=>simp only[gC,hc,cond_false] at q;exact q.elim
  |true=>simp only[gC,hc,cond_true] at q;exact .inl ⟨G,a,xs,p,vs,e,ra,rfl,.inr h1,h2,hc,aL.now q e rfl⟩
 |str j=>cases a with
  |str i=>cases ra;cases rb;exact .inr ⟨i,j,rfl,rfl,aL.now q e rfl⟩
  |_=>exact(show False from q).elim
 |_=>cases a<;>exact(show False from q).elim,fun a b e=>by
  cases b with
  |lst xs=>simp only[gC];cases fS a xs<;>simp[cond]
  |tup xs=>simp only[gC];cases fS a xs<;>simp[cond]
  |_=>cases a<;>simp[gC]⟩
theorem zac{k:Nat}(C:XC X E k):eW X .NotIn jI:=⟨_,(zaa C.room).or (U6:bE X _ (LF true)),fun G H a b x y Q e ra rb q=>by
 cases b with
 |lst xs=>
  obtain⟨p,vs,rfl,h1,h2⟩:=rb
  cases hc:fS a xs with
  |false=>simp only[jI,hc,cond_false] at q;exact q.elim
  |true=>simp only[jI,hc,cond_true] at q;exact .inl ⟨G,a,xs,p,vs,e,ra,rfl,.inl h1,h2,hc,aL.now q e rfl⟩
 |tup xs=>
  obtain⟨p,vs,rfl,h1,h2⟩:=rb
  cases hc:fS a xs with
  |false=>simp only[jI,hc,cond_false] at q;exact q.elim
  |true=>simp only[jI,hc,cond_true] at q;exact .inl ⟨G,a,xs,p,vs,e,ra,rfl,.inr h1,h2,hc,aL.now q e rfl⟩
 |str j=>cases a with
  |str i=>cases ra;cases rb;exact .inr ⟨i,j,rfl,rfl,aL.now q e rfl⟩
  |_=>exact(show False from q).elim
 |_=>cases a<;>exact(show False from q).elim,fun a b e=>by
  cases b with
  |lst xs=>simp only[jI];cases fS a xs<;>simp[cond]
  |tup xs=>simp only[jI];cases fS a xs<;>simp[cond]
  |_=>cases a<;>simp[jI]⟩
end
end DL
namespace DL
open L2 PyProof.Rows
def yX(c:Nat):Str:=⟨#[c]⟩
section
variable{X:Cx}{E:XK}{tg:Expr}
def zad(z:Str):List D:=z.cps.toList.map fun c=>.str (yX c)
def asTxt:D->R (List D)
 |.str z=>.ok (zad z)
 |_=>.bad
variable{a b:Expr}{fa fb:DSt->R D}{pos:Pos}
def fT:D->D->R D
 |.str z,.int i=>bif decide (0<=i)&&Nat.blt i.natAbs 1073741824 then (match z.cps[i.toNat]? with
  |some c=>.ok (.str (yX c))
  |none=>.bad) else .bad
 |_,_=>.bad
abbrev rIxS:R2:=fun x y H Q=>∃z i c,x=.str z/\y=.int i/\0<=i/\i<2^63/\i<z.length/\z.cps[i.toNat]? = some c/\Q (.str ⟨#[c]⟩) H
theorem zae:fG fT:=by
 intro a b e h
 cases a with
 |str z=>cases b with
  |int i=>
   cases hC:(decide (0<=i)&&Nat.blt i.natAbs 1073741824) with
   |false=>simp only[fT,hC,cond_false] at h;cases h
   |true=>
    simp only[fT,hC,cond_true] at h
    split at h<;>cases h
  |_=>cases h
 |_=>cases b<;>cases h
theorem zaf{K:xFg}{mg:Str->Option Value}:fF K mg rIxS fT:=by
 intro G H a b x y Q e ra rb q
 cases a with
 |str z=>cases b with
  |int i=>
   cases ra;cases rb
   cases hC:(decide (0<=i)&&Nat.blt i.natAbs 1073741824) with
   |false=>simp only[fT,hC,cond_false] at q;exact q.elim
   |true=>
    simp only[fT,hC,cond_true] at q
    rw[xau,decide_eq_true_eq,xdc] at hC
    cases hc:z.cps[i.toNat]? with
    |none=>rw[hc] at q;exact q.elim
    |some c=>
     rw[hc] at q
     have hlt:i.toNat<z.cps.size:=(xbs.mp hc).1
     have hlt':i<(z.length:Int):=by
      show i<(z.cps.size:Int)
      omega
     exact⟨z,i,c,rfl,rfl,hC.1,by omega,hlt',hc,aL.now q e rfl⟩
  |_=>exact(show False from q).elim
 |_=>cases b<;>exact(show False from q).elim
theorem zag(ha:DE X E a fa)(hb:DE X E b fb)(hs:B9 b:=by intro _ _;rfl):DE X E (.Subscript a b pos) (aC fT fa fb):=
 PE.mono' (TQ ha hb hs) fun _ _ _ h=>pY zaf zae h
theorem LG:∀l:List (Str×Tok),aP (l.map fun p=>V.str p.1) (strValues l)
 |[]=>.nil
 |p::l=>.cons ⟨p.2,rfl⟩ (LG l)
theorem LH{K:xFg}{mg:Str->Option Value}{G:Hp}:∀l:List (Str×Tok),Reps K mg G (l.map fun p=>D.str p.1) (l.map fun p=>V.str p.1)
 |[]=>Reps.nil
 |p::l=>Reps.cons rfl (LH l)
theorem zah{K:xFg}{mg:Str->Option Value}{G:Hp}{a:Addr}{its:Array Value}{n:Nat}{sl:Array (Option Value)}{l:List (Str×Tok)}(lk:K.lookup a=some ⟨.type "tuple",none,.seq its n,sl⟩)(h:its.toList=strValues l)(hz:l.length<=100):aS K mg G (.tup (l.map fun p=>D.str p.1)) (.ref a):=by
 refine⟨a,_,rfl,.inr ⟨_,its,n,lk,rfl,rfl,?_,by rw[h];exact LG l,rfl⟩,LH l⟩
 rw[<- xcc,h]
 unfold strValues
 rw[xak]
 exact xa1 hz (by decide)
end
end DL
namespace DL
open L2 PyProof.Rows
section
variable{prog:Program}{w:World}{A:Around}{E:Value->Shared->Prop}{s:Shared}
theorem items_int{ks:List Int}{vs:List Value}(h:ItemsAre (intKind prog w) ks vs):∀v∈vs,∃i t,v=.int i t:=by
 induction h with
 |nil=>intro v hv;cases hv
 |cons q _ ih=>
  intro v hv
  rcases xaz.mp hv with rfl|hv
  ·cases v with
   |int i t=>exact⟨i,t,rfl⟩
   |_=>cases q
  ·exact ih v hv
structure TSet(prog:Program)(w:World)(h:Heap)(a:Addr)(o:Obj)(es:Array (Int×Value))(ep:Nat)(t:SetTable)(kss:List (List Int)):Prop where
 get:h.get? a=some o
 ex:o.ExactSet
 dat:o.data=.set es ep t
 dm:t.dummies=#[]
 pl:t.place.size=es.size
 msk:(t.mask=7/\es.size<=4)\/(t.mask=31/\es.size<=18)
 n:es.size=kss.length
 el:∀e∈es.toList,∃c ls,e.2=.ref c/\IsTupleKey (intKind prog w) h ls c/\ls∈kss
variable{h:Heap}{a:Addr}{o:Obj}{es:Array (Int×Value)}{ep:Nat}{t:SetTable}{kss:List (List Int)}
end
end DL
namespace L2
open PyProof.Rows
section
variable{prog:Program}{w:World}{A:Around}{E:Value->Shared->Prop}{s:Shared}
def tp2(a b:Value):Obj:={ cls:=.type "tuple",data:=.seq #[a,b] }
end
section
variable{X:Cx}{pins:List (Addr×Obj)}{U:St}{H:Hp}{s:Shared}{h':Heap}
theorem Inv.turnedL{t':Nat}{ch:List Addr}(I:Inv X pins U H s)(k:∀b o,b∉ch->s.heap.get? b=some o->h'.get? b=some o)(f:∀b∈ch,eS X pins H b):Inv X pins U H { s with heap:=h',toks:=t' }:=by
 have nit:∀b u,H b=some u->b∉ch:=fun b u e z=>by rw[(f b z).1] at e;cases e
 refine I.step (g':=s.gens) (d':=s.drawn) (ch:=ch) (fun b hb=>?_) (fun b o _ _ hc e _=>k b o hc e) (fun b o _ _ hc e _=>⟨o.slots,k b o hc e⟩) (fun _ _ _ _ n=>n) (fun b o hc e=>⟨o,k b o hc e⟩) (fun _ _ e=>e) (fun _ _ _ e=>e) (fun b ps e=>⟨#[],by rw[e];simp⟩) (fun m hm=>?_) (fun b u e=>?_) I.bare
 ·obtain⟨_,f1,_,f3,f4,f5⟩:=f b hb
  exact⟨f3,f1,f4,f5⟩
 ·obtain⟨o,es,ep,ho,r⟩:=hm
  exact⟨o,es,ep,k _ o (fun z=>(f _ z).2.1 rfl) ho,r⟩
 ·refine(I.hok b u e).stay (fun c v hc q=>k c v ?_ q) (fun _ q=>q) fun _ _ q=>q
  rcases hc with z|z
  ·rw[z];exact nit b u e
  ·exact nit c _ z
end
end L2
namespace DL
open L2 PyProof.Rows
section
variable{X:Cx}{E:XK}
def lE(xs ys:List D):List D:=List.zipWith (fun x y=>.tup [x,y]) xs ys
end
end DL
namespace DL
open PySem.Spec PyProof.Rows L2
variable{K:xFg}{mg:Str->Option Value}{X:Cx}{e:Expr}{es:List Expr}{p pos:Pos}
theorem LJ:∀l:List (Int×Tok),aP (l.map fun p=>V.int p.1) (l.map fun p=>Value.int p.1 p.2)
 |[]=>.nil
 |p::l=>.cons ⟨p.2,rfl⟩ (LJ l)
theorem LK{G:Hp}:∀l:List (Int×Tok),Reps K mg G (l.map fun p=>D.int p.1) (l.map fun p=>V.int p.1)
 |[]=>Reps.nil
 |p::l=>Reps.cons rfl (LK l)
theorem zai{G:Hp}{a:Addr}{its:Array Value}{n:Nat}{sl:Array (Option Value)}{l:List (Int×Tok)}(lk:K.lookup a=some ⟨.type "tuple",none,.seq its n,sl⟩)(h:its.toList=l.map fun p=>Value.int p.1 p.2)(hz:l.length<=100):aS K mg G (.tup (l.map fun p=>D.int p.1)) (.ref a):=by
 refine⟨a,_,rfl,.inr ⟨_,its,n,lk,rfl,rfl,?_,by rw[h];exact LJ l,rfl⟩,LK l⟩
 rw[<- xcc,h,xak]
 exact xa1 hz (by decide)
end DL
namespace DL
open L2 PyProof.Rows
section
variable{X:Cx}{E:XK}
theorem zaj:bootBuiltins "enumerate"=some (.type "enumerate"):=by decide +kernel
def gN(k:Nat):List D->List D
 |[]=>[]
 |d::ds=>.tup [.int k,d]::gN (k+1) ds
theorem yY:∀(ds:List D) (k:Nat),(gN k ds).length=ds.length
 |[],_=>rfl
 |_::ds,k=>by rw[gN,xaw,xaw,yY ds]
theorem LL:∀(ds:List D) (k i:Nat) (d:D),(gN k ds)[i]? = some d->∃x,ds[i]? = some x/\d=.tup [.int ((k+i:Nat):Int),x]
 |[],_,i,d,h=>by cases i<;>cases h
 |y::ds,k,0,d,h=>⟨y,rfl,(xas h).symm⟩
 |y::ds,k,i+1,d,h=>by
  obtain⟨x,h1,h2⟩:=LL ds (k+1) i d h
  exact⟨x,h1,by rw[h2,show k+1+i=k+(i+1) by omega]⟩
end
end DL
namespace DL
open L2 PyProof.Rows
def zak(K:xFg)(mg:Str->Option Value)(E:XK)(G0 H0:Hp)(own:List Nat)(i j:Nat)(fx:DSt->R D):TE:=fun U H Q=>∃G Ud ds es,Ok K mg H0 own Ud U G H/\Step G0 H0 G H/\i∈own/\j∈own/\Ud[i]? = some (some (.lst ds))/\Ud[j]? = some (some (.lst es))/\
 RW (fx (mask own Ud)) (fun ix=>∃l,(ix=.int 0/\l=i\/ix=.int 1/\l=j)/\∀c G' H',Step G H G' H'->U[l]? = some (some (.ref c))->Q (.ref c) H') (bA K mg E G0 H0)
def jJ(i j:Nat):D->R Nat
 |.int n=>bif n==0 then .ok i else bif n==1 then .ok j else .bad
 |_=>.bad
theorem LM{i j l:Nat}{ix:D}(h:jJ i j ix=.ok l):ix=.int 0/\l=i\/ix=.int 1/\l=j:=by
 unfold jJ at h
 split at h
 ·rename_i n
  cases h0:n==0 with
  |true=>rw[h0] at h;cases h;exact .inl ⟨by rw[eq_of_beq h0],rfl⟩
  |false=>
   rw[h0] at h
   cases h1:n==1 with
   |true=>rw[h1] at h;cases h;exact .inr ⟨by rw[eq_of_beq h1],rfl⟩
   |false=>rw[h1] at h;cases h
 ·cases h
theorem LN{i j:Nat}{ix e:D}:jJ i j ix≠.err e:=by
 unfold jJ
 split
 ·rename_i n
  cases n==0<;>cases n==1<;>exact fun h=>by cases h
 ·exact fun h=>by cases h
def uI(own:List Nat)(i j:Nat)(fx fe:DSt->R D):DSt->R aD:=fun U=>(aX U i).bind fun _=>(aX U j).bind fun _=>(fx (mask own U)).bind fun ix=>(jJ i j ix).bind fun l=>(aX U l).bind fun ds=>(fe (mask own U)).bind fun d=>bif most ds.length then .ok (.nx (U.set l (some (.lst (ds++[d]))))) else .bad
section
variable{X:Cx}{E:XK}{own own' ol:List Nat}{x y:Str}{e k:Expr}{fe fx:DSt->R D}{pos:Pos}
theorem yZ(i j:Nat){G0:Hp}{lpos spos np np2:Pos}(hx:DE X E k fx)(hN:X.N[i]? = some x)(hN2:X.N[j]? = some y)
  (hv:cA X.env.scope x) (hv2:cA X.env.scope y)
  (hd:(x==("__debug__":Str))=false) (hd2:(y==("__debug__":Str))=false) (hcd:(x==("__classdict__":Str))=false) (hcd2:(y==("__classdict__":Str))=false)
  (hpx:nU k)
  (hs1:starEach [.Name x np,.Name y np2] X.env=(false,eval (.Name x np) X.env)::starEach [.Name y np2] X.env) (hs2:starEach [.Name y np2] X.env=(false,eval (.Name y np2) X.env)::starEach [] X.env) :
  PE X (.Subscript (.List [.Name x np,.Name y np2] lpos) k spos) (zak X.K X.mg E G0 X.H₀ own i j fx):=by
 refine PE.mono' (lU wL (sV (cN (pv i hN hv hd hcd) (cN (pv j hN2 hv2 hd2 hcd2) eL hs2) hs1)) hx hpx) fun U H Q ⟨G,Ud,ds,es,ok,s0,hi,hj,gi,gj,q⟩=>?_
 obtain⟨a,ds',vs,p1,p2,p3,p4,p5,p6⟩:=ok.mine i _ hi gi
 cases p2
 obtain⟨b,es',us,r1,r2,r3,r4,r5,r6⟩:=ok.mine j _ hj gj
 cases r2
 refine⟨_,p1,_,r1,(show 2<=sizeLine by decide),fun p hp=>?_⟩
 have sp:=Step.hid (o:=.lst [.ref a,.ref b]) ok.ext hp
 refine⟨G,mask own Ud,(ok.step sp).masked,q.mono (fun ix _ z v G' H' s r=>?_) fun _ z=>z.step (s0.trans sp)⟩
 have hpl:H' p=some (.lst [.ref a,.ref b]):=s.h _ _ aV
 obtain⟨l,hl,q'⟩:=z
 rcases hl with⟨rfl,rfl⟩|⟨rfl,rfl⟩
 ·cases r
  exact⟨p,[.ref a,.ref b],0,.ref a,rfl,rfl,aW.of hpl,rfl,q' a G' H' (sp.trans s) p1⟩
 ·cases r
  exact⟨p,[.ref a,.ref b],1,.ref b,rfl,rfl,aW.of hpl,rfl,q' b G' H' (sp.trans s) r1⟩
theorem zal(i j:Nat){apos cpos lpos spos np np2:Pos}(hx:DE X E k fx)(he:DE X E e fe)(ho:own.contains i=true:=by rfl)(ho2:own.contains j=true:=by rfl)(hN:X.N[i]? = some x:=by rfl)(hN2:X.N[j]? = some y:=by rfl)
  (hv:cA X.env.scope x:=by first|exact Or.inl rfl|exact Or.inr (Or.inl rfl)|exact Or.inr (Or.inr rfl)) (hv2:cA X.env.scope y:=by first|exact Or.inl rfl|exact Or.inr (Or.inl rfl)|exact Or.inr (Or.inr rfl))
  (hd:(x==("__debug__":Str))=false:=by decide) (hd2:(y==("__debug__":Str))=false:=by decide) (hcd:(x==("__classdict__":Str))=false:=by decide) (hcd2:(y==("__classdict__":Str))=false:=by decide)
  (hpx:nU k:=by exact fun _ _=>rfl)
  (hs1:starEach [.Name x np,.Name y np2] X.env=(false,eval (.Name x np) X.env)::starEach [.Name y np2] X.env:=by rfl) (hs2:starEach [.Name y np2] X.env=(false,eval (.Name y np2) X.env)::starEach [] X.env:=by rfl)
  (hbase:attributeBase (.Subscript (.List [.Name x np,.Name y np2] lpos) k spos) "append" X.env (eval (.Subscript (.List [.Name x np,.Name y np2] lpos) k spos) X.env)=eval (.Subscript (.List [.Name x np,.Name y np2] lpos) k spos) X.env:=by rfl)
  (hfew:((backTo cpos (starEach [e] X.env)).all (fun x=>!x.1)&&(backToKw cpos (keywordEach [] X.env)).all (fun x=>x.1.isSome)&&decide ([e].length+([]:List Keyword).length+(if ([]:List Keyword).isEmpty then 0 else 1)<30))=true:=by rfl)
  (hline:(apos.endLine==cpos.line)=true:=by rfl) (hs:starEach [e] X.env=(false,eval e X.env)::starEach [] X.env:=by rfl) (hplain:(backTo cpos (starEach [] X.env)).any (·.1)=false:=by rfl)
  (hsw:swapsWith (.Call (.Attribute (.Subscript (.List [.Name x np,.Name y np2] lpos) k spos) "append" apos) [e] [] cpos) none pos.line X.env=pure false:=by rfl) :
  DS X E own own ol (.Expr (.Call (.Attribute (.Subscript (.List [.Name x np,.Name y np2] lpos) k spos) "append" apos) [e] [] cpos) pos) (uI own i j fx fe):=fun G0=>
 PS.mono' (jR (kT PySem.F.plainAttrs_list PySem.F.slot_list_append PySem.F.type_list_append lW (yZ (G0:=G0) (own:=own) i j hx hN hN2 hv hv2 hd hd2 hcd hcd2 hpx hs1 hs2) (eM he gG hs) hbase hfew hline hs hplain) hsw) fun Dn U H ⟨G,Ud,ok,s0,q⟩=>by
 have q1:=q.of_bind
 cases hL:aX Ud i with
 |bad=>rw[hL] at q1;exact q1.elim
 |err e=>exact xaq hL fI
 |ok ds=>
  rw[hL] at q1
  have q2:=RW.of_bind q1
  cases hM:aX Ud j with
  |bad=>rw[hM] at q2;exact q2.elim
  |err e=>exact xaq hM fI
  |ok es=>
   rw[hM] at q2
   have hi:i∈own:=by simpa using ho
   have hj:j∈own:=by simpa using ho2
   refine⟨G,Ud,ds,es,ok,s0,hi,hj,dN hL,dN hM,(RW.of_bind q2).mono (fun ix _ z=>?_) fun _ z=>z⟩
   cases hp:jJ i j ix with
   |bad=>rw[hp] at z;exact z.elim
   |err e=>exact xaq hp LN
   |ok l=>
    rw[hp] at z
    have pl:=LM hp
    refine⟨l,pl,fun c G1 H1 s1 hc=>?_⟩
    have hl:l∈own:=by rcases pl with⟨_,rfl⟩|⟨_,rfl⟩<;>assumption
    have z2:=RW.of_bind (show RW ((aX Ud l).bind _) _ _ from z)
    cases hK:aX Ud l with
    |bad=>rw[hK] at z2;exact z2.elim
    |err e=>exact xaq hK fI
    |ok cs=>
     rw[hK] at z2
     have z2:RW ((fe (mask own Ud)).bind fun d=>bif most cs.length then R.ok (.nx (Ud.set l (some (.lst (cs++[d]))))) else .bad) (bG X.K X.mg G0 X.H₀ own ol Dn G) (bA X.K X.mg E G0 X.H₀):=z2
     have gl:=dN hK
     have ok1:=ok.step s1
     obtain⟨c',cs',ws,t1,t2,t3,t4,t5,t6⟩:=ok1.mine l _ hl gl
     cases t2
     rw[hc] at t1;cases t1
     refine .inl ⟨rfl,_,aW.of t3⟩ |> fun w=>⟨w,?_⟩
     refine⟨G1,mask own Ud,ok1.masked,(show RW ((aB fe aE) (mask own Ud)) _ _ from ?_)⟩
     unfold aB
     have z3:=RW.of_bind z2
     cases hf:fe (mask own Ud) with
     |bad=>rw[hf] at z3;exact z3.elim
     |err e=>rw[hf] at z3;exact(show bA X.K X.mg E G0 X.H₀ e from z3).step (s0.trans s1)
     |ok d=>
      rw[hf] at z3
      rintro ws' G2 H2 s2 ⟨v2,_,e1,u1,u2⟩
      subst e1
      cases u2
      cases hm:most cs.length with
      |false=>rw[hm] at z3;exact(show False from z3).elim
      |true=>
       rw[hm] at z3
       have hlt:cs.length<sizeLine:=xa0 hm
       have ok2:=ok1.step s2
       have st2:=s1.trans s2
       refine⟨c,ws,v2,rfl,rfl,s2.h _ _ t3,by rw[<- t6.length];exact hlt,?_⟩
       exact(show bG X.K X.mg G0 X.H₀ own ol Dn G (.nx (Ud.set l (some (.lst (cs++[d]))))) from z3) U G2 _ (ok2.write hl gl hc ((t6.mono s2.g).append (Reps.cons u1 Reps.nil))) ((s0.trans st2).write (o:=.lst ws) t5 (s2.c _ _ t3 t4)) st2.g
end
structure gO(K:xFg)(mg:Str->Option Value)(H0:Hp)(own:List Nat)(x j:Nat)(Ud:DSt)(U:L2.St)(G H:Hp):Prop where
 ok:Ok K mg H0 own (Ud.set x none) U G H
 no:x∉own
 yes:j∈own
 al:∃d a,Ud[x]? = some (some d)/\Ud[j]? = some (some d)/\U[x]? = some (some (.ref a))/\U[j]? = some (some (.ref a))
section
variable{K:xFg}{mg:Str->Option Value}{G G' G0 H H' H0:Hp}{own:List Nat}{x j:Nat}{Ud:DSt}{U:L2.St}
theorem Ok.dropX{v:V}(o:Ok K mg H0 own Ud U G H)(hx:x∉own):Ok K mg H0 own (Ud.set x none) (U.set x (some v)) G H:=by
 have ne:∀{i:Nat} {d:D},(Ud.set x none)[i]? = some (some d)->i≠x:=fun {i d} h z=>by
  subst z
  by_cases hl:i<Ud.length
  ·rw[xa2 hl] at h;cases h
  ·rw[List.getElem?_eq_none (by simpa using Nat.le_of_not_lt hl)] at h;cases h
 have nb:∀{i:Nat} {d:D},(h:(Ud.set x none)[i]? = some (some d))->Ud[i]? = some (some d):=fun {i d} h=>by
  rw[xaf (xa5 (ne h))] at h;exact h
 refine⟨o.ext,by simp[o.len],fun i d hi h=>?_,fun i d hi h=>?_,fun i k a d1 d2 h1 h2 h3 h4 h5 h6=>?_⟩
 ·rw[xaf (xa5 (ne h))];exact o.val i d hi (nb h)
 ·rw[xaf (xa5 (ne h))];exact o.mine i d hi (nb h)
 ·rw[xaf (xa5 (ne h3))] at h5
  rw[xaf (xa5 (ne h4))] at h6
  exact o.dj i k a d1 d2 h1 h2 (nb h3) (nb h4) h5 h6
theorem gO.ne(o:gO K mg H0 own x j Ud U G H):x≠j:=fun z=>o.no (z▸o.yes)
theorem gO.step(o:gO K mg H0 own x j Ud U G H)(s:Step G H G' H'):gO K mg H0 own x j Ud U G' H':=⟨o.ok.step s,o.no,o.yes,o.al⟩
theorem gO.pub(o:gO K mg H0 own x j Ud U G H):bO K mg Ud U (gH own (Ud.set x none) U G H) H:=by
 have p:=o.ok.pub.1
 obtain⟨d0,a,e1,e2,e3,e4⟩:=o.al
 refine⟨p.ext,by have:=p.len;simpa using this,fun i d h=>?_⟩
 by_cases hx:i=x
 ·subst hx
  rw[e1] at h;cases h
  obtain⟨v,h1,h2⟩:=p.val j d0 (by rw[xaf o.ne];exact e2)
  rw[e4] at h1;cases h1
  exact⟨_,e3,h2⟩
 ·exact p.val i d (by rw[xaf (xa5 hx)];exact h)
theorem gO.set{i:Nat}{d:D}{v:V}(o:gO K mg H0 own x j Ud U G H)(hi:i∉own)(hx:i≠x)(h:aS K mg G d v):gO K mg H0 own x j (Ud.set i (some d)) (U.set i (some v)) G H:=by
 have hj:i≠j:=fun z=>hi (z▸o.yes)
 obtain⟨d0,a,e1,e2,e3,e4⟩:=o.al
 refine⟨by rw[List.set_comm _ _ hx];exact o.ok.set hi h,o.no,o.yes,d0,a,?_,?_,?_,?_⟩
 ·rw[xaf hx];exact e1
 ·rw[xaf hj];exact e2
 ·rw[xaf hx];exact e3
 ·rw[xaf hj];exact e4
end
def tSA(K:xFg)(mg:Str->Option Value)(E:XK)(G0 H0:Hp)(own own' ol:List Nat)(x j:Nat)(f:DSt->R aD):TS:=fun Dn U H=>∃G Ud,gO K mg H0 own x j Ud U G H/\Step G0 H0 G H/\RW (f Ud) (bG K mg G0 H0 own' ol Dn G) (bA K mg E G0 H0)
def oO(X:Cx)(E:XK)(own own' ol:List Nat)(x:Nat)(st:List Stmt)(f:DSt->R aD):Prop:=∀j G0,cB X st (tSA X.K X.mg E G0 X.H₀ own own' ol x j f)
def zA(x:Nat)(g:DSt->R aD):DSt->R aD:=fun U=>g (U.set x none)
def uJ(own:List Nat)(x i j:Nat)(fx:DSt->R D)(g:DSt->R aD):DSt->R aD:=fun U=>(aX U i).bind fun _=>(aX U j).bind fun _=>(fx (mask own U)).bind fun ix=>(jJ i j ix).bind fun l=>(aX U l).bind fun ds=>g (U.set x (some (.lst ds)))
section
variable{X:Cx}{E:XK}{own own' ol:List Nat}{x:Nat}{aK:List Stmt}{f g:DSt->R aD}{pos:Pos}
theorem zan(h:eV X E own own' ol aK g):oO X E own own' ol x aK (zA x g):=fun j G0=>cB.mono' (h G0) fun Dn U H ⟨G,Ud,ok,s0,q⟩=>⟨G,Ud.set x none,ok.ok,s0,q⟩
theorem zao(i:Nat){y:Str}{e:Expr}{pos':Pos}{fe:DSt->R D}(hN:X.N.Nodup)(he:DE X E e fe)(h:oO X E own own' ol x aK g)(ho:(own.contains i||i==x)=false:=by rfl)(hi:X.N[i]? = some y:=by rfl)(hx:fB X.env.scope y:=by first|exact Or.inl rfl|exact Or.inr rfl)(hs:swapsWith e (some (.Name y pos')) pos.line X.env=pure false:=by rfl)
  (hf:X.fn y=true\/X.env.scope.names.lookup y=some .local:=by first|exact .inl rfl|exact .inr rfl|assumption):oO X E own own' ol x (.Assign [.Name y pos'] e pos::aK) (aM (xN i fe) g):=fun j G0=>
 cB.mono' (cX (gF hN hi hx he hs hf) (h j G0)) fun Dn U H ⟨G,Ud,ok,s0,q⟩=>by
 rw[xde] at ho
 have hix:i≠x:=by simpa using ho.2
 have s1:=ok.ok.pubStep s0
 refine⟨_,Ud,ok.pub,(RW.of_bind q.of_bind).mono (fun d _ z v G' H' s r=>?_) fun _ z=>z.step s1⟩
 cases hd:imm d with
 |false=>rw[hd] at z;exact(show False from z).elim
 |true=>
  rw[hd] at z
  obtain⟨st,sT⟩:=ok.ok.hide s
  exact⟨_,_,(ok.step st).set (oA ho.1) hix (r.imm sT hd),s0.trans st,(show RW (g (Ud.set i (some d))) _ _ from z).mono (fun o _ z=>z.shift st.g) fun _ z=>z⟩
theorem zap(i j x:Nat){z u v:Str}{k:Expr}{fx:DSt->R D}{lpos spos np np2 pos':Pos}(hN:X.N.Nodup)(hx:DE X E k fx)(h:oO X E own own' ol x aK g)
  (ho:(own.contains i&&own.contains j && !own.contains x)=true:=by rfl) (h1:X.N[i]? = some u:=by rfl) (h2:X.N[j]? = some v:=by rfl) (h3:X.N[x]? = some z:=by rfl)
  (hz:fB X.env.scope z:=by first|exact Or.inl rfl|exact Or.inr rfl)
  (hv:cA X.env.scope u:=by first|exact Or.inl rfl|exact Or.inr (Or.inl rfl)|exact Or.inr (Or.inr rfl)) (hv2:cA X.env.scope v:=by first|exact Or.inl rfl|exact Or.inr (Or.inl rfl)|exact Or.inr (Or.inr rfl))
  (hd:(u==("__debug__":Str))=false:=by decide) (hd2:(v==("__debug__":Str))=false:=by decide) (hcd:(u==("__classdict__":Str))=false:=by decide) (hcd2:(v==("__classdict__":Str))=false:=by decide)
  (hpx:nU k:=by exact fun _ _=>rfl)
  (hs1:starEach [.Name u np,.Name v np2] X.env=(false,eval (.Name u np) X.env)::starEach [.Name v np2] X.env:=by rfl) (hs2:starEach [.Name v np2] X.env=(false,eval (.Name v np2) X.env)::starEach [] X.env:=by rfl)
  (hs:swapsWith (.Subscript (.List [.Name u np,.Name v np2] lpos) k spos) (some (.Name z pos')) pos.line X.env=pure false:=by rfl)
  (hf:X.fn z=true\/X.env.scope.names.lookup z=some .local:=by first|exact .inl rfl|exact .inr rfl|assumption) :
  eV X E own own' ol (.Assign [.Name z pos'] (.Subscript (.List [.Name u np,.Name v np2] lpos) k spos) pos::aK) (uJ own x i j fx g):=fun G0=>by
 intro pins s U H D I q
 obtain⟨G,Ud,ok,s0,q⟩:=q
 simp only[xau,List.contains_iff_mem,xci,<- Bool.not_eq_true] at ho
 obtain⟨⟨hi,hj⟩,hxo⟩:=ho
 have hxo:x∉own:=hxo
 have q1:=q.of_bind
 cases hL:aX Ud i with
 |bad=>rw[hL] at q1;exact q1.elim
 |err e=>exact xaq hL fI
 |ok ds=>
  rw[hL] at q1
  have q2:=RW.of_bind q1
  cases hM:aX Ud j with
  |bad=>rw[hM] at q2;exact q2.elim
  |err e=>exact xaq hM fI
  |ok es=>
   rw[hM] at q2
   have q3:=RW.of_bind q2
   cases hF:fx (mask own Ud) with
   |bad=>rw[hF] at q3;exact q3.elim
   |err e=>
    rw[hF] at q3
    refine cX (gF hN h3 hz (yZ (G0:=G0) (own:=own) i j hx h1 h2 hv hv2 hd hd2 hcd hcd2 hpx hs1 hs2) hs hf) (h i G0) pins s U H D I ?_
    exact⟨G,Ud,ds,es,ok,s0,hi,hj,dN hL,dN hM,by rw[hF];exact q3⟩
   |ok ix=>
    rw[hF] at q3
    have q3:=RW.of_bind q3
    cases hp:jJ i j ix with
    |bad=>rw[hp] at q3;exact q3.elim
    |err e=>exact xaq hp LN
    |ok l=>
     rw[hp] at q3
     have pl:=LM hp
     have hl:l∈own:=by rcases pl with⟨_,rfl⟩|⟨_,rfl⟩<;>assumption
     have q4:=RW.of_bind (show RW ((aX Ud l).bind _) _ _ from q3)
     cases hK:aX Ud l with
     |bad=>rw[hK] at q4;exact q4.elim
     |err e=>exact xaq hK fI
     |ok cs=>
      rw[hK] at q4
      refine cX (gF hN h3 hz (yZ (G0:=G0) (own:=own) i j hx h1 h2 hv hv2 hd hd2 hcd hcd2 hpx hs1 hs2) hs hf) (h l G0) pins s U H D I ?_
      refine⟨G,Ud,ds,es,ok,s0,hi,hj,dN hL,dN hM,RW.ok_of hF ⟨l,pl,fun c G1 H1 st hc=>?_⟩⟩
      have gl:=dN hK
      have ok1:=ok.step st
      have hlx:l≠x:=fun e=>hxo (e▸hl)
      have lx:x<Ud.length:=by rw[ok.len,I.len];exact(xam.mp h3).1
      refine⟨G1,Ud.set x (some (.lst cs)),⟨?_,hxo,hl,.lst cs,c,by rw[xa2 lx],by rw[xaf (xa5 hlx)];exact gl,by rw[xa2 (by rw[<- ok.len];exact lx)],by rw[xaf (xa5 hlx)];exact hc⟩,s0.trans st,(show RW (g (Ud.set x (some (.lst cs)))) _ _ from q4).mono (fun o _ z=>z.shift st.g) fun _ z=>z⟩
      rw[List.set_set]
      exact ok1.dropX hxo
end
end DL
namespace DL
open PySem.Spec PyProof.Rows L2
variable{K:xFg}{mg:Str->Option Value}{X:Cx}{e:Expr}{es:List Expr}{p pos:Pos}
theorem LO{own:List Nat}{x i j l:Nat}{fx:DSt->R D}{g:DSt->R aD}{U:DSt}{ds es cs:List D}{ix:D}(h1:aX U i=.ok ds)(h2:aX U j=.ok es)(h3:fx (mask own U)=.ok ix)(h4:jJ i j ix=.ok l)(h5:aX U l=.ok cs) :
  uJ own x i j fx g U=g (U.set x (some (.lst cs))):=by
 unfold uJ
 rw[h1,h2,R.ok_bind,R.ok_bind,h3,R.ok_bind,h4,R.ok_bind,h5,R.ok_bind]
theorem LQ{own:List Nat}{i j l:Nat}{fx fe:DSt->R D}{U:DSt}{ds es cs:List D}{ix d:D}(h1:aX U i=.ok ds)(h2:aX U j=.ok es)(h3:fx (mask own U)=.ok ix)(h4:jJ i j ix=.ok l)(h5:aX U l=.ok cs)(h6:fe (mask own U)=.ok d)(h7:cs.length<=1000000) :
  uI own i j fx fe U=.ok (.nx (U.set l (some (.lst (cs++[d]))))):=by
 unfold uI
 rw[h1,h2,R.ok_bind,R.ok_bind,h3,R.ok_bind,h4,R.ok_bind,h5,R.ok_bind,h6,R.ok_bind]
 rw[show most cs.length=true from xaj (xa9 h7 (by show 1000000<sizeLine;decide))]
 rfl
end DL
namespace DL
open L2 PyProof.Rows
section
variable{P:Program}{w:World}{K:xFg}{mg:Str->Option Value}{base:Heap}{x:Str}{st:Stmt}{f:Addr}{fd:FuncData}{N ps:List Str}{k n nN:Nat}{own':List Nat}{body:DSt->R aD}
structure FD(K:xFg)(x:Str)(st:Stmt):Prop where
 ex:∃f fd,PySem.W.nsIn K mainGlobals x=some (some (.ref f))/\bV K x x st f fd
theorem FD.mk'{oc:Value}{od an:Option Addr}{osl:Array (Option Value)}{kV doc pm cdv ct:Value}(a:PySem.W.nsIn K mainGlobals x=some (some (.ref f)))(l:K.lookup f=some ⟨oc,od,.func (PySem.W.fnOf x x (i9 st) (fE st) (aZ st) .none kV doc pm an cdv ct),osl⟩)
  (c:PySem.W.codeIn K cdv x=true) (k:PySem.W.keepIn K (.ref f)=true):FD K x st:=⟨f,_,a,wP l c k⟩
structure FA(K:xFg)(mg:Str->Option Value)(x:Str)(st:Stmt)(ps:List Str)(f:Addr)(fd:FuncData):Prop where
 F:bV K x x st f fd
 m:mg x=some (.ref f)
 b:bU K fd ps []
theorem FD.go{h:Heap}(d:FD K x st)(X:K.In h)(G:h.Ns mainGlobals mg)(ps:List Str)
  (b:∀(kV doc pm:Value) (an:Option Addr) (cdv ct:Value) (us:List Value),us.length=ps.length->bindArgs (PySem.W.fnOf x x (i9 st) (fE st) (aZ st) .none kV doc pm an cdv ct) ⟨us,[]⟩=pure (ps.zip us)):∃f fd,FA K mg x st ps f fd:=by
 obtain⟨f,fd,a,F⟩:=d.ex
 exact⟨f,fd,F,xb0 X G a,F.binds b⟩
abbrev XX(P:Program)(w:World)(K:xFg)(mg:Str->Option Value)(base:Heap)(x:Str)(st:Stmt)(f:Addr)(N:List Str)(k:Nat)(D:Cx->XK->Prop):Prop:=
 ∀cdv A outer s H E,XC (dF (bT P w) P w K mg base N x (aZ st) f cdv A outer s H E) E k->XL (dF (bT P w) P w K mg base N x (aZ st) f cdv A outer s H E)->N.Nodup->D (dF (bT P w) P w K mg base N x (aZ st) f cdv A outer s H E) E
theorem FA.ok(F:FA K mg x st ps f fd)(S:cI N ps (aZ st))(hn:ps.length=n)(hN:N.length=nN)
  (hb:XX P w K mg base x st f N k fun X E=>eV X E [] own' [] (fE st) body):aU P w K mg base (k+1) x (cE n nN body):=
 aU.mk' F.F S F.m F.b hn hN fun X E hX C L=>by
  obtain⟨cdv,A,outer,s,H,rfl⟩:=hX
  exact hb cdv A outer s H E C L S.nd
end
end DL
namespace DL
open PySem.W PyProof.Rows
section
variable{n:Nat}{lt:Nat->Nat->Bool}
abbrev sg(p:Array Nat)(i:Nat):Nat:=p.getD i 0
def Dn(lt:Nat->Nat->Bool)(p:Array Nat)(m:Nat):Prop:=∀i j,i<j->j<m->lt (sg p j) (sg p i)=true
end
end DL
namespace DL
open L2 PyProof.Rows
section
variable{K:xFg}{mg:Str->Option Value}{c d:Str}{C D0:Addr}
def NR(K:xFg)(C:Addr)(c d:Str):Prop:=PySem.W.nsIn K mainGlobals d=some none\/∃D0,PySem.W.nsIn K mainGlobals d=some (some (.ref D0))/\PySem.W.kitOne K (.ref C) (.ref D0)=some (mH c d)/\(mH c d=true->PySem.W.exmOne K (.ref C) (.ref D0)=some true)
theorem NR.no(a:PySem.W.nsIn K mainGlobals d=some none):NR K C c d:=.inl a
theorem NR.ff(h:mH c d=false)(a:PySem.W.nsIn K mainGlobals d=some (some (.ref D0)))(t:PySem.W.kitOne K (.ref C) (.ref D0)=some false):NR K C c d:=.inr ⟨D0,a,by rw[h];exact t,fun z=>by rw[h] at z;cases z⟩
theorem NR.tt(h:mH c d=true)(a:PySem.W.nsIn K mainGlobals d=some (some (.ref D0)))(t:PySem.W.kitOne K (.ref C) (.ref D0)=some true)(u:PySem.W.exmOne K (.ref C) (.ref D0)=some true):NR K C c d:=.inr ⟨D0,a,by rw[h];exact t,fun _=>u⟩
theorem NR.row{h:Heap}(r:NR K C c d)(X:K.In h)(G:h.Ns mainGlobals mg):lA K mg C d (mH c d):=by
 rcases r with a|⟨D0,a,t,u⟩
 ·exact lA.no (xbb X G a)
 ·exact lA.of (xb0 X G a) t u
structure XD(K:xFg)(c:Str):Prop where
 ex:∃C,PySem.W.nsIn K mainGlobals c=some (some (.ref C))/\PySem.W.excIn K C [.type "ValueError",.type "Exception",.type "BaseException",.type "object"] "ValueError.__new__"=true/\lZ K C/\PySem.W.kitOne K (.ref C) (.type "ValueError")=some true/\∀d∈kY,NR K C c d
theorem XD.mk'(e:PySem.W.nsIn K mainGlobals c=some (some (.ref C)))(y:PySem.W.excIn K C [.type "ValueError",.type "Exception",.type "BaseException",.type "object"] "ValueError.__new__"=true)
  (ga:PySem.W.findIn K (.ref C) "__getattribute__"=some (some (.builtin "BaseException.__getattribute__"))) (gh:PySem.W.findIn K (.ref C) "__getattr__"=some none) (bs:PySem.W.mroIn K C (.type "BaseException")=some true) (ob:PySem.W.mroIn K C (.type "object")=some true) (ca:PySem.W.findIn K (.ref C) "__class__"=some (some (.builtin "object.__class__")))
  (cg:PySem.W.specialIn K (.builtin "object.__class__") "__get__"=some (some (.builtin "getset_descriptor.__get__"))) (ct:PySem.W.takesIn K (.builtin "object.__class__")=some true) (vv:PySem.W.kitOne K (.ref C) (.type "ValueError")=some true)
  (r0:NR K C c "ChalkError") (r1:NR K C c "NoPlace") (r2:NR K C c "Same") (r3:NR K C c "NoFloor") (r4:NR K C c "Endless") (r5:NR K C c "NoDeed") (r6:NR K C c "NoText") (r7:NR K C c "NoName") (r8:NR K C c "TooMany") (r9:NR K C c "NoChange") (r10:NR K C c "NoFrame") (r11:NR K C c "NoValue") (r12:NR K C c "Unlike") (r13:NR K C c "NoRatio") (r14:NR K C c "NoBow") (r15:NR K C c "NoRow"):XD K c:=by
 refine⟨C,e,y,⟨by (obtain⟨_,hc,_⟩:=PySem.W.kw_along ga;rw[hc];rfl),ga,gh,bs,ob,ca,cg,ct⟩,vv,fun d hd=>?_⟩
 simp only[kY,xaz,xbe,or_false] at hd
 rcases hd with rfl|rfl|rfl|rfl|rfl|rfl|rfl|rfl|rfl|rfl|rfl|rfl|rfl|rfl|rfl|rfl<;>assumption
theorem XD.go{h:Heap}(x:XD K c)(X:K.In h)(G:h.Ns mainGlobals mg):∃C,mg c=some (.ref C)/\PySem.W.excIn K C [.type "ValueError",.type "Exception",.type "BaseException",.type "object"] "ValueError.__new__"=true/\jC K mg c C:=by
 obtain⟨C,e,y,ec,vv,r⟩:=x.ex
 exact⟨C,xb0 X G e,y,jC.mk' (xb0 X G e) ec vv fun d hd=>(r d hd).row X G⟩
end
end DL
namespace DL
open PySem
theorem us0{P:List Value->Prop}(h:P []):∀us:List Value,us.length=0->P us:=fun us hl=>by
 cases us with
 |nil=>exact h
 |cons=>cases hl
theorem kC{P:List Value->Prop}(h:∀a,P [a]):∀us:List Value,us.length=1->P us:=fun us hl=>by
 cases us with
 |nil=>cases hl
 |cons a us=>exact us0 (P:=fun l=>P (a::l)) (h a) us (Nat.succ.inj hl)
theorem oP{P:List Value->Prop}(h:∀a b,P [a,b]):∀us:List Value,us.length=2->P us:=fun us hl=>by
 cases us with
 |nil=>cases hl
 |cons a us=>exact kC (P:=fun l=>P (a::l)) (h a) us (Nat.succ.inj hl)
theorem iE{P:List Value->Prop}(h:∀a b c,P [a,b,c]):∀us:List Value,us.length=3->P us:=fun us hl=>by
 cases us with
 |nil=>cases hl
 |cons a us=>exact oP (P:=fun l=>P (a::l)) (h a) us (Nat.succ.inj hl)
theorem us4{P:List Value->Prop}(h:∀a b c d,P [a,b,c,d]):∀us:List Value,us.length=4->P us:=fun us hl=>by
 cases us with
 |nil=>cases hl
 |cons a us=>exact iE (P:=fun l=>P (a::l)) (h a) us (Nat.succ.inj hl)
theorem us5{P:List Value->Prop}(h:∀a b c d e,P [a,b,c,d,e]):∀us:List Value,us.length=5->P us:=fun us hl=>by
 cases us with
 |nil=>cases hl
 |cons a us=>exact us4 (P:=fun l=>P (a::l)) (h a) us (Nat.succ.inj hl)
end DL
namespace DL
open L2 PyProof.Rows
variable{X:Cx}{E:XK}{own ol:List Nat}{x y:Str}{pos pos' np:Pos}
def oQ(i j:Nat):DSt->R aD:=fun U=>(aX U i).bind fun ds=>match ds[ds.length-1]? with
 |some d=>.ok (.nx ((U.set i (some (.lst ds.dropLast))).set j (some d)))
 |none=>.bad
theorem Reps.dropLast{K:xFg}{mg:Str->Option Value}{G:Hp}{ds:List D}{vs:List V}(h:Reps K mg G ds vs):Reps K mg G ds.dropLast vs.dropLast:=by
 rw[List.dropLast_eq_take,List.dropLast_eq_take,h.length];exact h.take _
theorem zB(i j:Nat){apos cpos:Pos}(hN:X.N.Nodup)(ho:own.contains i=true:=by rfl)(ho':own.contains j=false:=by rfl)(hi:X.N[i]? = some x:=by rfl)(hj:X.N[j]? = some y:=by rfl)(hv:cA X.env.scope x:=by first|exact Or.inl rfl|exact Or.inr (Or.inl rfl)|exact Or.inr (Or.inr rfl))(hd:(x==("__debug__":Str))=false:=by decide)
  (hcd:(x==("__classdict__":Str))=false:=by decide) (hy:fB X.env.scope y:=by first|exact Or.inl rfl|exact Or.inr rfl)
  (hbase:attributeBase (.Name x np) "pop" X.env (eval (.Name x np) X.env)=eval (.Name x np) X.env:=by rfl) (hline:(apos.endLine==cpos.line)=true:=by rfl)
  (hs:swapsWith (.Call (.Attribute (.Name x np) "pop" apos) [] [] cpos) (some (.Name y pos')) pos.line X.env=pure false:=by rfl)
  (hf:X.fn y=true\/X.env.scope.names.lookup y=some .local:=by first|exact .inl rfl|exact .inr rfl|assumption) :
  DS X E own own ol (.Assign [.Name y pos'] (.Call (.Attribute (.Name x np) "pop" apos) [] [] cpos) pos) (oQ i j):=fun G0=>
 PS.mono' (gF hN hj hy (nV PySem.F.plainAttrs_list PySem.F.slot_list_pop PySem.F.type_list_pop sX (pv i hi hv hd hcd) hbase hline) hs hf) fun Dn U H ⟨G,Ud,ok,s0,q⟩=>by
 have q1:=q.of_bind
 cases hL:aX Ud i with
 |bad=>rw[hL] at q1;exact q1.elim
 |err e=>exact xaq hL fI
 |ok ds=>
  rw[hL] at q1
  have hd:=dN hL
  have hm:i∈own:=by simpa using ho
  obtain⟨a,ds',vs,p1,p2,p3,p4,p5,p6⟩:=ok.mine i _ hm hd
  cases p2
  cases hg:ds[ds.length-1]? with
  |none=>
   have q2:RW (match ds[ds.length-1]? with
    |some d=>R.ok (.nx ((Ud.set i (some (.lst ds.dropLast))).set j (some d)))
    |none=>.bad) (bG X.K X.mg G0 X.H₀ own ol Dn G) (bA X.K X.mg E G0 X.H₀):=q1
   rw[hg] at q2;exact(show False from q2).elim
  |some d=>
   have q2:RW (match ds[ds.length-1]? with
    |some d=>R.ok (.nx ((Ud.set i (some (.lst ds.dropLast))).set j (some d)))
    |none=>.bad) (bG X.K X.mg G0 X.H₀ own ol Dn G) (bA X.K X.mg E G0 X.H₀):=q1
   rw[hg] at q2
   obtain⟨v,hv',r⟩:=p6.get hg
   rw[p6.length] at hv'
   refine⟨_,p1,.inl ⟨rfl,_,aW.of p3⟩,a,vs,v,rfl,rfl,p3,hv',?_⟩
   exact(show bG X.K X.mg G0 X.H₀ own ol Dn G (.nx ((Ud.set i (some (.lst ds.dropLast))).set j (some d))) from q2) _ G _ ((ok.write hm hd p1 p6.dropLast).set (oA ho') r) (s0.write (o:=.lst vs) p5 p4) (Same.refl _)
end DL
namespace DL
open L2 PyProof.Rows
variable{P:Program}{w:World}{K:xFg}{mg:Str->Option Value}{base:Heap}{x:Str}{st:Stmt}{ps N:List Str}{f:Addr}{fd:FuncData}{k n nN:Nat}{own':List Nat}
def LV:List D->R D:=fun _=>.bad
def uK(g:(List D->R D)->List D->R D):Nat->List D->R D
 |0=>LV
 |n+1=>g (uK g n)
theorem FA.bad(F:FA K mg x st ps f fd)(S:cI N ps (aZ st)):aU P w K mg base (k+1) x LV:=by
 refine⟨f,fd,ps,F.F.okX S (fun vs H Q E h=>?_) (fun cdv A outer s H vs Q E hr hsp=>?_),F.m,F.F.kp,F.b⟩
 ·obtain⟨G,ds,e,r,q⟩:=h
  exact(show False from q).elim
 ·obtain⟨G,ds,e,r,q⟩:=hsp
  exact(show False from q).elim
theorem FA.deep(F:FA K mg x st ps f fd)(S:cI N ps (aZ st))(hn:ps.length=n)(hN:N.length=nN){body:(List D->R D)->DSt->R aD}
  (hb:∀(j:Nat) (m:List D->R D),aU P w K mg base (k+1+j) x m->XX P w K mg base x st f N (k+1+j) fun X E=>eV X E [] own' [] (fE st) (body m)) :
  ∀j,aU P w K mg base (k+1+j) x (uK (fun m=>cE n nN (body m)) j)
 |0=>FA.bad F S
 |j+1=>F.ok S hn hN (hb j _ (FA.deep F S hn hN hb j))
end DL
section
namespace L2
open PySem.Spec PyProof.Rows PySem.Calls
variable{X:Cx}
theorem LW:∀{xs:List V} {its:List Value},aP xs its->aP xs.reverse its.reverse
 |_,_,.nil=>.nil
 |_,_,.cons r t=>by
  rw[xbq,xbq]
  exact(LW t).append (.cons r .nil)
def rRev:V->List V->Hp->VK->Prop:=fun x vs H Q=>∃l xs,x=.ref l/\vs=[]/\H l=some (.lst xs)/\Q .non (upd H l (.lst xs.reverse))
theorem zas:sW X "list.reverse" rRev:=by
 intro pins s U H x vs v us Q I rx rv h
 obtain⟨l,xs,rfl,rfl,hH,q⟩:=h
 cases rx
 have hus:=rv.zero
 subst hus
 obtain⟨z,its,n,r,hl,e⟩:=I.lstM hH
 refine call_meets F.slot_list_reverse ⟨_,e,rfl⟩ F.entry_list_reverse (F.args_list_reverse_1 _) (AutoSeq1.list_reverse_list_0 l its.toArray n (by rw[xan];omega)) ⟨e,?_⟩
 exact⟨.non,_,I.lset (its':=its.reverse) hH e (by simp) (LW r) (by rw[List.length_reverse];omega),rfl,q⟩
end L2
namespace DL
open L2 PyProof.Rows
variable{X:Cx}{E:XK}{own ol:List Nat}{x y:Str}{pos pos' np:Pos}
def LX(i:Nat):DSt->R aD:=fun U=>(aX U i).bind fun ds=>.ok (.nx (U.set i (some (.lst ds.reverse))))
theorem zat(i:Nat){apos cpos:Pos}(ho:own.contains i=true:=by rfl)(hN:X.N[i]? = some x:=by rfl)(hv:cA X.env.scope x:=by first|exact Or.inl rfl|exact Or.inr (Or.inl rfl)|exact Or.inr (Or.inr rfl))(hd:(x==("__debug__":Str))=false:=by decide)
  (hcd:(x==("__classdict__":Str))=false:=by decide) (hbase:attributeBase (.Name x np) "reverse" X.env (eval (.Name x np) X.env)=eval (.Name x np) X.env:=by rfl) (hline:(apos.endLine==cpos.line)=true:=by rfl)
  (hsw:swapsWith (.Call (.Attribute (.Name x np) "reverse" apos) [] [] cpos) none pos.line X.env=pure false:=by rfl) :
  DS X E own own ol (.Expr (.Call (.Attribute (.Name x np) "reverse" apos) [] [] cpos) pos) (LX i):=fun G0=>
 PS.mono' (jR (nV PySem.F.plainAttrs_list PySem.F.slot_list_reverse PySem.F.type_list_reverse zas (pv i hN hv hd hcd) hbase hline) hsw) fun Dn U H ⟨G,Ud,ok,s0,q⟩=>by
 have q1:=q.of_bind
 cases hL:aX Ud i with
 |bad=>rw[hL] at q1;exact q1.elim
 |err e=>exact xaq hL fI
 |ok ds=>
  rw[hL] at q1
  have hd:=dN hL
  have hi:i∈own:=by simpa using ho
  obtain⟨a,ds',vs,p1,p2,p3,p4,p5,p6⟩:=ok.mine i _ hi hd
  cases p2
  refine⟨_,p1,.inl ⟨rfl,_,aW.of p3⟩,a,vs,rfl,rfl,p3,?_⟩
  exact(show bG X.K X.mg G0 X.H₀ own ol Dn G (.nx (Ud.set i (some (.lst ds.reverse)))) from q1) U G _ (ok.write hi hd p1 p6.reverse) (s0.write (o:=.lst vs) p5 p4) (Same.refl _)
end DL
end
namespace DL
open L2 PyProof.Rows
variable{X:Cx}{E:XK}{own ol:List Nat}{x y:Str}{pos np nq:Pos}{e1 e2:Expr}{f1 f2:DSt->R D}
def rF(own:List Nat)(i j:Nat)(f1 f2:DSt->R D):DSt->R aD:=fun U=>(aX U i).bind fun _=>(f1 (mask own U)).bind fun d1=>(aX U j).bind fun ds=>match ds[ds.length-1]? with
 |some d=>(f2 (mask own (U.set j (some (.lst ds.dropLast))))).bind fun d2=>(aX (U.set j (some (.lst ds.dropLast))) i).bind fun xs=>bif most xs.length then .ok (.nx ((U.set j (some (.lst ds.dropLast))).set i (some (.lst (xs++[.tup [d1,d,d2]]))))) else .bad
 |none=>.bad
theorem zau(i j:Nat){apos bpos cpos dpos tpos:Pos}{x1}(h1:DE X E e1 f1)(h2:DE X E e2 f2)(ho:own.contains i=true:=by rfl)(ho':own.contains j=true:=by rfl)(hN:X.N[i]? = some x:=by rfl)(hM:X.N[j]? = some y:=by rfl)
  (hv:cA X.env.scope x:=by first|exact Or.inl rfl|exact Or.inr (Or.inl rfl)|exact Or.inr (Or.inr rfl)) (hd:(x==("__debug__":Str))=false:=by decide) (hcd:(x==("__classdict__":Str))=false:=by decide)
  (hv':cA X.env.scope y:=by first|exact Or.inl rfl|exact Or.inr (Or.inl rfl)|exact Or.inr (Or.inr rfl)) (hd':(y==("__debug__":Str))=false:=by decide) (hcd':(y==("__classdict__":Str))=false:=by decide)
  (hbase:attributeBase (.Name x np) "append" X.env (eval (.Name x np) X.env)=eval (.Name x np) X.env:=by rfl) (hbase':attributeBase (.Name y nq) "pop" X.env (eval (.Name y nq) X.env)=eval (.Name y nq) X.env:=by rfl)
  (hfew:((backTo cpos (starEach [.Tuple [e1,.Call (.Attribute (.Name y nq) "pop" bpos) [] [] dpos,e2] x1 tpos] X.env)).all (fun x=>!x.1)&&(backToKw cpos (keywordEach [] X.env)).all (fun x=>x.1.isSome)&&decide ([Expr.Tuple [e1,.Call (.Attribute (.Name y nq) "pop" bpos) [] [] dpos,e2] x1 tpos].length+([]:List Keyword).length+(if ([]:List Keyword).isEmpty then 0 else 1)<30))=true:=by rfl)
  (hline:(apos.endLine==cpos.line)=true:=by rfl) (hline':(bpos.endLine==dpos.line)=true:=by rfl)
  (hs:starEach [.Tuple [e1,.Call (.Attribute (.Name y nq) "pop" bpos) [] [] dpos,e2] x1 tpos] X.env=(false,eval (.Tuple [e1,.Call (.Attribute (.Name y nq) "pop" bpos) [] [] dpos,e2] x1 tpos) X.env)::starEach [] X.env:=by rfl) (hplain:(backTo cpos (starEach [] X.env)).any (·.1)=false:=by rfl)
  (hs1:starEach [e1,.Call (.Attribute (.Name y nq) "pop" bpos) [] [] dpos,e2] X.env=(false,eval e1 X.env)::starEach [.Call (.Attribute (.Name y nq) "pop" bpos) [] [] dpos,e2] X.env:=by rfl)
  (hs2:starEach [.Call (.Attribute (.Name y nq) "pop" bpos) [] [] dpos,e2] X.env=(false,eval (.Call (.Attribute (.Name y nq) "pop" bpos) [] [] dpos) X.env)::starEach [e2] X.env:=by rfl)
  (hs3:starEach [e2] X.env=(false,eval e2 X.env)::starEach [] X.env:=by rfl)
  (hsw:swapsWith (.Call (.Attribute (.Name x np) "append" apos) [.Tuple [e1,.Call (.Attribute (.Name y nq) "pop" bpos) [] [] dpos,e2] x1 tpos] [] cpos) none pos.line X.env=pure false:=by rfl) :
  DS X E own own ol (.Expr (.Call (.Attribute (.Name x np) "append" apos) [.Tuple [e1,.Call (.Attribute (.Name y nq) "pop" bpos) [] [] dpos,e2] x1 tpos] [] cpos) pos) (rF own i j f1 f2):=fun G0=>
 PS.mono' (jR (kT PySem.F.plainAttrs_list PySem.F.slot_list_append PySem.F.type_list_append lW (pv i hN hv hd hcd)
  (cN (nR (cN h1 (cN (nV PySem.F.plainAttrs_list PySem.F.slot_list_pop PySem.F.type_list_pop sX (pv j hM hv' hd' hcd') hbase' hline') (cN h2 eL hs3) hs2) hs1)) eL hs) hbase hfew hline hs hplain) hsw) fun Dn U H ⟨G,Ud,ok,s0,q⟩=>by
 have hi:i∈own:=by simpa using ho
 have hj:j∈own:=by simpa using ho'
 have q0:=q.of_bind
 cases hL:aX Ud i with
 |bad=>rw[hL] at q0;exact q0.elim
 |err e=>exact xaq hL fI
 |ok xs0=>
  rw[hL] at q0
  obtain⟨a,_,vs0,p1,_,p0,_⟩:=ok.mine i _ hi (dN hL)
  refine⟨_,p1,.inl ⟨rfl,_,aW.of p0⟩,?_⟩
  refine⟨G,mask own Ud,ok.masked,(show RW ((f1 (mask own Ud)).bind _) (bG X.K X.mg G0 X.H₀ own ol Dn G) (bA X.K X.mg E G0 X.H₀) from q0).of_bind.mono (fun d1 _ q1 v1 G1 H1 st1 r1=>?_) fun _ z=>z.step s0⟩
  have ok1:=ok.step st1
  have s1:=s0.trans st1
  have q2:=q1.of_bind
  cases hJ:aX Ud j with
  |bad=>rw[hJ] at q2;exact q2.elim
  |err e=>exact xaq hJ fI
  |ok ds=>
   rw[hJ] at q2
   obtain⟨b,ds',vs,p3,p4,p5,p6,p7,p8⟩:=ok1.mine j _ hj (dN hJ)
   cases p4
   cases hg:ds[ds.length-1]? with
   |none=>
    have q3:RW (match ds[ds.length-1]? with
     |some d=>(f2 (mask own (Ud.set j (some (.lst ds.dropLast))))).bind fun d2=>(aX (Ud.set j (some (.lst ds.dropLast))) i).bind fun xs=>bif most xs.length then R.ok (.nx ((Ud.set j (some (.lst ds.dropLast))).set i (some (.lst (xs++[.tup [d1,d,d2]]))))) else .bad
     |none=>.bad) (bG X.K X.mg G0 X.H₀ own ol Dn G) (bA X.K X.mg E G0 X.H₀):=q2
    rw[hg] at q3;exact(show False from q3).elim
   |some d=>
    have q3:RW (match ds[ds.length-1]? with
     |some d=>(f2 (mask own (Ud.set j (some (.lst ds.dropLast))))).bind fun d2=>(aX (Ud.set j (some (.lst ds.dropLast))) i).bind fun xs=>bif most xs.length then R.ok (.nx ((Ud.set j (some (.lst ds.dropLast))).set i (some (.lst (xs++[.tup [d1,d,d2]]))))) else .bad
     |none=>.bad) (bG X.K X.mg G0 X.H₀ own ol Dn G) (bA X.K X.mg E G0 X.H₀):=q2
    rw[hg] at q3
    obtain⟨v,hv1,rv⟩:=p8.get hg
    rw[p8.length] at hv1
    refine⟨_,p3,.inl ⟨rfl,_,aW.of p5⟩,b,vs,v,rfl,rfl,p5,hv1,?_⟩
    have ok2:=ok1.write hj (dN hJ) p3 p8.dropLast
    have s2:=s1.write (o:=.lst vs) (u:=.lst vs.dropLast) p7 p6
    refine⟨G1,mask own (Ud.set j (some (.lst ds.dropLast))),ok2.masked,(show RW ((f2 (mask own (Ud.set j (some (.lst ds.dropLast))))).bind _) (bG X.K X.mg G0 X.H₀ own ol Dn G) (bA X.K X.mg E G0 X.H₀) from q3).of_bind.mono (fun d2 _ q4 v2 G3 H3 st3 r3=>?_) fun _ z=>z.step s2⟩
    refine⟨by show 3<=sizeLine;decide,fun p hp=>?_⟩
    have ok3:=ok2.step st3
    have sp:Step G3 H3 (upd G3 p (.tup [v1,v,v2])) (upd H3 p (.tup [v1,v,v2])):=.pub ok3.ext hp
    have ok4:=ok3.step sp
    have q5:=q4.of_bind
    cases hI:aX (Ud.set j (some (.lst ds.dropLast))) i with
    |bad=>rw[hI] at q5;exact q5.elim
    |err e=>exact xaq hI fI
    |ok xs=>
     rw[hI] at q5
     have q6:RW (bif most xs.length then R.ok (.nx ((Ud.set j (some (.lst ds.dropLast))).set i (some (.lst (xs++[.tup [d1,d,d2]]))))) else .bad) (bG X.K X.mg G0 X.H₀ own ol Dn G) (bA X.K X.mg E G0 X.H₀):=q5
     obtain⟨a',xs',ws,p9,p10,p11,p12,p13,p14⟩:=ok4.mine i _ hi (dN hI)
     cases p10
     rw[p1] at p9
     cases p9
     cases hm:most xs.length with
     |false=>rw[hm] at q6;exact(show False from q6).elim
     |true=>
      rw[hm] at q6
      have hlt:xs.length<sizeLine:=xa0 hm
      refine⟨a,ws,.ref p,rfl,rfl,p11,by rw[<- p14.length];exact hlt,?_⟩
      have rt:aS X.K X.mg (upd G3 p (.tup [v1,v,v2])) (.tup [d1,d,d2]) (.ref p):=⟨p,[v1,v,v2],rfl,bJ.of aV,Reps.cons (r1.mono (st3.g.trans sp.g)) (Reps.cons (rv.mono (st3.g.trans sp.g)) (Reps.cons (r3.mono sp.g) Reps.nil))⟩
      exact(show bG X.K X.mg G0 X.H₀ own ol Dn G (.nx ((Ud.set j (some (.lst ds.dropLast))).set i (some (.lst (xs++[.tup [d1,d,d2]]))))) from q6) U _ _ (ok4.write hi (dN hI) p1 (p14.append (Reps.cons rt Reps.nil))) ((s2.trans (st3.trans sp)).write (o:=.lst ws) p13 p12) (st1.g.trans (st3.g.trans sp.g))
end DL
namespace L2
open PySem.Spec PyProof.Rows
section
variable{κ:Type}[DecidableEq κ]
def bR(kvs:List (κ×V))(k:κ):Option V:=(kvs.find? fun kv=>decide (kv.1=k)).map (·.2)
def putK(kvs:List (κ×V))(k:κ)(v:V):List (κ×V):=
 if (kvs.any fun kv=>decide (kv.1=k))=true then kvs.map (fun kv=>if kv.1=k then (kv.1,v) else kv) else kvs++[(k,v)]
theorem iF{p:κ×V}{r:List (κ×V)}{k:κ}(e:p.1=k):bR (p::r) k=some p.2:=by simp[bR,xce,e]
theorem gP{p:κ×V}{r:List (κ×V)}{k:κ}(e:¬p.1=k):bR (p::r) k=bR r k:=by simp[bR,xce,e]
theorem rG(k:κ):∀kvs:List (κ×V),(kvs.any fun kv=>decide (kv.1=k))=(bR kvs k).isSome
 |[]=>rfl
 |p::r=>by
  rw[xc2]
  by_cases e:p.1=k
  ·simp only[iF e,xaj e,Bool.true_or,Option.isSome_some]
  ·rw[gP e,xar e,Bool.false_or];exact rG k r
theorem LY(k j:κ)(y:V):∀kvs:List (κ×V),bR (kvs.map fun kv=>if kv.1=k then (kv.1,y) else kv) j=(bR kvs j).map fun x=>if j=k then y else x
 |[]=>rfl
 |p::r=>by
  have ih:=LY k j y r
  rw[xa4]
  by_cases h:p.1=k
  ·rw[xao h]
   by_cases e:p.1=j
   ·rw[iF (p:=(p.1,y)) e,iF e,xcs,xao (e.symm.trans h)]
   ·rw[gP (p:=(p.1,y)) e,gP e,ih]
  ·rw[xal h]
   by_cases e:p.1=j
   ·rw[iF (p:=p) e,iF e,xcs,xal (fun z=>h (e.trans z))]
   ·rw[gP (p:=p) e,gP e,ih]
theorem LZ(k j:κ)(y:V):∀kvs:List (κ×V),bR kvs k=none->bR (kvs++[(k,y)]) j=if j=k then some y else bR kvs j
 |[],_=>by
  by_cases e:k=j
  ·rw[xao e.symm];exact iF (p:=(k,y)) e
  ·rw[xal (fun z=>e z.symm)];exact gP (p:=(k,y)) e
 |p::r,hn=>by
  rw[xc6]
  have hk:¬p.1=k:=fun z=>by rw[iF z] at hn;cases hn
  rw[gP hk] at hn
  have ih:=LZ k j y r hn
  by_cases e:p.1=j
  ·rw[iF e,iF e,xal (fun z=>hk (e.trans z))]
  ·rw[gP e,gP e,ih]
theorem uL(kvs:List (κ×V))(k j:κ)(y:V):bR (putK kvs k y) j=if j=k then some y else bR kvs j:=by
 unfold putK
 by_cases a:(kvs.any fun kv=>decide (kv.1=k))=true
 ·rw[xao a,LY]
  rw[rG] at a
  by_cases e:j=k
  ·obtain⟨x,hx⟩:=xbw.mp a
   rw[xao e,e,hx,xcs,xao rfl]
  ·rw[xal e]
   cases bR kvs j with
   |none=>rfl
   |some x=>rw[xcs,xal e]
 ·rw[xal a]
  refine LZ k j y kvs ?_
  rw[rG] at a
  cases q:bR kvs k with
  |none=>rfl
  |some x=>rw[q] at a;exact(a rfl).elim
theorem L5(kvs:List (κ×V))(k:κ)(v:V):(putK kvs k v).length<=kvs.length+1:=by
 unfold putK
 split
 ·rw[xak];omega
 ·rw[xav,xaw,xb6];omega
theorem putK_new{kvs:List (κ×V)}{k:κ}(v:V)(h:bR kvs k=none):putK kvs k v=kvs++[(k,v)]:=by
 unfold putK
 rw[rG,h]
 exact xal (by decide)
theorem eJ.isSome_eq{o:Option V}{u:Option Value}(r:eJ o u):o.isSome=u.isSome:=by
 cases o with
 |none=>cases u with
  |none=>rfl
  |some _=>exact(show False from r).elim
 |some _=>cases u with
  |none=>exact(show False from r).elim
  |some _=>rfl
theorem eJ.getD{o:Option V}{u:Option Value}{d:V}{d':Value}(r:eJ o u)(rd:aJ d d'):aJ (o.getD d) (u.getD d'):=by
 cases o with
 |none=>cases u with
  |none=>exact rd
  |some _=>exact(show False from r).elim
 |some _=>cases u with
  |none=>exact(show False from r).elim
  |some _=>exact r
theorem KV.val{kvs:List (κ×V)}{vs:List (κ×Value)}(r:KV kvs vs)(k:κ):eJ (bR kvs k) (valueAt vs k):=by
 unfold KV at r
 induction r with
 |nil=>exact True.intro
 | @cons p q ps qs h t ih=>
  obtain⟨h1,h2⟩:=h
  by_cases e:p.1=k
  ·have e':q.1=k:=h1.symm.trans e
   have b:valueAt (q::qs) k=some q.2:=by simp[valueAt,xce,e']
   rw[iF e,b];exact h2
  ·have e':¬q.1=k:=fun z=>e (h1.trans z)
   have b:valueAt (q::qs) k=valueAt qs k:=by simp[valueAt,xce,e']
   rw[gP e,b];exact ih
theorem KV.any{kvs:List (κ×V)}{vs:List (κ×Value)}(r:KV kvs vs)(k:κ):(kvs.any fun kv=>decide (kv.1=k))=vs.any fun kv=>decide (kv.1=k):=by
 unfold KV at r
 induction r with
 |nil=>rfl
 |cons h t ih=>rw[xc2,xc2,ih,h.1]
theorem KV.repl{kvs:List (κ×V)}{vs:List (κ×Value)}(r:KV kvs vs)(k:κ){y:V}{u:Value}(ry:aJ y u) :
  KV (kvs.map fun kv=>if kv.1=k then (kv.1,y) else kv) (vs.map fun kv=>if kv.1=k then (kv.1,u) else kv):=by
 unfold KV at r ⊢
 induction r with
 |nil=>exact .nil
 | @cons p q ps qs h t ih=>
  rw[xa4,xa4]
  refine .cons ?_ ih
  obtain⟨h1,h2⟩:=h
  by_cases e:p.1=k
  ·rw[xao e,xao (h1.symm.trans e)];exact⟨h1,ry⟩
  ·rw[xal e,xal (fun z=>e (h1.trans z))];exact⟨h1,h2⟩
theorem KV.put{kvs:List (κ×V)}{vs:List (κ×Value)}(r:KV kvs vs)(k:κ){y:V}{u:Value}(ry:aJ y u):KV (putK kvs k y) (stored vs k u):=by
 unfold putK stored
 rw[r.any k]
 by_cases e:(vs.any fun kv=>decide (kv.1=k))=true
 ·rw[xao e,xao e];exact r.repl k ry
 ·rw[xal e,xal e];exact Paired.snoc r ⟨rfl,ry⟩
theorem KV.length{kvs:List (κ×V)}{vs:List (κ×Value)}(r:KV kvs vs):kvs.length=vs.length:=Paired.length r
end
theorem mJ{P:Program}{w:World}{k:Key}{u:Value}(r:aJ (kV k) u):(eR P w).is k u=true:=by
 cases k with
 |inl i=>obtain⟨t,e⟩:=(show ∃t,u=Value.int i t from r);subst e;exact Q2 P w i t
 |inr x=>obtain⟨t,e⟩:=(show ∃t,u=Value.str x t from r);subst e;exact Q3 P w x t
theorem L6{P:Program}{w:World}:∀{ks:List Key} {us:List Value},aP (ks.map kV) us->ItemsAre (eR P w) ks us
 |[],_,r=>by rw[xbx] at r;cases r;exact .nil
 |k::ks,_,r=>by
  rw[xa4] at r
  cases r with
  |cons h t=>exact .cons (mJ h) (L6 t)
abbrev KT(H:Hp):List (List Key×V)->List (List Key×Addr×Value)->Prop:=Paired fun p q=>p.1=q.1/\H q.2.1=some (.tup (p.1.map kV))/\aJ p.2 q.2.2
theorem KT.val{H:Hp}{kvs:List (List Key×V)}{xs:List (List Key×Addr×Value)}(r:KT H kvs xs)(k:List Key):eJ (bR kvs k) ((atKey xs k).map (·.2)):=by
 induction r with
 |nil=>exact True.intro
 | @cons p q ps qs h t ih=>
  obtain⟨h1,_,h2⟩:=h
  by_cases e:p.1=k
  ·have e':q.1=k:=h1.symm.trans e
   have b:atKey (q::qs) k=some q.2:=by simp[atKey,xce,e']
   rw[iF e,b];exact h2
  ·have e':¬q.1=k:=fun z=>e (h1.trans z)
   have b:atKey (q::qs) k=atKey qs k:=by simp[atKey,xce,e']
   rw[gP e,b];exact ih
theorem KT.repl{H:Hp}{kvs:List (List Key×V)}{xs:List (List Key×Addr×Value)}(r:KT H kvs xs)(k:List Key){y:V}{u:Value}(ry:aJ y u) :
  KT H (kvs.map fun kv=>if kv.1=k then (kv.1,y) else kv) (xs.map (putAt k u)):=by
 induction r with
 |nil=>exact .nil
 | @cons p q ps qs h t ih=>
  rw[xa4,xa4]
  refine .cons ?_ ih
  obtain⟨h1,h2,h3⟩:=h
  unfold putAt
  by_cases e:p.1=k
  ·rw[xao e,xao (h1.symm.trans e)];exact⟨h1,h2,ry⟩
  ·rw[xal e,xal (fun z=>e (h1.trans z))];exact⟨h1,h2,h3⟩
theorem KT.put{H:Hp}{kvs:List (List Key×V)}{xs:List (List Key×Addr×Value)}(r:KT H kvs xs)(k:List Key){b:Addr}{y:V}{u:Value}(hb:H b=some (.tup (k.map kV)))(ry:aJ y u) :
  KT H (putK kvs k y) (storedH xs k b u):=by
 have e:(kvs.any fun kv=>decide (kv.1=k))=(atKey xs k).isSome:=by
  rw[rG,(r.val k).isSome_eq,xc0]
 unfold putK storedH
 rw[e]
 by_cases q:(atKey xs k).isSome=true
 ·rw[xao q,xao q];exact r.repl k ry
 ·rw[xal q,xal q];exact Paired.snoc r ⟨rfl,hb,ry⟩
theorem KT.keeps{H H':Hp}{kvs:List (List Key×V)}{xs:List (List Key×Addr×Value)}(r:KT H kvs xs)(ht:∀b ys,H b=some (.tup ys)->H' b=some (.tup ys)):KT H' kvs xs:=
 Paired.mapP r fun _ _ z=>⟨z.1,ht _ _ z.2.1,z.2.2⟩
section
variable{P:Program}{w:World}{H:Hp}{h:Heap}{a:Addr}
theorem L7{u:HO}(ok:cG P w H h)(e:Rd H a u):c6 P w H h a u:=e.ok ok
theorem mK{kvs:List (Key×V)}(ok:cG P w H h)(e:Rd H a (.dK kvs)):kvs.length<=sizeLine/\(a==sysModules)=false/\∃vs,KV kvs vs/\h.DictOf (eR P w) a vs:=
 show c6 P w H h a (.dK kvs) from L7 ok e
theorem zav{kvs:List (Key×V)}(ok:cG P w H h)(e:H a=some (.dK kvs)):kvs.length<=sizeLine/\(a==sysModules)=false/\∃vs,KV kvs vs/\h.DictOf (eR P w) a vs:=mK ok (.inl e)
theorem oR{ks:List Key}(ok:cG P w H h)(e:H a=some (.tup (ks.map kV))):(tupleKind (eR P w)).is h ks a:=by
 obtain⟨_,its,r,o,h1,h2,⟨n,h3⟩,_⟩:=(show c6 P w H h a (.tup (ks.map kV)) from ok a _ e)
 exact⟨o,its.toArray,n,h1,h2,h3,by simpa using L6 r⟩
theorem mL{kvs:List (List Key×V)}(ok:cG P w H h)(e:Rd H a (.dT kvs)):kvs.length<=sizeLine/\(a==sysModules)=false/\
  ∃xs,KT H kvs xs/\h.DictOfH (tupleKind (eR P w)) a xs:=by
 obtain⟨z,y,xs,r,o,es,ep,h1,h2,h3,h4,h5⟩:=(show c6 P w H h a (.dT kvs) from L7 ok e)
 refine⟨z,y,xs,r,o,es,ep,h1,h2,h3,h4,fun x hx=>?_,h5⟩
 have all:∀{l:List (List Key×V)} {m:List (List Key×Addr×Value)},KT H l m->∀x∈m,(tupleKind (eR P w)).is h x.1 x.2.1:=by
  intro l m q
  induction q with
  |nil=>intro x hx;exact nomatch hx
  | @cons p q ps qs hq t ih=>
   intro x hx
   rcases xaz.mp hx with e|hx
   ·subst e
    exact oR ok (by rw[<- hq.1];exact hq.2.1)
   ·exact ih x hx
 exact all r x hx
theorem zaw{kvs:List (List Key×V)}(ok:cG P w H h)(e:H a=some (.dT kvs)):kvs.length<=sizeLine/\(a==sysModules)=false/\
  ∃xs,KT H kvs xs/\h.DictOfH (tupleKind (eR P w)) a xs:=mL ok (.inl e)
end
def fL(H:Hp)(a:Addr)(y:V)(r:Option V):Prop:=
 (∃kvs k,Rd H a (.dK kvs)/\y=kV k/\r=bR kvs k)\/∃kvs k b,Rd H a (.dT kvs)/\y=.ref b/\H b=some (.tup (k.map kV))/\r=bR kvs k
def oS(H:Hp)(a:Addr)(y v:V)(H':Hp):Prop:=
 (∃kvs k,H a=some (.dK kvs)/\y=kV k/\kvs.length<sizeLine/\H'=upd H a (.dK (putK kvs k v)))\/
 ∃kvs k b,H a=some (.dT kvs)/\y=.ref b/\H b=some (.tup (k.map kV))/\kvs.length<sizeLine/\H'=upd H a (.dT (putK kvs k v))
theorem fL.t{H:Hp}{a b:Addr}{kvs:List (List Key×V)}{k:List Key}(e:H a=some (.dT kvs))(eb:H b=some (.tup (k.map kV))):fL H a (.ref b) (bR kvs k):=.inr ⟨kvs,k,b,.inl e,rfl,eb,rfl⟩
theorem oS.t{H:Hp}{a b:Addr}{kvs:List (List Key×V)}{k:List Key}{v:V}(e:H a=some (.dT kvs))(eb:H b=some (.tup (k.map kV)))(hl:kvs.length<sizeLine) :
  oS H a (.ref b) v (upd H a (.dT (putK kvs k v))):=.inr ⟨kvs,k,b,e,rfl,eb,hl,rfl⟩
section
variable{X:Cx}{pins:List (Addr×Obj)}{U:St}{H:Hp}{s:Shared}{a:Addr}{y v:V}{u r:Value}{o:Option V}{A:Around}{E:Value->Shared->Prop}
theorem Inv.big(I:Inv X pins U H s):sysModules<s.heap.objs.size:=by
 have h:mainGlobals<s.heap.objs.size:=(I.mod.glob.keeps I.bk).lt
 exact Nat.lt_trans (by decide) h
theorem zax{Q:Value->Shared->Prop}(hu:A.units+1<cLine)(I:Inv X pins U H s)(g:fL H a y (some v))(ry:aJ y u)(h:∀w' s',Inv X pins U H s'->aJ v w'->Q w' s') :
  wpAny (model X.prog X.w) A (getItem (.ref a) u) Q E s:=by
 rcases g with⟨kvs,k,e,ey,l⟩|⟨kvs,k,b,e,ey,eb,l⟩
 ·subst ey
  obtain⟨z,hd,vs,rel,dd⟩:=mK I.hok e
  obtain⟨w',hw,rw'⟩:=eJ.some_of (v:=v) (o:=valueAt vs k) (by rw[l];exact rel.val k)
  exact wpAny_getItem_of (mJ ry) dd.mapOf hw (h w' _ (I.tok _) rw')
 ·subst ey
  cases (show u=Value.ref b from ry)
  obtain⟨z,hd,xs,rel,dd⟩:=mL I.hok e
  obtain⟨w',hw,rw'⟩:=eJ.some_of (v:=v) (o:=(atKey xs k).map (·.2)) (by rw[l];exact rel.val k)
  obtain⟨p,hp,hp2⟩:=xbr.mp hw
  refine wpAny_getItem_heap (tupleKind_room_in1 hu) (oR I.hok eb) dd hp ?_
  rw[hp2]
  exact h w' _ (I.tok _) rw'
theorem d_in{Q:Value->Shared->Prop}(hu:A.units+1<cLine)(I:Inv X pins U H s)(g:fL H a y o)(ry:aJ y u)(h:∀s',Inv X pins U H s'->Q (.bool o.isSome) s') :
  wpAny (model X.prog X.w) A (compareOp .In u (.ref a)) Q E s:=by
 rcases g with⟨kvs,k,e,ey,l⟩|⟨kvs,k,b,e,ey,eb,l⟩
 ·subst ey
  obtain⟨z,hd,vs,rel,dd⟩:=mK I.hok e
  refine wpAny_in_of (mJ ry) hd dd.mapOf ?_
  rw[<- (rel.val k).isSome_eq,<- l]
  exact h _ (I.tok _)
 ·subst ey
  cases (show u=Value.ref b from ry)
  obtain⟨z,hd,xs,rel,dd⟩:=mL I.hok e
  refine wpAny_in_heap (tupleKind_room_in1 hu) (oR I.hok eb) hd dd ?_
  have q:=(rel.val k).isSome_eq
  rw[xc0] at q
  rw[<- q,<- l]
  exact h _ (I.tok _)
theorem zaz{Q:Value->Shared->Prop}(hu:A.units+1<cLine)(I:Inv X pins U H s)(g:fL H a y o)(ry:aJ y u)(h:∀s',Inv X pins U H s'->Q (.bool (!o.isSome)) s') :
  wpAny (model X.prog X.w) A (compareOp .NotIn u (.ref a)) Q E s:=by
 rcases g with⟨kvs,k,e,ey,l⟩|⟨kvs,k,b,e,ey,eb,l⟩
 ·subst ey
  obtain⟨z,hd,vs,rel,dd⟩:=mK I.hok e
  refine wpAny_notIn_of (mJ ry) hd dd.mapOf ?_
  rw[<- (rel.val k).isSome_eq,<- l]
  exact h _ (I.tok _)
 ·subst ey
  cases (show u=Value.ref b from ry)
  obtain⟨z,hd,xs,rel,dd⟩:=mL I.hok e
  refine wpAny_notIn_heap (tupleKind_room_in1 hu) (oR I.hok eb) hd dd ?_
  have q:=(rel.val k).isSome_eq
  rw[xc0] at q
  rw[<- q,<- l]
  exact h _ (I.tok _)
theorem L8{h':Heap}{t':Nat}{ob:HO}(I:Inv X pins U H s)(mu:pM (H a))(hs:Heap.SameBut a s.heap h')(he:∃q,h'.get? a=some q)(new:c6 X.prog X.w (upd H a ob) h' a ob) :
  Inv X pins U (upd H a ob) { s with heap:=h',toks:=t' }:=
 I.write (x:=a) (e:=a) mu (.inl rfl) (fun b q hb z=>(hs.2 b hb).trans z) he new
theorem L9{P:Program}{w:World}{H':Hp}{h':Heap}{kvs:List (Key×V)}{vs:List (Key×Value)}(z:kvs.length<=sizeLine)(hd:(a==sysModules)=false)(rel:KV kvs vs)(dd:h'.DictOf (eR P w) a vs) :
  c6 P w H' h' a (.dK kvs):=⟨z,hd,vs,rel,dd⟩
theorem zaA{H':Hp}{Q:Unit->Shared->Prop}(hu:A.units+1<cLine)(I:Inv X pins U H s)(g:oS H a y v H')(ry:aJ y u)(rv:aJ v r)(h:∀s',Inv X pins U H' s'->Q () s') :
  wpAny (model X.prog X.w) A (setItem (.ref a) u r) Q E s:=by
 rcases g with⟨kvs,k,e,ey,l,eH⟩|⟨kvs,k,b,e,ey,eb,l,eH⟩
 ·subst ey eH
  obtain⟨z,hd,vs,rel,dd⟩:=zav I.hok e
  have hz:vs.length<=sizeLine:=by rw[<- rel.length];exact z
  have hl:(putK kvs k v).length<=sizeLine:=by have:=L5 kvs k v;omega
  refine wpAny_setItem_pairs (hsz:=hz) (mJ ry) dd fun h' dd' hs=>h _ ?_
  have he:∃q,h'.get? a=some q:=let⟨q,_,_,hq,_⟩:=dd';⟨q,hq⟩
  exact L8 I (by rw[e];exact True.intro) hs he (L9 hl hd (rel.put k rv) dd')
 ·subst ey eH
  cases (show u=Value.ref b from ry)
  obtain⟨z,hd,xs,rel,dd⟩:=zaw I.hok e
  have hz:xs.length<=sizeLine:=by rw[<- Paired.length rel];exact z
  have hl:(putK kvs k v).length<=sizeLine:=by have:=L5 kvs k v;omega
  refine wpAny_setItem_heap (hsz:=hz) (tupleKind_room_in1 hu) (oR I.hok eb) dd fun h' dd' hs=>h _ ?_
  obtain⟨q,es,ep,hq,h2,h3,h4,_,h5⟩:=dd'
  refine L8 I (by rw[e];exact True.intro) hs ⟨q,hq⟩ ⟨hl,hd,_,(rel.put k eb rv).keeps fun c ys ec=>?_,q,es,ep,hq,h2,h3,h4,h5⟩
  rw[aG (jP ec e (fun z=>nomatch z))]
  exact ec
end
def zC(i:Expr):Prop:=∀ov iv,subscripted i false ov iv=operate [ov,iv] (getItem ov iv)
theorem zaB{prog:Program}{w:World}{A:Around}{E:Value->Shared->Prop}{s:Shared}{env:Env}{value slice:Expr}{pos:Pos}{T id:String}{Q:Value->Shared->Prop}
  (hl:typeLookup (.type T) "__getitem__"=pure (some (.builtin id))) (hs:zC slice)
  (h:wpAny (model prog w) A (eval value env) (fun o s₁=>wpAny (model prog w) A (eval slice env) (fun i s₂=>s₂.TypeIs o T/\wpAny (model prog w) A (getItem o i) Q E s₂) E s₁) E s) :
  wpAny (model prog w) A (eval (.Subscript value slice pos) env) Q E s:=by
 refine Subscript_ (wpAny_mono h (fun o s₁ h₁=>wpAny_mono h₁ (fun i s₂ h₂=>?_) fun _ _ x=>x) fun _ _ x=>x)
 obtain⟨hT,h₂⟩:=h₂
 unfold subscriptTail
 refine xaa ?_
 rw[getitemInPython_of_ne hT.not_modules]
 refine xaa (wpAny_specialOf hT hl ?_)
 have fin:wpAny (model prog w) A (subscripted slice false o i) (fun r s₃=>wpAny (model prog w) A (letTemporaryGo value o r >>= fun _=>pure r) Q E s₃) E s₂:=by
  rw[hs o i]
  exact wpAny_operating (wpAny_mono h₂ (fun r s₃ h₃=>xaa (wpAny_letTemporaryGo (xah h₃))) fun _ _ x=>x)
 first
  |exact xah (xaa fin)
  |exact xaa (xah (xaa fin))
  |exact xaa fin
theorem zaC{X:Cx}{pins:List (Addr×Obj)}{U:St}{H:Hp}{s:Shared}{a:Addr}{y:V}{o:Option V}(I:Inv X pins U H s)(g:fL H a y o):s.TypeIs (.ref a) "dict":=by
 rcases g with⟨kvs,k,e,_,_⟩|⟨kvs,k,b,e,_,_,_⟩
 ·obtain⟨_,_,vs,_,dd⟩:=mK I.hok e
  exact dd.typeIs
 ·obtain⟨_,_,xs,_,dd⟩:=mL I.hok e
  exact dd.typeIs
def zaD(td ty:TE):TE:=fun U H Q=>td U H fun x H1=>ty U H1 fun y H2=>∃a v,x=.ref a/\fL H2 a y (some v)/\Q v H2
def zaE(ty td:TE):TE:=fun U H Q=>ty U H fun y H1=>td U H1 fun x H2=>∃a o,x=.ref a/\fL H2 a y o/\Q (.bl (!o.isSome)) H2
def zaF(td ty tv:TE):TS:=fun D U H=>tv U H fun v H1=>td U H1 fun x H2=>ty U H2 fun y H3=>∃a H4,x=.ref a/\oS H3 a y v H4/\D.nx U H4
section
variable{X:Cx}{o i e value:Expr}{pos pos' tpos:Pos}{td ty tv:TE}
theorem zD(hu:X.A.units+1<cLine)(ho:PE X o td)(hi:PE X i ty)(hs:zC i):PE X (.Subscript o i pos) (zaD td ty):=by
 intro pins s U H Q I h
 refine zaB PySem.F.slot_dict_getitem.lookup hs (aH (ho pins s U H _ I h) fun u s1 ⟨x,H1,I1,rx,q1⟩=>aH (hi pins s1 U H1 _ I1 q1) fun iv s2 ⟨y,H2,I2,ry,a,v,ex,g,q2⟩=>?_)
 subst ex
 obtain rfl:u=Value.ref a:=rx
 exact⟨zaC I2 g,zax hu I2 g ry fun w' s3 I3 rw'=>⟨v,H2,I3,rw',q2⟩⟩
theorem MA(hu:X.A.units+1<cLine)(hi:PE X i ty)(ho:PE X o td):PC X .NotIn i o (zaE ty td):=by
 intro pins s U H Q I h
 refine aH (hi pins s U H _ I h) fun iv s1 ⟨y,H1,I1,ry,q1⟩=>aH (ho pins s1 U H1 _ I1 q1) fun u s2 ⟨x,H2,I2,rx,a,ov,ex,g,q2⟩=>?_
 subst ex
 obtain rfl:u=Value.ref a:=rx
 exact zaz hu I2 g ry fun s3 I3=>⟨.bl (!ov.isSome),H2,I3,rfl,q2⟩
theorem MB(hu:X.A.units+1<cLine)(ho:PE X o td)(hi:PE X i ty)(hv:PE X value tv)(hs:swapsWith value (some (.Subscript o i pos')) pos.line X.env=pure false) :
  PS X (.Assign [.Subscript o i pos'] value pos) (zaF td ty tv):=by
 intro pins s U H D I h
 refine wpAny_Assign_Subscript (aH (hv pins s U H _ I h) fun r s1 ⟨v,H1,I1,rv,q1⟩=>aH (ho pins s1 U H1 _ I1 q1) fun u s2 ⟨x,H2,I2,rx,q2⟩=>aH (hi pins s2 U H2 _ I2 q2) fun iv s3 ⟨y,H3,I3,ry,a,H4,ex,g,q3⟩=>?_) hs
 subst ex
 obtain rfl:u=Value.ref a:=rx
 exact zaA hu I3 g ry rv fun s4 I4=>⟨U,H4,I4,q3⟩
end
theorem zaG{P:Program}{w:World}{H:Hp}(h:Heap)(hb:sysModules<h.objs.size):c6 P w H (h.push { cls:=.type "dict",data:=.dict #[] }) h.objs.size (.dT []):=
 ⟨xbi _,beq_eq_false_iff_ne.mpr (xa5 (xay hb)),[],.nil,_,#[],0,xax _ rfl,⟨rfl,rfl,rfl⟩,rfl,rfl,xdk⟩
def zaH:TE:=fun _ H Q=>∀p,H p=none->Q (.ref p) (upd H p (.dT []))
section
variable{X:Cx}{pos:Pos}
theorem zaI:PE X (.Dict [] [] pos) zaH:=fun pins s U H Q I h=>
 wpAny_Dict_empty ⟨.ref s.heap.objs.size,_,I.laid (a:=s.heap.objs.size) (o:=.dT []) (t':=s.toks) (fun _ _ q=>xad _ q) (xap _) (zaG s.heap I.big),rfl,h _ (I.hok.fresh (xap _))⟩
end
structure M1(X:Cx)(o:Expr)(m:Str)(apos:Pos)(e:Expr)(cpos:Pos):Prop where
 base:attributeBase o m X.env (eval o X.env)=eval o X.env
 few:((backTo cpos (starEach [e] X.env)).all (fun x=>!x.1)&&(backToKw cpos (keywordEach [] X.env)).all (fun x=>x.1.isSome)
  && decide (([e]:List Expr).length+([]:List Keyword).length+(if ([]:List Keyword).isEmpty then 0 else 1)<30))=true
 line:(apos.endLine==cpos.line)=true
 trees:backTo cpos (starEach [e] X.env)=[(false,eval e X.env)]
def IsD(H:Hp)(a:Addr):Prop:=(∃kvs,Rd H a (.dK kvs))\/∃kvs,Rd H a (.dT kvs)
theorem zaJ{X:Cx}{pins:List (Addr×Obj)}{U:St}{H:Hp}{s:Shared}{a:Addr}(I:Inv X pins U H s)(d:IsD H a) :
  s.TypeIs (.ref a) "dict"/\(∀b,Value.ref a=.ref b->∃ob,s.heap.get? b=some ob/\ob.dict=none)/\(a==sysModules)=false:=by
 rcases d with⟨kvs,e⟩|⟨kvs,e⟩
 ·obtain⟨_,hd,vs,_,dd⟩:=mK I.hok e
  refine⟨dd.typeIs,fun b q=>?_,hd⟩
  cases q
  obtain⟨ob,_,_,h1,h2,_⟩:=dd
  exact⟨ob,h1,h2.2.1⟩
 ·obtain⟨_,hd,xs,_,dd⟩:=mL I.hok e
  refine⟨dd.typeIs,fun b q=>?_,hd⟩
  cases q
  obtain⟨ob,_,_,h1,h2,_⟩:=dd
  exact⟨ob,h1,h2.2.1⟩
section
variable{X:Cx}{pins:List (Addr×Obj)}{U:St}{H:Hp}{s:Shared}{a:Addr}{y d:V}{u r:Value}{o:Option V}{A:Around}{E:Value->Shared->Prop}
theorem zaK{Q:Value->Shared->Prop}(hu:A.units+1<cLine)(I:Inv X pins U H s)(g:fL H a y o)(ry:aJ y u)(h:∀w' s',Inv X pins U H s'->aJ (o.getD .non) w'->Q w' s') :
  wpAny (model X.prog X.w) A (call (.builtin "dict.get") [.ref a,u]) Q E s:=by
 rcases g with⟨kvs,k,e,ey,l⟩|⟨kvs,k,b,e,ey,eb,l⟩
 ·subst ey
  obtain⟨z,hd,vs,rel,dd⟩:=mK I.hok e
  refine call_meetsIn PySem.F.slot_dict_get dd.typeIs PySem.F.entry_dict_get (PySem.F.args_dict_get_2 _ _) (meets_dict_get (eR X.prog X.w) a (mJ ry) hd) ⟨_,dd.mapOf,h _ _ (I.tok _) ?_⟩
  rw[l]
  exact(rel.val k).getD rfl
 ·subst ey
  cases (show u=Value.ref b from ry)
  obtain⟨z,hd,xs,rel,dd⟩:=mL I.hok e
  refine call_meetsIn PySem.F.slot_dict_get dd.typeIs PySem.F.entry_dict_get (PySem.F.args_dict_get_2 _ _) (meetsH_dict_get (tupleKind (eR X.prog X.w)) a b hd) ⟨tupleKind_room_in1 hu,k,xs,oR I.hok eb,dd,h _ _ (I.tok _) ?_⟩
  rw[l]
  exact(rel.val k).getD rfl
end
def zaL(td ty:TE):TE:=fun U H Q=>td U H fun x H1=>∃a,x=.ref a/\IsD H1 a/\ty U H1 fun y H2=>∃o,fL H2 a y o/\Q (o.getD .non) H2
section
variable{X:Cx}{o e f:Expr}{apos cpos:Pos}{td ty tx:TE}
theorem zaM(hu:X.A.units+1<cLine)(ho:PE X o td)(he:PE X e ty)(m:M1 X o "get" apos e cpos):PE X (.Call (.Attribute o "get" apos) [e] [] cpos) (zaL td ty):=by
 intro pins s U H Q I h
 refine wpAny_Call_method m.base m.few m.line PySem.F.plainAttrs_dict PySem.F.slot_dict_get PySem.F.type_dict_get (aH (ho pins s U H _ I h) fun u s1 ⟨x,H1,I1,rx,a,ex,d,q1⟩=>?_)
 subst ex
 obtain rfl:u=Value.ref a:=rx
 obtain⟨t1,t2,_⟩:=zaJ I1 d
 refine⟨t1,t2,?_⟩
 rw[m.trees]
 refine Calls.callWith_builtin rfl (Calls.evalArgs_plain (Calls.spliced_cons (aH (he pins s1 U H1 _ I1 q1) fun iv s2 ⟨y,H2,I2,ry,ov,g,q2⟩=>Calls.spliced_nil ?_)))
 exact zaK hu I2 g ry fun w' s3 I3 rw'=>⟨_,H2,I3,rw',q2⟩
end
end L2
section
set_option maxHeartbeats 2000000
namespace DL
open L2 PyProof.Rows
def dH:List Key->List D->Key->Option D
 |k::ks,d::ds,x=>if k=x then some d else dH ks ds x
 |_,_,_=>none
section
variable{K:xFg}{mg:Str->Option Value}{G:Hp}
theorem uM:∀{ks:List Key} {ds:List D} {vs:List V} {x:Key} {d:D},Reps K mg G ds vs->ks.length=vs.length->dH ks ds x=some d->∃v,bR (ks.zip vs) x=some v/\aS K mg G d v
 |[],_,_,_,_,_,_,h=>by unfold dH at h;cases h
 |_::_,[],_,_,_,_,_,h=>by unfold dH at h;cases h
 |k::ks,d'::ds,_,x,d,⟨v,r,h1,h2,h3⟩,hl,h=>by
  subst h1
  unfold dH at h
  rw[List.zip_cons_cons]
  by_cases e:k=x
  ·rw[xao e] at h;cases h
   exact⟨v,iF (p:=(k,v)) e,h2⟩
  ·rw[xal e] at h
   obtain⟨u,q1,q2⟩:=uM h3 (by simpa using hl) h
   exact⟨u,by rw[gP (p:=(k,v)) e];exact q1,q2⟩
theorem zE:∀{ks:List Key} {ds:List D} {vs:List V} {x:Key},Reps K mg G ds vs->ks.length=vs.length->dH ks ds x=none->bR (ks.zip vs) x=none
 |[],_,_,_,_,_,_=>by rw[List.zip_nil_left];rfl
 |_::_,[],_,_,h,hl,_=>by cases h;simp at hl
 |k::ks,d'::ds,_,x,⟨v,r,h1,h2,h3⟩,hl,h=>by
  subst h1
  unfold dH at h
  rw[List.zip_cons_cons]
  by_cases e:k=x
  ·rw[xao e] at h;cases h
  ·rw[xal e] at h
   rw[gP (p:=(k,v)) e]
   exact zE h3 (by simpa using hl) h
end
def mM:D->D->R D
 |.dct ks ds,.str x=>match dH ks ds (.inr x) with
  |some d=>.ok d
  |none=>.bad
 |_,_=>.bad
def rH:D->D->R D
 |.str x,.dct ks ds=>.ok (.bl (dH ks ds (.inr x)).isSome)
 |_,_=>.bad
def zaN:D->D->R D
 |.dct ks ds,.str x=>.ok ((dH ks ds (.inr x)).getD .non)
 |_,_=>.bad
def zF(fa fb:DSt->R D):DSt->R D:=fun U=>(fa U).bind fun x=>match x with
 |.dct ks ds=>(fb U).bind fun y=>zaN (.dct ks ds) y
 |_=>.bad
section
variable{X:Cx}{E:XK}{K:xFg}{mg:Str->Option Value}{j:Nat}{a b:Expr}{fa fb:DSt->R D}{pos:Pos}
theorem uN{G H:Hp}{p:Addr}{u:HO}(e:Same G H)(h:Rd G p u):Rd H p u:=Same.rd e h
theorem zaO(C:XC X E j)(ha:DE X E a fa)(hb:DE X E b fb)(hs:zC b:=by intro _ _;rfl):DE X E (.Subscript a b pos) (aC mM fa fb):=
 PE.mono' (zD (by have:=C.room.un;omega) ha hb hs) fun U H Q ⟨G,Ud,ok,q⟩=>by
 refine fX (P:=aL X.K X.mg Q) ok q fun d x G1 H1 s1 ok1 r1 q1=>?_
 refine fX (P:=fun _ _=>aL X.K X.mg Q G H) ok1 q1 fun d' y G2 H2 s2 ok2 r2 q2=>?_
 cases d with
 |dct ks ds=>cases d' with
  |str z=>
   cases r2
   obtain⟨p,vs,rfl,h1,h2,h3⟩:=r1.mono s2.g
   simp only[mM] at q2
   cases hv:dH ks ds (.inr z) with
   |none=>rw[hv] at q2;exact(show False from q2).elim
   |some u=>
    rw[hv] at q2
    obtain⟨v,e1,e2⟩:=uM h3 h2 hv
    exact⟨p,v,rfl,.inl ⟨_,.inr z,uN ok2.ext h1,rfl,e1.symm⟩,(show aL X.K X.mg Q G H u from q2) v G2 H2 (s1.trans s2) e2⟩
  |_=>exact(show False from q2).elim
 |_=>cases d'<;>exact(show False from q2).elim
abbrev rInK:R2:=fun x y H Q=>∃p kvs k,y=.ref p/\Rd H p (.dK kvs)/\x=kV k/\Q (.bl (bR kvs k).isSome) H
theorem zaQ(C:XC X E j):eW X .In rH:=⟨rInK,(fun pins s U H x y v u Q I rx ry ⟨p,kvs,k,e1,e2,e3,q⟩=>by
 subst e1 e3
 obtain rfl:u=Value.ref p:=ry
 exact d_in (by have:=C.room.un;omega) I (.inl ⟨kvs,k,e2,rfl,rfl⟩) rx fun s' I'=>⟨.bl _,H,I',rfl,q⟩),fun G H d d' x y Q e ra rb q=>by
 cases d with
 |str z=>cases d' with
  |dct ks ds=>
   cases ra
   obtain⟨p,vs,rfl,h1,h2,h3⟩:=rb
   refine⟨p,_,.inr z,rfl,uN e h1,rfl,?_⟩
   have q':aL X.K X.mg Q G H (.bl (dH ks ds (.inr z)).isSome):=q
   cases hv:dH ks ds (.inr z) with
   |none=>rw[zE h3 h2 hv];rw[hv] at q';exact aL.now q' e rfl
   |some u=>obtain⟨v,e1,_⟩:=uM h3 h2 hv;rw[e1];rw[hv] at q';exact aL.now q' e rfl
  |_=>exact(show False from q).elim
 |_=>cases d'<;>exact(show False from q).elim,fun d d' e h=>by
  cases d<;>cases d'<;>simp[rH] at h⟩
theorem zaR(C:XC X E j)(ha:DE X E a fa)(hb:DE X E b fb){apos cpos:Pos}(h1:attributeBase a "get" X.env (eval a X.env)=eval a X.env:=by rfl)
  (h2:((backTo cpos (starEach [b] X.env)).all (fun x=>!x.1)&&(backToKw cpos (keywordEach [] X.env)).all (fun x=>x.1.isSome)&&decide (([b]:List Expr).length+([]:List Keyword).length+(if ([]:List Keyword).isEmpty then 0 else 1)<30))=true:=by rfl)
  (h3:(apos.endLine==cpos.line)=true:=by rfl) (h4:backTo cpos (starEach [b] X.env)=[(false,eval b X.env)]:=by rfl):DE X E (.Call (.Attribute a "get" apos) [b] [] cpos) (zF fa fb):=
 PE.mono' (zaM (by have:=C.room.un;omega) ha hb ⟨h1,h2,h3,h4⟩) fun U H Q ⟨G,Ud,ok,q⟩=>by
 refine fX (P:=aL X.K X.mg Q) ok q fun d x G1 H1 s1 ok1 r1 q1=>?_
 cases d with
 |dct ks ds=>
  obtain⟨p,vs,rfl,g1,g2,g3⟩:=r1
  refine⟨p,rfl,.inl ⟨_,uN ok1.ext g1⟩,?_⟩
  refine fX (P:=fun _ _=>aL X.K X.mg Q G H) ok1 q1 fun d' y G2 H2 s2 ok2 r2 q2=>?_
  cases d' with
  |str z=>
   cases r2
   have q':aL X.K X.mg Q G H ((dH ks ds (.inr z)).getD .non):=q2
   refine⟨_,.inl ⟨_,.inr z,uN ok2.ext (Same.rd s2.g g1),rfl,rfl⟩,?_⟩
   cases hv:dH ks ds (.inr z) with
   |none=>rw[zE g3 g2 hv];rw[hv] at q';exact q' _ G2 H2 (s1.trans s2) rfl
   |some u=>obtain⟨v,e1,e2⟩:=uM g3 g2 hv;rw[e1];rw[hv] at q';exact q' _ G2 H2 (s1.trans s2) (e2.mono s2.g)
  |_=>exact(show False from q2).elim
 |_=>exact(show False from q1).elim
end
end DL
end
namespace DL
open L2 PyProof.Rows
variable{X:Cx}{E:XK}{own ol:List Nat}{x y:Str}{pos np nq:Pos}{e1 e2:Expr}{f1 f2:DSt->R D}
def rJ(own:List Nat)(i j:Nat)(f1 f2:DSt->R D):DSt->R aD:=fun U=>(aX U i).bind fun _=>(f1 U).bind fun d1=>bif imm d1 then (aX U j).bind fun ds=>match ds[ds.length-1]? with
 |some d=>(f2 (mask own (U.set j (some (.lst ds.dropLast))))).bind fun d2=>(aX (U.set j (some (.lst ds.dropLast))) i).bind fun xs=>bif most xs.length then .ok (.nx ((U.set j (some (.lst ds.dropLast))).set i (some (.lst (xs++[.tup [d1,d,d2]]))))) else .bad
 |none=>.bad
 else .bad
theorem zaS(i j:Nat){apos bpos cpos dpos tpos:Pos}{x1}(h1:DE X E e1 f1)(h2:DE X E e2 f2)(ho:own.contains i=true:=by rfl)(ho':own.contains j=true:=by rfl)(hN:X.N[i]? = some x:=by rfl)(hM:X.N[j]? = some y:=by rfl)
  (hv:cA X.env.scope x:=by first|exact Or.inl rfl|exact Or.inr (Or.inl rfl)|exact Or.inr (Or.inr rfl)) (hd:(x==("__debug__":Str))=false:=by decide) (hcd:(x==("__classdict__":Str))=false:=by decide)
  (hv':cA X.env.scope y:=by first|exact Or.inl rfl|exact Or.inr (Or.inl rfl)|exact Or.inr (Or.inr rfl)) (hd':(y==("__debug__":Str))=false:=by decide) (hcd':(y==("__classdict__":Str))=false:=by decide)
  (hbase:attributeBase (.Name x np) "append" X.env (eval (.Name x np) X.env)=eval (.Name x np) X.env:=by rfl) (hbase':attributeBase (.Name y nq) "pop" X.env (eval (.Name y nq) X.env)=eval (.Name y nq) X.env:=by rfl)
  (hfew:((backTo cpos (starEach [.Tuple [e1,.Call (.Attribute (.Name y nq) "pop" bpos) [] [] dpos,e2] x1 tpos] X.env)).all (fun x=>!x.1)&&(backToKw cpos (keywordEach [] X.env)).all (fun x=>x.1.isSome)&&decide ([Expr.Tuple [e1,.Call (.Attribute (.Name y nq) "pop" bpos) [] [] dpos,e2] x1 tpos].length+([]:List Keyword).length+(if ([]:List Keyword).isEmpty then 0 else 1)<30))=true:=by rfl)
  (hline:(apos.endLine==cpos.line)=true:=by rfl) (hline':(bpos.endLine==dpos.line)=true:=by rfl)
  (hs:starEach [.Tuple [e1,.Call (.Attribute (.Name y nq) "pop" bpos) [] [] dpos,e2] x1 tpos] X.env=(false,eval (.Tuple [e1,.Call (.Attribute (.Name y nq) "pop" bpos) [] [] dpos,e2] x1 tpos) X.env)::starEach [] X.env:=by rfl) (hplain:(backTo cpos (starEach [] X.env)).any (·.1)=false:=by rfl)
  (hs1:starEach [e1,.Call (.Attribute (.Name y nq) "pop" bpos) [] [] dpos,e2] X.env=(false,eval e1 X.env)::starEach [.Call (.Attribute (.Name y nq) "pop" bpos) [] [] dpos,e2] X.env:=by rfl)
  (hs2:starEach [.Call (.Attribute (.Name y nq) "pop" bpos) [] [] dpos,e2] X.env=(false,eval (.Call (.Attribute (.Name y nq) "pop" bpos) [] [] dpos) X.env)::starEach [e2] X.env:=by rfl)
  (hs3:starEach [e2] X.env=(false,eval e2 X.env)::starEach [] X.env:=by rfl)
  (hsw:swapsWith (.Call (.Attribute (.Name x np) "append" apos) [.Tuple [e1,.Call (.Attribute (.Name y nq) "pop" bpos) [] [] dpos,e2] x1 tpos] [] cpos) none pos.line X.env=pure false:=by rfl) :
  DS X E own own ol (.Expr (.Call (.Attribute (.Name x np) "append" apos) [.Tuple [e1,.Call (.Attribute (.Name y nq) "pop" bpos) [] [] dpos,e2] x1 tpos] [] cpos) pos) (rJ own i j f1 f2):=fun G0=>
 PS.mono' (jR (kT PySem.F.plainAttrs_list PySem.F.slot_list_append PySem.F.type_list_append lW (pv i hN hv hd hcd)
  (cN (nR (cN h1 (cN (nV PySem.F.plainAttrs_list PySem.F.slot_list_pop PySem.F.type_list_pop sX (pv j hM hv' hd' hcd') hbase' hline') (cN h2 eL hs3) hs2) hs1)) eL hs) hbase hfew hline hs hplain) hsw) fun Dn U H ⟨G,Ud,ok,s0,q⟩=>by
 have hi:i∈own:=by simpa using ho
 have hj:j∈own:=by simpa using ho'
 have q0:=q.of_bind
 cases hL:aX Ud i with
 |bad=>rw[hL] at q0;exact q0.elim
 |err e=>exact xaq hL fI
 |ok xs0=>
  rw[hL] at q0
  obtain⟨a,_,vs0,p1,_,p0,_⟩:=ok.mine i _ hi (dN hL)
  refine⟨_,p1,.inl ⟨rfl,_,aW.of p0⟩,?_⟩
  refine⟨_,Ud,ok.pub.1,(show RW ((f1 Ud).bind _) (bG X.K X.mg G0 X.H₀ own ol Dn G) (bA X.K X.mg E G0 X.H₀) from q0).of_bind.mono (fun d1 _ q1 v1 Gp H1 stp rp=>?_) fun _ z=>z.step (ok.pubStep s0)⟩
  cases him:imm d1 with
  |false=>rw[him] at q1;exact(show False from q1).elim
  |true=>
  rw[him] at q1
  obtain⟨G1,st1,r1⟩:∃G1,Step G H G1 H1/\aS X.K X.mg G1 d1 v1:=⟨_,(ok.hide stp).1,rp.imm (ok.hide stp).2 him⟩
  have ok1:=ok.step st1
  have s1:=s0.trans st1
  have q1:RW ((aX Ud j).bind _) (bG X.K X.mg G0 X.H₀ own ol Dn G) (bA X.K X.mg E G0 X.H₀):=q1
  have q2:=q1.of_bind
  cases hJ:aX Ud j with
  |bad=>rw[hJ] at q2;exact q2.elim
  |err e=>exact xaq hJ fI
  |ok ds=>
   rw[hJ] at q2
   obtain⟨b,ds',vs,p3,p4,p5,p6,p7,p8⟩:=ok1.mine j _ hj (dN hJ)
   cases p4
   cases hg:ds[ds.length-1]? with
   |none=>
    have q3:RW (match ds[ds.length-1]? with
     |some d=>(f2 (mask own (Ud.set j (some (.lst ds.dropLast))))).bind fun d2=>(aX (Ud.set j (some (.lst ds.dropLast))) i).bind fun xs=>bif most xs.length then R.ok (.nx ((Ud.set j (some (.lst ds.dropLast))).set i (some (.lst (xs++[.tup [d1,d,d2]]))))) else .bad
     |none=>.bad) (bG X.K X.mg G0 X.H₀ own ol Dn G) (bA X.K X.mg E G0 X.H₀):=q2
    rw[hg] at q3;exact(show False from q3).elim
   |some d=>
    have q3:RW (match ds[ds.length-1]? with
     |some d=>(f2 (mask own (Ud.set j (some (.lst ds.dropLast))))).bind fun d2=>(aX (Ud.set j (some (.lst ds.dropLast))) i).bind fun xs=>bif most xs.length then R.ok (.nx ((Ud.set j (some (.lst ds.dropLast))).set i (some (.lst (xs++[.tup [d1,d,d2]]))))) else .bad
     |none=>.bad) (bG X.K X.mg G0 X.H₀ own ol Dn G) (bA X.K X.mg E G0 X.H₀):=q2
    rw[hg] at q3
    obtain⟨v,hv1,rv⟩:=p8.get hg
    rw[p8.length] at hv1
    refine⟨_,p3,.inl ⟨rfl,_,aW.of p5⟩,b,vs,v,rfl,rfl,p5,hv1,?_⟩
    have ok2:=ok1.write hj (dN hJ) p3 p8.dropLast
    have s2:=s1.write (o:=.lst vs) (u:=.lst vs.dropLast) p7 p6
    refine⟨G1,mask own (Ud.set j (some (.lst ds.dropLast))),ok2.masked,(show RW ((f2 (mask own (Ud.set j (some (.lst ds.dropLast))))).bind _) (bG X.K X.mg G0 X.H₀ own ol Dn G) (bA X.K X.mg E G0 X.H₀) from q3).of_bind.mono (fun d2 _ q4 v2 G3 H3 st3 r3=>?_) fun _ z=>z.step s2⟩
    refine⟨by show 3<=sizeLine;decide,fun p hp=>?_⟩
    have ok3:=ok2.step st3
    have sp:Step G3 H3 (upd G3 p (.tup [v1,v,v2])) (upd H3 p (.tup [v1,v,v2])):=.pub ok3.ext hp
    have ok4:=ok3.step sp
    have q5:=q4.of_bind
    cases hI:aX (Ud.set j (some (.lst ds.dropLast))) i with
    |bad=>rw[hI] at q5;exact q5.elim
    |err e=>exact xaq hI fI
    |ok xs=>
     rw[hI] at q5
     have q6:RW (bif most xs.length then R.ok (.nx ((Ud.set j (some (.lst ds.dropLast))).set i (some (.lst (xs++[.tup [d1,d,d2]]))))) else .bad) (bG X.K X.mg G0 X.H₀ own ol Dn G) (bA X.K X.mg E G0 X.H₀):=q5
     obtain⟨a',xs',ws,p9,p10,p11,p12,p13,p14⟩:=ok4.mine i _ hi (dN hI)
     cases p10
     rw[p1] at p9
     cases p9
     cases hm:most xs.length with
     |false=>rw[hm] at q6;exact(show False from q6).elim
     |true=>
      rw[hm] at q6
      have hlt:xs.length<sizeLine:=xa0 hm
      refine⟨a,ws,.ref p,rfl,rfl,p11,by rw[<- p14.length];exact hlt,?_⟩
      have rt:aS X.K X.mg (upd G3 p (.tup [v1,v,v2])) (.tup [d1,d,d2]) (.ref p):=⟨p,[v1,v,v2],rfl,bJ.of aV,Reps.cons (r1.mono (st3.g.trans sp.g)) (Reps.cons (rv.mono (st3.g.trans sp.g)) (Reps.cons (r3.mono sp.g) Reps.nil))⟩
      exact(show bG X.K X.mg G0 X.H₀ own ol Dn G (.nx ((Ud.set j (some (.lst ds.dropLast))).set i (some (.lst (xs++[.tup [d1,d,d2]]))))) from q6) U _ _ (ok4.write hi (dN hI) p1 (p14.append (Reps.cons rt Reps.nil))) ((s2.trans (st3.trans sp)).write (o:=.lst ws) p13 p12) (st1.g.trans (st3.g.trans sp.g))
end DL
namespace DL
open L2 PyProof.Rows
theorem zaT(l:Addr)(items:Array Value)(n:Nat)(b:Addr)(items2:Array Value)(n2:Nat)(dd:Option Addr)(sl:Array (Option Value))(hc0:¬(!items.isEmpty&&Builtin.List.listTooLong (items.size+items2.size))=true)(hc1:items.size<=sizeLine)(hs2:items.size+items2.size<=sizeLine+1) :
  Meets (Builtin.«list.extend» ⟨[.ref l,.ref b],[]⟩) (fun _ R s=>s.heap.get? l=some { cls:=.type "list",dict:=none,data:=.seq items n,slots:=#[] }/\s.heap.get? b=some { cls:=.type "tuple",dict:=dd,data:=.seq items2 n2,slots:=sl }/\R (.ok (.ret Value.none)) { s with heap:=s.heap.update l (Obj.mapSeq fun x=>x++items2),toks:=s.toks }):=
 .of_wp fun _ _ _ _ s q=>by
  obtain⟨hp,gg,dr,tk,os⟩:=s
  obtain⟨e1,e2,q⟩:=q
  have i1:=AutoSeq1.idx_int
  have i2:=AutoSeq1.sub_tuple_tuple
  have i3:=AutoSeq1.sub_list_list
  have i4:=AutoSeq1.sub_tuple_list
  have i5:=AutoSeq1.sub_list_tuple
  have room:(items++items2).size<=sizeLine+1:=by
   rw[Array.size_append]
   exact hs2
  wp_walk using (wpAny_updateSeq e1 rfl (hz:=hc1) (_hz':=room)),wpAny_loadPart' e1,wpAny_loadPart' e2
  exact⟨_,rfl,q⟩
section
variable{X:Cx}
def zaU(K:xFg):V->List V->Hp->VK->Prop:=fun x vs H Q=>∃l b xs zs,x=.ref l/\vs=[.ref b]/\H l=some (.lst xs)/\bJ K H b zs/\xs.length+zs.length<=sizeLine/\Q .non (upd H l (.lst (xs++zs)))
theorem zaV:sW X "list.extend" (zaU X.K):=by
 intro pins s U H x vs v us Q I rx rv h
 obtain⟨l,b,xs,zs,rfl,rfl,hH,hB,hz,q⟩:=h
 cases rx
 obtain⟨u,rfl,ru⟩:=rv.one
 cases ru
 obtain⟨z,its,n,r,hl,e⟩:=I.lstM hH
 obtain⟨its2,r2,pl2,z2⟩:=I.tuple hB
 have hl2:=r2.length
 obtain⟨⟨cls2,dd2,data2,sl2⟩,ho2,hc2,n2,hd2⟩:=id pl2
 simp only at hc2 hd2
 subst hc2 hd2
 have hsz:its.toArray.size+its2.toArray.size<=sizeLine:=by rw[xan,xan];omega
 have hlong:¬(!its.toArray.isEmpty&&Builtin.List.listTooLong (its.toArray.size+its2.toArray.size))=true:=by
  rw[VD hsz,Bool.and_false]
  exact xa8
 refine call_meets F.slot_list_extend ⟨_,e,rfl⟩ F.entry_list_extend (F.args_list_extend_2 _ _)
  (zaT l its.toArray n b its2.toArray n2 dd2 sl2 hlong (by rw[xan];omega) (by omega)) ⟨e,ho2,?_⟩
 refine⟨.non,_,I.lset (its':=its++its2) hH e (by simp) (r.append r2) ?_,rfl,q⟩
 rw[xav]
 omega
end
def oU(ds:List D)(i:Nat)(U:DSt):D->R aD
 |.tup es=>bif dR (ds.length+es.length) then .ok (.nx (U.set i (some (.lst (ds++es))))) else .bad
 |_=>.bad
def zG(own:List Nat)(i:Nat)(fe:DSt->R D):DSt->R aD:=fun U=>(aX U i).bind fun ds=>(fe (mask own U)).bind fun d=>oU ds i U d
section
variable{X:Cx}{E:XK}{own ol:List Nat}{e:Expr}{fe:DSt->R D}{x:Str}{pos:Pos}
theorem zaW(i:Nat){apos cpos:Pos}{np:Pos}(he:DE X E e fe)(ho:own.contains i=true:=by rfl)(hN:X.N[i]? = some x:=by rfl)(hv:cA X.env.scope x:=by first|exact Or.inl rfl|exact Or.inr (Or.inl rfl)|exact Or.inr (Or.inr rfl))(hd:(x==("__debug__":Str))=false:=by decide)
  (hcd:(x==("__classdict__":Str))=false:=by decide)
  (hbase:attributeBase (.Name x np) "extend" X.env (eval (.Name x np) X.env)=eval (.Name x np) X.env:=by rfl)
  (hfew:((backTo cpos (starEach [e] X.env)).all (fun x=>!x.1)&&(backToKw cpos (keywordEach [] X.env)).all (fun x=>x.1.isSome)&&decide ([e].length+([]:List Keyword).length+(if ([]:List Keyword).isEmpty then 0 else 1)<30))=true:=by rfl)
  (hline:(apos.endLine==cpos.line)=true:=by rfl) (hs:starEach [e] X.env=(false,eval e X.env)::starEach [] X.env:=by rfl) (hplain:(backTo cpos (starEach [] X.env)).any (·.1)=false:=by rfl)
  (hsw:swapsWith (.Call (.Attribute (.Name x np) "extend" apos) [e] [] cpos) none pos.line X.env=pure false:=by rfl) :
  DS X E own own ol (.Expr (.Call (.Attribute (.Name x np) "extend" apos) [e] [] cpos) pos) (zG own i fe):=fun G0=>
 PS.mono' (jR (kT PySem.F.plainAttrs_list PySem.F.slot_list_extend PySem.F.type_list_extend zaV (pv i hN hv hd hcd) (eM he gG hs) hbase hfew hline hs hplain) hsw) fun Dn U H ⟨G,Ud,ok,s0,q⟩=>by
 have q1:=q.of_bind
 cases hL:aX Ud i with
 |bad=>rw[hL] at q1;exact q1.elim
 |err e=>exact xaq hL fI
 |ok ds=>
  rw[hL] at q1
  have q2:RW ((fe (mask own Ud)).bind fun d=>oU ds i Ud d) (bG X.K X.mg G0 X.H₀ own ol Dn G) (bA X.K X.mg E G0 X.H₀):=q1
  have hd:=dN hL
  have hi:i∈own:=by simpa using ho
  obtain⟨a,ds',vs,p1,p2,p3,p4,p5,p6⟩:=ok.mine i _ hi hd
  cases p2
  refine⟨_,p1,.inl ⟨rfl,_,aW.of p3⟩,?_⟩
  refine⟨G,mask own Ud,ok.masked,(show RW ((aB fe aE) (mask own Ud)) _ _ from ?_)⟩
  unfold aB
  have q3:=q2.of_bind
  cases hf:fe (mask own Ud) with
  |bad=>rw[hf] at q3;exact q3.elim
  |err e=>rw[hf] at q3;exact(show bA X.K X.mg E G0 X.H₀ e from q3).step s0
  |ok d=>
   rw[hf] at q3
   have q3:RW (oU ds i Ud d) (bG X.K X.mg G0 X.H₀ own ol Dn G) (bA X.K X.mg E G0 X.H₀):=q3
   rintro ws G' H' s ⟨v,_,e1,r1,r2⟩
   subst e1
   cases r2
   cases d with
   |tup es=>
    obtain⟨b,ys,rfl,hb,hy⟩:=r1
    cases hm:dR (ds.length+es.length) with
    |false=>simp only[oU,hm,cond_false] at q3;exact(show False from q3).elim
    |true=>
     simp only[oU,hm,cond_true] at q3
     have hle:ds.length+es.length<=sizeLine:=xa0 hm
     have ok':=ok.step s
     refine⟨a,b,vs,ys,rfl,rfl,s.h _ _ p3,Same.sqT s.e hb,by rw[<- p6.length,<- hy.length];exact hle,?_⟩
     exact(show bG X.K X.mg G0 X.H₀ own ol Dn G (.nx (Ud.set i (some (.lst (ds++es))))) from q3) U G' _ (ok'.write hi hd p1 ((p6.mono s.g).append hy)) ((s0.trans s).write (o:=.lst vs) p5 (s.c _ _ p3 p4)) s.g
   |_=>exact(show False from q3).elim
end
def ME(i:Nat)(l:R (List D))(a:R D)(U:DSt):R aD:=l.bind fun ds=>a.bind fun d=>oU ds i U d
theorem zaX(own:List Nat)(i:Nat)(fe:DSt->R D)(U:DSt):zG own i fe U=ME i (aX U i) (fe (mask own U)) U:=rfl
theorem zaY(i:Nat)(ds es:List D)(U:DSt)(h:ds.length+es.length<=1000000):ME i (.ok ds) (.ok (.tup es)) U=.ok (.nx (U.set i (some (.lst (ds++es))))):=by
 show (bif dR (ds.length+es.length) then R.ok _ else .bad)=_
 rw[show dR (ds.length+es.length)=true from xaj (xa1 h (by decide))];rfl
end DL
section
set_option maxHeartbeats 2000000
namespace DL
open L2 PyProof.Rows
def MF(a b:Addr)(H:Hp):Hp:=fun c=>if c=a\/c=b then none else H c
structure In2(K:xFg)(mg:Str->Option Value)(i j:Nat)(ds:List D)(vs:List V)(a b:Addr)(xs ys:List D)(G H:Hp):Prop where
 ext:Same G H
 ab:a≠b
 ij:i≠j
 ga:G a=none
 gb:G b=none
 la:∃us,H a=some (.lst us)/\Reps K mg G xs us
 lb:∃us,H b=some (.lst us)/\Reps K mg G ys us
 len:ds.length=vs.length
 di:ds[i]? = some (.lst xs)
 dj:ds[j]? = some (.lst ys)
 vi:vs[i]? = some (.ref a)
 vj:vs[j]? = some (.ref b)
 oth:∀k d,k≠i->k≠j->ds[k]? = some d->∃v,vs[k]? = some v/\aS K mg G d v
def za0(K:xFg)(mg:Str->Option Value)(i j:Nat)(a b:Addr)(G H:Hp)(Q:VK)(U':DSt):Prop:=
 ∀xs' ys',U'[i]? = some (some (.lst xs'))->U'[j]? = some (some (.lst ys'))->∀G' H' us ws,H' a=some (.lst us)->H' b=some (.lst ws)->G' a=none->G' b=none->Reps K mg G' xs' us->Reps K mg G' ys' ws->Step G (MF a b H) G' H'->Q .non H'
def spO(K:xFg)(mg:Str->Option Value)(i j:Nat)(m:List D->R DSt):Sp:=fun vs H Q E=>∃G ds a b xs ys,In2 K mg i j ds vs a b xs ys G H/\RW (m ds) (za0 K mg i j a b G H Q) (bA K mg E G (MF a b H))
end DL
end
section
set_option maxHeartbeats 2000000
namespace L2
open PySem.Spec PyProof.Rows
theorem za1:typeLookup (.type "list") "keys"=pure none:=am_miss_of_fast (by decide +kernel)
theorem MG:entryFor table "dict.update.loop"=some Builtin.«dict.update.loop»:=entryFor_of_tree (by kernel_rfl)
theorem uO:plainId "dict.update.loop"=true:=by decide +kernel
section
variable{P:Program}{w:World}{A:Around}{E:Value->Shared->Prop}{s:Shared}
theorem za2{a:Addr}{o:Obj}{xs:Array Value}{k:Nat}{Q:Option Value->Shared->Prop}(hx:s.heap.get? a=some o)(hc:o.cls=.type "list")(hdat:o.data=.seq xs k)(hd:o.dict=none)(hA:A.handled=none)
  (h:∀h' tk,(∀b ob,s.heap.get? b=some ob->h'.get? b=some ob)->Q none { s with heap:=h',toks:=tk }):wpAny (model P w) A (getAttr? (.ref a) "keys") Q E s:=by
 obtain⟨c,dct,dat,sl⟩:=o
 simp only at hc hdat hd
 subst hc hdat hd
 obtain⟨hp,g,d,tk,os⟩:=s
 have hT:∀tk',(⟨hp,g,d,tk',os⟩:Shared).TypeIs (.ref a) "list":=fun _=>⟨_,hx,rfl⟩
 have f1:=sub_AttributeError
 have f3:=F.slot_list_getattribute.lookup
 have f4:=F.slot_list_getattribute.bind (.ref a)
 have f5:=am_list_getattr_none
 unfold getAttr? getAttrBy? getAttrBy
 repeat (any_goals (first|assumption|exact hT _|((with_reducible show wpAny _ _ (call (Value.builtin "list.__getattribute__") _ _) _ _ _);refine call_meets F.slot_list_getattribute (hT _) am_entry_list_getattribute (F.args_list_getattribute_2 _ _) (meets_getattribute_miss_list a xs k sl "keys" _ za1 (by decide +kernel) (by decide +kernel)) ⟨hx,hA,fun h' tk' e hx'=>?_⟩)|wp_step))
 obtain⟨t',u',he⟩:=hx'.there
 show wpAny _ _ (getattributeRaised _ _ _ _ _ _ _) _ _ _
 unfold getattributeRaised
 repeat (any_goals (first|assumption|wp_step))
 exact h _ _ hx'.keeps
end
section
variable{P:Program}{w:World}{K:Type}[DecidableEq K]{knd:KeyKind P w K}
structure gQ(knd:KeyKind P w K)(h:Heap)(l:Addr)(items:Array Value)(kvs:List (K×Value)):Prop where
 l:h.IsList l items
 n:items.size=kvs.length
 p:∀(i:Nat) (kv:K×Value),kvs[i]? = some kv->∃t key,items[i]? = some (.ref t)/\h.IsTuple t #[key,kv.2]/\knd.is kv.1 key=true
theorem gQ.mono{h h':Heap}{l:Addr}{items:Array Value}{kvs:List (K×Value)}(x:gQ knd h l items kvs)(k:∀b o,h.get? b=some o->h'.get? b=some o):gQ knd h' l items kvs:=by
 obtain⟨⟨o,ho,r⟩,n,p⟩:=x
 refine⟨⟨o,k _ _ ho,r⟩,n,fun i kv e=>?_⟩
 obtain⟨t,key,h1,⟨ot,hot,rt⟩,h3⟩:=p i kv e
 exact⟨t,key,h1,⟨ot,k _ _ hot,rt⟩,h3⟩
theorem gQ.but{h h':Heap}{l d:Addr}{items:Array Value}{kvs:List (K×Value)}{od:Obj}(x:gQ knd h l items kvs)(hd:h.get? d=some od)(n1:od.cls≠.type "list")(n2:od.cls≠.type "tuple")(k:∀b o,b≠d->h.get? b=some o->h'.get? b=some o):gQ knd h' l items kvs:=by
 obtain⟨⟨o,ho,c,r⟩,n,p⟩:=x
 refine⟨⟨o,k _ _ (fun e=>?_) ho,c,r⟩,n,fun i kv e=>?_⟩
 ·subst e;rw[hd] at ho;cases ho;exact n1 c
 ·obtain⟨t,key,h1,⟨ot,hot,ct,rt⟩,h3⟩:=p i kv e
  refine⟨t,key,h1,⟨ot,k _ _ (fun e=>?_) hot,ct,rt⟩,h3⟩
  subst e;rw[hd] at hot;cases hot;exact n2 ct
theorem za3{A:Around}{E:Value->Shared->Prop}{s:Shared}{t:Addr}{x y:Value}{Q:List Value->Shared->Prop}(h:s.heap.IsTuple t #[x,y])(q:Q [x,y] s):wpAny (model P w) A (Builtin.Dict.pairItems (.ref t)) Q E s:=by
 obtain⟨o,ho,c,n,hd⟩:=h
 unfold Builtin.Dict.pairItems
 refine xaa (wpAny_typeOf ⟨o,ho,c⟩ ?_)
 rw[xao (by decide)]
 exact xaa (wpAny_seqItems ho hd (xah q))
theorem za4{A:Around}{R:Result->Shared->Prop}{d it l:Addr}{items:Array Value}{kvs:List (K×Value)}(hA:A.in1.handled=none)(hz:kvs.length<=sizeLine)(ne:d≠it) :
  ∀(k i:Nat) (s:Shared),kvs.length-i=k->i<=kvs.length->s.heap.DictOf knd d (merged [] (kvs.take i))->s.heap.IsListIter it l i->gQ knd s.heap l items kvs->
   (∀h' tk,h'.DictOf knd d (merged [] kvs)->(∀b o,b≠d->b≠it->s.heap.get? b=some o->h'.get? b=some o)->R (.ok (.ret .none)) { s with heap:=h',toks:=tk })->
   codeAny (model P w) A (.builtin "dict.update.loop" ⟨[.ref d,.ref it,.int i 0,.none],[]⟩) R s:=by
 intro k
 induction k with
 |zero=>
  intro i s hk hi hd hit hp hR
  have hin:i=kvs.length:=by omega
  subst hin
  rw[List.take_length] at hd
  refine codeAny_builtin MG ?_
  rw[Around.under_plainId uO _]
  show wpAny _ A.in1 (pyNext (.ref it) >>= _) _ _ s
  refine xaa (wpAny_pyNext_list_end hA hit hp.l (by rw[<- hp.n];simp) fun h' e=>?_)
  show wpAny _ A.in1 (Builtin.Dict.addKeywords d [] >>= fun _=>ret Value.none) _ _ _
  refine xaa (xah (xah ?_))
  exact hR h' s.toks (hd.extBut e ne) fun b o _ n2 hb=>e b o n2 hb
 |succ k ih=>
  intro i s hk hi hd hit hp hR
  have hlt:i<kvs.length:=by omega
  obtain⟨t,key,h1,h2,h3⟩:=hp.p i kvs[i] (xa7 hlt)
  refine codeAny_builtin MG ?_
  rw[Around.under_plainId uO _]
  show wpAny _ A.in1 (pyNext (.ref it) >>= _) _ _ s
  refine xaa (wpAny_pyNext_list_item hit hp.l h1 fun g git sb=>?_)
  obtain⟨oi,hoi,ci,di⟩:=hit
  have hp1:gQ knd g l items kvs:=hp.but hoi (by rw[ci];decide) (by rw[ci];decide) fun b o n hb=>(sb.2 b n).trans hb
  have hd1:g.DictOf knd d (merged [] (kvs.take i)):=hd.sameBut sb ne
  obtain⟨t',key',h1',h2',h3'⟩:=hp1.p i kvs[i] (xa7 hlt)
  rw[h1] at h1';cases h1'
  show wpAny _ A.in1 (holding [Value.ref t] _ >>= _) _ _ _
  refine xaa (wpAny_holding (xaa (wpAny_tryCatch (za3 h2' ?_))))
  show wpAny _ A.in1 (holding [key',(kvs[i]).2] (dictSet d key' (kvs[i]).2)) _ _ _
  refine wpAny_holding (wpAny_dictSet_pairs h3' hd1 (fun g2 hd2 sb2=>?_) ?_)
  ·rw[<- merged_take_succ [] kvs i kvs[i] (xa7 hlt)] at hd2
   have git2:g2.IsListIter it l (i+1):=by
    obtain⟨o,ho,r⟩:=git
    exact⟨o,(sb2.2 it (xa5 ne)).trans ho,r⟩
   obtain⟨od,_,_,hod,cd,_⟩:=hd1
   have hp2:gQ knd g2 l items kvs:=hp1.but hod (by rw[cd.1];decide) (by rw[cd.1];decide) fun b o n hb=>(sb2.2 b n).trans hb
   refine xah ⟨plainId_quiet uO _,?_⟩
   refine ih (i+1) _ (by omega) hlt hd2 git2 hp2 fun h' tk a b=>hR h' tk a fun c o n1 n2 hc=>b c o n1 n2 ((sb2.2 c n1).trans ((sb.2 c n2).trans hc))
  ·have:=merged_length_le [] (kvs.take i)
   simp at this
   omega
theorem za5{A:Around}{E:Value->Shared->Prop}{s:Shared}{l:Addr}{ol:Obj}{items:Array Value}{kvs:List (K×Value)}{Q:Value->Shared->Prop}(hA:A.handled=none)(hz:kvs.length<=sizeLine)(ho:s.heap.get? l=some ol)(hn:ol.dict=none)(hp:gQ knd s.heap l items kvs)
  (h:∀h' tk,h'.DictOf knd s.heap.objs.size (merged [] kvs)->(∀b o,s.heap.get? b=some o->h'.get? b=some o)->Q (.ref s.heap.objs.size) { s with heap:=h',toks:=tk }) :
  wpAny (model P w) A (call (.type "dict") [.ref l]) Q E s:=by
 refine callType_codes (Q₁:=fun obj s₁=>obj=.ref s.heap.objs.size/\s₁={ s with heap:=s.heap.push { cls:=.type "dict",data:=.dict #[] } }) F.kt_called_dict (F.kt_typeCall_dict_1 _) F.entry_dict_init (kt_code_dict_new _ ⟨rfl,rfl⟩) ?_
 rintro obj s₁ ⟨rfl,rfl⟩
 have hnew:(s.heap.push { cls:=.type "dict",data:=.dict #[] }).DictOf knd s.heap.objs.size []:=Heap.DictOf.new s.heap
 have hp':gQ knd (s.heap.push { cls:=.type "dict",data:=.dict #[] }) l items kvs:=hp.mono fun b o e=>xad _ e
 obtain⟨o',ho',cl,nn,dat⟩:=hp.l
 rw[ho] at ho';cases ho'
 refine⟨hnew.typeIs,F.args_dict_init_2 _ _,?_⟩
 unfold Builtin.«dict.__init__»
 refine xaa ?_
 unfold Builtin.Dict.selfAndRest
 refine xaa (wpAny_notOrdered_dict hnew.typeIs ?_)
 show wpAny _ _ (pure (s.heap.objs.size,[Value.ref l])) _ _ _
 refine xah ?_
 show wpAny _ _ (Builtin.Dict.updateFrom "dict.__init__" s.heap.objs.size (.ref l) [] .none) _ _ _
 unfold Builtin.Dict.updateFrom
 refine xaa (wpAny_typeOf hp'.l.typeIs ?_)
 rw[xao (by decide)]
 refine xaa (za2 (xad _ ho) cl dat hn hA fun h1 tk1 k1=>?_)
 rw[xao (by rfl)]
 refine xaa (wpAny_rule (xaa ?_))
 have hp1:gQ knd h1 l items kvs:=hp'.mono k1
 refine wpAny_pyIter_list hp1.l ?_
 have hd1:h1.DictOf knd s.heap.objs.size []:=by
  obtain⟨o,es,ep,ho,r⟩:=hnew
  exact⟨o,es,ep,k1 _ _ ho,r⟩
 have ne:s.heap.objs.size≠h1.objs.size:=by
  obtain⟨o,es,ep,ho,r⟩:=hd1
  exact xay (xai ho)
 refine xah ⟨plainId_quiet uO _,?_⟩
 have hd2:(h1.push { cls:=.type "list_iterator",data:=.fields #[.ref l,.int 0 0] }).DictOf knd s.heap.objs.size (merged [] (kvs.take 0)):=hd1.push _
 have hp2:gQ knd (h1.push { cls:=.type "list_iterator",data:=.fields #[.ref l,.int 0 0] }) l items kvs:=hp1.mono fun b o e=>xad _ e
 refine za4 (A:=A.in1) (knd:=knd) (l:=l) (items:=items) (kvs:=kvs) hA hz ne kvs.length 0 { s with heap:=h1.push { cls:=.type "list_iterator",data:=.fields #[.ref l,.int 0 0] },toks:=tk1 } (by omega) (xbi _) hd2 ⟨_,xax _ rfl,rfl,rfl⟩ hp2 fun h2 tk2 a b=>?_
 refine⟨rfl,h h2 tk2 a fun c o hc=>?_⟩
 have lc:=xai hc
 have c1:=k1 c o (xad _ hc)
 exact b c o (xay lc) (xay (xai c1)) (xad _ c1)
end
end L2
end
section
set_option maxHeartbeats 2000000
namespace L2
open PyProof.Rows
theorem za6(a b:Value):checkTypeCall "enumerate" ⟨[a],[("start",b)]⟩=pure ():=by kernel_rfl
theorem za7(a b:Value):checkBuiltinCall "enumerate.__new__" ⟨[.type "enumerate",a],[("start",b)]⟩=pure ():=by kernel_rfl
theorem za8(a b c:Value):argsOk "object.__init__" ⟨[a,b],[("start",c)]⟩:=by kernel_rfl
section
variable{P:Program}{w:World}{A:Around}{E:Value->Shared->Prop}{s:Shared}
theorem za9(l:Addr)(items:Array Value)(k:Nat)(dct:Option Addr)(sl:Array (Option Value))(tk:Tok) :
  Meets (Builtin.«enumerate.__new__» ⟨[.type "enumerate",.ref l],[("start",.int 4 tk)]⟩) (fun _ R s=>s.heap.get? l=some { cls:=.type "list",dict:=dct,data:=.seq items k,slots:=sl }/\
   R (.ok (.ret (.ref (s.heap.push { cls:=.type "list_iterator",data:=.fields #[.ref l,.int 0 0] }).objs.size)))
    { s with heap:=(s.heap.push { cls:=.type "list_iterator",data:=.fields #[.ref l,.int 0 0] }).push { cls:=.type "enumerate",data:=.fields #[.none,.bool false,.ref s.heap.objs.size,rawInt 4,.none,.none] } }):=
 .of_wp fun prog w A R s h=>by
  obtain⟨hp,g,d,t,os⟩:=s
  obtain⟨hl,h⟩:=h
  have f1:=sub_enumerate
  have hL:Heap.IsList (Shared.heap ⟨hp,g,d,t,os⟩) l items:=⟨_,hl,rfl,k,rfl⟩
  wp_walk using AutoSeq1.wpAny_loadPart' hl
  refine wpAny_stack_any fun st=>xah ?_
  split
  ·rename_i c _ _ _ _ _
   cases (c==Value.type "enumerate")
   ·wp_walk using AutoSeq1.wpAny_loadPart' hl,wpAny_pyIter_list hL
    exact⟨_,rfl,h⟩
   ·wp_walk using AutoSeq1.wpAny_loadPart' hl,wpAny_pyIter_list hL
    exact⟨_,rfl,h⟩
  ·wp_walk using AutoSeq1.wpAny_loadPart' hl,wpAny_pyIter_list hL
   exact⟨_,rfl,h⟩
theorem zba(self:Value)(l b:Value) :
  Meets (Builtin.«object.__init__» ⟨[self,l],[("start",b)]⟩) (fun _ R s=>s.TypeIs self "enumerate"/\R (.ok (.ret .none)) s):=by
 refine Meets.of_wp fun prog w A R s hs=>?_
 obtain⟨hT,hq⟩:=hs
 have hl:=F.called_enumerate.init.lookup
 have hm:=F.called_enumerate.made
 repeat (any_goals (first|assumption|wp_step))
 exact⟨_,rfl,hq⟩
theorem MH(args:List Value)(kw:List (Str×Value)):(Code.builtin "type.__call__" ⟨.type "enumerate"::args,kw⟩).weight=0/\(Code.builtin "type.__call__" ⟨.type "enumerate"::args,kw⟩).cUnits=1:=⟨rfl,rfl⟩
theorem zbb{l:Addr}{items:Array Value}{tk:Tok}{Q:Value->Shared->Prop}(hL:s.heap.IsList l items)
  (h : ∀ h', IsEnum h' (s.heap.objs.size + 1) s.heap.objs.size 4 .none -> h'.IsListIter s.heap.objs.size l 0 ->
   (∀b o,s.heap.get? b=some o->h'.get? b=some o)->Q (.ref (s.heap.objs.size+1)) { s with heap:=h' }) :
  wpAny (model P w) A (call (.type "enumerate") [.ref l] [("start",.int 4 tk)]) Q E s:=by
 obtain⟨⟨c,dct,dt,sl⟩,hl,hc,n,hd⟩:=hL
 replace hc:c=.type "list":=hc
 replace hd:dt=.seq items n:=hd
 subst hc hd
 obtain⟨c,tl,hmro⟩:=F.called_enumerate.mro
 have hmade:=F.called_enumerate.made
 have hsub:=F.called_enumerate.sub
 have h1:=F.called_enumerate.notType
 have h2:=F.called_enumerate.canCreate
 have hct:=za6 (.ref l) (.int 4 tk)
 refine wpAny_call (codeAny_of_tree ?_)
 show wpAny _ _ (callAny (.type "enumerate") _) _ _ _
 refine xah ⟨Code.quiet_builtin _ (by decide +kernel),codeAny_builtin F.entry_type_call ?_⟩
 rw[Around.under_plain (MH _ _).1 (MH _ _).2]
 repeat (any_goals (first|assumption|wp_step))
 have hz:(s.heap.push { cls:=.type "list_iterator",data:=.fields #[.ref l,.int 0 0] }).objs.size=s.heap.objs.size+1:=xcj ..
 have k1:codeAny (model P w) A.in1 (.call (.builtin "enumerate.__new__") ⟨[.type "enumerate",.ref l],[("start",.int 4 tk)]⟩) (fun r s₁=>r=.ok (.ret (.ref (s.heap.objs.size+1)))/\s₁={ s with heap:=(s.heap.push { cls:=.type "list_iterator",data:=.fields #[.ref l,.int 0 0] }).push { cls:=.type "enumerate",data:=.fields #[.none,.bool false,.ref s.heap.objs.size,rawInt 4,.none,.none] } }) s:=
  codeAny_call_builtin F.called_enumerate.plain F.entry_enumerate_new (wpAny_of_eq (za7 _ _) (za9 l items n dct sl tk P w A.in1 (fun r s₁=>r=.ok (.ret (.ref (s.heap.objs.size+1)))/\s₁=_) s ⟨hl,by rw[hz],rfl⟩))
 refine codeAny_mono k1 fun r s₁ hr=>?_
 obtain⟨rfl,rfl⟩:=hr
 have he:IsEnum ((s.heap.push { cls:=.type "list_iterator",data:=.fields #[.ref l,.int 0 0] }).push { cls:=.type "enumerate",data:=.fields #[.none,.bool false,.ref s.heap.objs.size,rawInt 4,.none,.none] }) (s.heap.objs.size+1) s.heap.objs.size 4 .none:=by
  rw[<- hz];exact xax _ rfl
 have hT:Shared.TypeIs { s with heap:=(s.heap.push { cls:=.type "list_iterator",data:=.fields #[.ref l,.int 0 0] }).push { cls:=.type "enumerate",data:=.fields #[.none,.bool false,.ref s.heap.objs.size,rawInt 4,.none,.none] } } (.ref (s.heap.objs.size+1)) "enumerate":=⟨_,he,rfl⟩
 have hli:=F.called_enumerate.init.lookup
 have hbi:=F.called_enumerate.init.bind (.ref (s.heap.objs.size+1))
 repeat (any_goals (first|assumption|wp_step))
 have k2:codeAny (model P w) A.in1 (.call (.builtin "object.__init__") ⟨[.ref (s.heap.objs.size+1),.ref l],[("start",.int 4 tk)]⟩) (fun r s₁=>r=.ok (.ret .none)/\s₁={ s with heap:=(s.heap.push { cls:=.type "list_iterator",data:=.fields #[.ref l,.int 0 0] }).push { cls:=.type "enumerate",data:=.fields #[.none,.bool false,.ref s.heap.objs.size,rawInt 4,.none,.none] } }) { s with heap:=(s.heap.push { cls:=.type "list_iterator",data:=.fields #[.ref l,.int 0 0] }).push { cls:=.type "enumerate",data:=.fields #[.none,.bool false,.ref s.heap.objs.size,rawInt 4,.none,.none] } }:=
  codeAny_call_builtin F.called_enumerate.init.plain F.entry_object_init (F.called_enumerate.init.check _ _ _ _ _ _ _ _ hT (za8 _ _ _) (zba _ _ _ P w A.in1 (fun r s₁=>r=.ok (.ret .none)/\s₁=_) _ ⟨hT,rfl,rfl⟩))
 refine codeAny_mono k2 fun r₂ s₂ hr₂=>?_
 obtain⟨rfl,rfl⟩:=hr₂
 repeat (any_goals (first|assumption|wp_step))
 exact h _ he ⟨_,xad _ (xax _ rfl),rfl,rfl⟩ fun b o x=>xad _ (xad _ x)
end
def zH(K:xFg)(a:Addr):It:=
 ⟨fun i H => ∃ xs x, aW K H a xs /\ xs[i]? = some x,
  fun i H v H'=>∃T x,v=.ref T/\H T=none/\H'=upd H T (.tup [.int (i+4:Nat),x])/\∀xs,aW K H a xs->xs[i]? = some x,
  fun i H=>∃xs,aW K H a xs/\xs.length<=i⟩
structure EL4(e it a:Addr)(k:Nat)(h:Heap):Prop where
 e:∃old,IsEnum h e it ((k+4:Nat):Int) old
 it:h.IsListIter it a k
theorem zbc{P:Program}{w:World}{A:Around}{it l:Addr}{items:Array Value}(hA:A.handled=none)(ne:l≠it):Draws P w A it [it,l] (items.size+4) (fun j x=>items[j-4]? = some x) (fun j h=>4<=j/\h.IsListIter it l (j-4)/\h.IsList l items) where
 live:=fun i h ⟨_,⟨o,ho,_⟩,_⟩=>⟨o,ho⟩
 frame:=fun i h h' ⟨h4,⟨o,ho,r⟩,⟨p,hp,r'⟩⟩ k=>⟨h4,⟨o,k it (by simp) o ho,r⟩,⟨p,k l (by simp) p hp,r'⟩⟩
 item:=fun i s Q E hi ⟨h4,h1,h2⟩ hQ=>by
  have hx:items[i-4]? = some items[i-4]:=xct (by omega)
  refine wpAny_nextOf_list_item h1 h2 hx fun h' a sb=>hQ _ h' s.toks hx ⟨by omega,?_,?_⟩ sb
  ·rw[show i+1-4=i-4+1 by omega];exact a
  ·obtain⟨o,ho,r⟩:=h2
   exact⟨o,(sb.2 l ne).trans ho,r⟩
 done:=fun s Q E ⟨h4,h1,h2⟩ hE=>wpAny_nextOf_list_end hA h1 h2 (by simp) hE
theorem zbd{P:Program}{w:World}{A:Around}{it l:Addr}{items:Array Value}{i:Nat}(hA:A.handled=none)(hi:items.size<=i):Draws P w A it [it,l] (i+4) (fun _ _=>True) (fun j h=>j=i+4/\h.IsListIter it l i/\h.IsList l items) where
 live:=fun i h ⟨_,⟨o,ho,_⟩,_⟩=>⟨o,ho⟩
 frame:=fun i h h' ⟨h4,⟨o,ho,r⟩,⟨p,hp,r'⟩⟩ k=>⟨h4,⟨o,k it (by simp) o ho,r⟩,⟨p,k l (by simp) p hp,r'⟩⟩
 item:=fun i s Q E hi ⟨h4,h1,h2⟩ hQ=>xaq hi (by omega)
 done:=fun s Q E ⟨h4,h1,h2⟩ hE=>wpAny_nextOf_list_end hA h1 h2 (by simpa using hi) hE
theorem MJ{P:Program}{w:World}{K:xFg}{es:List Expr}{ct:Nat}{ps:Pos}{e it a:Addr}(ne:e≠it):lO P w K (.Tuple es ct ps) (zH K a) [e,it] e (EL4 e it a) where
 mem:=by simp
 obj:=fun i h st c hc=>by
  simp only[xaz,xbe,or_false] at hc
  rcases hc with rfl|rfl
  ·obtain⟨old,q⟩:=st.e
   exact⟨_,q,fun v q=>by cases q⟩
  ·obtain⟨o,e,c,d⟩:=st.it
   exact⟨o,e,fun v q=>by rw[d] at q;cases q⟩
 keep:=fun i h h' st k=>by
  obtain⟨old,q⟩:=st.e
  exact⟨⟨old,k _ (by simp) _ q⟩,st.it.at fun o e=>k _ (by simp) o e⟩
 item:=by
  intro X hP hw hK hc i pins s U H E I hf st hg
  subst hP hw hK
  obtain⟨xs,x,h1,hx⟩:=hg
  obtain⟨its,rv,p,_⟩:=I.list h1
  obtain⟨u,hu,ru⟩:=rv.get hx
  obtain⟨old,q0⟩:=st.e
  obtain⟨oi,qi,ci,di⟩:=st.it
  obtain⟨ol,ql,cl,dl⟩:=p.isList
  have nal:a≠it:=fun z=>by subst z;rw[qi] at ql;cases ql;rw[ci] at cl;exact xaq cl (by decide)
  have nel:e≠a:=fun z=>by subst z;rw[q0] at ql;cases ql;exact xaq (show Value.type "enumerate"=Value.type "list" from cl) (by decide)
  have hlt:i<its.length:=(xam.mp hu).1
  refine wpAny_pyNext_enum_itemD (i:=i+4) (zbc (items:=its.toArray) (I.ok.hd hc) nal) q0 ⟨by omega,by rw[Nat.add_sub_cancel];exact st.it,p.isList⟩ (by simpa using hlt) ne (by simp[ne,nel]) fun y g tk hy Zz Zi pg sg kg=>⟨_,rfl,?_⟩
  rw[Nat.add_sub_cancel] at hy
  obtain rfl:y=u:=by
   have z:its.toArray[i]? = some u:=by simpa using hu
   rw[z] at hy;exact(xas hy).symm
  refine wpAny_letOwnedTupleGo_enum Zz fun g' zg sb=>?_
  have I1:Inv X pins U (upd H s.heap.objs.size (.tup [.int (i+4:Nat),x])) { s with heap:=s.heap.push (tp2 (.int (i+4:Nat) tk) y),toks:=s.toks }:=
   I.laid (fun _ _ q=>xad _ q) (xap _) ⟨by show 2<=sizeLine;decide,[.int (i+4:Nat) tk,y],.cons ⟨tk,rfl⟩ (.cons ru .nil),⟨_,xax _ rfl,rfl,⟨0,rfl⟩,rfl⟩⟩
  have fr:∀c∈[e,it],c≠s.heap.objs.size:=fun c hc ec=>by
   simp only[xaz,xbe,or_false] at hc
   rcases hc with rfl|rfl
   ·exact xay (xai q0) ec
   ·exact xay (xai qi) ec
  have I2:Inv X pins U (upd H s.heap.objs.size (.tup [.int (i+4:Nat),x])) { s with heap:=g',toks:=tk+1 }:=by
   refine Inv.turnedL (s:={ s with heap:=s.heap.push (tp2 (.int (i+4:Nat) tk) y),toks:=s.toks }) (h':=g') (t':=tk+1) (ch:=[e,it]) I1 (fun c o hc ec=>?_) fun c hc=>?_
   ·have cz:c≠e:=fun q=>hc (by simp[q])
    rcases Heap.get?_push_cases ec with⟨rfl,rfl⟩|ec
    ·exact sb.extBut _ _ cz pg
    ·exact sb.extBut _ _ cz (kg c o cz (fun q=>hc (by simp[q])) ec)
   ·exact⟨by rw[aG (fr c hc)];exact(hf c hc).1,(hf c hc).2⟩
  have Zi':g.IsListIter it a (i+1):=by
   have:=Zi.2.1
   rw[show i+4+1-4=i+1 by omega] at this
   exact this
  refine⟨.ref s.heap.objs.size,_,I2,rfl,⟨_,x,rfl,I.fresh,rfl,fun zs hz=>by rw[I.list_inj hz h1];exact hx⟩,⟨⟨_,by rw[show ((i+1+4:Nat):Int)=((i+4:Nat):Int)+1 by omega];exact zg⟩,Zi'.at fun o eo=>sb.extBut _ _ ne.symm eo⟩,fun c hc=>by rw[aG (fr c hc)];exact(hf c hc).1⟩
 done:=by
  intro X hP hw hK hc i pins s U H E I hf st hg
  subst hP hw hK
  obtain⟨xs,h1,hx⟩:=hg
  obtain⟨its,rv,p,_⟩:=I.list h1
  obtain⟨old,q0⟩:=st.e
  obtain⟨oi,qi,ci,di⟩:=st.it
  obtain⟨ol,ql,cl,dl⟩:=p.isList
  have hl:=rv.length
  refine wpAny_pyNext_enum_endD (zbd (i:=i) (items:=its.toArray) (I.ok.hd hc) (by simp;omega)) q0 ⟨rfl,st.it,p.isList⟩ fun g kg=>⟨rfl,I.turnedL (t':=s.toks) (ch:=[e,it]) (fun c o hc ec=>?_) hf⟩
  exact kg c o (fun q=>hc (by simp[q])) ec
 self:=fun A i s Q E st h=>by
  obtain⟨old,q0⟩:=st.e
  exact wpAny_pyIter_enum q0 h
end L2
namespace DL
open L2 PyProof.Rows
section
variable{X:Cx}{E:XK}
def zbe(K:xFg)(ta tb:TA):TI:=fun U H R=>ta U H fun vs H1=>tb U H1 fun ws H2=>∃a,vs=[.ref a]/\ws=[.int 4]/\(∃xs,aW K H2 a xs)/\R (zH K a) H2
theorem zbf{a b:Expr}{ta tb:TA}{p pos ps kpos:Pos}{es:List Expr}{ct:Nat}(hg:Gl X "enumerate")(hm:X.mg "enumerate"=none)(ha:PA X [a] ta)(hb:PK X [⟨some "start",b,kpos⟩] tb)(hs:backTo pos (starEach [a] X.env)=(false,eval a X.env)::backTo pos (starEach [] X.env):=by rfl)
  (hpl:(backTo pos (starEach [a] X.env)).any (·.1)=false:=by rfl) (hall:(backToKw pos (keywordEach [⟨some "start",b,kpos⟩] X.env)).all (·.1.isSome)=true:=by rfl) (hkw:(backToKw pos (keywordEach [⟨some "start",b,kpos⟩] X.env)).any (·.1.isNone)=false:=by rfl)
  (hn:(backToKw pos (keywordEach [⟨some "start",b,kpos⟩] X.env)).filterMap (·.1)=[("start":Str)]:=by rfl) :
  PI X (.Tuple es ct ps) (.Call (.Name "enumerate" p) [a] [⟨some "start",b,kpos⟩] pos) (zbe X.K ta tb):=by
 intro pins s U H R I h
 refine wpAny_Call_Name_kw (kQ I hg hm zaj ?_)
 unfold callWith
 have hA:=ha pos pins s U H _ I h
 rw[hs] at hA
 rw[hs]
 refine xaa (wpAny_holding (evalArgs_kw hall (aH hA fun us s1 ⟨vs,H1,I1,r1,q1⟩=>aH (hb pos pins s1 U H1 _ I1 q1) fun ks s2 ⟨ws,H2,I2,r2,q2⟩=>xaa (wpAny_standAt ?_))))
 rw[hs] at hpl
 simp only[hpl,hkw,hn,Bool.or_false]
 refine xaa (xah ?_)
 obtain⟨a,e1,e2,⟨xs,hx⟩,q⟩:=q2
 subst e1 e2
 cases r1 with
 |cons r rr=>
  cases rr
  cases r
  cases r2 with
  |cons r' rr'=>
   cases rr'
   obtain⟨tk,rfl⟩:=r'
   obtain⟨its,_,p1,_⟩:=I2.list hx
   refine xaa (zbb p1.isList fun g zz zi kg=>xaa (wpAny_holding (wpAny_point (xah ?_))))
   have st:EL4 (s2.heap.objs.size+1) s2.heap.objs.size a 0 g:=⟨⟨_,zz⟩,zi⟩
   have ne:s2.heap.objs.size+1≠s2.heap.objs.size:=xa6 (xck _)
   refine(MJ (P:=X.prog) (w:=X.w) (K:=X.K) (es:=es) (ct:=ct) (ps:=ps) ne).self X.A 0 { s2 with heap:=g } _ _ st ?_
   refine⟨_,[s2.heap.objs.size+1,s2.heap.objs.size],_,_,H2,rfl,I2.kept (t':=s2.toks) kg,MJ ne,st,fun c hc=>?_,q⟩
   have hc:s2.heap.objs.size<=c:=by
    simp only[xaz,xbe,or_false] at hc
    rcases hc with rfl|rfl
    ·exact xcm _ _
    ·exact xap _
   exact I2.fpOk hc (I2.hok.fresh hc)
def rK(fa:DSt->R (List D))(fb:DSt->R D):DSt->R (List D):=fun U=>(fa U).bind fun ds=>(fb U).bind fun d=>match ds,d with
 |[.lst xs],.int n=>bif n==4 then .ok (gN 4 xs) else .bad
 |_,_=>.bad
theorem g6.enum4{K:xFg}{mg:Str->Option Value}{G:Hp}{a:Addr}{vs:List V}{xs:List D}(h:aW K G a vs)(r:Reps K mg G xs vs):g6 K mg (zH K a) G (gN 4 xs):=by
 refine⟨fun H e=>⟨vs,e.seq h,by rw[yY,r.length];exact xap _⟩,fun H i d e hd=>?_⟩
 obtain⟨x,hx,rfl⟩:=LL xs 4 i d hd
 obtain⟨v,hv,rv⟩:=r.get hx
 refine⟨⟨vs,v,e.seq h,hv⟩,?_⟩
 rintro _ H' ⟨T,v',rfl,hn,rfl,q1⟩ G1 e1 e2
 have z1:=q1 _ (e.seq h)
 rw[hv] at z1;cases z1
 have st:=Step.pub (o:=.tup [.int (i+4:Nat),v]) e2 hn
 exact⟨upd G1 T (.tup [.int (i+4:Nat),v]),st,T,[.int (i+4:Nat),v],rfl,bJ.of aV,.cons (by rw[xdf 4 i];rfl) (.cons (rv.mono (e1.trans st.g)) rfl)⟩
theorem zbg{a b:Expr}{fs:DSt->R (List D)}{fb:DSt->R D}{p pos ps kpos:Pos}{es:List Expr}{ct:Nat}(hm:X.mg "enumerate"=none)(ha:DA X E [a] fs)(hb:DE X E b fb)(hg:Gl X "enumerate":=by rfl)(hs:backTo pos (starEach [a] X.env)=(false,eval a X.env)::backTo pos (starEach [] X.env):=by rfl)
  (hpl:(backTo pos (starEach [a] X.env)).any (·.1)=false:=by rfl) (hall:(backToKw pos (keywordEach [⟨some "start",b,kpos⟩] X.env)).all (·.1.isSome)=true:=by rfl) (hkw:(backToKw pos (keywordEach [⟨some "start",b,kpos⟩] X.env)).any (·.1.isNone)=false:=by rfl)
  (hn:(backToKw pos (keywordEach [⟨some "start",b,kpos⟩] X.env)).filterMap (·.1)=[("start":Str)]:=by rfl) :
  DI X E (.Tuple es ct ps) (.Call (.Name "enumerate" p) [a] [⟨some "start",b,kpos⟩] pos) (rK fs fb):=by
 refine PI.mono' (zbf hg hm ha (UG hb UF) hs hpl hall hkw hn) fun U H R ⟨G,Ud,ok,q⟩=>?_
 refine⟨G,Ud,ok,q.of_bind.mono (fun ds c1 z1 vs G1 H1 s1 r1=>?_) fun _ z=>z⟩
 refine⟨G1,Ud,ok.step s1,z1.of_bind.mono (fun d c2 z v G2 H2 s2 r2=>?_) fun _ z=>z.step s1⟩
 clear c1 c2 z1 q
 split at z
 ·rename_i xs n
  cases hn:n==4 with
  |false=>rw[hn] at z;exact(show False from z).elim
  |true=>
   rw[hn] at z
   obtain rfl:n=4:=eq_of_beq hn
   cases r2
   obtain⟨v,r1,rfl,⟨a,as,rfl,h1,k1⟩,r3⟩:=r1
   cases r3
   have h1':=s2.g.seq h1
   exact⟨a,rfl,rfl,⟨as,s2.e.seq h1'⟩,(show ∀J G' H',Step G H G' H'->g6 X.K X.mg J G' (gN 4 xs)->R J H' from z) _ G2 H2 (s1.trans s2) (.enum4 h1' (k1.mono s2.g))⟩
 ·exact(show False from z).elim
end
end DL
end
section
set_option maxHeartbeats 2000000
namespace DL
open L2 PyProof.Rows
def PV(K:xFg)(H:Hp):List V->List Str->List V->Prop
 |[],[],[]=>True
 |v::vs,k::ks,u::us=>(∃t,v=.ref t/\bJ K H t [.str k,u])/\PV K H vs ks us
 |_,_,_=>False
theorem PV.kvs{X:Cx}{pins:List (Addr×Obj)}{U:L2.St}{H:Hp}{s:Shared}(I:Inv X pins U H s):∀{vs:List V} {ks:List Str} {us:List V} {its:List Value},PV X.K H vs ks us->aP vs its->
  ∃kvs:List (Key×Value),KV ((ks.map Sum.inr).zip us) kvs/\its.length=kvs.length/\kvs.map (·.1)=ks.map Sum.inr/\∀(i:Nat) (kv:Key×Value),kvs[i]? = some kv->∃t key,its[i]? = some (.ref t)/\s.heap.IsTuple t #[key,kv.2]/\(eR X.prog X.w).is kv.1 key=true
 |[],[],[],_,_,.nil=>⟨[],.nil,rfl,rfl,fun i kv e=>by simp at e⟩
 |v::vs,k::ks,u::us,_,⟨⟨t,e1,e2⟩,h⟩,.cons (l₂:=its) r rr=>by
  subst e1
  cases r
  obtain⟨kvs,h1,h2,h3,h4⟩:=PV.kvs I h rr
  obtain⟨is,q1,q2,_⟩:=I.tuple e2
  cases q1 with
  | @cons _ a _ _ ra q1=>
   cases q1 with
   | @cons _ b _ _ rb q1=>
    cases q1
    refine⟨(.inr k,b)::kvs,.cons ⟨rfl,rb⟩ h1,by simp[h2],by simp[h3],fun i kv e=>?_⟩
    cases i with
    |zero=>
     cases e
     exact⟨t,a,rfl,q2,mJ (k:=.inr k) ra⟩
    |succ i=>exact h4 i kv e
 |[],_::_,_,_,h,_=>h.elim
 |[],[],_::_,_,h,_=>h.elim
 |_::_,[],_,_,h,_=>h.elim
 |_::_,_::_,[],_,h,_=>h.elim
def iG:List Str->Bool
 |[]=>true
 |k::ks=>!ks.contains k&&iG ks
theorem MK:∀{ks:List Str},iG ks=true->(ks.map (Sum.inr:Str->Key)).Nodup
 |[],_=>xdk
 |k::ks,h=>by
  unfold iG at h
  rw[xau] at h
  rw[xa4,xbv]
  refine⟨fun z=>?_,MK h.2⟩
  obtain⟨k',z1,z2⟩:=xcb.mp z
  cases z2
  have:=h.1
  rw[List.contains_iff_mem.mpr z1] at this
  cases this
theorem zbh{X:Cx}(hc:X.calm=true):eK X (.type "dict") (fun xs H Q=>∃l vs ks us,xs=[.ref l]/\aW X.K H l vs/\PV X.K H vs ks us/\iG ks=true/\∀z,H z=none->Q (.ref z) (upd H z (.dK ((ks.map Sum.inr).zip us)))):=by
 intro pins s U H xs us Q I r h
 obtain⟨l,vs,ks,ws,rfl,hl,hp,hn,q⟩:=h
 obtain⟨u,rfl,ru⟩:=kR r
 cases ru
 obtain⟨its,r1,⟨o,n,ho,cl,dc,dt⟩,hz⟩:=I.list hl
 obtain⟨kvs,k1,k2,k3,k4⟩:=PV.kvs I hp r1
 have hzz:kvs.length<=sizeLine:=by rw[<- k2,<- r1.length];exact hz
 refine za5 (knd:=eR X.prog X.w) (items:=its.toArray) (kvs:=kvs) (I.ok.hd hc) hzz ho dc ⟨⟨o,ho,cl,n,dt⟩,by simpa using k2,fun i kv e=>?_⟩ fun h' tk dd kp=>?_
 ·obtain⟨t,key,a,b,c⟩:=k4 i kv e
  exact⟨t,key,by simpa using a,b,c⟩
 ·rw[merged_nil_of_nodup kvs (by rw[k3];exact MK hn)] at dd
  refine⟨.ref s.heap.objs.size,_,I.laid (a:=s.heap.objs.size) (o:=.dK ((ks.map Sum.inr).zip ws)) (t':=tk) kp (xap _) (L9 (by rw[k1.length];exact hzz) (beq_eq_false_iff_ne.mpr (xa5 (xay I.big))) k1 dd),rfl,q _ (I.hok.fresh (xap _))⟩
def rL:D->Option (Str×D)
 |.tup [.str k,d]=>some (k,d)
 |_=>none
theorem zbi{x d:D}{k:Str}(h:rL x=some (k,d)):x=.tup [.str k,d]:=by
 unfold rL at h
 split at h
 ·cases h;rfl
 ·cases h
def kD:List D->Option (List Str×List D)
 |[]=>some ([],[])
 |p::ps=>(rL p).bind fun x=>(kD ps).bind fun r=>some (x.1::r.1,x.2::r.2)
def jK:List D->R D
 |[.lst ps]=>match kD ps with
  |some (ks,ds)=>bif iG ks then .ok (.dct (ks.map Sum.inr) ds) else .bad
  |none=>.bad
 |_=>.bad
theorem ML{K:xFg}{mg:Str->Option Value}{G:Hp}:∀{ps:List D} {vs:List V} {ks:List Str} {ds:List D},Reps K mg G ps vs->kD ps=some (ks,ds)->∃us,PV K G vs ks us/\Reps K mg G ds us/\ks.length=us.length
 |[],vs,ks,ds,r,h=>by
  unfold kD at h
  cases h;cases r
  exact⟨[],trivial,Reps.nil,rfl⟩
 |p::ps,vs,ks,ds,r,h=>by
  unfold kD at h
  obtain⟨⟨k,d⟩,h0,h⟩:=xab.mp h
  obtain⟨⟨ks',ds'⟩,h1,h2⟩:=xab.mp h
  cases h2
  rw[zbi h0] at r
  obtain⟨v,vs',rfl,⟨t,ws,rfl,ht,rw'⟩,r'⟩:=r
  obtain⟨us,q1,q2,q3⟩:=ML r' h1
  obtain⟨_,_,rfl,rfl,u,_,rfl,ru,rfl⟩:=rw'
  exact⟨u::us,⟨⟨t,rfl,ht⟩,q1⟩,Reps.cons ru q2,by simp[q3]⟩
theorem PV.mono{K:xFg}{G H:Hp}(e:Same G H):∀{vs:List V} {ks:List Str} {us:List V},PV K G vs ks us->PV K H vs ks us
 |[],[],[],_=>trivial
 |_::_,_::_,_::_,⟨⟨t,e1,e2⟩,h⟩=>⟨⟨t,e1,Same.sqT e e2⟩,PV.mono e h⟩
 |[],_::_,_,h=>h.elim
 |[],[],_::_,h=>h.elim
 |_::_,[],_,h=>h.elim
 |_::_,_::_,[],h=>h.elim
section
variable{X:Cx}{E:XK}{a b:Expr}{fa fb:DSt->R D}{pos:Pos}
theorem MM{p:Pos}(hc:X.calm=true)(hm:X.mg "dict"=none)(ha:DA X E [a] (aB fa aE))(hg:Gl X "dict":=by rfl)(he:starEach [a] X.env=(false,eval a X.env)::starEach [] X.env:=by rfl)(hpl:(backTo pos (starEach [] X.env)).any (·.1)=false:=by rfl) :
  DE X E (.Call (.Name "dict" p) [a] [] pos) (bD jK (aB fa aE)):=
 EH (zbh hc) (fun G H ds vs Q e r q=>by
  unfold jK at q
  split at q
  ·rename_i ps
   obtain⟨v,_,rfl,⟨l,us,rfl,hl,hr⟩,rfl⟩:=r
   split at q
   ·rename_i ks ds hp
    cases hn:iG ks with
    |false=>rw[hn] at q;exact(show False from q).elim
    |true=>
     rw[hn] at q
     obtain⟨ws,p1,p2,p3⟩:=ML hr hp
     refine⟨l,us,ks,ws,rfl,e.seq hl,p1.mono e,hn,fun z hz=>?_⟩
     have sp:=Step.pub (o:=.dK ((ks.map Sum.inr).zip ws)) e hz
     exact(show aL X.K X.mg Q G H (.dct (ks.map Sum.inr) ds) from q) _ _ _ sp ⟨z,ws,rfl,.inl aV,by simpa using p3,p2.mono sp.g⟩
   ·exact(show False from q).elim
  ·exact(show False from q).elim) hm ha (by rfl) hg (by decide) (by decide) he hpl
end
def mP(k:Nat)(fc:DSt->R Bool)(g:DSt->R aD):List D->DSt->R aD
 |[],U=>g U
 |d::ds,U=>bif imm d then (fc (U.set k (some d))).bind fun b=>bif b then .ok (.rt .non) else mP k fc g ds (U.set k (some d)) else .bad
def uP(own:List Nat)(x k:Nat)(fi:DSt->R (List D))(fc:DSt->R Bool)(g:DSt->R aD):DSt->R aD:=fun U=>(fi (mask own (U.set x none))).bind fun ds=>mP k fc g ds U
section
variable{X:Cx}{E:XK}{own own' ol:List Nat}{x:Nat}{aK:List Stmt}{g:DSt->R aD}{pos:Pos}
theorem zbj(k:Nat){iter c:Expr}{tg:Expr}{fi:DSt->R (List D)}{fc:DSt->R Bool}{ip rp np:Pos}{jn:Nat}(L:XL X)(hcm:X.calm=true)(hi:DI X E tg iter fi)(hg:DG X tg [k] bK)(hc:DT X E c fc)(h:oO X E own own' ol x aK g)
  (ho:(own.contains k||k==x)=false:=by rfl) (hs:∀x,foldedSetIterable iter X.env x=pure x:=by intro _;rfl) :
  oO X E own own' ol x (.For tg iter [.If c [.Return (some (.Constant .none jn np)) rp] [] ip] [] pos::aK) (uP own x k fi fc g):=fun j G0=>
 cB.mono' (cX (sO L.own hcm hi hg (gX (lM hc (gX (lL BX)) nI)) hs) (h j G0)) fun Dn U H ⟨G,Ud,ok,s0,q⟩=>by
 rw[xde] at ho
 have hkx:k≠x:=by simpa using ho.2
 have hko:k∉own:=oA ho.1
 refine⟨G,mask own (Ud.set x none),ok.ok.masked,q.of_bind.mono (fun ds _ z J G1 H1 s1 it=>?_) fun _ z=>z.step s0⟩
 refine⟨fun n m U' H'=>m=ds.length-n/\n<=ds.length/\∃G' Ud',gO X.K X.mg X.H₀ own x j Ud' U' G' H'/\Same G1 G'/\Step G0 X.H₀ G' H'/\RW (mP k fc g (ds.drop n) Ud') (bG X.K X.mg G0 X.H₀ own' ol Dn G1) (bA X.K X.mg E G0 X.H₀),
  ⟨ds.length,by simp,xbi _,G1,Ud,ok.step s1,Same.refl _,s0.trans s1,(show RW (mP k fc g ds Ud) _ _ from z).mono (fun _ _ z=>z.shift s1.g) fun _ z=>z⟩,?_⟩
 rintro n m U' H' ⟨rfl,hn,G',Ud',ok',e',s',w⟩
 by_cases hlt:n<ds.length
 ·right
  obtain⟨d,hd⟩:∃d,ds[n]? = some d:=⟨ds[n],by simp[hlt]⟩
  obtain⟨g1,g2⟩:=it.turn H' n d (e'.trans ok'.ok.ext) hd
  have hdrop:ds.drop n=d::ds.drop (n+1):=by
   rw[xb8 hlt]
   congr 1
   exact xas ((xa7 hlt).symm.trans hd)
  rw[hdrop] at w
  refine⟨g1,fun σ2 H2=>n+1<=ds.length/\∃G' Ud',gO X.K X.mg X.H₀ own x j Ud' σ2 G' H2/\Same G1 G'/\Step G0 X.H₀ G' H2/\RW (mP k fc g (ds.drop (n+1)) Ud') (bG X.K X.mg G0 X.H₀ own' ol Dn G1) (bA X.K X.mg E G0 X.H₀),
   fun σ2 H2 ⟨h1,h2⟩=>⟨ds.length-(n+1),by omega,rfl,h1,h2⟩,fun y H2 hy=>?_⟩
  obtain⟨G2,s2,r2⟩:=g2 y H2 hy G' e' ok'.ok.ext
  unfold mP at w
  refine⟨G2,d,s2.e,r2,RW.ok_of (a:=[d]) rfl fun ws rws=>?_⟩
  obtain⟨v,_,rfl,rv,hnil⟩:=rws
  cases hnil
  cases hm:imm d with
  |false=>rw[hm] at w;exact(show False from w).elim
  |true=>
   rw[hm] at w
   have ok2:=(ok'.step s2).set hko hkx rv
   have s02:=s'.trans s2
   have sp:=ok2.ok.pubStep s02
   refine⟨_,_,ok2.pub,(show RW ((fc (Ud'.set k (some d))).bind _) _ _ from w).of_bind.mono (fun b _ z G3 H3 s3=>?_) fun _ z=>z.step sp⟩
   have s4:=Step.heap ok2.ok.ext s3.h
   cases b with
   |true=>exact jU ((show bG X.K X.mg G0 X.H₀ own' ol Dn G1 (.rt .non) from z) .non _ _ (s02.trans s4) rfl)
   |false=>exact jT ⟨hlt,_,_,ok2.step s4,e'.trans (s2.g.trans s4.g),s02.trans s4,z⟩
 ·left
  have hn2:n=ds.length:=by omega
  subst hn2
  rw[xc5] at w
  refine⟨it.stop H' (e'.trans ok'.ok.ext),G',Ud',ok',s',?_⟩
  unfold mP at w
  exact(show RW (g Ud') _ _ from w).mono (fun _ _ z=>z.shift e') fun _ z=>z
end
end DL
end
section
set_option maxHeartbeats 2000000
namespace L2
open PyProof.Rows
section
variable{P:Program}{w:World}{A:Around}{E:Value->Shared->Prop}{s:Shared}
abbrev ZB(h:Heap)(z TI TO:Addr)(f:Value)(b:Bool):Prop:=h.get? z=some { cls:=.type "zip",data:=.fields #[f,.bool b,.bool false,.ref TI,.ref TO] }
theorem free_no{z TI TO T:Addr}{b:Bool}{o:Obj}{Q:Bool->Shared->Prop}(zz:ZB s.heap z TI TO (rawInt T) b)(ha:s.heap.get? T=some o)(q:∀g,ZB g z TI TO (rawInt T) true->Heap.SameBut z s.heap g->Q false { s with heap:=g }) :
  wpAny (model P w) A (Builtin.SmallTypes.ownedTupleIsFree (.ref z)) Q E s:=by
 unfold Builtin.SmallTypes.ownedTupleIsFree
 apply xaa
 refine wpAny_field zz rfl (x:=rawInt T) rfl ?_
 show wpAny _ _ (loadIfAlive (T:Int).toNat >>= _) _ _ _
 apply xaa
 rw[xch]
 refine PySem.W.kdx_alive ha ?_
 show wpAny _ _ (field (.ref z) 1 >>= _) _ _ _
 apply xaa
 refine wpAny_field zz rfl (x:=.bool b) rfl ?_
 cases b with
 |true=>
  exact xah (q s.heap zz (Heap.SameBut.refl _ _))
 |false=>
  show wpAny _ _ (setField (.ref z) 1 (.bool true) >>= _) _ _ _
  apply xaa
  exact wpAny_setField_rec zz (by simp) fun g z1 s1=>xah (q g z1 s1)
theorem zbk{z TI TO i1 i2 l1 l2 T:Addr}{k:Nat}{b:Bool}{o:Obj}{xs ys:Array Value}{x y:Value}{Q:Option Value->Shared->Prop}(D:ZipApart z TI TO i1 i2 l1 l2)(zz:ZB s.heap z TI TO (rawInt T) b)(ha:s.heap.get? T=some o)
  (ti:IsPair s.heap TI (.ref i1) (.ref i2)) (j1:s.heap.IsListIter i1 l1 k) (j2:s.heap.IsListIter i2 l2 k) (L1:s.heap.IsList l1 xs) (L2:s.heap.IsList l2 ys) (hx:xs[k]? = some x) (hy:ys[k]? = some y)
  (q : ∀ g, ZB g z TI TO (rawInt T) true -> g.IsListIter i1 l1 (k + 1) -> g.IsListIter i2 l2 (k + 1) -> IsPair g s.heap.objs.size x y -> g.objs.size = s.heap.objs.size + 1 ->
   (∀c o,c≠z->c≠i1->c≠i2->s.heap.get? c=some o->g.get? c=some o)->Q (some (.ref s.heap.objs.size)) { s with heap:=g }) :
  wpAny (model P w) A (pyNext (.ref z)) Q E s:=by
 have Tz:s.TypeIs (.ref z) "zip":=⟨_,zz,rfl⟩
 unfold pyNext
 apply xaa;apply wpAny_attempt
 refine wpAny_callSpecial?_slot (name:="__next__") Tz F.slot_zip_next ?_
 refine wpAny_call_entry F.slot_zip_next Tz F.entry_zip_next ?_ (F.args_zip_next_1 _)
 show wpAny _ _ (field (.ref z) 2 >>= _) _ _ _
 apply xaa
 refine wpAny_field zz rfl (x:=.bool false) rfl ?_
 show wpAny _ _ (field (.ref z) 3 >>= _) _ _ _
 apply xaa
 refine wpAny_field zz rfl (x:=.ref TI) rfl ?_
 apply xaa
 refine wpAny_seqItems ti rfl ?_
 show wpAny _ _ (Builtin.SmallTypes.ownedTupleIsFree (.ref z) >>= _) _ _ _
 apply xaa
 refine free_no zz ha fun g1 z1 s1=>?_
 simp only[xcf,if_false]
 apply xaa
 simp only[List.forIn_toArray,List.forIn_cons,List.forIn_nil]
 apply xaa;apply xaa;apply wpAny_holding
 show wpAny _ _ (Builtin.SmallTypes.nextOf (.ref i1) >>= _) _ _ _
 apply xaa
 refine wpAny_nextOf_list_item (j1.extBut s1.extBut D.i1z) (L1.extBut s1.extBut D.l1z) hx fun g2 m1 s2=>xah ?_
 refine xah ?_
 apply xaa;apply xaa;apply wpAny_holding
 show wpAny _ _ (Builtin.SmallTypes.nextOf (.ref i2) >>= _) _ _ _
 apply xaa
 have u2:∀c o,c≠z->c≠i1->s.heap.get? c=some o->g2.get? c=some o:=fun c o n1 n2 e=>s2.extBut _ _ n2 (s1.extBut _ _ n1 e)
 refine wpAny_nextOf_list_item (j2.at fun o e=>u2 _ o D.i2z D.i12.symm e) (L2.at fun o e=>u2 _ o D.l2z D.l2i1 e) hy fun g3 m2 s3=>xah ?_
 refine xah (xah ?_)
 show wpAny _ _ (newTuple [x,y] >>= _) _ _ _
 apply xaa
 refine wpAny_newTuple ?_
 have sz:g3.objs.size=s.heap.objs.size:=s3.1.trans (s2.1.trans s1.1)
 have u3:∀c o,c≠z->c≠i1->c≠i2->s.heap.get? c=some o->g3.get? c=some o:=fun c o n1 n2 n3 e=>s3.extBut _ _ n3 (u2 c o n1 n2 e)
 refine xah ⟨_,rfl,xah ?_⟩
 show Q (some (.ref g3.objs.size)) _
 have pp:IsPair (g3.push { cls:=.type "tuple",data:=.seq #[x,y] }) g3.objs.size x y:=xax _ rfl
 have wz:(g3.push { cls:=.type "tuple",data:=.seq #[x,y] }).objs.size=g3.objs.size+1:=xcj ..
 have zf:ZB (g3.push { cls:=.type "tuple",data:=.seq #[x,y] }) z TI TO (rawInt T) true:=xad _ (s3.extBut _ _ D.i2z.symm (s2.extBut _ _ D.i1z.symm z1))
 rw[sz] at pp wz
 rw[sz]
 exact q _ zf (m1.at fun o e=>xad _ (s3.extBut _ _ D.i12 e)) (m2.at fun o e=>xad _ e) pp wz fun c o n1 n2 n3 e=>xad _ (u3 c o n1 n2 n3 e)
theorem endB{z TI TO i1 i2 l1 l2 T:Addr}{k:Nat}{b:Bool}{o:Obj}{xs:Array Value}{Q:Option Value->Shared->Prop}(hh:A.handled=none)(D:ZipApart z TI TO i1 i2 l1 l2)(zz:ZB s.heap z TI TO (rawInt T) b)(ha:s.heap.get? T=some o)
  (ti:IsPair s.heap TI (.ref i1) (.ref i2)) (j1:s.heap.IsListIter i1 l1 k) (L1:s.heap.IsList l1 xs) (hx:xs[k]? = none)
  (q:∀g,(∀c o,c≠z->c≠i1->s.heap.get? c=some o->g.get? c=some o)->Q none { s with heap:=g }) :
  wpAny (model P w) A (pyNext (.ref z)) Q E s:=by
 have Tz:s.TypeIs (.ref z) "zip":=⟨_,zz,rfl⟩
 unfold pyNext
 apply xaa;apply wpAny_attempt
 refine wpAny_callSpecial?_slot (name:="__next__") Tz F.slot_zip_next ?_
 refine wpAny_call_entry F.slot_zip_next Tz F.entry_zip_next ?_ (F.args_zip_next_1 _)
 show wpAny _ _ (field (.ref z) 2 >>= _) _ _ _
 apply xaa
 refine wpAny_field zz rfl (x:=.bool false) rfl ?_
 show wpAny _ _ (field (.ref z) 3 >>= _) _ _ _
 apply xaa
 refine wpAny_field zz rfl (x:=.ref TI) rfl ?_
 apply xaa
 refine wpAny_seqItems ti rfl ?_
 show wpAny _ _ (Builtin.SmallTypes.ownedTupleIsFree (.ref z) >>= _) _ _ _
 apply xaa
 refine free_no zz ha fun g1 z1 s1=>?_
 simp only[xcf,if_false]
 apply xaa
 simp only[List.forIn_toArray,List.forIn_cons,List.forIn_nil]
 apply xaa;apply xaa;apply wpAny_holding
 show wpAny _ _ (Builtin.SmallTypes.nextOf (.ref i1) >>= _) _ _ _
 apply xaa
 refine wpAny_nextOf_list_end hh (j1.extBut s1.extBut D.i1z) (L1.extBut s1.extBut D.l1z) hx fun g2 e s2 he=>?_
 obtain⟨o,ho,hc⟩:=he
 apply xaa
 exact wpAny_isInstance (T:="StopIteration") (b:=true) ⟨o,ho,hc⟩ isSubtype_stop (xah (q _ fun c o n1 n2 e=>s2 _ _ n2 (s1.extBut _ _ n1 e)))
structure kE(h:Heap)(lo i:Nat)(xs ys:Array Value)(ts:List Addr):Prop where
 len:ts.length=i
 nd:ts.Nodup
 lo:∀t∈ts,lo<=t/\∃o,h.get? t=some o
 pr:∀(j:Nat) (t:Addr) (x y:Value),ts[j]? = some t->xs[j]? = some x->ys[j]? = some y->IsPair h t x y
theorem kE.next{h g:Heap}{lo i:Nat}{xs ys:Array Value}{ts:List Addr}{x y:Value}(G:kE h lo i xs ys ts)(hl:lo<=h.objs.size)(hx:xs[i]? = some x)(hy:ys[i]? = some y)(pp:IsPair g h.objs.size x y)(sz:g.objs.size=h.objs.size+1)
  (k:∀c o,lo<=c->h.get? c=some o->g.get? c=some o):kE g lo (i+1) xs ys (ts++[h.objs.size]):=by
 refine⟨by rw[xav,G.len];rfl,?_,fun t ht=>?_,fun j t u v hj hu hv=>?_⟩
 ·refine List.nodup_append.mpr ⟨G.nd,by simp,fun a ha b hb e=>?_⟩
  obtain⟨_,o,ho⟩:=G.lo a ha
  have z:=xai ho
  rw[e,xbc.mp hb] at z
  exact xbk _ z
 ·rcases xbf.mp ht with ht|ht
  ·obtain⟨h1,o,ho⟩:=G.lo t ht
   exact⟨h1,o,k t o h1 ho⟩
  ·rw[xbc.mp ht];exact⟨hl,_,pp⟩
 ·rcases Nat.lt_or_ge j ts.length with hlt|hge
  ·rw[xbh hlt] at hj
   exact k t _ (G.lo t (xbo hj)).1 (G.pr j t u v hj hu hv)
  ·rw[xb7 hge] at hj
   have hj0:j-ts.length=0:=by
    have:=(xam.mp hj).1
    simp at this;omega
   rw[hj0] at hj
   have:h.objs.size=t:=by simpa using hj
   subst this
   have:j=i:=by have:=G.len;omega
   subst this
   rw[hx] at hu;rw[hy] at hv
   cases hu;cases hv
   exact pp
theorem kE.keep{h g:Heap}{lo i:Nat}{xs ys:Array Value}{ts:List Addr}(G:kE h lo i xs ys ts)(k:∀c o,lo<=c->h.get? c=some o->g.get? c=some o):kE g lo i xs ys ts:=
 ⟨G.len,G.nd,fun t ht=>⟨(G.lo t ht).1,let⟨_,o,ho⟩:=G.lo t ht;⟨o,k t o (G.lo t ht).1 ho⟩⟩,fun j t u v hj hu hv=>k t _ (G.lo t (xbo hj)).1 (G.pr j t u v hj hu hv)⟩
def ZS(h:Heap)(z TI TO lo:Addr):Prop:=(IsZip h z TI TO .none/\∃a b,IsPair h TO a b)\/∃(T:Addr) (b:Bool) (o:Obj),ZB h z TI TO (rawInt T) b/\h.get? T=some o/\lo<=T
structure Low(lo S z TI TO i1 i2 l1 l2:Addr):Prop where
 D:ZipApart z TI TO i1 i2 l1 l2
 nS:S<lo
 nz:z<lo
 nTI:TI<lo
 nTO:TO<lo
 ni1:i1<lo
 ni2:i2<lo
 nl1:l1<lo
 nl2:l2<lo
 Sz:S≠z
 STI:S≠TI
 STO:S≠TO
 Si1:S≠i1
 Si2:S≠i2
 Sl1:S≠l1
 Sl2:S≠l2
theorem zbm{A:Around}{R:Result->Shared->Prop}{lo S z TI TO i1 i2 l1 l2:Addr}{xs ys:Array Value}(hA:A.in1.handled=none)(hz:xs.size<=sizeLine)(hn:xs.size=ys.size)(W:Low lo S z TI TO i1 i2 l1 l2) :
  ∀(k i:Nat) (s:Shared) (ts:List Addr) (c:Nat),xs.size-i=k->i<=xs.size->lo<=s.heap.objs.size->ZS s.heap z TI TO lo->IsPair s.heap TI (.ref i1) (.ref i2)->s.heap.IsListIter i1 l1 i->s.heap.IsListIter i2 l2 i->s.heap.IsList l1 xs->s.heap.IsList l2 ys->
   s.heap.get? S=some (seqObj "list" (ts.map Value.ref).toArray c)->kE s.heap lo i xs ys ts->
   (∀h' c' ts',h'.get? S=some (seqObj "list" (ts'.map Value.ref).toArray c')->kE h' lo xs.size xs ys ts'->(∀b o,b≠S->b≠z->b≠TO->b≠i1->b≠i2->s.heap.get? b=some o->h'.get? b=some o)->R (.ok (.ret .none)) { s with heap:=h' })->
   codeAny (model P w) A (.builtin "list.extend.loop" ⟨[.ref S,.ref z,.none],[]⟩) R s:=by
 intro k
 induction k with
 |zero=>
  intro i s ts c hk hi hlo Z ti j1 j2 L1 L2 hS G hR
  have hin:i=xs.size:=by omega
  subst hin
  refine codeAny_builtin F.entry_extend_loop ?_
  rw[Around.under_plainId F.plain_extend_loop _]
  show wpAny _ A.in1 (pyNext (.ref z) >>= _) _ _ s
  apply xaa
  have fin:∀g,(∀c o,c≠z->c≠TO->c≠i1->c≠i2->s.heap.get? c=some o->g.get? c=some o)->R (.ok (.ret .none)) { s with heap:=g }:=fun g kg=>
   hR g c ts (kg _ _ W.Sz W.STO W.Si1 W.Si2 hS) (G.keep fun c o hc e=>kg c o (xa6 (xae W.nz hc)) (xa6 (xae W.nTO hc)) (xa6 (xae W.ni1 hc)) (xa6 (xae W.ni2 hc)) e) fun b o _ n2 n3 n4 n5 e=>kg b o n2 n3 n4 n5 e
  rcases Z with⟨z1,a,b,z2⟩|⟨T,b,o,z1,z2,z3⟩
  ·refine wpAny_pyNext_zip_end hA W.D z1 ti z2 j1 j2 L1 L2 (.inl (by simp)) fun g kg=>xah (fin g kg)
  ·refine endB hA W.D z1 z2 ti j1 L1 (by simp) fun g kg=>xah (fin g (fun c o n1 _ n3 _ e=>kg c o n1 n3 e))
 |succ k ih=>
  intro i s ts c hk hi hlo Z ti j1 j2 L1 L2 hS G hR
  have hlt:i<xs.size:=by omega
  have hx:xs[i]? = some xs[i]:=xct hlt
  have hy:ys[i]? = some (ys[i]'(by omega)):=xct (by omega)
  refine codeAny_builtin F.entry_extend_loop ?_
  rw[Around.under_plainId F.plain_extend_loop _]
  show wpAny _ A.in1 (pyNext (.ref z) >>= _) _ _ s
  apply xaa
  have go:∀g,(∃(T:Addr) (b:Bool),ZB g z TI TO (rawInt T) b/\(∃o,g.get? T=some o)/\lo<=T)->g.IsListIter i1 l1 (i+1)->g.IsListIter i2 l2 (i+1)->IsPair g s.heap.objs.size xs[i] (ys[i]'(by omega))->g.objs.size=s.heap.objs.size+1->
    (∀c o,c≠z->c≠TO->c≠i1->c≠i2->s.heap.get? c=some o->g.get? c=some o)->
    wpAny (model P w) A.in1 (do
     Builtin.List.listUpdate (.ref S) fun x_1=>x_1.push (.ref s.heap.objs.size)
     again (Code.builtin "list.extend.loop" { pos:=[.ref S,.ref z,.none] })) (fun fin s'=>match fin with
      |.done f=>R (.ok f) s'
      |.again c'=>c'.quiet=true/\codeAny (model P w) A c' R s') (fun e s'=>R (.error e) s') { s with heap:=g }:=by
   intro g ⟨T,b,z1,⟨o,z2⟩,z3⟩ m1 m2 pp sg kg
   have hS1:g.get? S=some (seqObj "list" (ts.map Value.ref).toArray c):=kg _ _ W.Sz W.STO W.Si1 W.Si2 hS
   have kl:∀c o,lo<=c->s.heap.get? c=some o->g.get? c=some o:=fun c o hc e=>kg c o (xa6 (xae W.nz hc)) (xa6 (xae W.nTO hc)) (xa6 (xae W.ni1 hc)) (xa6 (xae W.ni2 hc)) e
   have G1:=G.next hlo hx hy pp sg kl
   have tl:=G.len
   apply xaa
   refine listUpdate_at hS1 rfl ?_ (by simp;omega) (by simp;omega)
   obtain⟨c2,hS2⟩:∃c2,(g.update S (Obj.mapSeq fun x_1=>x_1.push (.ref s.heap.objs.size))).get? S=some (seqObj "list" ((ts++[s.heap.objs.size]).map Value.ref).toArray c2):=by
    rw[show ((ts++[s.heap.objs.size]).map Value.ref).toArray=((ts.map Value.ref).toArray).push (.ref s.heap.objs.size) from by simp]
    exact⟨_,get?_update_seq hS1 (fun x_1=>x_1.push (.ref s.heap.objs.size))⟩
   have sb:Heap.SameBut S g (g.update S (Obj.mapSeq fun x_1=>x_1.push (.ref s.heap.objs.size))):=.update ..
   have ku:∀c o,c≠S->g.get? c=some o->(g.update S (Obj.mapSeq fun x_1=>x_1.push (.ref s.heap.objs.size))).get? c=some o:=fun c o n e=>(sb.2 c n).trans e
   refine xah ⟨plainId_quiet F.plain_extend_loop _,?_⟩
   refine ih (i+1) _ (ts++[s.heap.objs.size]) c2 (by omega) hlt ?_ (.inr ⟨T,b,o,ku _ _ W.Sz.symm z1,ku _ _ (xa6 (xae W.nS z3)) z2,z3⟩) (ku _ _ W.STI.symm (kg _ _ W.D.TIz W.D.TITO W.D.TIi1 W.D.TIi2 ti)) (m1.at fun o e=>ku _ o W.Si1.symm e) (m2.at fun o e=>ku _ o W.Si2.symm e)
    (L1.at fun o e=>ku _ o W.Sl1.symm (kg _ o W.D.l1z W.D.l1TO W.D.l1i1 W.D.l1i2 e)) (L2.at fun o e=>ku _ o W.Sl2.symm (kg _ o W.D.l2z W.D.l2TO W.D.l2i1 W.D.l2i2 e)) hS2 (G1.keep fun c o hc e=>ku c o (xa6 (xae W.nS hc)) e) fun h' c' ts' q1 q2 q3=>hR h' c' ts' q1 q2 fun b o n1 n2 n3 n4 n5 e=>q3 b o n1 n2 n3 n4 n5 (ku b o n1 (kg b o n2 n3 n4 n5 e))
   show lo<=(g.update S _).objs.size
   rw[sb.1,sg]
   exact Nat.le_succ_of_le hlo
  rcases Z with⟨z1,a,b,z2⟩|⟨T,b,o,z1,z2,z3⟩
  ·refine wpAny_pyNext_zip_item W.D z1 ti z2 j1 j2 L1 L2 hx hy fun g z3 _ m1 m2 pp sg kg=>?_
   exact go g ⟨s.heap.objs.size,false,z3,⟨_,pp⟩,hlo⟩ m1 m2 pp sg kg
  ·refine zbk W.D z1 z2 ti j1 j2 L1 L2 hx hy fun g z4 m1 m2 pp sg kg=>?_
   exact go g ⟨T,true,z4,⟨o,kg _ _ (xa6 (xae W.nz z3)) (xa6 (xae W.ni1 z3)) (xa6 (xae W.ni2 z3)) z2⟩,z3⟩ m1 m2 pp sg fun c o n1 _ n3 n4 e=>kg c o n1 n3 n4 e
theorem zbn:typeLookup (.type "zip") "__len__"=pure none:=am_miss_of_fast (by decide +kernel)
theorem zbo:typeLookup (.type "zip") "__length_hint__"=pure none:=am_miss_of_fast (by decide +kernel)
theorem zbp{z:Addr}{Q:Bool->Shared->Prop}(hT:s.TypeIs (.ref z) "zip")(h:Q true s):wpAny (model P w) A (Builtin.List.listLengthHint (.ref z)) Q E s:=by
 unfold Builtin.List.listLengthHint
 refine xaa (wpAny_specialOf hT zbn ?_)
 refine xaa (wpAny_specialOf hT zbo ?_)
 exact xah h
theorem zbq{z TI TO i1 i2 l1 l2:Addr}{xs ys:Array Value}{a b:Value}{Q:Value->Shared->Prop}(hA:A.handled=none)(hz:xs.size<=sizeLine)(hn:xs.size=ys.size)(D:ZipApart z TI TO i1 i2 l1 l2)(zz:IsZip s.heap z TI TO .none)(ti:IsPair s.heap TI (.ref i1) (.ref i2))(to:IsPair s.heap TO a b)
  (j1:s.heap.IsListIter i1 l1 0) (j2:s.heap.IsListIter i2 l2 0) (L1:s.heap.IsList l1 xs) (L2:s.heap.IsList l2 ys)
  (q:∀h' c ts,h'.get? s.heap.objs.size=some (seqObj "list" (ts.map Value.ref).toArray c)->kE h' (s.heap.objs.size+1) xs.size xs ys ts->(∀b o,b≠z->b≠TO->b≠i1->b≠i2->s.heap.get? b=some o->h'.get? b=some o)->Q (.ref s.heap.objs.size) { s with heap:=h' }) :
  wpAny (model P w) A (call (.type "list") [.ref z]) Q E s:=by
 refine callType_codes (Q₁:=fun obj s₁=>obj=.ref s.heap.objs.size/\s₁={ s with heap:=s.heap.push { cls:=.type "list",data:=.seq #[] } }) F.called_list (by first|exact F.typeCall_list_1 _|kernel_rfl) F.entry_list_init (code_list_new _ ⟨rfl,rfl⟩) ?_
 rintro obj s₁ ⟨rfl,rfl⟩
 have hS:(s.heap.push { cls:=.type "list",data:=.seq #[] }).get? s.heap.objs.size=some (seqObj "list" #[] 0):=xax _ rfl
 have lz:z<s.heap.objs.size:=xai zz
 have kp:∀c o,s.heap.get? c=some o->(s.heap.push { cls:=.type "list",data:=.seq #[] }).get? c=some o:=fun c o e=>xad _ e
 refine⟨⟨_,hS,rfl⟩,F.args_list_init_2 _ _,?_⟩
 show wpAny _ _ (Builtin.List.listItems (.ref s.heap.objs.size) >>= _) _ _ _
 apply xaa
 unfold Builtin.List.listItems
 apply xaa
 refine wpAny_seqItems hS rfl (xah ?_)
 apply xaa
 refine listUpdate_at hS rfl ?_ (by decide) (by decide)
 obtain⟨c1,hS1⟩:∃c1,((s.heap.push { cls:=.type "list",data:=.seq #[] }).update s.heap.objs.size (Obj.mapSeq fun x=>#[])).get? s.heap.objs.size=some (seqObj "list" #[] c1):=⟨_,get?_update_seq hS (fun x=>#[])⟩
 have sb1:Heap.SameBut s.heap.objs.size (s.heap.push { cls:=.type "list",data:=.seq #[] }) ((s.heap.push { cls:=.type "list",data:=.seq #[] }).update s.heap.objs.size (Obj.mapSeq fun x=>#[])):=.update ..
 have k1:∀c o,s.heap.get? c=some o->((s.heap.push { cls:=.type "list",data:=.seq #[] }).update s.heap.objs.size (Obj.mapSeq fun x=>#[])).get? c=some o:=fun c o e=>(sb1.2 c (xay (xai e))).trans (kp c o e)
 have z1:((s.heap.push { cls:=.type "list",data:=.seq #[] }).update s.heap.objs.size (Obj.mapSeq fun x=>#[])).objs.size=s.heap.objs.size+1:=sb1.1.trans (xcj ..)
 generalize (s.heap.push { cls:=.type "list",data:=.seq #[] }).update s.heap.objs.size (Obj.mapSeq fun x=>#[])=g1 at hS1 k1 z1
 apply xaa
 refine wpAny_letGo ?_
 show wpAny _ _ (Builtin.List.listExtendWith (.ref s.heap.objs.size) (.ref z) .none) _ _ _
 unfold Builtin.List.listExtendWith
 have Tz:({ s with heap:=g1 }:Shared).TypeIs (.ref z) "zip":=⟨_,k1 _ _ zz,rfl⟩
 refine xaa (wpAny_typeOf Tz ?_)
 have hne:¬(Builtin.List.listSameRef (.ref s.heap.objs.size) (.ref z)||(Value.type "zip":Value)==Value.type "list"||(Value.type "zip":Value)==Value.type "tuple")=true:=by
  have h0:(s.heap.objs.size==z)=false:=beq_eq_false_iff_ne.mpr (xa6 lz)
  rw[show Builtin.List.listSameRef (.ref s.heap.objs.size) (.ref z)=(s.heap.objs.size==z) from rfl,h0]
  decide
 rw[xal hne]
 apply xaa
 refine wpAny_pyIter_zip (k1 _ _ zz) ?_
 apply xaa;apply wpAny_holding
 refine zbp Tz ?_
 simp only[Bool.true_or,if_true]
 apply xaa;apply wpAny_rule
 apply xaa
 unfold Builtin.List.listTouch
 apply xaa
 refine listUpdate_at hS1 rfl ?_ (by decide) (by decide)
 obtain⟨c2,hS2⟩:∃c2,(g1.update s.heap.objs.size (Obj.mapSeq fun x=>x.push .none)).get? s.heap.objs.size=some (seqObj "list" (#[].push .none) c2):=⟨_,get?_update_seq hS1 (fun x=>x.push .none)⟩
 have sb2:Heap.SameBut s.heap.objs.size g1 (g1.update s.heap.objs.size (Obj.mapSeq fun x=>x.push .none)):=.update ..
 have k2:∀c o,s.heap.get? c=some o->(g1.update s.heap.objs.size (Obj.mapSeq fun x=>x.push .none)).get? c=some o:=fun c o e=>(sb2.2 c (xay (xai e))).trans (k1 c o e)
 have z2:=sb2.1.trans z1
 generalize g1.update s.heap.objs.size (Obj.mapSeq fun x=>x.push .none)=g2 at hS2 k2 z2
 refine listUpdate_at hS2 rfl ?_ (by decide) (by decide)
 obtain⟨c3,hS3⟩:∃c3,(g2.update s.heap.objs.size (Obj.mapSeq fun x=>x.pop)).get? s.heap.objs.size=some (seqObj "list" (([]:List Addr).map Value.ref).toArray c3):=⟨_,get?_update_seq hS2 (fun x=>x.pop)⟩
 have sb3:Heap.SameBut s.heap.objs.size g2 (g2.update s.heap.objs.size (Obj.mapSeq fun x=>x.pop)):=.update ..
 have k3:∀c o,s.heap.get? c=some o->(g2.update s.heap.objs.size (Obj.mapSeq fun x=>x.pop)).get? c=some o:=fun c o e=>(sb3.2 c (xay (xai e))).trans (k2 c o e)
 have z3:=sb3.1.trans z2
 generalize g2.update s.heap.objs.size (Obj.mapSeq fun x=>x.pop)=g3 at hS3 k3 z3
 refine xah ⟨plainId_quiet F.plain_extend_loop _,?_⟩
 obtain⟨o1,e1,_⟩:=id j1
 obtain⟨o2,e2,_⟩:=id j2
 obtain⟨o3,e3,_⟩:=id L1
 obtain⟨o4,e4,_⟩:=id L2
 have W:Low (s.heap.objs.size+1) s.heap.objs.size z TI TO i1 i2 l1 l2:=by
  have q1:=xai ti
  have q2:=xai to
  have q3:=xai e1
  have q4:=xai e2
  have q5:=xai e3
  have q6:=xai e4
  exact⟨D,xck _,xbz lz,xbz q1,xbz q2,xbz q3,xbz q4,xbz q5,xbz q6,xa6 lz,xa6 q1,xa6 q2,xa6 q3,xa6 q4,xa6 q5,xa6 q6⟩
 refine zbm (A:=A.in1) hA hz hn W xs.size 0 { s with heap:=g3 } [] c3 (by omega) (xbi _) (Nat.le_of_eq z3.symm) (.inl ⟨k3 _ _ zz,a,b,k3 _ _ to⟩) (k3 _ _ ti) (j1.at fun o e=>k3 _ o e) (j2.at fun o e=>k3 _ o e) (L1.at fun o e=>k3 _ o e) (L2.at fun o e=>k3 _ o e) hS3 ⟨rfl,xdk,fun t ht=>by (cases ht),fun j t x y hj=>by (cases hj)⟩ fun h' c' ts' r1 r2 r3=>?_
 exact⟨rfl,q h' c' ts' r1 r2 fun b o n2 n3 n4 n5 e=>r3 b o (xay (xai e)) n2 n3 n4 n5 (k3 b o e)⟩
end
section
variable{X:Cx}{pins:List (Addr×Obj)}{U:St}{H:Hp}{s:Shared}
theorem Inv.adopt{b:Addr}{u:HO}(I:Inv X pins U H s)(f:eS X pins H b)(new:c6 X.prog X.w (upd H b u) s.heap b u):Inv X pins U (upd H b u) s:=by
 have ne:∀c v,H c=some v->c≠b:=fun c v e z=>by rw[z,f.1] at e;cases e
 have up:∀c v,H c=some v->upd H b u c=some v:=fun c v e=>by rw[aG (ne c v e)];exact e
 refine I.step (g':=s.gens) (d':=s.drawn) (h':=s.heap) (t':=s.toks) (ch:=[b]) (fun c hc=>?_) (fun b o _ _ hc e _=>e) (fun b o _ _ hc e _=>⟨o.slots,e⟩) (fun c _ hc _ n=>?_) (fun b o hc e=>⟨o,e⟩) (fun _ _ e=>up _ _ e) (fun _ _ _ e=>up _ _ e) (fun c ps e=>⟨#[],by rw[up _ _ e];simp⟩) (fun m hm=>hm) (fun c v e=>?_) I.bare
 ·obtain rfl:=xbc.mp hc
  obtain⟨_,f1,_,f3,f4,f5⟩:=f
  exact⟨f3,f1,f4,f5⟩
 ·rw[aG (fun z=>hc (by rw[z];exact xbc.mpr rfl))];exact n
 ·by_cases z:c=b
  ·subst z
   rw[aV] at e;cases e
   exact new
  ·rw[aG z] at e
   exact(I.hok c v e).stay (fun _ _ _ q=>q) (fun d q=>up _ _ q) fun d xs q=>up _ _ q
inductive oV:List V->List V->List Addr->Hp->Hp->Prop
 |nil {H:Hp}:oV [] [] [] H H
 |cons {x y:V} {xs ys:List V} {t:Addr} {ts:List Addr} {H H':Hp} (h:H t=none) (r:oV xs ys ts (upd H t (.tup [x,y])) H'):oV (x::xs) (y::ys) (t::ts) H H'
theorem zbr{lo:Addr}:∀{xs ys:List V} {us vs:List Value} {ts:List Addr} {H:Hp},Inv X pins U H s->(∀t∈ts,eS X pins H t)->ts.Nodup->aP xs us->aP ys vs->ts.length=xs.length->ts.length=ys.length->
  (∀(j:Nat) (t:Addr) (x y:Value),ts[j]? = some t->us[j]? = some x->vs[j]? = some y->IsPair s.heap t x y)->∃H',oV xs ys ts H H'/\Inv X pins U H' s/\∀c,c∉ts->H' c=H c:=by
 intro xs
 induction xs with
 |nil=>
  intro ys us vs ts H I f nd ru rv l1 l2 p
  have:ts=[]:=xb1.mp l1
  subst this
  have:ys=[]:=xb1.mp l2.symm
  subst this
  exact⟨H,.nil,I,fun _ _=>rfl⟩
 |cons x xs ih=>
  intro ys us vs ts H I f nd ru rv l1 l2 p
  cases ts with
  |nil=>cases l1
  |cons t ts=>
   cases ys with
   |nil=>cases l2
   |cons y ys=>
    cases ru with
    |cons rx ru=>
     cases rv with
     |cons ry rv=>
      rename_i ux us uy vs
      obtain⟨n1,n2⟩:=xbv.mp nd
      have pt:IsPair s.heap t ux uy:=p 0 t ux uy rfl rfl rfl
      have ft:=f t xba
      have I1:Inv X pins U (upd H t (.tup [x,y])) s:=I.adopt ft ⟨by show 2<=sizeLine;decide,[ux,uy],.cons rx (.cons ry .nil),⟨_,pt,rfl,⟨0,rfl⟩,rfl⟩⟩
      have fs:∀c∈ts,eS X pins (upd H t (.tup [x,y])) c:=fun c hc=>by
       have fc:=f c (xat _ hc)
       exact⟨by rw[aG fun z=>n1 (by rw[<- z];exact hc)];exact fc.1,fc.2⟩
      obtain⟨H',h1,h2,h3⟩:=ih (H:=upd H t (.tup [x,y])) I1 fs n2 ru rv (Nat.succ.inj l1) (Nat.succ.inj l2) fun j t' a b e1 e2 e3=>p (j+1) t' a b e1 e2 e3
      refine⟨H',.cons ft.1 h1,h2,fun c hc=>?_⟩
      rw[h3 c fun z=>hc (xat _ z),aG fun z=>hc (by rw[z];exact xba)]
end
section
variable{X:Cx}
def tLZ(K:xFg)(ta:TA):TE:=fun U H Q=>ta U H fun vs H1=>∃a b xs ys,vs=[.ref a,.ref b]/\aW K H1 a xs/\aW K H1 b ys/\xs.length=ys.length/\∀ts H2 l,oV xs ys ts H1 H2->H2 l=none->Q (.ref l) (upd H2 l (.lst (ts.map V.ref)))
theorem zbt{a b:Expr}{ta:TA}{p q pos pos':Pos}{k:Nat}{E:XK}(C:DL.XC X E k)(hc:X.calm=true)(hg:Gl X "list")(hm:X.mg "list"=none)(hg':Gl X "zip")(hm':X.mg "zip"=none)(ha:PA X [a,b] ta)
  (hs:starEach [a,b] X.env=[(false,eval a X.env),(false,eval b X.env)]) (hs2:starEach [b] X.env=[(false,eval b X.env)])
  (he:starEach [.Call (.Name "zip" q) [a,b] [] pos'] X.env=[(false,eval (.Call (.Name "zip" q) [a,b] [] pos') X.env)]) :
  PE X (.Call (.Name "list" p) [.Call (.Name "zip" q) [a,b] [] pos'] [] pos) (tLZ X.K ta):=by
 intro pins s U H Q I h
 refine wpAny_Call_Name_kw (kQ I hg hm DL.bt_list ?_ (by decide) (by decide))
 refine PyProof.Rows.callWith_type1 ?_ (by rw[he];rfl) rfl
 rw[he]
 show wpAny _ _ (spliced ((false,eval (.Call (.Name "zip" q) [a,b] [] pos') X.env)::[])) _ _ s
 refine Calls.spliced_cons ?_
 refine Call_ (kQ I hg' hm' boot_zip (PyProof.Rows.callWith_type1 (aH (ha pos' pins s U H _ I h) fun us s1 ⟨vs,H1,I1,r1,q1⟩=>?_) (by rw[hs,hs2]) (by rw[hs2];rfl)))
 obtain⟨a,b,xs,ys,e,hx,hy,hl,q⟩:=q1
 subst e
 cases r1 with
 |cons r rr=>
  cases rr with
  |cons r' rr=>
   cases rr
   cases r
   cases r'
   obtain⟨its,rv,p1,z1⟩:=I1.list hx
   obtain⟨jts,rv',p2,z2⟩:=I1.list hy
   have l1:a<s1.heap.objs.size:=by obtain⟨o,e,_⟩:=p1.isList;exact xai e
   have l2:b<s1.heap.objs.size:=by obtain⟨o,e,_⟩:=p2.isList;exact xai e
   refine call_zip_2 p1.isList p2.isList fun g zz zti zto zi1 zi2 sg kg=>?_
   refine Calls.spliced_nil ?_
   have n1:=rv.length
   have n2:=rv'.length
   refine zbq (xs:=its.toArray) (ys:=jts.toArray) (I.ok.hd hc) (by simp only[xan];omega) (by simp only[xan];omega) (zipApart_new l1 l2) zz zti zto zi1 zi2 (p1.isList.at fun o e=>kg _ o e) (p2.isList.at fun o e=>kg _ o e) fun h' c ts hS G k=>?_
   have hz:({ s1 with heap:=g }:Shared).heap.objs.size=s1.heap.objs.size+5:=sg
   have kh:∀c o,s1.heap.get? c=some o->h'.get? c=some o:=fun c o e=>by
    have lc:=xai e
    exact k c o (xay (xae lc (xcm _ _))) (xay (xae lc (xcm _ _))) (xay lc) (xay (xae lc (xcm _ _))) (kg c o e)
   have I2:Inv X pins U H1 { s1 with heap:=h',toks:=s1.toks }:=I1.kept (t':=s1.toks) kh
   have big:∀c,g.objs.size<=c->eS X pins H1 c:=fun c hc=>by
    have hc':s1.heap.objs.size<=c:=xa1 (by rw[sg];exact xcm _ _) hc
    exact I1.fpOk hc' (I1.hok.fresh hc')
   have lt:ts.length=its.length:=by have:=G.len;simpa using this
   obtain⟨H2,y1,y2,y3⟩:=zbr (lo:=g.objs.size) (us:=its) (vs:=jts) I2 (fun t ht=>big t (Nat.le_of_succ_le (G.lo t ht).1)) G.nd rv rv' (by omega) (by omega) fun j t x y e1 e2 e3=>G.pr j t x y e1 (by simpa using e2) (by simpa using e3)
   have nl:g.objs.size∉ts:=fun z=>xbk _ (G.lo _ z).1
   have hl2:H2 g.objs.size=none:=by rw[y3 _ nl];exact(big _ (xap _)).1
   have fl:eS X pins H2 g.objs.size:=⟨hl2,(big _ (xap _)).2⟩
   have vl:∀ts:List Addr,aP (ts.map V.ref) (ts.map Value.ref):=fun ts=>by
    induction ts with
    |nil=>exact .nil
    |cons t ts ih=>exact .cons rfl ih
   have I3:=y2.adopt (b:=g.objs.size) (u:=.lst (ts.map V.ref)) fl ⟨by rw[xak];omega,_,c,vl ts,hS⟩
   exact⟨.ref g.objs.size,_,I3,rfl,q ts H2 _ y1 hl2⟩
end
end L2
namespace DL
open L2 PyProof.Rows
section
variable{X:Cx}{E:XK}{K:xFg}{mg:Str->Option Value}
theorem zbu:∀{vs us:List V} {ts:List Addr} {H H2:Hp},oV vs us ts H H2->∀{G:Hp} {xs ys:List D},Same G H->Reps K mg G xs vs->Reps K mg G ys us->∃G2,Step G H G2 H2/\Reps K mg G2 (lE xs ys) (ts.map V.ref):=by
 intro vs us ts H H2 L
 induction L with
 |nil=>
  intro G xs ys e r r'
  refine⟨G,Step.refl e,?_⟩
  have:xs=[]:=xb1.mp (by rw[r.length];rfl)
  subst this
  exact(show Reps K mg G [] [] from rfl)
 | @cons x y vs us t ts H H' h _ ih=>
  intro G xs ys e r r'
  cases xs with
  |nil=>cases r
  |cons dx xs=>
   cases ys with
   |nil=>cases r'
   |cons dy ys=>
    obtain⟨_,_,e1,rx,r⟩:=r
    cases e1
    obtain⟨_,_,e2,ry,r'⟩:=r'
    cases e2
    have st:=Step.pub (o:=.tup [x,y]) e h
    obtain⟨G2,s2,r2⟩:=ih st.e (r.mono st.g) (r'.mono st.g)
    refine⟨G2,st.trans s2,.ref t,ts.map V.ref,rfl,⟨t,[x,y],rfl,Same.sqT s2.g (bJ.of aV),.cons (rx.mono (st.g.trans s2.g)) (.cons (ry.mono (st.g.trans s2.g)) rfl)⟩,r2⟩
def MP:List D->R (List D)
 |[.lst xs,.lst ys]=>bif xs.length==ys.length then .ok (lE xs ys) else .bad
 |_=>.bad
def uQ(fs:DSt->R (List D)):DSt->R (List D):=fun U=>(fs U).bind MP
theorem zbv{a b:Expr}{fs:DSt->R (List D)}{p q pos pos':Pos}{k:Nat}(C:XC X E k)(hm:X.mg "list"=none)(hm':X.mg "zip"=none)(ha:DA X E [a,b] fs)(hg:Gl X "list":=by rfl)(hg':Gl X "zip":=by rfl)
  (hs:starEach [a,b] X.env=[(false,eval a X.env),(false,eval b X.env)]:=by rfl) (hs2:starEach [b] X.env=[(false,eval b X.env)]:=by rfl)
  (he:starEach [.Call (.Name "zip" q) [a,b] [] pos'] X.env=[(false,eval (.Call (.Name "zip" q) [a,b] [] pos') X.env)]:=by rfl) :
  DF X E (.Call (.Name "list" p) [.Call (.Name "zip" q) [a,b] [] pos'] [] pos) (uQ fs):=by
 refine PE.mono' (zbt C C.calm hg hm hg' hm' ha hs hs2 he) fun U H Q ⟨G,Ud,ok,q⟩=>?_
 refine⟨G,Ud,ok,q.of_bind.mono (fun ds hd z vs G' H' s r=>?_) fun _ z=>z⟩
 clear hd
 unfold MP at z
 split at z
 ·rename_i xs ys
  obtain⟨v,r1,rfl,⟨a,as,rfl,h1,k1⟩,r2⟩:=r
  obtain⟨v',r3,rfl,⟨b,bs,rfl,h2,k2⟩,r4⟩:=r2
  cases r4
  cases hl:(xs.length==ys.length) with
  |false=>rw[hl] at z;exact(show False from z).elim
  |true=>
   rw[hl] at z
   have hl:xs.length=ys.length:=by simpa using hl
   refine⟨a,b,as,bs,rfl,s.e.seq h1,s.e.seq h2,by rw[<- k1.length,<- k2.length];exact hl,fun ts H2 l L hn=>?_⟩
   obtain⟨G2,s2,r2⟩:=zbu L s.e k1 k2
   have hid:=Step.hid (o:=.lst (ts.map V.ref)) s2.e hn
   exact(show jY X.K X.mg Q G H (lE xs ys) from z) l (ts.map V.ref) G2 _ ((s.trans s2).trans hid) ((s.trans s2).h.free hn) aV (s2.e.free hn) r2
 ·exact(show False from z).elim
end
end DL
end
namespace Sk
open PySem
def top(i:Nat):Stmt:=PySem.Challenge.pw_chalkline_k59_sums_drawn.main.body.getD i (.Pass ⟨0,0,0,0⟩)
abbrev sCls:Stmt:=top 5
abbrev sDrawn:Stmt:=top 12
end Sk
namespace Sk
open L2 PyProof.Rows
abbrev zI:Stmt:=aN sCls 1
structure SK where
 e:Int
 n:Int
 c:Int
 t:Int
 pegs:Int
 lines:Int
 plan:List (Str×Int×Int)
 drawn:List (List Key×V)
def dP(sk:SK)(l d:Addr):List (Str×V):=[("east",.int sk.e),("north",.int sk.n),("corner",.int sk.c),("top",.int sk.t),("pegs",.int sk.pegs),("lines",.int sk.lines),("plan",.ref l),("drawn",.ref d)]
theorem MQ(sk:SK)(l d:Addr):(dP sk l d).lookup ("lines":Str)=some (.int sk.lines):=by rfl
theorem lF(sk:SK)(l d:Addr):(dP sk l d).lookup ("drawn":Str)=some (.ref d):=by rfl
theorem zJ(sk:SK)(l d:Addr):(dP sk l d).lookup ("plan":Str)=some (.ref l):=by rfl
theorem zbw(sk:SK)(l d:Addr)(z:Int):cF "lines" (.int z) (dP sk l d)=dP { sk with lines:=z } l d:=by rfl
abbrev deedD(x:Str×Int×Int):DL.D:=.tup [.str x.1,.int x.2.1,.int x.2.2]
abbrev keyK(w:Str)(a b:Int):List Key:=[.inr w,.inl a,.inl b]
variable{P:Program}{w:World}{K:xFg}{mg:Str->Option Value}{base:Heap}
structure SkAt(K:xFg)(mg:Str->Option Value)(C:Addr)(G H:Hp)(p l d:Addr)(sk:SK):Prop where
 hp:∃dx,H p=some (.ins C dx (dP sk l d))
 hl:∃vs,H l=some (.lst vs)/\DL.Reps K mg G (sk.plan.map deedD) vs
 hd:H d=some (.dT sk.drawn)
 gp:G p=none
 gl:G l=none
 gd:G d=none
 vi:∀kv∈sk.drawn,∃i,kv.2=.int i
def mLine(sk:SK)(a b:Int):Int×SK:=match bR sk.drawn (keyK "line" a b) with
 |some (.int r)=>(r,sk)
 |_=>(sk.lines,{ sk with lines:=sk.lines+1,plan:=sk.plan++[(("line":Str),a,b)],drawn:=L2.putK sk.drawn (keyK "line" a b) (.int sk.lines) })
structure StepO(G H G' H':Hp)(p l d:Addr):Prop where
 g:Same G G'
 e:Same G' H'
 h:∀b o,H b=some o->b≠p->b≠l->b≠d->H' b=some o
 c:∀a o,H a=some o->G a=none->G' a=none
structure rM(K:xFg)(mg:Str->Option Value)(C:Addr):Prop where
 cl:fC K C
 nL:fD K C "lines"
 nD:fD K C "drawn"
 nP:fD K C "plan"
 nG:fD K C "pegs"
def small(sk:SK):Prop:=sk.plan.length<=100000/\sk.drawn.length<=100000
def zbx(K:xFg)(mg:Str->Option Value)(C:Addr):Sp:=fun vs H Q _=>∃(G:Hp) (p l d:Addr) (sk:SK) (a b:Int),vs=[.ref p,.int a,.int b]/\Same G H/\SkAt K mg C G H p l d sk/\small sk/\
 ∀G' H',StepO G H G' H' p l d->SkAt K mg C G' H' p l d (mLine sk a b).2->Q (.int (mLine sk a b).1) H'
theorem MR:cI ["self","one","other","deed"] ["self","one","other"] (aZ zI):=⟨rfl,rfl,rfl,by decide +kernel,rfl,by decide +kernel,by decide +kernel⟩
theorem zby{f C:Addr}{fd:FuncData}{k:Nat}(F:bV K "line" "Sketch.line" zI f fd)(T:rM K mg C):cO P w K mg base (bT P w) (k+1) f fd ["self","one","other"] (zbx K mg C):=by
 refine F.okX MR (fun vs H Q E h=>?_) (fun cdv A outer s H vs Q E hr h=>?_)
 ·obtain⟨G,p,l,d,sk,a,b,rfl,_⟩:=h
  rfl
 ·obtain⟨G,p,l,d,sk,a,b,rfl,e,S,sm,q⟩:=h
  have hu:=C7 hr
  refine⟨_,cX (gF (i:=3) MR.nd rfl (Or.inl rfl) (nR (cN vX (cN (pv 1) (cN (pv 2) eL)))))
   (cX (lM (vZ (MA hu (pv 3) (gY (pv 0) rfl)))
    (cX (MB hu (gY (pv 0) rfl) (pv 3) (gY (pv 0) rfl) rfl)
    (cX (CI (pv 0) i0 CJ)
    (gX (jR (kT PySem.F.plainAttrs_list PySem.F.slot_list_append PySem.F.type_list_append lW (gY (pv 0) rfl) (cN (pv 3) eL)))))) nI)
   (gX (lL (zD hu (gY (pv 0) rfl) (pv 3) (fun _ _=>rfl))))),?_⟩
  refine⟨_,rfl,_,rfl,(by show 3<=sizeLine;decide),fun t ht=>?_⟩
  obtain⟨⟨dx,h1⟩,⟨vs,hl,hv⟩,hd,gp,gl,gd,vi⟩:=S
  have npt:p≠t:=bN h1 ht
  have nlt:l≠t:=bN hl ht
  have ndt:d≠t:=bN hd ht
  have npl:p≠l:=jP h1 hl (by intro z;cases z)
  have npd:p≠d:=jP h1 hd (by intro z;cases z)
  have nld:l≠d:=jP hl hd (by intro z;cases z)
  obtain⟨H1,eH⟩:∃H1,H1=upd H t (.tup [.str "line",.int a,.int b]):=⟨_,rfl⟩
  have ep:H1 p=some (.ins C dx (dP sk l d)):=by rw[eH,aG npt];exact h1
  have el:H1 l=some (.lst vs):=by rw[eH,aG nlt];exact hl
  have ed:H1 d=some (.dT sk.drawn):=by rw[eH,aG ndt];exact hd
  have et:H1 t=some (.tup ((keyK "line" a b).map kV)):=by rw[eH,aV];rfl
  have sp:DL.Step G H (upd G t (.tup [.str "line",.int a,.int b])) H1:=by rw[eH];exact DL.Step.pub e ht
  rw[show upd H t (.tup [V.str "line",V.int a,V.int b])=H1 from eH.symm] 
  refine⟨_,rfl,_,rfl,p,C,dx,_,_,rfl,ep,T.cl,T.nD,lF _ _ _,d,_,rfl,fL.t (k:=keyK "line" a b) ed et,_,rfl,?_⟩
  have g1:=fL.t (k:=keyK "line" a b) ed et
  cases ev:bR sk.drawn (keyK "line" a b) with
  |some v=>
   obtain⟨r,rfl⟩:∃r,v=.int r:=by
    unfold bR at ev
    obtain⟨kv,h2,rfl⟩:=xbr.mp ev
    exact vi kv (List.mem_of_find?_eq_some h2)
   refine jT ?_
   rw[ev] at g1
   refine⟨_,rfl,p,C,dx,_,_,rfl,ep,T.cl,T.nD,lF _ _ _,_,rfl,d,_,rfl,g1,?_⟩
   have em:mLine sk a b=(r,sk):=by unfold mLine;rw[ev]
   rw[em] at q
   refine q _ H1 ⟨sp.g,sp.e,fun b' o h _ _ _=>sp.h b' o h,sp.c⟩ ⟨⟨dx,ep⟩,⟨vs,el,hv.mono sp.g⟩,ed,sp.c p _ h1 gp,sp.c l _ hl gl,sp.c d _ hd gd,vi⟩
  |none=>
   refine jU ?_
   have em:mLine sk a b=(sk.lines,{ sk with lines:=sk.lines+1,plan:=sk.plan++[(("line":Str),a,b)],drawn:=L2.putK sk.drawn (keyK "line" a b) (.int sk.lines) }):=by unfold mLine;rw[ev]
   rw[em] at q
   obtain⟨sm1,sm2⟩:=sm
   refine⟨_,rfl,p,C,dx,_,_,rfl,ep,T.cl,T.nL,MQ _ _ _,_,rfl,p,C,dx,_,_,rfl,ep,T.cl,T.nD,lF _ _ _,_,rfl,d,_,rfl,oS.t (k:=keyK "line" a b) ed et (xa9 sm2 (by decide)),?_⟩
   have ep2:(upd H1 d (.dT (L2.putK sk.drawn (keyK "line" a b) (V.int sk.lines)))) p=some (.ins C dx (dP sk l d)):=by rw[aG npd];exact ep
   refine⟨_,rfl,p,C,dx,_,_,rfl,ep2,T.cl,T.nL,MQ _ _ _,_,_,rfl,rfl,dx,_,ep2,(by show 8<1000;decide),?_⟩
   obtain⟨H3,e3⟩:∃H3,H3=upd (upd H1 d (.dT (L2.putK sk.drawn (keyK "line" a b) (V.int sk.lines)))) p (.ins C dx (cF "lines" (V.int (sk.lines+1)) (dP sk l d))):=⟨_,rfl⟩
   rw[<- e3]
   have p3:H3 p=some (.ins C dx (dP { sk with lines:=sk.lines+1 } l d)):=by rw[e3,aV,zbw]
   have l3:H3 l=some (.lst vs):=by rw[e3,aG npl.symm,aG nld];exact el
   have d3:H3 d=some (.dT (L2.putK sk.drawn (keyK "line" a b) (V.int sk.lines))):=by rw[e3,aG npd.symm,aV]
   have t3:H3 t=some (.tup ((keyK "line" a b).map kV)):=by rw[e3,aG npt.symm,aG ndt.symm];exact et
   have vlen:vs.length<=100000:=by rw[<- hv.length,xak];exact sm1
   refine⟨_,rfl,p,C,dx,_,.ref l,rfl,p3,T.cl,T.nP,zJ _ _ _,.inl ⟨rfl,_,aW.of l3⟩,_,rfl,l,_,_,rfl,rfl,l3,(xa9 vlen (by decide)),?_⟩
   have p4:(upd H3 l (.lst (vs++[V.ref t]))) p=some (.ins C dx (dP { sk with lines:=sk.lines+1 } l d)):=by rw[aG npl];exact p3
   have d4:(upd H3 l (.lst (vs++[V.ref t]))) d=some (.dT (L2.putK sk.drawn (keyK "line" a b) (V.int sk.lines))):=by rw[aG nld.symm];exact d3
   have t4:(upd H3 l (.lst (vs++[V.ref t]))) t=some (.tup ((keyK "line" a b).map kV)):=by rw[aG nlt.symm];exact t3
   have g4:=fL.t (k:=keyK "line" a b) d4 t4
   rw[uL,xao rfl] at g4
   refine⟨_,rfl,p,C,dx,_,_,rfl,p4,T.cl,T.nD,lF _ _ _,_,rfl,d,_,rfl,g4,?_⟩
   have gp':=sp.c p _ h1 gp
   have gl':=sp.c l _ hl gl
   have gd':=sp.c d _ hd gd
   have far:∀b',b'≠p->b'≠l->b'≠d->(upd H3 l (.lst (vs++[V.ref t]))) b'=H1 b':=fun b' n1 n2 n3=>by rw[aG n2,e3,aG n1,aG n3]
   refine q _ _ ⟨sp.g,fun b' u h=>?_,fun b' o h n1 n2 n3=>by rw[far b' n1 n2 n3];exact sp.h b' o h,sp.c⟩ ⟨⟨dx,p4⟩,⟨vs++[V.ref t],aV,?_⟩,d4,gp',gl',gd',fun kv hkv=>?_⟩
   ·have n1:b'≠p:=fun z=>by rw[z,gp'] at h;cases h
    have n2:b'≠l:=fun z=>by rw[z,gl'] at h;cases h
    have n3:b'≠d:=fun z=>by rw[z,gd'] at h;cases h
    rw[far b' n1 n2 n3]
    exact sp.e b' u h
   ·rw[xa3]
    refine(hv.mono sp.g).append (DL.Reps.cons ⟨t,_,rfl,bJ.of aV,?_⟩ DL.Reps.nil)
    exact DL.Reps.cons rfl (DL.Reps.cons rfl (DL.Reps.cons rfl DL.Reps.nil))
   ·rw[L2.putK_new _ ev] at hkv
    rcases xbf.mp hkv with hkv|hkv
    ·exact vi kv hkv
    ·rw[xbc.mp hkv];exact⟨_,rfl⟩
end Sk
namespace Sk
open L2 PyProof.Rows
theorem StepO.refl{G H:Hp}{p l d:Addr}(e:Same G H):StepO G H G H p l d:=⟨Same.refl _,e,fun _ _ h _ _ _=>h,fun _ _ _ h=>h⟩
theorem StepO.trans{G H G1 H1 G2 H2:Hp}{p l d:Addr}{K:xFg}{mg:Str->Option Value}{C:Addr}{sk sk1:SK}(s0:SkAt K mg C G H p l d sk)(s1:SkAt K mg C G1 H1 p l d sk1)(a:StepO G H G1 H1 p l d)(b:StepO G1 H1 G2 H2 p l d)(g2p:G2 p=none)(g2l:G2 l=none)(g2d:G2 d=none):StepO G H G2 H2 p l d:=
 ⟨a.g.trans b.g, b.e, fun x o h n1 n2 n3 => b.h x o (a.h x o h n1 n2 n3) n1 n2 n3, fun x o h g => by
  by_cases n1:x=p
  ·rw[n1];exact g2p
  ·by_cases n2:x=l
   ·rw[n2];exact g2l
   ·by_cases n3:x=d
    ·rw[n3];exact g2d
    ·exact b.c x o (a.h x o h n1 n2 n3) (a.c x o h g)⟩
inductive W where
 |i (n:Int)
 |t (ns:List Int)
def uR(K:xFg)(G:Hp):W->V->Prop
 |.i n,v=>v=.int n
 |.t ns,v=>∃q,v=.ref q/\bJ K G q (ns.map V.int)
def StO(K:xFg)(G:Hp)(p:Addr)(env:List (Option W))(U:L2.St):Prop:=∃U',U=some (.ref p)::U'/\U'.length=env.length/\∀(j:Nat) (w:W),env[j]? = some (some w)->∃v,U'[j]? = some (some v)/\uR K G w v
theorem uR.mono{K:xFg}{G G':Hp}(e:Same G G'):∀{x:W} {v:V},uR K G x v->uR K G' x v
 |.i _,_,h=>h
 |.t _,_,⟨q,h1,h2⟩=>⟨q,h1,DL.Same.sqT e h2⟩
theorem StO.mono{K:xFg}{G G':Hp}{p:Addr}{env:List (Option W)}{U:L2.St}(h:StO K G p env U)(e:Same G G'):StO K G' p env U:=by
 obtain⟨U',h1,h2,h3⟩:=h
 exact⟨U',h1,h2,fun j w z=>by
  obtain⟨v,z1,z2⟩:=h3 j w z
  exact⟨v,z1,z2.mono e⟩⟩
theorem StO.self{K:xFg}{G:Hp}{p:Addr}{env:List (Option W)}{U:L2.St}(h:StO K G p env U):U[0]? = some (some (.ref p)):=by
 obtain⟨U',rfl,_⟩:=h
 rfl
theorem StO.set{K:xFg}{G:Hp}{p:Addr}{env:List (Option W)}{U:L2.St}{i:Nat}{r:Int}(h:StO K G p env U):StO K G p (env.set i (some (.i r))) (U.set (i+1) (some (.int r))):=by
 obtain⟨U',rfl,h2,h3⟩:=h
 refine⟨U'.set i (some (.int r)),rfl,by simp[h2],fun j w z=>?_⟩
 rw[List.getElem?_set] at z
 rw[List.getElem?_set]
 by_cases hij:i=j
 ·subst hij
  rw[xao rfl] at z ⊢
  by_cases hl:i<env.length
  ·rw[xao hl] at z
   cases z
   exact⟨_,xao (by omega),rfl⟩
  ·rw[xal hl] at z;cases z
 ·rw[xal hij] at z ⊢
  exact h3 j w z
abbrev FO:=List (Option W)->SK->Option (Int×SK)
abbrev FA:=List (Option W)->SK->Option (List Int×SK)
def room(c:Nat)(sk:SK):Prop:=sk.plan.length+c<=100000/\sk.drawn.length+c<=100000
def grow(c:Nat)(sk sk':SK):Prop:=sk'.plan.length<=sk.plan.length+c/\sk'.drawn.length<=sk.drawn.length+c
theorem grow.refl(sk:SK):grow 0 sk sk:=⟨xap _,xap _⟩
theorem grow.trans{a b:Nat}{s s1 s2:SK}(h:grow a s s1)(h':grow b s1 s2):grow (a+b) s s2:=⟨by have:=h.1;have:=h'.1;omega,by have:=h.2;have:=h'.2;omega⟩
theorem room.left{a b:Nat}{s:SK}(h:room (a+b) s):room a s:=⟨by have:=h.1;omega,by have:=h.2;omega⟩
theorem room.on{a b:Nat}{s s1:SK}(h:room (a+b) s)(g:grow a s s1):room b s1:=⟨by have:=h.1;have:=g.1;omega,by have:=h.2;have:=g.2;omega⟩
inductive Tg {α:Type} (K:xFg) (mg:Str->Option Value) (C:Addr) (c:Nat) (f:List (Option W)->SK->Option (α×SK)) (U:L2.St) (H:Hp) (Q:α->Hp->Addr->Hp->Prop):Prop
 |mk (G:Hp) (p l d:Addr) (env:List (Option W)) (sk:SK) (r:α) (sk':SK) (a:StO K G p env U) (b:Same G H) (s:SkAt K mg C G H p l d sk) (m:room c sk) (e:f env sk=some (r,sk')) (q:∀G' H',StepO G H G' H' p l d->SkAt K mg C G' H' p l d sk'->Q r G' p H'):Tg K mg C c f U H Q
def tO(K:xFg)(mg:Str->Option Value)(C:Addr)(c:Nat)(f:FO):TE:=fun U H Q=>Tg K mg C c f U H fun r _ _ H'=>Q (.int r) H'
def tOA(K:xFg)(mg:Str->Option Value)(C:Addr)(c:Nat)(f:FA):TA:=fun U H Q=>Tg K mg C c f U H fun rs _ _ H'=>Q (rs.map V.int) H'
structure PO(X:Cx)(C:Addr)(e:Expr)(c:Nat)(f:FO):Prop where
 pe:PE X e (tO X.K X.mg C c f)
 gr:∀env sk r sk',f env sk=some (r,sk')->grow c sk sk'
structure oW(X:Cx)(C:Addr)(es:List Expr)(c:Nat)(f:FA):Prop where
 pa:PA X es (tOA X.K X.mg C c f)
 gr:∀env sk r sk',f env sk=some (r,sk')->grow c sk sk'
section
variable{X:Cx}{E:XK}{C:Addr}{e:Expr}{es:List Expr}{c c1 c2 k:Nat}{f f1:FO}{f2:FA}{pos p0 apos:Pos}
theorem kF{n:Int}{j:Nat}:PO X C (.Constant (.int n) j pos) 0 (fun _ sk=>some (n,sk)):=
 ⟨DL.PE.mono' i0 fun U H Q ⟨G, p, l, d, env, sk, r, sk', e1, e2, S, _, e4, q⟩ => by
  cases e4
  exact q G H (StepO.refl e2) S,fun env sk r sk' h=>by cases h;exact grow.refl _⟩
theorem cS(i:Nat){x:Str}(hN:X.N[i+1]? = some x:=by rfl)(hv:cA X.env.scope x:=by first|exact Or.inl rfl|exact Or.inr (Or.inl rfl)|exact Or.inr (Or.inr rfl))(hd:(x==("__debug__":Str))=false:=by decide)
  (hcd:(x==("__classdict__":Str))=false:=by decide):PO X C (.Name x pos) 0 (fun env sk=>match env[i]? with|some (some (.i v))=>some (v,sk)|_=>none):=
 ⟨DL.PE.mono' (pv (i + 1) hN hv hd hcd) (fun U H Q ⟨G, p, l, d, env, sk, r, sk', e1, e2, S, _, e4, q⟩ => by
  split at e4
  ·rename_i v hv
   cases e4
   obtain⟨U',rfl,_,h3⟩:=e1
   obtain⟨v',z1,z2⟩:=h3 i _ hv
   cases z2
   exact⟨.int _,z1,q G H (StepO.refl e2) S⟩
  ·cases e4),(fun env sk r sk' h=>by
  split at h
  ·cases h;exact grow.refl _
  ·cases h)⟩
theorem fM(name:Str)(g:SK->Int)(T:fC X.K C)(na:fD X.K C name)(hf:∀sk l d,(dP sk l d).lookup name=some (.int (g sk))){x:Str}(hN:X.N[0]? = some x:=by rfl)(hv:cA X.env.scope x:=by first|exact Or.inl rfl|exact Or.inr (Or.inl rfl)|exact Or.inr (Or.inr rfl))(hd:(x==("__debug__":Str))=false:=by decide)
  (hcd:(x==("__classdict__":Str))=false:=by decide) (hb:attributeBase (.Name x p0) name X.env (eval (.Name x p0) X.env)=eval (.Name x p0) X.env:=by rfl):PO X C (.Attribute (.Name x p0) name pos) 0 (fun _ sk=>some (g sk,sk)):=
 ⟨DL.PE.mono' (gY (pv 0 hN hv hd hcd) hb) fun U H Q ⟨G, p, l, d, env, sk, r, sk', e1, e2, S, _, e4, q⟩ => by
  cases e4
  obtain⟨dx,hp⟩:=S.hp
  exact⟨.ref p,e1.self,p,C,dx,_,_,rfl,hp,T,na,hf _ _ _,q G H (StepO.refl e2) S⟩,fun env sk r sk' h=>by cases h;exact grow.refl _⟩
theorem bS:oW X C [] 0 (fun _ sk=>some ([],sk)):=
 ⟨fun pos0 pins s U H Q I h => eL pos0 pins s U H Q I (by
  obtain⟨G,p,l,d,env,sk,r,sk',e1,e2,S,_,e4,q⟩:=h
  cases e4
  exact q G H (StepO.refl e2) S),fun env sk r sk' h=>by cases h;exact grow.refl _⟩
theorem aT(h1:PO X C e c1 f1)(h2:oW X C es c2 f2)(hs:starEach (e::es) X.env=(false,eval e X.env)::starEach es X.env:=by rfl):oW X C (e::es) (c1+c2) (fun env sk=>(f1 env sk).bind fun a=>(f2 env a.2).bind fun b=>some (a.1::b.1,b.2)):=
 ⟨fun pos0 pins s U H Q I h => cN h1.pe h2.pa hs pos0 pins s U H Q I (by
  obtain⟨G,p,l,d,env,sk,r,sk',e1,e2,S,R,e4,q⟩:=h
  obtain⟨⟨a,s1⟩,ea,e4⟩:=xab.mp e4
  obtain⟨⟨b,s2⟩,eb,e4⟩:=xab.mp e4
  cases e4
  refine⟨G,p,l,d,env,sk,a,s1,e1,e2,S,R.left,ea,fun G1 H1 st1 S1=>?_⟩
  refine⟨G1,p,l,d,env,s1,b,s2,e1.mono st1.g,st1.e,S1,R.on (h1.gr _ _ _ _ ea),eb,fun G2 H2 st2 S2=>?_⟩
  exact q G2 H2 (st1.trans S S1 st2 S2.gp S2.gl S2.gd) S2),fun env sk r sk' h=>by
  obtain⟨⟨a,s1⟩,ea,h⟩:=xab.mp h
  obtain⟨⟨b,s2⟩,eb,h⟩:=xab.mp h
  cases h
  exact(h1.gr _ _ _ _ ea).trans (h2.gr _ _ _ _ eb)⟩
inductive SpO (K:xFg) (mg:Str->Option Value) (C:Addr) (c:Nat) (m:List Int->SK->Option (Int×SK)) (vs:List V) (H:Hp) (Q:VK):Prop
 |mk (G:Hp) (p l d:Addr) (sk:SK) (args:List Int) (r:Int) (sk':SK) (a:vs=.ref p::args.map V.int) (b:Same G H) (s:SkAt K mg C G H p l d sk) (o:room c sk) (e:m args sk=some (r,sk')) (q:∀G' H',StepO G H G' H' p l d->SkAt K mg C G' H' p l d sk'->Q (.int r) H'):SpO K mg C c m vs H Q
def spO(K:xFg)(mg:Str->Option Value)(C:Addr)(c:Nat)(m:List Int->SK->Option (Int×SK)):Sp:=fun vs H Q _=>SpO K mg C c m vs H Q
structure MO(P:Program)(w:World)(K:xFg)(mg:Str->Option Value)(base:Heap)(C:Addr)(k:Nat)(x:Str)(c:Nat)(m:List Int->SK->Option (Int×SK)):Prop where
 ex:∃(f:Addr) (fd:FuncData) (ps:List Str),cO P w K mg base (bT P w) k f fd ps (spO K mg C c m)/\cW K C x f/\bU K fd ps []
 gr:∀args sk r sk',m args sk=some (r,sk')->grow c sk sk'
 no:∀sk l d,(dP sk l d).lookup x=none
theorem MO.mono{P:Program}{w:World}{K:xFg}{mg:Str->Option Value}{base:Heap}{j k:Nat}{x:Str}{m:List Int->SK->Option (Int×SK)}(F:MO P w K mg base C j x c m)(h:j<=k):MO P w K mg base C k x c m:=by
 obtain⟨f,fd,ps,h1,h2⟩:=F.ex
 exact⟨⟨f,fd,ps,h1.mono h,h2⟩,F.gr,F.no⟩
theorem bZ{x y:Str}{m:List Int->SK->Option (Int×SK)}{pl:Sem Bool}(XC:DL.XC X E k)(T:fC X.K C)(M:MO X.prog X.w X.K X.mg X.base C k x c m)(ha:oW X C (e::es) c2 f2)(hN:X.N[0]? = some y:=by rfl)(hv:cA X.env.scope y:=by first|exact Or.inl rfl|exact Or.inr (Or.inl rfl)|exact Or.inr (Or.inr rfl))(hd:(y==("__debug__":Str))=false:=by decide)
  (hcd:(y==("__classdict__":Str))=false:=by decide) (hst:starEach (e::es) X.env=(false,eval e X.env)::starEach es X.env:=by rfl) (hpl:(backTo pos (starEach es X.env)).any (·.1)=false:=by rfl)
  (ht : eval (.Call (.Attribute (.Name y p0) x apos) (e :: es) [] pos) X.env = (do
   let ov<-eval (.Name y p0) X.env
   standAt apos.atName
   let (f,first)<-holding [ov] (getMethod ov x pl)
   callWith pos f first (backTo pos (starEach (e::es) X.env)) (backToKw pos (keywordEach [] X.env))):=by rfl) :
  PO X C (.Call (.Attribute (.Name y p0) x apos) (e::es) [] pos) (c2+c) (fun env sk=>(f2 env sk).bind fun a=>m a.1 a.2):=by
 obtain⟨f,fd,ps,h1,h2,h3⟩:=M.ex
 refine⟨DL.PE.mono' (wJ (pv 0 hN hv hd hcd) T h2 h1 XC.room h3 .nil XC.pass ha.pa hst hpl ht) (fun U H Q ⟨G,p,l,d,env,sk,r,sk',e1,e2,S,R,e4,q⟩=>?_),fun env sk r sk' h=>?_⟩
 ·obtain⟨⟨as,s1⟩,ea,e4⟩:=xab.mp e4
  obtain⟨dx,hp⟩:=S.hp
  refine⟨.ref p,e1.self,p,dx,_,rfl,hp,M.no _ _ _,G,p,l,d,env,sk,as,s1,e1,e2,S,R.left,ea,fun G1 H1 st1 S1=>?_⟩
  refine⟨G1,p,l,d,s1,as,r,sk',by rw[xb5],st1.e,S1,R.on (ha.gr _ _ _ _ ea),e4,fun G2 H2 st2 S2=>?_⟩
  exact q G2 H2 (st1.trans S S1 st2 S2.gp S2.gl S2.gd) S2
 ·obtain⟨⟨as,s1⟩,ea,h⟩:=xab.mp h
  exact(ha.gr _ _ _ _ ea).trans (M.gr _ _ _ _ h)
theorem eY{x y:Str}{m:List Int->SK->Option (Int×SK)}{pl:Sem Bool}(XC:DL.XC X E k)(T:fC X.K C)(M:MO X.prog X.w X.K X.mg X.base C k x c m)(hN:X.N[0]? = some y:=by rfl)(hv:cA X.env.scope y:=by first|exact Or.inl rfl|exact Or.inr (Or.inl rfl)|exact Or.inr (Or.inr rfl))(hd:(y==("__debug__":Str))=false:=by decide)
  (hcd:(y==("__classdict__":Str))=false:=by decide)
  (ht : eval (.Call (.Attribute (.Name y p0) x apos) [] [] pos) X.env = (do
   let ov<-eval (.Name y p0) X.env
   standAt apos.atName
   let (f,first)<-holding [ov] (getMethod ov x pl)
   callWith pos f first (backTo pos (starEach [] X.env)) (backToKw pos (keywordEach [] X.env))):=by rfl) :
  PO X C (.Call (.Attribute (.Name y p0) x apos) [] [] pos) c (fun env sk=>m [] sk):=by
 obtain⟨f,fd,ps,h1,h2,h3⟩:=M.ex
 refine⟨DL.PE.mono' (UC (pv 0 hN hv hd hcd) T h2 h1 XC.room h3 .nil XC.pass ht) (fun U H Q ⟨G,p,l,d,env,sk,r,sk',e1,e2,S,R,e4,q⟩=>?_),fun env sk r sk' h=>M.gr _ _ _ _ h⟩
 obtain⟨dx,hp⟩:=S.hp
 exact⟨.ref p,e1.self,p,dx,_,rfl,hp,M.no _ _ _,G,p,l,d,sk,[],r,sk',rfl,e2,S,R,e4,q⟩
end
end Sk
namespace Sk
open L2 PyProof.Rows
variable{P:Program}{w:World}{K:xFg}{mg:Str->Option Value}{base:Heap}
abbrev zK:Stmt:=aN sCls 2
theorem MT(sk:SK)(l d:Addr):(dP sk l d).lookup ("pegs":Str)=some (.int sk.pegs):=by rfl
theorem zbA(sk:SK)(l d:Addr)(z:Int):cF "pegs" (.int z) (dP sk l d)=dP { sk with pegs:=z } l d:=by rfl
def mPeg(sk:SK)(a b:Int):Int×SK:=match bR sk.drawn (keyK "peg" a b) with
 |some (.int r)=>(r,sk)
 |_=>(sk.pegs,{ sk with pegs:=sk.pegs+1,plan:=sk.plan++[(("peg":Str),a,b)],drawn:=L2.putK sk.drawn (keyK "peg" a b) (.int sk.pegs) })
def zbB(K:xFg)(mg:Str->Option Value)(C:Addr):Sp:=fun vs H Q _=>∃(G:Hp) (p l d:Addr) (sk:SK) (a b:Int),vs=[.ref p,.int a,.int b]/\Same G H/\SkAt K mg C G H p l d sk/\small sk/\
 ∀G' H',StepO G H G' H' p l d->SkAt K mg C G' H' p l d (mPeg sk a b).2->Q (.int (mPeg sk a b).1) H'
theorem MU:cI ["self","one","other","deed"] ["self","one","other"] (aZ zK):=⟨rfl,rfl,rfl,by decide +kernel,rfl,by decide +kernel,by decide +kernel⟩
theorem zbC{f C:Addr}{fd:FuncData}{k:Nat}(F:bV K "peg" "Sketch.peg" zK f fd)(T:rM K mg C):cO P w K mg base (bT P w) (k+1) f fd ["self","one","other"] (zbB K mg C):=by
 refine F.okX MU (fun vs H Q E h=>?_) (fun cdv A outer s H vs Q E hr h=>?_)
 ·obtain⟨G,p,l,d,sk,a,b,rfl,_⟩:=h
  rfl
 ·obtain⟨G,p,l,d,sk,a,b,rfl,e,S,sm,q⟩:=h
  have hu:=C7 hr
  refine⟨_,cX (gF (i:=3) MU.nd rfl (Or.inl rfl) (nR (cN vX (cN (pv 1) (cN (pv 2) eL)))))
   (cX (lM (vZ (MA hu (pv 3) (gY (pv 0) rfl)))
    (cX (MB hu (gY (pv 0) rfl) (pv 3) (gY (pv 0) rfl) rfl)
    (cX (CI (pv 0) i0 CJ)
    (gX (jR (kT PySem.F.plainAttrs_list PySem.F.slot_list_append PySem.F.type_list_append lW (gY (pv 0) rfl) (cN (pv 3) eL)))))) nI)
   (gX (lL (zD hu (gY (pv 0) rfl) (pv 3) (fun _ _=>rfl))))),?_⟩
  refine⟨_,rfl,_,rfl,(by show 3<=sizeLine;decide),fun t ht=>?_⟩
  obtain⟨⟨dx,h1⟩,⟨vs,hl,hv⟩,hd,gp,gl,gd,vi⟩:=S
  have npt:p≠t:=bN h1 ht
  have nlt:l≠t:=bN hl ht
  have ndt:d≠t:=bN hd ht
  have npl:p≠l:=jP h1 hl (by intro z;cases z)
  have npd:p≠d:=jP h1 hd (by intro z;cases z)
  have nld:l≠d:=jP hl hd (by intro z;cases z)
  obtain⟨H1,eH⟩:∃H1,H1=upd H t (.tup [.str "peg",.int a,.int b]):=⟨_,rfl⟩
  have ep:H1 p=some (.ins C dx (dP sk l d)):=by rw[eH,aG npt];exact h1
  have el:H1 l=some (.lst vs):=by rw[eH,aG nlt];exact hl
  have ed:H1 d=some (.dT sk.drawn):=by rw[eH,aG ndt];exact hd
  have et:H1 t=some (.tup ((keyK "peg" a b).map kV)):=by rw[eH,aV];rfl
  have sp:DL.Step G H (upd G t (.tup [.str "peg",.int a,.int b])) H1:=by rw[eH];exact DL.Step.pub e ht
  rw[show upd H t (.tup [V.str "peg",V.int a,V.int b])=H1 from eH.symm] 
  refine⟨_,rfl,_,rfl,p,C,dx,_,_,rfl,ep,T.cl,T.nD,lF _ _ _,d,_,rfl,fL.t (k:=keyK "peg" a b) ed et,_,rfl,?_⟩
  have g1:=fL.t (k:=keyK "peg" a b) ed et
  cases ev:bR sk.drawn (keyK "peg" a b) with
  |some v=>
   obtain⟨r,rfl⟩:∃r,v=.int r:=by
    unfold bR at ev
    obtain⟨kv,h2,rfl⟩:=xbr.mp ev
    exact vi kv (List.mem_of_find?_eq_some h2)
   refine jT ?_
   rw[ev] at g1
   refine⟨_,rfl,p,C,dx,_,_,rfl,ep,T.cl,T.nD,lF _ _ _,_,rfl,d,_,rfl,g1,?_⟩
   have em:mPeg sk a b=(r,sk):=by unfold mPeg;rw[ev]
   rw[em] at q
   refine q _ H1 ⟨sp.g,sp.e,fun b' o h _ _ _=>sp.h b' o h,sp.c⟩ ⟨⟨dx,ep⟩,⟨vs,el,hv.mono sp.g⟩,ed,sp.c p _ h1 gp,sp.c l _ hl gl,sp.c d _ hd gd,vi⟩
  |none=>
   refine jU ?_
   have em:mPeg sk a b=(sk.pegs,{ sk with pegs:=sk.pegs+1,plan:=sk.plan++[(("peg":Str),a,b)],drawn:=L2.putK sk.drawn (keyK "peg" a b) (.int sk.pegs) }):=by unfold mPeg;rw[ev]
   rw[em] at q
   obtain⟨sm1,sm2⟩:=sm
   refine⟨_,rfl,p,C,dx,_,_,rfl,ep,T.cl,T.nG,MT _ _ _,_,rfl,p,C,dx,_,_,rfl,ep,T.cl,T.nD,lF _ _ _,_,rfl,d,_,rfl,oS.t (k:=keyK "peg" a b) ed et (xa9 sm2 (by decide)),?_⟩
   have ep2:(upd H1 d (.dT (L2.putK sk.drawn (keyK "peg" a b) (V.int sk.pegs)))) p=some (.ins C dx (dP sk l d)):=by rw[aG npd];exact ep
   refine⟨_,rfl,p,C,dx,_,_,rfl,ep2,T.cl,T.nG,MT _ _ _,_,_,rfl,rfl,dx,_,ep2,(by show 8<1000;decide),?_⟩
   obtain⟨H3,e3⟩:∃H3,H3=upd (upd H1 d (.dT (L2.putK sk.drawn (keyK "peg" a b) (V.int sk.pegs)))) p (.ins C dx (cF "pegs" (V.int (sk.pegs+1)) (dP sk l d))):=⟨_,rfl⟩
   rw[<- e3]
   have p3:H3 p=some (.ins C dx (dP { sk with pegs:=sk.pegs+1 } l d)):=by rw[e3,aV,zbA]
   have l3:H3 l=some (.lst vs):=by rw[e3,aG npl.symm,aG nld];exact el
   have d3:H3 d=some (.dT (L2.putK sk.drawn (keyK "peg" a b) (V.int sk.pegs))):=by rw[e3,aG npd.symm,aV]
   have t3:H3 t=some (.tup ((keyK "peg" a b).map kV)):=by rw[e3,aG npt.symm,aG ndt.symm];exact et
   have vlen:vs.length<=100000:=by rw[<- hv.length,xak];exact sm1
   refine⟨_,rfl,p,C,dx,_,.ref l,rfl,p3,T.cl,T.nP,zJ _ _ _,.inl ⟨rfl,_,aW.of l3⟩,_,rfl,l,_,_,rfl,rfl,l3,(xa9 vlen (by decide)),?_⟩
   have p4:(upd H3 l (.lst (vs++[V.ref t]))) p=some (.ins C dx (dP { sk with pegs:=sk.pegs+1 } l d)):=by rw[aG npl];exact p3
   have d4:(upd H3 l (.lst (vs++[V.ref t]))) d=some (.dT (L2.putK sk.drawn (keyK "peg" a b) (V.int sk.pegs))):=by rw[aG nld.symm];exact d3
   have t4:(upd H3 l (.lst (vs++[V.ref t]))) t=some (.tup ((keyK "peg" a b).map kV)):=by rw[aG nlt.symm];exact t3
   have g4:=fL.t (k:=keyK "peg" a b) d4 t4
   rw[uL,xao rfl] at g4
   refine⟨_,rfl,p,C,dx,_,_,rfl,p4,T.cl,T.nD,lF _ _ _,_,rfl,d,_,rfl,g4,?_⟩
   have gp':=sp.c p _ h1 gp
   have gl':=sp.c l _ hl gl
   have gd':=sp.c d _ hd gd
   have far:∀b',b'≠p->b'≠l->b'≠d->(upd H3 l (.lst (vs++[V.ref t]))) b'=H1 b':=fun b' n1 n2 n3=>by rw[aG n2,e3,aG n1,aG n3]
   refine q _ _ ⟨sp.g,fun b' u h=>?_,fun b' o h n1 n2 n3=>by rw[far b' n1 n2 n3];exact sp.h b' o h,sp.c⟩ ⟨⟨dx,p4⟩,⟨vs++[V.ref t],aV,?_⟩,d4,gp',gl',gd',fun kv hkv=>?_⟩
   ·have n1:b'≠p:=fun z=>by rw[z,gp'] at h;cases h
    have n2:b'≠l:=fun z=>by rw[z,gl'] at h;cases h
    have n3:b'≠d:=fun z=>by rw[z,gd'] at h;cases h
    rw[far b' n1 n2 n3]
    exact sp.e b' u h
   ·rw[xa3]
    refine(hv.mono sp.g).append (DL.Reps.cons ⟨t,_,rfl,bJ.of aV,?_⟩ DL.Reps.nil)
    exact DL.Reps.cons rfl (DL.Reps.cons rfl (DL.Reps.cons rfl DL.Reps.nil))
   ·rw[L2.putK_new _ ev] at hkv
    rcases xbf.mp hkv with hkv|hkv
    ·exact vi kv hkv
    ·rw[xbc.mp hkv];exact⟨_,rfl⟩
theorem MV{sk:SK}{k:List Key}{v:V}:(L2.putK sk.drawn k v).length<=sk.drawn.length+1:=by
 unfold L2.putK
 split<;>simp
theorem MW(sk:SK)(a b:Int):grow 1 sk (mLine sk a b).2:=by
 unfold mLine
 split
 ·exact⟨xdl _,xdl _⟩
 ·exact⟨by rw[xav];exact xap _,MV⟩
theorem MX(sk:SK)(a b:Int):grow 1 sk (mPeg sk a b).2:=by
 unfold mPeg
 split
 ·exact⟨xdl _,xdl _⟩
 ·exact⟨by rw[xav];exact xap _,MV⟩
def two(m:SK->Int->Int->Int×SK):List Int->SK->Option (Int×SK)
 |[a,b],sk=>some (m sk a b)
 |_,_=>none
theorem rN{m:SK->Int->Int->Int×SK}{as:List Int}{sk:SK}{r:Int×SK}(h:two m as sk=some r):∃a b,as=[a,b]/\r=m sk a b:=by
 match as,h with
 |[a,b],h=>exact⟨a,b,rfl,(xas h).symm⟩
theorem MY{sk:SK}(h:room 1 sk):small sk:=⟨by have:=h.1;omega,by have:=h.2;omega⟩
theorem zbD{f C:Addr}{fd:FuncData}{k:Nat}(F:bV K "line" "Sketch.line" zI f fd)(T:rM K mg C)(hm:cW K C "line" f)(hb:bU K fd ["self","one","other"] []):MO P w K mg base C (k+1) "line" 1 (two mLine):=by
 refine⟨⟨f,fd,_,(zby F T).imp fun vs H Q E h=>?_,hm,hb⟩,fun args sk r sk' h=>?_,fun _ _ _=>rfl⟩
 ·obtain⟨G,p,l,d,sk,as,r,sk',e1,e2,S,R,e4,q⟩:=h
  obtain⟨a,b,rfl,e5⟩:=rN e4
  rw[show r=(mLine sk a b).1 from congrArg Prod.fst e5,show sk'=(mLine sk a b).2 from congrArg Prod.snd e5] at q
  exact⟨G,p,l,d,sk,a,b,e1,e2,S,MY R,q⟩
 ·obtain⟨a,b,rfl,e5⟩:=rN h
  rw[show sk'=(mLine sk a b).2 from congrArg Prod.snd e5]
  exact MW _ _ _
theorem zbE{f C:Addr}{fd:FuncData}{k:Nat}(F:bV K "peg" "Sketch.peg" zK f fd)(T:rM K mg C)(hm:cW K C "peg" f)(hb:bU K fd ["self","one","other"] []):MO P w K mg base C (k+1) "peg" 1 (two mPeg):=by
 refine⟨⟨f,fd,_,(zbC F T).imp fun vs H Q E h=>?_,hm,hb⟩,fun args sk r sk' h=>?_,fun _ _ _=>rfl⟩
 ·obtain⟨G,p,l,d,sk,as,r,sk',e1,e2,S,R,e4,q⟩:=h
  obtain⟨a,b,rfl,e5⟩:=rN e4
  rw[show r=(mPeg sk a b).1 from congrArg Prod.fst e5,show sk'=(mPeg sk a b).2 from congrArg Prod.snd e5] at q
  exact⟨G,p,l,d,sk,a,b,e1,e2,S,MY R,q⟩
 ·obtain⟨a,b,rfl,e5⟩:=rN h
  rw[show sk'=(mPeg sk a b).2 from congrArg Prod.snd e5]
  exact MX _ _ _
end Sk
namespace Sk
open L2 PyProof.Rows
inductive OO where
 |nx (env:List (Option W))
 |rt (r:Int)
abbrev FS:=List (Option W)->SK->Option (OO×SK)
def OW(K:xFg)(G:Hp)(D:iM)(p:Addr)(H:Hp):OO->Prop
 |.nx env=>∀U,StO K G p env U->D.nx U H
 |.rt r=>D.rt (.int r) H
def zL(K:xFg)(mg:Str->Option Value)(C:Addr)(c:Nat)(f:FS):TS:=fun D U H=>Tg K mg C c f U H fun o G' p H'=>OW K G' D p H' o
structure oX(X:Cx)(C:Addr)(st:Stmt)(c:Nat)(f:FS):Prop where
 ps:PS X st (zL X.K X.mg C c f)
 gr:∀env sk r sk',f env sk=some (r,sk')->grow c sk sk'
structure SO(X:Cx)(C:Addr)(st:List Stmt)(c:Nat)(f:FS):Prop where
 ps:cB X st (zL X.K X.mg C c f)
 gr:∀env sk r sk',f env sk=some (r,sk')->grow c sk sk'
theorem PS.mono'{X:Cx}{st:Stmt}{t t':TS}(h:PS X st t)(q:∀D U H,t' D U H->t D U H):PS X st t':=fun pins s U H D I z=>h pins s U H D I (q D U H z)
theorem cB.mono'{X:Cx}{st:List Stmt}{t t':TS}(h:cB X st t)(q:∀D U H,t' D U H->t D U H):cB X st t':=fun pins s U H D I z=>h pins s U H D I (q D U H z)
section
variable{X:Cx}{E:XK}{C:Addr}{e:Expr}{es:List Expr}{st:Stmt}{sts:List Stmt}{c c1 c2 k:Nat}{f:FO}{g g1 g2:FS}{pos p0 apos:Pos}
theorem eI(h:PO X C e c f):oX X C (.Return (some e) pos) c (fun env sk=>(f env sk).bind fun a=>some (.rt a.1,a.2)):=
 ⟨PS.mono' (lL h.pe) fun D U H ⟨G, p, l, d, env, sk, o, sk', e1, e2, S, R, e4, q⟩ => by
  obtain⟨⟨a,s1⟩,ea,e4⟩:=xab.mp e4
  cases e4
  exact⟨G,p,l,d,env,sk,a,s1,e1,e2,S,R,ea,q⟩,fun env sk r sk' z=>by
  obtain⟨⟨a,s1⟩,ea,z⟩:=xab.mp z
  cases z
  exact h.gr _ _ _ _ ea⟩
theorem mQ(i:Nat){x:Str}{pos':Pos}(h:PO X C e c f)(hN:X.N.Nodup)(hi:X.N[i+1]? = some x)(hx:fB X.env.scope x)(hs:swapsWith e (some (.Name x pos')) pos.line X.env=pure false:=by rfl)
  (hf:X.fn x=true\/X.env.scope.names.lookup x=some .local:=by first|exact .inl rfl|exact .inr rfl|assumption):oX X C (.Assign [.Name x pos'] e pos) c (fun env sk=>(f env sk).bind fun a=>some (.nx (env.set i (some (.i a.1))),a.2)):=
 ⟨PS.mono' (gF (i := i + 1) hN hi hx h.pe hs hf) fun D U H ⟨G, p, l, d, env, sk, o, sk', e1, e2, S, R, e4, q⟩ => by
  obtain⟨⟨a,s1⟩,ea,e4⟩:=xab.mp e4
  cases e4
  refine⟨G,p,l,d,env,sk,a,s1,e1,e2,S,R,ea,fun G' H' st' S'=>?_⟩
  exact q G' H' st' S' _ (e1.mono st'.g).set,fun env sk r sk' z=>by
  obtain⟨⟨a,s1⟩,ea,z⟩:=xab.mp z
  cases z
  exact h.gr _ _ _ _ ea⟩
theorem eE(h:oX X C st c g):SO X C [st] c g:=⟨gX h.ps,h.gr⟩
def oY(g1 g2:FS):FS:=fun env sk=>(g1 env sk).bind fun a=>match a.1 with
 |.nx env'=>g2 env' a.2
 |.rt r=>some (.rt r,a.2)
theorem lG(h1:oX X C st c1 g1)(h2:SO X C sts c2 g2):SO X C (st::sts) (c1+c2) (oY g1 g2):=
 ⟨cB.mono' (cX h1.ps h2.ps) fun D U H ⟨G, p, l, d, env, sk, o, sk', e1, e2, S, R, e4, q⟩ => by
  unfold oY at e4
  obtain⟨⟨a,s1⟩,ea,e4⟩:=xab.mp e4
  refine⟨G,p,l,d,env,sk,a,s1,e1,e2,S,R.left,ea,fun G1 H1 st1 S1=>?_⟩
  cases a with
  |nx env'=>
   exact fun σ1 h1'=>⟨G1,p,l,d,env',s1,o,sk',h1',st1.e,S1,R.on (h1.gr _ _ _ _ ea),e4,fun G2 H2 st2 S2=>q G2 H2 (st1.trans S S1 st2 S2.gp S2.gl S2.gd) S2⟩
  |rt r=>
   cases e4
   exact q G1 H1 st1 S1,fun env sk r sk' z=>by
  unfold oY at z
  obtain⟨⟨a,s1⟩,ea,z⟩:=xab.mp z
  have g1':=h1.gr _ _ _ _ ea
  cases a with
  |nx env'=>exact g1'.trans (h2.gr _ _ _ _ z)
  |rt r=>
   cases z
   exact⟨xa1 g1'.1 (by omega),xa1 g1'.2 (by omega)⟩⟩
end
section
variable{P:Program}{w:World}{K:xFg}{mg:Str->Option Value}{base:Heap}
def gR(nN:Nat)(args:List Int):List (Option W):=args.map (fun a=>some (W.i a))++List.replicate (nN-(args.length+1)) none
def fin:OO×SK->Option (Int×SK)
 |(.rt r,s)=>some (r,s)
 |_=>none
def mO(n nN:Nat)(fs:FS):List Int->SK->Option (Int×SK):=fun args sk=>bif args.length==n then (fs (gR nN args) sk).bind fin else none
theorem zbF{K:xFg}{G:Hp}{N:List Str}{p:Addr}{args:List Int}:StO K G p (gR N.length args) (L2.start N (.ref p::args.map V.int)):=by
 refine⟨(args.map V.int).map some++List.replicate (N.length-(args.length+1)) none,?_,?_,fun j w z=>?_⟩
 ·unfold L2.start;simp
 ·unfold gR;simp
 ·unfold gR at z
  by_cases hj:j<args.length
  ·rw[xbh (by simpa using hj),xbj,xa7 hj] at z
   cases z
   exact⟨_,by rw[xbh (by simpa using hj)];simp[xa7 hj],rfl⟩
  ·rw[xb7 (by simpa using hj),xcd] at z
   split at z<;>cases z
theorem MZ{n nN:Nat}{fs:FS}{args:List Int}{sk:SK}{r:Int×SK}(h:mO n nN fs args sk=some r):args.length=n/\(fs (gR nN args) sk).bind fin=some r:=by
 unfold mO at h
 by_cases z:args.length=n
 ·rw[show (args.length==n)=true by simpa using z] at h;exact⟨z,h⟩
 ·rw[show (args.length==n)=false by simpa using z] at h;cases h
theorem zbG{o:OO×SK}{r:Int×SK}(h:fin o=some r):o=(.rt r.1,r.2):=by
 obtain⟨a,b⟩:=o
 cases a with
 |nx _=>cases h
 |rt x=>cases h;rfl
end
end Sk
namespace Sk
open L2 PyProof.Rows
variable{P:Program}{w:World}{K:xFg}{mg:Str->Option Value}{base:Heap}
structure dQ(K:xFg)(mg:Str->Option Value)(C:Addr):Prop extends rM K mg C where
 nE:fD K C "east"
 nN:fD K C "north"
 nC:fD K C "corner"
 nT:fD K C "top"
def z0(m:SK->Int×SK):List Int->SK->Option (Int×SK)
 |[],sk=>some (m sk)
 |_,_=>none
def z1(m:SK->Int->Int×SK):List Int->SK->Option (Int×SK)
 |[a],sk=>some (m sk a)
 |_,_=>none
abbrev z2:=two
theorem zbH{m:SK->Int×SK}{as:List Int}{sk:SK}{r:Int×SK}(h:z0 m as sk=some r):r=m sk:=by
 match as,h with
 |[],h=>exact(xas h).symm
theorem zbI{m:SK->Int->Int×SK}{as:List Int}{sk:SK}{r:Int×SK}(h:z1 m as sk=some r):∃a,r=m sk a:=by
 match as,h with
 |[a],h=>exact⟨a,(xas h).symm⟩
theorem M0{α:Type}(a:α):∃x,x=a:=⟨a,rfl⟩
noncomputable def hid{α:Type}(a:α):α:=Classical.choose (M0 a)
theorem hid_eq{α:Type}(a:α):hid a=a:=Classical.choose_spec (M0 a)
noncomputable def nLine(sk:SK)(a b:Int):Int×SK:=hid (mLine sk a b)
noncomputable def nPeg(sk:SK)(a b:Int):Int×SK:=hid (mPeg sk a b)
theorem nLine_eq:nLine=mLine:=by funext sk a b;exact hid_eq _
theorem nPeg_eq:nPeg=mPeg:=by funext sk a b;exact hid_eq _
theorem fU(sk:SK)(a b:Int):grow 1 sk (nLine sk a b).2:=by rw[nLine_eq];exact MW sk a b
theorem kG(sk:SK)(a b:Int):grow 1 sk (nPeg sk a b).2:=by rw[nPeg_eq];exact MX sk a b
theorem mR{m:SK->Int×SK}{c:Nat}(g:∀sk,grow c sk (m sk).2):∀as sk r sk',z0 m as sk=some (r,sk')->grow c sk sk':=fun as sk r sk' h=>by
 have:=zbH h
 rw[show sk'=(m sk).2 from congrArg Prod.snd this];exact g sk
theorem zM{m:SK->Int->Int×SK}{c:Nat}(g:∀sk a,grow c sk (m sk a).2):∀as sk r sk',z1 m as sk=some (r,sk')->grow c sk sk':=fun as sk r sk' h=>by
 obtain⟨a,e⟩:=zbI h
 rw[show sk'=(m sk a).2 from congrArg Prod.snd e];exact g sk a
theorem mS{m:SK->Int->Int->Int×SK}{c:Nat}(g:∀sk a b,grow c sk (m sk a b).2):∀as sk r sk',z2 m as sk=some (r,sk')->grow c sk sk':=fun as sk r sk' h=>by
 obtain⟨a,b,_,e⟩:=rN h
 rw[show sk'=(m sk a b).2 from congrArg Prod.snd e];exact g sk a b
theorem mT{nN:Nat}{fs:FS}{m:SK->Int×SK}(h:∀sk,(fs (gR nN []) sk).bind fin=some (m sk)):mO 0 nN fs=z0 m:=by
 funext as sk
 match as with
 |[]=>exact h sk
 |_::_=>rfl
theorem zN{nN:Nat}{fs:FS}{m:SK->Int->Int×SK}(h:∀sk a,(fs (gR nN [a]) sk).bind fin=some (m sk a)):mO 1 nN fs=z1 m:=by
 funext as sk
 match as with
 |[]=>rfl
 |[a]=>exact h sk a
 |_::_::_=>rfl
theorem mU{nN:Nat}{fs:FS}{m:SK->Int->Int->Int×SK}(h:∀sk a b,(fs (gR nN [a,b]) sk).bind fin=some (m sk a b)):mO 2 nN fs=z2 m:=by
 funext as sk
 match as with
 |[]=>rfl
 |[a]=>rfl
 |[a,b]=>exact h sk a b
 |_::_::_::_=>rfl
theorem eQ{x qual:Str}{st:Stmt}{f C:Addr}{fd:FuncData}{N ps:List Str}{k n nN c:Nat}{fs:FS}{m:List Int->SK->Option (Int×SK)}(hno:∀sk l d,(dP sk l d).lookup x=none)(F:bV K x qual st f fd)(S:cI N ps (aZ st))(hm:cW K C x f)(b:bU K fd ps [])(hn:ps.length=n+1)(hN:N.length=nN)
  (gr:∀args sk r sk',m args sk=some (r,sk')->grow c sk sk')
  (hb:∀(X:Cx) (E:XK),(∃cdv A outer s H,X=dF (bT P w) P w K mg base N qual (aZ st) f cdv A outer s H E)->DL.XC X E k->SO X C (fE st) c fs) (em:mO n nN fs=m):MO P w K mg base C (k+1) x c m:=by
 subst em
 refine⟨⟨f,fd,ps,F.okX S (fun vs H Q E h=>?_) (fun cdv A outer s H vs Q E hr hsp=>?_),hm,b⟩,gr,hno⟩
 ·obtain⟨G,p,l,d,sk,as,r,sk',rfl,e2,S,R,e4,q⟩:=h
  rw[hn,xaw,xak,(MZ e4).1]
 ·obtain⟨G,p,l,d,sk,as,r,sk',rfl,e2,S',R,e4,q⟩:=hsp
  obtain⟨_,e5⟩:=MZ e4
  obtain⟨o,e6,e7⟩:=xab.mp e5
  exact⟨_,(hb _ E ⟨cdv,A,outer,s,H,rfl⟩ ⟨rfl,hr,sZ⟩).ps,G,p,l,d,gR nN as,sk,.rt r,sk',hN▸zbF,e2,S',R,by rw[e6,zbG e7],q⟩
noncomputable def q_base(sk:SK):Int×SK:=hid <|
 nLine sk sk.c sk.e
theorem zO(sk:SK):grow 1 sk (q_base sk).2:=by
 delta q_base
 rw[hid_eq]
 exact(fU _ _ _)
theorem zbJ:cI ["self"] ["self"] (aZ (aN sCls 3)):=⟨rfl,rfl,rfl,by decide +kernel,rfl,by decide +kernel,by decide +kernel⟩
theorem zbK{f C:Addr}{fd:FuncData}(F:bV K "base" "Sketch.base" (aN sCls 3) f fd)(T:dQ K mg C)(hm:cW K C "base" f)(hb:bU K fd ["self"] [])(M_line:MO P w K mg base C 1 "line" 1 (z2 nLine)):MO P w K mg base C 2 "base" 1 (z0 q_base):=by
 apply eQ (k:=1) (n:=0) (nN:=1) (m:=z0 q_base) (fun _ _ _=>rfl) F zbJ hm hb rfl rfl (mR zO)
 case hb=>
  rintro X E ⟨cdv,A,outer,s,H,rfl⟩ XC
  exact eE (eI (bZ XC T.cl (M_line.mono (by omega)) (aT (fM "corner" SK.c T.cl T.nC fun _ _ _=>rfl) (aT (fM "east" SK.e T.cl T.nE fun _ _ _=>rfl) bS))))
 case em=>exact mT (fun _=>by delta q_base;rw[hid_eq];rfl)
noncomputable def q_upright(sk:SK):Int×SK:=hid <|
 nLine sk sk.c sk.n
theorem zP(sk:SK):grow 1 sk (q_upright sk).2:=by
 delta q_upright
 rw[hid_eq]
 exact(fU _ _ _)
theorem zbL:cI ["self"] ["self"] (aZ (aN sCls 4)):=⟨rfl,rfl,rfl,by decide +kernel,rfl,by decide +kernel,by decide +kernel⟩
theorem zbM{f C:Addr}{fd:FuncData}(F:bV K "upright" "Sketch.upright" (aN sCls 4) f fd)(T:dQ K mg C)(hm:cW K C "upright" f)(hb:bU K fd ["self"] [])(M_line:MO P w K mg base C 1 "line" 1 (z2 nLine)):MO P w K mg base C 2 "upright" 1 (z0 q_upright):=by
 apply eQ (k:=1) (n:=0) (nN:=1) (m:=z0 q_upright) (fun _ _ _=>rfl) F zbL hm hb rfl rfl (mR zP)
 case hb=>
  rintro X E ⟨cdv,A,outer,s,H,rfl⟩ XC
  exact eE (eI (bZ XC T.cl (M_line.mono (by omega)) (aT (fM "corner" SK.c T.cl T.nC fun _ _ _=>rfl) (aT (fM "north" SK.n T.cl T.nN fun _ _ _=>rfl) bS))))
 case em=>exact mT (fun _=>by delta q_upright;rw[hid_eq];rfl)
noncomputable def q_far(sk:SK):Int×SK:=hid <|
 nLine sk sk.e sk.n
theorem uS(sk:SK):grow 1 sk (q_far sk).2:=by
 delta q_far
 rw[hid_eq]
 exact(fU _ _ _)
theorem zbN:cI ["self"] ["self"] (aZ (aN sCls 5)):=⟨rfl,rfl,rfl,by decide +kernel,rfl,by decide +kernel,by decide +kernel⟩
theorem zbO{f C:Addr}{fd:FuncData}(F:bV K "far" "Sketch.far" (aN sCls 5) f fd)(T:dQ K mg C)(hm:cW K C "far" f)(hb:bU K fd ["self"] [])(M_line:MO P w K mg base C 1 "line" 1 (z2 nLine)):MO P w K mg base C 2 "far" 1 (z0 q_far):=by
 apply eQ (k:=1) (n:=0) (nN:=1) (m:=z0 q_far) (fun _ _ _=>rfl) F zbN hm hb rfl rfl (mR uS)
 case hb=>
  rintro X E ⟨cdv,A,outer,s,H,rfl⟩ XC
  exact eE (eI (bZ XC T.cl (M_line.mono (by omega)) (aT (fM "east" SK.e T.cl T.nE fun _ _ _=>rfl) (aT (fM "north" SK.n T.cl T.nN fun _ _ _=>rfl) bS))))
 case em=>exact mT (fun _=>by delta q_far;rw[hid_eq];rfl)
noncomputable def q_level(sk:SK):Int×SK:=hid <|
 nLine sk sk.e sk.t
theorem zQ(sk:SK):grow 1 sk (q_level sk).2:=by
 delta q_level
 rw[hid_eq]
 exact(fU _ _ _)
theorem zbP:cI ["self"] ["self"] (aZ (aN sCls 6)):=⟨rfl,rfl,rfl,by decide +kernel,rfl,by decide +kernel,by decide +kernel⟩
theorem zbQ{f C:Addr}{fd:FuncData}(F:bV K "level" "Sketch.level" (aN sCls 6) f fd)(T:dQ K mg C)(hm:cW K C "level" f)(hb:bU K fd ["self"] [])(M_line:MO P w K mg base C 1 "line" 1 (z2 nLine)):MO P w K mg base C 2 "level" 1 (z0 q_level):=by
 apply eQ (k:=1) (n:=0) (nN:=1) (m:=z0 q_level) (fun _ _ _=>rfl) F zbP hm hb rfl rfl (mR zQ)
 case hb=>
  rintro X E ⟨cdv,A,outer,s,H,rfl⟩ XC
  exact eE (eI (bZ XC T.cl (M_line.mono (by omega)) (aT (fM "east" SK.e T.cl T.nE fun _ _ _=>rfl) (aT (fM "top" SK.t T.cl T.nT fun _ _ _=>rfl) bS))))
 case em=>exact mT (fun _=>by delta q_level;rw[hid_eq];rfl)
noncomputable def q_unit(sk:SK):Int×SK:=hid <|
 let r1:=q_base sk
 let r2:=nLine r1.2 r1.2.n r1.2.t
 nPeg r2.2 r1.1 r2.1
theorem zR(sk:SK):grow 3 sk (q_unit sk).2:=by
 delta q_unit
 rw[hid_eq]
 exact(((zO _).trans (fU _ _ _)).trans (kG _ _ _))
theorem zbR:cI ["self"] ["self"] (aZ (aN sCls 7)):=⟨rfl,rfl,rfl,by decide +kernel,rfl,by decide +kernel,by decide +kernel⟩
theorem zbS{f C:Addr}{fd:FuncData}(F:bV K "unit" "Sketch.unit" (aN sCls 7) f fd)(T:dQ K mg C)(hm:cW K C "unit" f)(hb:bU K fd ["self"] [])(M_peg:MO P w K mg base C 1 "peg" 1 (z2 nPeg))(M_line:MO P w K mg base C 1 "line" 1 (z2 nLine))(M_base:MO P w K mg base C 2 "base" 1 (z0 q_base)):MO P w K mg base C 3 "unit" 3 (z0 q_unit):=by
 apply eQ (k:=2) (n:=0) (nN:=1) (m:=z0 q_unit) (fun _ _ _=>rfl) F zbR hm hb rfl rfl (mR zR)
 case hb=>
  rintro X E ⟨cdv,A,outer,s,H,rfl⟩ XC
  exact eE (eI (bZ XC T.cl (M_peg.mono (by omega)) (aT (eY XC T.cl (M_base.mono (by omega))) (aT (bZ XC T.cl (M_line.mono (by omega)) (aT (fM "north" SK.n T.cl T.nN fun _ _ _=>rfl) (aT (fM "top" SK.t T.cl T.nT fun _ _ _=>rfl) bS))) bS))))
 case em=>exact mT (fun _=>by delta q_unit;rw[hid_eq];rfl)
noncomputable def q_high(sk:SK):Int×SK:=hid <|
 let r1:=q_upright sk
 let r2:=q_level r1.2
 nPeg r2.2 r1.1 r2.1
theorem oZ(sk:SK):grow 3 sk (q_high sk).2:=by
 delta q_high
 rw[hid_eq]
 exact(((zP _).trans (zQ _)).trans (kG _ _ _))
theorem zbT:cI ["self"] ["self"] (aZ (aN sCls 8)):=⟨rfl,rfl,rfl,by decide +kernel,rfl,by decide +kernel,by decide +kernel⟩
theorem zbU{f C:Addr}{fd:FuncData}(F:bV K "high" "Sketch.high" (aN sCls 8) f fd)(T:dQ K mg C)(hm:cW K C "high" f)(hb:bU K fd ["self"] [])(M_peg:MO P w K mg base C 1 "peg" 1 (z2 nPeg))(M_level:MO P w K mg base C 2 "level" 1 (z0 q_level))(M_upright:MO P w K mg base C 2 "upright" 1 (z0 q_upright)):MO P w K mg base C 3 "high" 3 (z0 q_high):=by
 apply eQ (k:=2) (n:=0) (nN:=1) (m:=z0 q_high) (fun _ _ _=>rfl) F zbT hm hb rfl rfl (mR oZ)
 case hb=>
  rintro X E ⟨cdv,A,outer,s,H,rfl⟩ XC
  exact eE (eI (bZ XC T.cl (M_peg.mono (by omega)) (aT (eY XC T.cl (M_upright.mono (by omega))) (aT (eY XC T.cl (M_level.mono (by omega))) bS))))
 case em=>exact mT (fun _=>by delta q_high;rw[hid_eq];rfl)
noncomputable def q_heading(sk:SK)(one:Int)(other:Int):Int×SK:=hid <|
 let r1:=q_far sk
 let r2:=nLine r1.2 one other
 nPeg r2.2 r1.1 r2.1
theorem o5(sk:SK)(one:Int)(other:Int):grow 3 sk (q_heading sk one other).2:=by
 delta q_heading
 rw[hid_eq]
 exact(((uS _).trans (fU _ _ _)).trans (kG _ _ _))
theorem zbV:cI ["self","one","other"] ["self","one","other"] (aZ (aN sCls 9)):=⟨rfl,rfl,rfl,by decide +kernel,rfl,by decide +kernel,by decide +kernel⟩
theorem zbW{f C:Addr}{fd:FuncData}(F:bV K "heading" "Sketch.heading" (aN sCls 9) f fd)(T:dQ K mg C)(hm:cW K C "heading" f)(hb:bU K fd ["self","one","other"] [])(M_peg:MO P w K mg base C 1 "peg" 1 (z2 nPeg))(M_line:MO P w K mg base C 1 "line" 1 (z2 nLine))(M_far:MO P w K mg base C 2 "far" 1 (z0 q_far)):MO P w K mg base C 3 "heading" 3 (z2 q_heading):=by
 apply eQ (k:=2) (n:=2) (nN:=3) (m:=z2 q_heading) (fun _ _ _=>rfl) F zbV hm hb rfl rfl (mS o5)
 case hb=>
  rintro X E ⟨cdv,A,outer,s,H,rfl⟩ XC
  exact eE (eI (bZ XC T.cl (M_peg.mono (by omega)) (aT (eY XC T.cl (M_far.mono (by omega))) (aT (bZ XC T.cl (M_line.mono (by omega)) (aT (cS 0) (aT (cS 1) bS))) bS))))
 case em=>exact mU (fun _ _ _=>by delta q_heading;rw[hid_eq];rfl)
noncomputable def q_falling(sk:SK):Int×SK:=hid <|
 let r1:=q_high sk
 let r2:=q_unit r1.2
 q_heading r2.2 r1.1 r2.1
theorem zS(sk:SK):grow 9 sk (q_falling sk).2:=by
 delta q_falling
 rw[hid_eq]
 exact(((oZ _).trans (zR _)).trans (o5 _ _ _))
theorem zbX:cI ["self"] ["self"] (aZ (aN sCls 10)):=⟨rfl,rfl,rfl,by decide +kernel,rfl,by decide +kernel,by decide +kernel⟩
theorem zbY{f C:Addr}{fd:FuncData}(F:bV K "falling" "Sketch.falling" (aN sCls 10) f fd)(T:dQ K mg C)(hm:cW K C "falling" f)(hb:bU K fd ["self"] [])(M_heading:MO P w K mg base C 3 "heading" 3 (z2 q_heading))(M_unit:MO P w K mg base C 3 "unit" 3 (z0 q_unit))(M_high:MO P w K mg base C 3 "high" 3 (z0 q_high)):MO P w K mg base C 4 "falling" 9 (z0 q_falling):=by
 apply eQ (k:=3) (n:=0) (nN:=1) (m:=z0 q_falling) (fun _ _ _=>rfl) F zbX hm hb rfl rfl (mR zS)
 case hb=>
  rintro X E ⟨cdv,A,outer,s,H,rfl⟩ XC
  exact eE (eI (bZ XC T.cl (M_heading.mono (by omega)) (aT (eY XC T.cl (M_high.mono (by omega))) (aT (eY XC T.cl (M_unit.mono (by omega))) bS))))
 case em=>exact mT (fun _=>by delta q_falling;rw[hid_eq];rfl)
noncomputable def q_slid(sk:SK)(far:Int)(near:Int):Int×SK:=hid <|
 let r1:=q_base sk
 let r2:=nLine r1.2 far near
 nPeg r2.2 r1.1 r2.1
theorem o6(sk:SK)(far:Int)(near:Int):grow 3 sk (q_slid sk far near).2:=by
 delta q_slid
 rw[hid_eq]
 exact(((zO _).trans (fU _ _ _)).trans (kG _ _ _))
theorem zbZ:cI ["self","far","near"] ["self","far","near"] (aZ (aN sCls 11)):=⟨rfl,rfl,rfl,by decide +kernel,rfl,by decide +kernel,by decide +kernel⟩
theorem zb0{f C:Addr}{fd:FuncData}(F:bV K "slid" "Sketch.slid" (aN sCls 11) f fd)(T:dQ K mg C)(hm:cW K C "slid" f)(hb:bU K fd ["self","far","near"] [])(M_peg:MO P w K mg base C 1 "peg" 1 (z2 nPeg))(M_line:MO P w K mg base C 1 "line" 1 (z2 nLine))(M_base:MO P w K mg base C 2 "base" 1 (z0 q_base)):MO P w K mg base C 3 "slid" 3 (z2 q_slid):=by
 apply eQ (k:=2) (n:=2) (nN:=3) (m:=z2 q_slid) (fun _ _ _=>rfl) F zbZ hm hb rfl rfl (mS o6)
 case hb=>
  rintro X E ⟨cdv,A,outer,s,H,rfl⟩ XC
  exact eE (eI (bZ XC T.cl (M_peg.mono (by omega)) (aT (eY XC T.cl (M_base.mono (by omega))) (aT (bZ XC T.cl (M_line.mono (by omega)) (aT (cS 0) (aT (cS 1) bS))) bS))))
 case em=>exact mU (fun _ _ _=>by delta q_slid;rw[hid_eq];rfl)
noncomputable def q_turned(sk:SK)(number:Int):Int×SK:=hid <|
 let r1:=q_upright sk
 let r2:=q_falling r1.2
 let r3:=nLine r2.2 number r2.1
 nPeg r3.2 r1.1 r3.1
theorem zT(sk:SK)(number:Int):grow 12 sk (q_turned sk number).2:=by
 delta q_turned
 rw[hid_eq]
 exact((((zP _).trans (zS _)).trans (fU _ _ _)).trans (kG _ _ _))
theorem zb1:cI ["self","number"] ["self","number"] (aZ (aN sCls 13)):=⟨rfl,rfl,rfl,by decide +kernel,rfl,by decide +kernel,by decide +kernel⟩
theorem zb2{f C:Addr}{fd:FuncData}(F:bV K "turned" "Sketch.turned" (aN sCls 13) f fd)(T:dQ K mg C)(hm:cW K C "turned" f)(hb:bU K fd ["self","number"] [])(M_peg:MO P w K mg base C 1 "peg" 1 (z2 nPeg))(M_line:MO P w K mg base C 1 "line" 1 (z2 nLine))(M_falling:MO P w K mg base C 4 "falling" 9 (z0 q_falling))(M_upright:MO P w K mg base C 2 "upright" 1 (z0 q_upright)):MO P w K mg base C 5 "turned" 12 (z1 q_turned):=by
 apply eQ (k:=4) (n:=1) (nN:=2) (m:=z1 q_turned) (fun _ _ _=>rfl) F zb1 hm hb rfl rfl (zM zT)
 case hb=>
  rintro X E ⟨cdv,A,outer,s,H,rfl⟩ XC
  exact eE (eI (bZ XC T.cl (M_peg.mono (by omega)) (aT (eY XC T.cl (M_upright.mono (by omega))) (aT (bZ XC T.cl (M_line.mono (by omega)) (aT (cS 0) (aT (eY XC T.cl (M_falling.mono (by omega))) bS))) bS))))
 case em=>exact zN (fun _ _=>by delta q_turned;rw[hid_eq];rfl)
noncomputable def q_quotient(sk:SK)(number:Int)(other:Int):Int×SK:=hid <|
 let r1:=q_turned sk other
 let r2:=q_heading r1.2 r1.1 number
 let r3:=q_high r2.2
 q_slid r3.2 r2.1 r3.1
theorem M2(sk:SK)(number:Int)(other:Int):grow 21 sk (q_quotient sk number other).2:=by
 delta q_quotient
 rw[hid_eq]
 exact((((zT _ _).trans (o5 _ _ _)).trans (oZ _)).trans (o6 _ _ _))
theorem zb3:cI ["self","number","other"] ["self","number","other"] (aZ (aN sCls 18)):=⟨rfl,rfl,rfl,by decide +kernel,rfl,by decide +kernel,by decide +kernel⟩
theorem zb4{f C:Addr}{fd:FuncData}(F:bV K "quotient" "Sketch.quotient" (aN sCls 18) f fd)(T:dQ K mg C)(hm:cW K C "quotient" f)(hb:bU K fd ["self","number","other"] [])(M_slid:MO P w K mg base C 3 "slid" 3 (z2 q_slid))(M_high:MO P w K mg base C 3 "high" 3 (z0 q_high))(M_heading:MO P w K mg base C 3 "heading" 3 (z2 q_heading))(M_turned:MO P w K mg base C 5 "turned" 12 (z1 q_turned)):MO P w K mg base C 6 "quotient" 21 (z2 q_quotient):=by
 apply eQ (k:=5) (n:=2) (nN:=3) (m:=z2 q_quotient) (fun _ _ _=>rfl) F zb3 hm hb rfl rfl (mS M2)
 case hb=>
  rintro X E ⟨cdv,A,outer,s,H,rfl⟩ XC
  exact eE (eI (bZ XC T.cl (M_slid.mono (by omega)) (aT (bZ XC T.cl (M_heading.mono (by omega)) (aT (bZ XC T.cl (M_turned.mono (by omega)) (aT (cS 1) bS)) (aT (cS 0) bS))) (aT (eY XC T.cl (M_high.mono (by omega))) bS))))
 case em=>exact mU (fun _ _ _=>by delta q_quotient;rw[hid_eq];rfl)
end Sk
namespace Sk
open L2 PyProof.Rows
abbrev FT:=List (Option W)->SK->Option (Bool×SK)
def tTO(K:xFg)(mg:Str->Option Value)(C:Addr)(c:Nat)(f:FT):TT:=fun U H Q=>Tg K mg C c f U H fun b _ _ H'=>Q b H'
structure rO(X:Cx)(C:Addr)(e:Expr)(c:Nat)(f:FT):Prop where
 pt:PT X e (tTO X.K X.mg C c f)
 gr:∀env sk r sk',f env sk=some (r,sk')->grow c sk sk'
theorem PT.mono'{X:Cx}{e:Expr}{t t':TT}(h:PT X e t)(q:∀U H Q,t' U H Q->t U H Q):PT X e t':=fun pins s U H Q I z=>h pins s U H Q I (q U H Q z)
section
variable{X:Cx}{E:XK}{C:Addr}{e a b t:Expr}{es:List Expr}{st:Stmt}{s1 s2:List Stmt}{c c1 c2 k:Nat}{f fa fb:FO}{ft:FT}{g g1 g2:FS}{pos p0 apos:Pos}
def mV(p:Int->Int->Bool)(fa fb:FO):FT:=fun env sk=>(fa env sk).bind fun x=>(fb env x.2).bind fun y=>some (p x.1 y.1,y.2)
theorem zU{K:xFg}{mg:Str->Option Value}{D:Int->Int->Hp->Prop}{G H:Hp}{p l d:Addr}{env:List (Option W)}{sk s1 s2:SK}{x y:Int}{U:L2.St}(e1:StO K G p env U)(ha:∀env sk r sk',fa env sk=some (r,sk')->grow c1 sk sk')(e2:Same G H)(S:SkAt K mg C G H p l d sk)(R:room (c1+c2) sk)(ea:fa env sk=some (x,s1))(eb:fb env s1=some (y,s2))
  (q:∀G' H',StepO G H G' H' p l d->SkAt K mg C G' H' p l d s2->D x y H'):vY (tO K mg C c1 fa) (tO K mg C c2 fb) D U H:=by
 refine⟨G,p,l,d,env,sk,x,s1,e1,e2,S,R.left,ea,fun G1 H1 st1 S1=>?_⟩
 refine⟨G1,p,l,d,env,s1,y,s2,e1.mono st1.g,st1.e,S1,R.on (ha _ _ _ _ ea),eb,fun G2 H2 st2 S2=>?_⟩
 exact⟨x,y,rfl,rfl,q G2 H2 (st1.trans S S1 st2 S2.gp S2.gl S2.gd) S2⟩
theorem zV{α:Type}{h:Int->Int->α}(ha:∀env sk r sk',fa env sk=some (r,sk')->grow c1 sk sk')(hb:∀env sk r sk',fb env sk=some (r,sk')->grow c2 sk sk'):∀env sk r sk',((fa env sk).bind fun x=>(fb env x.2).bind fun y=>some (h x.1 y.1,y.2))=some (r,sk')->grow (c1+c2) sk sk':=fun env sk r sk' z=>by
 obtain⟨⟨x,s1⟩,ea,z⟩:=xab.mp z
 obtain⟨⟨y,s2⟩,eb,z⟩:=xab.mp z
 cases z
 exact(ha _ _ _ _ ea).trans (hb _ _ _ _ eb)
theorem M4{op:CmpOp}{p:Int->Int->Bool}(h:∀{ta tb:TE},PE X a ta->PE X b tb->PC X op a b (sK p ta tb))(ha:PO X C a c1 fa)(hb:PO X C b c2 fb)(h1:behindInMarks op b=false):rO X C (.Compare a [op] [b] pos) (c1+c2) (mV p fa fb):=
 ⟨PT.mono' (vZ (h ha.pe hb.pe) h1) fun U H Q ⟨G, p', l, d, env, sk, r, sk', e1, e2, S, R, e4, q⟩ => by
  unfold mV at e4
  obtain⟨⟨x,s1⟩,ea,e4⟩:=xab.mp e4
  obtain⟨⟨y,s2⟩,eb,e4⟩:=xab.mp e4
  cases e4
  exact zU e1 ha.gr e2 S R ea eb fun G' H' st' S'=>⟨_,rfl,q G' H' st' S'⟩,zV (h:=p) ha.gr hb.gr⟩
theorem M5(ha:PO X C a c1 fa)(hb:PO X C b c2 fb):rO X C (.Compare a [.Eq] [b] pos) (c1+c2) (mV (fun i j=>decide (i=j)) fa fb):=M4 (fun h1 h2=>RJ h1 h2) ha hb (dA _ (by decide) (by decide))
theorem zb6(ha:PO X C a c1 fa)(hb:PO X C b c2 fb):rO X C (.Compare a [.Gt] [b] pos) (c1+c2) (mV (fun i j=>decide (j<i)) fa fb):=M4 (fun h1 h2=>RI h1 h2) ha hb (dA _ (by decide) (by decide))
theorem zb7(ha:PO X C a c1 fa)(hb:PO X C b c2 fb):PO X C (.BinOp a .Sub b pos) (c1+c2) (fun env sk=>(fa env sk).bind fun x=>(fb env x.2).bind fun y=>some (x.1-y.1,y.2)):=
 ⟨DL.PE.mono' (RF ha.pe hb.pe) fun U H Q ⟨G, p', l, d, env, sk, r, sk', e1, e2, S, R, e4, q⟩ => by
  obtain⟨⟨x,s1⟩,ea,e4⟩:=xab.mp e4
  obtain⟨⟨y,s2⟩,eb,e4⟩:=xab.mp e4
  cases e4
  exact zU e1 ha.gr e2 S R ea eb q,zV (h:=fun x y=>x-y) ha.gr hb.gr⟩
theorem grow.wide{a b:Nat}{s s1:SK}(h:grow a s s1)(le:a<=b):grow b s s1:=⟨xa1 h.1 (by omega),xa1 h.2 (by omega)⟩
theorem room.less{a b:Nat}{s:SK}(h:room b s)(le:a<=b):room a s:=⟨xa1 (by omega) h.1,xa1 (by omega) h.2⟩
theorem M6(ht:rO X C t c ft)(ha:PO X C a c1 fa)(hb:PO X C b c1 fb):PO X C (.IfExp t a b pos) (c+c1) (fun env sk=>(ft env sk).bind fun x=>bif x.1 then fa env x.2 else fb env x.2):=
 ⟨DL.PE.mono' (R3 ht.pt ha.pe hb.pe) fun U H Q ⟨G, p, l, d, env, sk, r, sk', e1, e2, S, R, e4, q⟩ => by
  obtain⟨⟨x,s1⟩,ea,e4⟩:=xab.mp e4
  refine⟨G,p,l,d,env,sk,x,s1,e1,e2,S,R.left,ea,fun G1 H1 st1 S1=>?_⟩
  cases x with
  |true=>exact jU ⟨G1,p,l,d,env,s1,r,sk',e1.mono st1.g,st1.e,S1,R.on (ht.gr _ _ _ _ ea),e4,fun G2 H2 st2 S2=>q G2 H2 (st1.trans S S1 st2 S2.gp S2.gl S2.gd) S2⟩
  |false=>exact jT ⟨G1,p,l,d,env,s1,r,sk',e1.mono st1.g,st1.e,S1,R.on (ht.gr _ _ _ _ ea),e4,fun G2 H2 st2 S2=>q G2 H2 (st1.trans S S1 st2 S2.gp S2.gl S2.gd) S2⟩,fun env sk r sk' z=>by
  obtain⟨⟨x,s1⟩,ea,z⟩:=xab.mp z
  cases x with
  |true=>exact(ht.gr _ _ _ _ ea).trans (ha.gr _ _ _ _ z)
  |false=>exact(ht.gr _ _ _ _ ea).trans (hb.gr _ _ _ _ z)⟩
theorem zb8:SO X C [] 0 (fun env sk=>some (.nx env,sk)):=
 ⟨cB.mono' nI fun D U H ⟨G, p, l, d, env, sk, o, sk', e1, e2, S, R, e4, q⟩ => by
  cases e4
  exact q G H (StepO.refl e2) S _ e1,fun env sk r sk' z=>by cases z;exact grow.refl _⟩
theorem zb9(ht:rO X C t c ft)(ha:SO X C s1 c1 g1)(hb:SO X C s2 c1 g2):oX X C (.If t s1 s2 pos) (c+c1) (fun env sk=>(ft env sk).bind fun x=>bif x.1 then g1 env x.2 else g2 env x.2):=
 ⟨PS.mono' (lM ht.pt ha.ps hb.ps) fun D U H ⟨G, p, l, d, env, sk, r, sk', e1, e2, S, R, e4, q⟩ => by
  obtain⟨⟨x,s1⟩,ea,e4⟩:=xab.mp e4
  refine⟨G,p,l,d,env,sk,x,s1,e1,e2,S,R.left,ea,fun G1 H1 st1 S1=>?_⟩
  cases x with
  |true=>exact jU ⟨G1,p,l,d,env,s1,r,sk',e1.mono st1.g,st1.e,S1,R.on (ht.gr _ _ _ _ ea),e4,fun G2 H2 st2 S2=>q G2 H2 (st1.trans S S1 st2 S2.gp S2.gl S2.gd) S2⟩
  |false=>exact jT ⟨G1,p,l,d,env,s1,r,sk',e1.mono st1.g,st1.e,S1,R.on (ht.gr _ _ _ _ ea),e4,fun G2 H2 st2 S2=>q G2 H2 (st1.trans S S1 st2 S2.gp S2.gl S2.gd) S2⟩,fun env sk r sk' z=>by
  obtain⟨⟨x,s1⟩,ea,z⟩:=xab.mp z
  cases x with
  |true=>exact(ht.gr _ _ _ _ ea).trans (ha.gr _ _ _ _ z)
  |false=>exact(ht.gr _ _ _ _ ea).trans (hb.gr _ _ _ _ z)⟩
end
variable{P:Program}{w:World}{K:xFg}{mg:Str->Option Value}{base:Heap}
noncomputable def q_slope(sk:SK)(step:Int):Int×SK:=hid <|
 let r:=nLine sk sk.c sk.t
 if step=0 then r else
 let n:=if step=1 then q_high r.2 else q_unit r.2
 let f:=q_far n.2
 let h:=nPeg f.2 f.1 r.1
 nLine h.2 n.1 h.1
theorem M7(sk:SK)(step:Int):grow 7 sk (q_slope sk step).2:=by
 delta q_slope
 rw[hid_eq]
 dsimp only
 split
 ·exact(fU _ _ _).wide (by omega)
 ·split
  ·exact((((fU _ _ _).trans (oZ _)).trans (uS _)).trans (kG _ _ _)).trans (fU _ _ _)
  ·exact((((fU _ _ _).trans (zR _)).trans (uS _)).trans (kG _ _ _)).trans (fU _ _ _)
theorem zW:cI ["self","step","diagonal","near"] ["self","step"] (aZ (aN sCls 19)):=⟨rfl,rfl,rfl,by decide +kernel,rfl,by decide +kernel,by decide +kernel⟩
theorem zca{f C:Addr}{fd:FuncData}(F:bV K "slope" "Sketch.slope" (aN sCls 19) f fd)(T:dQ K mg C)(hm:cW K C "slope" f)(hb:bU K fd ["self","step"] [])(M_line:MO P w K mg base C 1 "line" 1 (z2 nLine))(M_peg:MO P w K mg base C 1 "peg" 1 (z2 nPeg))
  (M_high:MO P w K mg base C 3 "high" 3 (z0 q_high)) (M_unit:MO P w K mg base C 3 "unit" 3 (z0 q_unit)) (M_far:MO P w K mg base C 2 "far" 1 (z0 q_far)):MO P w K mg base C 4 "slope" 7 (z1 q_slope):=by
 apply eQ (k:=3) (n:=1) (nN:=4) (m:=z1 q_slope) (fun _ _ _=>rfl) F zW hm hb rfl rfl (zM M7)
 case hb=>
  rintro X E ⟨cdv,A,outer,s,H,rfl⟩ XC
  exact lG (mQ 1 (bZ XC T.cl (M_line.mono (by omega)) (aT (fM "corner" SK.c T.cl T.nC fun _ _ _=>rfl) (aT (fM "top" SK.t T.cl T.nT fun _ _ _=>rfl) bS))) zW.nd rfl (Or.inl rfl))
   (lG (zb9 (M5 (cS 0) kF) (eE (eI (cS 1))) zb8)
   (lG (mQ 2 (M6 (M5 (cS 0) kF) (eY XC T.cl (M_high.mono (by omega))) (eY XC T.cl (M_unit.mono (by omega)))) zW.nd rfl (Or.inl rfl))
   (eE (eI (bZ XC T.cl (M_line.mono (by omega)) (aT (cS 2) (aT (bZ XC T.cl (M_peg.mono (by omega)) (aT (eY XC T.cl (M_far.mono (by omega))) (aT (cS 1) bS))) bS)))))))
 case em=>
  refine zN fun sk a=>?_
  delta q_slope
  rw[hid_eq]
  by_cases h0:a=0
  ·subst h0;rfl
  ·rw[xal h0]
   by_cases h1:a=1
   ·subst h1;rfl
   ·rw[xal h1]
    have e0:decide (a=0)=false:=xar h0
    have e1:decide (a=1)=false:=xar h1
    simp only[oY,mV,gR,z2,two,z0,z1,fin,xbg,xa4,xbx,xaw,xb6,xc6,xdh,xbp,e0,e1,cond_false,List.replicate,xbt,xbu,xb2,List.append]
noncomputable def q_doubled(sk:SK)(number step:Int):Int×SK:=hid <|
 let a:=nLine sk number sk.n
 let b:=q_slope a.2 step
 let r:=nPeg b.2 a.1 b.1
 let f:=q_falling r.2
 q_slid f.2 f.1 r.1
theorem M8(sk:SK)(number step:Int):grow 21 sk (q_doubled sk number step).2:=by
 delta q_doubled
 rw[hid_eq]
 exact((((fU _ _ _).trans (M7 _ _)).trans (kG _ _ _)).trans (zS _)).trans (o6 _ _ _)
theorem M9:cI ["self","number","step","rise"] ["self","number","step"] (aZ (aN sCls 20)):=⟨rfl,rfl,rfl,by decide +kernel,rfl,by decide +kernel,by decide +kernel⟩
theorem zcb{f C:Addr}{fd:FuncData}(F:bV K "doubled" "Sketch.doubled" (aN sCls 20) f fd)(T:dQ K mg C)(hm:cW K C "doubled" f)(hb:bU K fd ["self","number","step"] [])(M_line:MO P w K mg base C 1 "line" 1 (z2 nLine))(M_peg:MO P w K mg base C 1 "peg" 1 (z2 nPeg))
  (M_slope:MO P w K mg base C 4 "slope" 7 (z1 q_slope)) (M_falling:MO P w K mg base C 4 "falling" 9 (z0 q_falling)) (M_slid:MO P w K mg base C 3 "slid" 3 (z2 q_slid)):MO P w K mg base C 5 "doubled" 21 (z2 q_doubled):=by
 apply eQ (k:=4) (n:=2) (nN:=4) (m:=z2 q_doubled) (fun _ _ _=>rfl) F M9 hm hb rfl rfl (mS M8)
 case hb=>
  rintro X E ⟨cdv,A,outer,s,H,rfl⟩ XC
  exact lG (mQ 2 (bZ XC T.cl (M_peg.mono (by omega)) (aT (bZ XC T.cl (M_line.mono (by omega)) (aT (cS 0) (aT (fM "north" SK.n T.cl T.nN fun _ _ _=>rfl) bS))) (aT (bZ XC T.cl (M_slope.mono (by omega)) (aT (cS 1) bS)) bS))) M9.nd rfl (Or.inl rfl))
   (eE (eI (bZ XC T.cl (M_slid.mono (by omega)) (aT (eY XC T.cl (M_falling.mono (by omega))) (aT (cS 2) bS)))))
 case em=>exact mU fun _ _ _=>by delta q_doubled;rw[hid_eq];rfl
end Sk
namespace Sk
open L2 PyProof.Rows PySem.Calls
section
variable{X:Cx}{E:XK}{C:Addr}{e a b t o:Expr}{es:List Expr}{c c1 c2 k:Nat}{f fa fb:FO}{pos p0 apos cpos:Pos}
def zcc:V->List V->Hp->VK->Prop:=fun x vs H Q=>∃i,x=.int i/\vs=[]/\Q (.int ((Builtin.Int.intBits i:Nat):Int)) H
theorem zcd:wK X "int.bit_length" zcc:=by
 intro pins s U H x vs v us Q I rx rv h
 obtain⟨i,rfl,rfl,q⟩:=h
 obtain⟨t,rfl⟩:=rx
 cases rv
 exact call_gives PySem.F.slot_int_bit_length (typeIs_int s i t) PySem.F.entry_int_bit_length (PySem.F.args_int_bit_length_1 _) (AutoIntG2.int_bit_length_int_0 i t) ⟨.int _,H,I.tok _,⟨_,rfl⟩,q⟩
theorem zce(h:PO X C o c f)(hbase:attributeBase o "bit_length" X.env (eval o X.env)=eval o X.env:=by rfl)(hline:(apos.endLine==cpos.line)=true:=by rfl) :
  PO X C (.Call (.Attribute o "bit_length" apos) [] [] cpos) c (fun env sk=>(f env sk).bind fun x=>some (((Builtin.Int.intBits x.1:Nat):Int),x.2)):=
 ⟨DL.PE.mono' (nV PySem.F.plainAttrs_int PySem.F.slot_int_bit_length PySem.F.type_int_bit_length zcd h.pe hbase hline) fun U H Q ⟨G, p, l, d, env, sk, r, sk', e1, e2, S, R, e4, q⟩ => by
  obtain⟨⟨x,s1⟩,ea,e4⟩:=xab.mp e4
  cases e4
  exact⟨G,p,l,d,env,sk,x,s1,e1,e2,S,R,ea,fun G1 H1 st1 S1=>⟨rfl,x,rfl,rfl,q G1 H1 st1 S1⟩⟩,fun env sk r sk' z=>by
  obtain⟨⟨x,s1⟩,ea,z⟩:=xab.mp z
  cases z
  exact h.gr _ _ _ _ ea⟩
theorem NA{op:Operator}{ok:Int->Int->Prop}{h:Int->Int->Int}(hr:bE X (binaryOp op) (rI ok fun i j=>.int (h i j)))(hk:∀i j,Decidable (ok i j))(ha:PO X C a c1 fa)(hb:PO X C b c2 fb) :
  PO X C (.BinOp a op b pos) (c1+c2) (fun env sk=>(fa env sk).bind fun x=>(fb env x.2).bind fun y=>if ok x.1 y.1 then some (h x.1 y.1,y.2) else none):=
 ⟨DL.PE.mono' (wB hr ha.pe hb.pe) (fun U H Q ⟨G, p', l, d, env, sk, r, sk', e1, e2, S, R, e4, q⟩ => by
  obtain⟨⟨x,s1⟩,ea,e4⟩:=xab.mp e4
  obtain⟨⟨y,s2⟩,eb,e4⟩:=xab.mp e4
  dsimp only at e4
  split at e4
  ·rename_i z
   cases e4
   refine⟨G,p',l,d,env,sk,x,s1,e1,e2,S,R.left,ea,fun G1 H1 st1 S1=>?_⟩
   refine⟨G1,p',l,d,env,s1,y,sk',e1.mono st1.g,st1.e,S1,R.on (ha.gr _ _ _ _ ea),eb,fun G2 H2 st2 S2=>?_⟩
   exact⟨x,y,rfl,rfl,z,q G2 H2 (st1.trans S S1 st2 S2.gp S2.gl S2.gd) S2⟩
  ·cases e4),fun env sk r sk' z=>by
  obtain⟨⟨x,s1⟩,ea,z⟩:=xab.mp z
  obtain⟨⟨y,s2⟩,eb,z⟩:=xab.mp z
  dsimp only at z
  split at z
  ·cases z
   exact(ha.gr _ _ _ _ ea).trans (hb.gr _ _ _ _ eb)
  ·cases z⟩
end
section
variable{X:Cx}
def zcf(ta:TA):TI:=fun U H R=>ta U H fun vs H1=>∃n:Nat,vs=[.int ((n:Int)-1),.int (-1),.int (-1)]/\n<2^30/\R (pS ((n:Int)-1) (-1) n) H1
theorem zcg{tg a b c:Expr}{ta:TA}{p pos:Pos}(hg:Gl X "range")(hm:X.mg "range"=none)(ha:PA X [a,b,c] ta)(hs:starEach [a,b,c] X.env=[(false,eval a X.env),(false,eval b X.env),(false,eval c X.env)]:=by rfl)
  (hs2:starEach [b,c] X.env=[(false,eval b X.env),(false,eval c X.env)]:=by rfl) (hs3:starEach [c] X.env=[(false,eval c X.env)]:=by rfl) :
  PI X tg (.Call (.Name "range" p) [a,b,c] [] pos) (zcf ta):=by
 intro pins s U H R I h
 refine Call_ (kQ I hg hm boot_range (PyProof.Rows.callWith_type1 (aH (ha pos pins s U H _ I h) fun us s1 ⟨vs,H1,I1,r1,q1⟩=>?_) (by rw[hs,hs2]) (by rw[hs2];rfl)))
 obtain⟨n,e,hn,q⟩:=q1
 subst e
 cases r1 with
 |cons r rr=>
  cases rr with
  |cons r' rr=>
   cases rr with
   |cons r'' rr=>
    cases rr
    obtain⟨t,rfl⟩:=r
    obtain⟨t',rfl⟩:=r'
    obtain⟨t'',rfl⟩:=r''
    have hrs:Builtin.Range.rangeSize ((n:Int)-1) (-1) (-1)=(n:Int):=by
     unfold Builtin.Range.rangeSize
     rw[xal (by decide)]
     by_cases h0:(n:Int)-1 > -1
     ·rw[xao h0,show (- -1:Int)=1 from rfl,Int.ediv_one];omega
     ·rw[xal h0];omega
    refine call_range_3 (by omega) ?_ (.inl (PyProof.noPylong_small (by omega)))
    have hsm:Builtin.Range.small ((n:Int)-1) (-1) (-1)=true:=by
     unfold Builtin.Range.small
     rw[hrs]
     simp only[Builtin.Range.rangeFitsLong,xau,Bool.or_eq_true,decide_eq_true_eq,beq_iff_eq]
     simp
     omega
    refine wpAny_pyIter_range (IsRange.new ..) hsm ?_
    have I2:Inv X pins U H1 { s1 with heap:=s1.heap.push { cls:=.type "range",data:=.fields #[.int ((n:Int)-1) t,.int (-1) t',.int (-1) t''] },toks:=s1.toks }:=I1.kept fun b o e=>xad _ e
    refine⟨(s1.heap.push { cls:=.type "range",data:=.fields #[.int ((n:Int)-1) t,.int (-1) t',.int (-1) t''] }).objs.size,[(s1.heap.push { cls:=.type "range",data:=.fields #[.int ((n:Int)-1) t,.int (-1) t',.int (-1) t''] }).objs.size],_,_,H1,rfl,
     I2.kept (t':=s1.toks) fun b o e=>xad _ e,V0 _ ((n:Int)-1) (-1) n,?_,fun b hb=>?_,q⟩
    ·have e1:(n:Int)-1+((0:Nat):Int)*(-1)=(n:Int)-1:=by simp
     have e2:(n:Int)-((0:Nat):Int)=Builtin.Range.rangeSize ((n:Int)-1) (-1) (-1):=by rw[hrs];simp
     show IsRangeIter _ _ ((n:Int)-1+((0:Nat):Int)*(-1)) ((n:Int)-((0:Nat):Int)) (-1)
     rw[e1,e2]
     exact xax _ rfl
    ·have e:b=(s1.heap.push { cls:=.type "range",data:=.fields #[.int ((n:Int)-1) t,.int (-1) t',.int (-1) t''] }).objs.size:=by simpa using hb
     subst e
     exact I2.fpOk (xap _) (I2.hok.fresh (xap _))
end
end Sk
namespace Sk
open L2 PyProof.Rows PySem.Calls
section
variable{X:Cx}{E:XK}{C:Addr}{e a b t o a1 a2 a3:Expr}{es:List Expr}{body:List Stmt}{c c0 c1 c2 k:Nat}{f fa fb:FO}{fA:FA}{g:FS}{pos p0 apos cpos pos' p1:Pos}
theorem zX(h:PO X C a c f):PO X C (.UnaryOp .USub a pos) c (fun env sk=>(f env sk).bind fun x=>some (-x.1,x.2)):=
 ⟨DL.PE.mono' (B6 B8 h.pe) (fun U H Q ⟨G, p, l, d, env, sk, r, sk', e1, e2, S, R, e4, q⟩ => by
  obtain⟨⟨x,s1⟩,ea,e4⟩:=xab.mp e4
  cases e4
  exact⟨G,p,l,d,env,sk,x,s1,e1,e2,S,R,ea,fun G1 H1 st1 S1=>⟨x,rfl,q G1 H1 st1 S1⟩⟩),fun env sk r sk' z=>by
  obtain⟨⟨x,s1⟩,ea,z⟩:=xab.mp z
  cases z
  exact h.gr _ _ _ _ ea⟩
def zY(x:List Int×SK):Option (Int×SK):=match x.1 with
 |[i]=>some (if i<0 then -i else i,x.2)
 |_=>none
theorem zch(hm:X.mg "abs"=none)(ha:oW X C (e::es) c fA)(hg:Gl X "abs":=by rfl)(he:starEach (e::es) X.env=(false,eval e X.env)::starEach es X.env:=by rfl)(hpl:(backTo pos (starEach es X.env)).any (·.1)=false:=by rfl) :
  PO X C (.Call (.Name "abs" p0) (e::es) [] pos) c (fun env sk=>(fA env sk).bind zY):=
 ⟨DL.PE.mono' (CV CB hg hm PyProof.Rows.boot_abs ha.pa (by decide) (by decide) he hpl) (fun U H Q ⟨G, p, l, d, env, sk, r, sk', e1, e2, S, R, e4, q⟩ => by
  obtain⟨⟨x,s1⟩,ea,e4⟩:=xab.mp e4
  match x,e4 with
  |[i],e4=>
   cases e4
   exact⟨G,p,l,d,env,sk,[i],s1,e1,e2,S,R,ea,fun G1 H1 st1 S1=>⟨i,rfl,q G1 H1 st1 S1⟩⟩),fun env sk r sk' z=>by
  obtain⟨⟨x,s1⟩,ea,z⟩:=xab.mp z
  match x,z with
  |[i],z=>
   cases z
   exact ha.gr _ _ _ _ ea⟩
def kH(i:Nat)(g:FS):Nat->List (Option W)->SK->Option (List (Option W)×SK)
 |0,env,sk=>some (env,sk)
 |n+1,env,sk=>(g (env.set i (some (.i (n:Int)))) sk).bind fun o=>match o.1 with
  |.nx env'=>kH i g n env' o.2
  |.rt _=>none
theorem NB{i:Nat}(hg:∀env sk r sk',g env sk=some (r,sk')->grow c sk sk'):∀(n:Nat) (env:List (Option W)) (sk:SK) (r:List (Option W)) (sk':SK),kH i g n env sk=some (r,sk')->grow (n*c) sk sk'
 |0,env,sk,r,sk',h=>by cases h;exact(grow.refl _).wide (xbi _)
 |n+1,env,sk,r,sk',h=>by
  unfold kH at h
  obtain⟨⟨o,s1⟩,ea,h⟩:=xab.mp h
  cases o with
  |rt _=>cases h
  |nx env'=>
   have:=(hg _ _ _ _ ea).trans (NB hg n env' s1 r sk' h)
   rw[Nat.succ_mul,xdf];exact this
def rP(B i:Nat)(g:FS)(env:List (Option W))(r:List Int×SK):Option (OO×SK):=match r.1 with
 |[u,v,w]=>if 0<=u+1/\u+1<=B/\v=-1/\w=-1 then (kH i g (u+1).toNat env r.2).bind fun z=>some (.nx z.1,z.2) else none
 |_=>none
theorem zci(B:Nat)(hB:B<2^30)(i:Nat){x:Str}(XC:DL.XC X E k)(hp:PassesOwn (model X.prog X.w) X.A X.env X.xe)(hm:X.mg "range"=none)(ha:oW X C [a1,a2,a3] c0 fA)(hb:SO X C body c g)(hN:X.N.Nodup)(hi:X.N[i+1]? = some x)(hx:fB X.env.scope x)(hg:Gl X "range":=by rfl)
  (hf:X.fn x=true\/X.env.scope.names.lookup x=some .local:=by first|exact .inl rfl|exact .inr rfl|assumption)
  (hs:starEach [a1,a2,a3] X.env=[(false,eval a1 X.env),(false,eval a2 X.env),(false,eval a3 X.env)]:=by rfl) (hs2:starEach [a2,a3] X.env=[(false,eval a2 X.env),(false,eval a3 X.env)]:=by rfl) (hs3:starEach [a3] X.env=[(false,eval a3 X.env)]:=by rfl)
  (hsf:∀z,foldedSetIterable (.Call (.Name "range" p0) [a1,a2,a3] [] pos') X.env z=pure z:=by intro _;rfl) :
  oX X C (.For (.Name x p1) (.Call (.Name "range" p0) [a1,a2,a3] [] pos') body [] pos) (c0+B*c) (fun env sk=>(fA env sk).bind (rP B i g env)):=by
 refine⟨PS.mono' (sO hp XC.calm (zcg hg hm ha.pa hs hs2 hs3) (wA (i:=i+1) hN hi hx hf) hb.ps hsf) (fun D U H ⟨G,p,l,d,env,sk,r,sk',e1,e2,S,R,e4,q⟩=>?_),fun env sk r sk' z=>?_⟩
 ·obtain⟨⟨x,s1⟩,ea,e4⟩:=xab.mp e4
  unfold rP at e4
  match x,e4,ea with
  |[u,v,w],e4,ea=>
   dsimp only at e4
   split at e4
   ·rename_i hc
    obtain⟨h1,h2,rfl,rfl⟩:=hc
    obtain⟨⟨envF,skF⟩,el,e4⟩:=xab.mp e4
    cases e4
    obtain⟨n,hn⟩:∃n:Nat,u=(n:Int)-1:=⟨(u+1).toNat,by omega⟩
    subst hn
    have en:((n:Int)-1+1).toNat=n:=by omega
    rw[en] at el
    have hnB:n<=B:=by omega
    refine⟨G,p,l,d,env,sk,_,s1,e1,e2,S,R.left,ea,fun G1 H1 st1 S1=>?_⟩
    refine⟨n,rfl,by omega,?_⟩
    have R1:room (n*c) s1:=(R.on (ha.gr _ _ _ _ ea)).less (Nat.mul_le_mul_right _ hnB)
    refine V1 (fun j U' H'=>∃G' env' sk1,StO X.K G' p env' U'/\StepO G H G' H' p l d/\SkAt X.K X.mg C G' H' p l d sk1/\room ((n-j)*c) sk1/\kH i g (n-j) env' sk1=some (envF,skF)) ⟨G1,env,s1,e1.mono st1.g,st1,S1,by simpa using R1,by simpa using el⟩ (fun j U' H' hj ⟨G',env',sk1,e',st',S',R',el'⟩=>?_) (fun U' H' ⟨G',env',sk1,e',st',S',R',el'⟩=>?_)
    ·obtain⟨m,hm'⟩:∃m,n-j=m+1:=⟨n-j-1,by omega⟩
     rw[hm'] at R' el'
     have ev:(n:Int)-1+(j:Int)*(-1)=(m:Int):=by omega
     rw[ev]
     unfold kH at el'
     obtain⟨⟨oo,s2⟩,eg,el'⟩:=xab.mp el'
     show zL X.K X.mg C c g _ (U'.set (i+1) (some (V.int (m:Int)))) H'
     have R2:room (c+m*c) sk1:=by rw[Nat.succ_mul,xdf] at R';exact R'
     refine⟨G',p,l,d,_,sk1,oo,s2,e'.set,st'.e,S',R2.left,eg,fun G2 H2 st2 S2=>?_⟩
     cases oo with
     |rt _=>cases el'
     |nx env2=>
      have ej:n-(j+1)=m:=by omega
      exact fun σ2 e2'=>⟨G2,env2,s2,e2',st'.trans S S' st2 S2.gp S2.gl S2.gd,S2,by rw[ej];exact R2.on (hb.gr _ _ _ _ eg),by rw[ej];exact el'⟩
    ·rw[Nat.sub_self] at el'
     cases el'
     exact q G' H' st' S' _ e'
   ·cases e4
 ·obtain⟨⟨x,s1⟩,ea,z⟩:=xab.mp z
  unfold rP at z
  match x,z,ea with
  |[u,v,w],z,ea=>
   dsimp only at z
   split at z
   ·rename_i hc
    obtain⟨⟨envF,skF⟩,el,z⟩:=xab.mp z
    cases z
    exact((ha.gr _ _ _ _ ea).trans (NB hb.gr _ _ _ _ _ el)).wide (Nat.add_le_add_left (Nat.mul_le_mul_right _ (by omega)) _)
   ·cases z
end
end Sk
namespace Sk
open L2 PyProof.Rows PySem.Calls
section
variable{X:Cx}{E:XK}{C:Addr}{a b:Expr}{c1 c2:Nat}{fa fb:FO}{pos:Pos}
theorem zcj(ha:PO X C a c1 fa)(hb:PO X C b c2 fb):PO X C (.BinOp a .BitAnd b pos) (c1+c2) (fun env sk=>(fa env sk).bind fun x=>(fb env x.2).bind fun y=>some (Builtin.bitAnd x.1 y.1,y.2)):=
 ⟨DL.PE.mono' (wB S6 ha.pe hb.pe) (fun U H Q ⟨G, p', l, d, env, sk, r, sk', e1, e2, S, R, e4, q⟩ => by
  obtain⟨⟨x,s1⟩,ea,e4⟩:=xab.mp e4
  obtain⟨⟨y,s2⟩,eb,e4⟩:=xab.mp e4
  cases e4
  exact zU e1 ha.gr e2 S R ea eb q),zV (h:=fun x y=>Builtin.bitAnd x y) ha.gr hb.gr⟩
instance decSm (i j:Int):Decidable (Sm i/\Sm j):=by unfold Sm;exact inferInstance
theorem zck(ha:PO X C a c1 fa)(hb:PO X C b c2 fb):PO X C (.BinOp a .Mult b pos) (c1+c2) (fun env sk=>(fa env sk).bind fun x=>(fb env x.2).bind fun y=>if Sm x.1/\Sm y.1 then some (x.1*y.1,y.2) else none):=NA VU decSm ha hb
theorem zcl(ha:PO X C a c1 fa)(hb:PO X C b c2 fb):PO X C (.BinOp a .RShift b pos) (c1+c2) (fun env sk=>(fa env sk).bind fun x=>(fb env x.2).bind fun y=>if 0<=y.1 then some (x.1/2^y.1.toNat,y.2) else none):=NA S5 (fun _ _=>inferInstance) ha hb
end
theorem zcm{x:Int}(hx:0<=x):Builtin.bitAnd x 1=x%2:=by
 rw[bitAnd_pp hx (by decide)]
 show ((x.toNat &&& 1:Nat):Int)=x%2
 rw[Nat.and_one_is_mod]
 omega
noncomputable def q_walk(step size:Int):Nat->Int->SK->Int×SK
 |0,peg,sk=>(peg,sk)
 |n+1,peg,sk=>q_walk step size n (q_doubled sk peg (step*(size/2^n%2))).1 (q_doubled sk peg (step*(size/2^n%2))).2
def absZ(i:Int):Int:=if i<0 then -i else i
noncomputable def q_whole(sk:SK)(number:Int):Int×SK:=hid (q_walk (if 0<number then 1 else -1) (absZ number) (Builtin.Int.intBits (absZ number)) sk.c sk)
def lH(ok:Int->Prop)[DecidablePred ok](m:SK->Int->Int×SK):List Int->SK->Option (Int×SK)
 |[a],sk=>if ok a then some (m sk a) else none
 |_,_=>none
def okW(a:Int):Prop:=Builtin.Int.intBits (absZ a)<=140
instance:DecidablePred okW:=fun a=>by unfold okW;exact inferInstance
theorem g_walk{step size:Int}:∀(n:Nat) (peg:Int) (sk:SK),grow (n*21) sk (q_walk step size n peg sk).2
 |0,peg,sk=>(grow.refl _).wide (xbi _)
 |n+1,peg,sk=>by
  rw[Nat.succ_mul,xdf]
  exact(M8 sk peg (step*(size/2^n%2))).trans (g_walk n _ _)
theorem zcn{ok:Int->Prop}[DecidablePred ok]{m:SK->Int->Int×SK}{c:Nat}(g:∀sk a,ok a->grow c sk (m sk a).2):∀as sk r sk',lH ok m as sk=some (r,sk')->grow c sk sk':=fun as sk r sk' h=>by
 match as,h with
 |[a],h=>
  unfold lH at h
  dsimp only at h
  split at h
  ·rename_i hk
   have:=g sk a hk
   rw[xas h] at this
   exact this
  ·cases h
theorem zco{nN:Nat}{fs:FS}{ok:Int->Prop}[DecidablePred ok]{m:SK->Int->Int×SK}(h:∀sk a,(fs (gR nN [a]) sk).bind fin=if ok a then some (m sk a) else none):mO 1 nN fs=lH ok m:=by
 funext as sk
 match as with
 |[]=>rfl
 |[a]=>exact h sk a
 |_::_::_=>rfl
theorem zcp{a size step:Int}(hz:0<=size)(hs:Sm step)(m:Nat)(sk:SK)(i:Int)(hi:i=m):(Sm step/\Sm (Builtin.bitAnd (size/2^i.toNat) 1))/\Builtin.bitAnd (size/2^i.toNat) 1=size/2^m%2:=by
 subst hi
 rw[xch]
 have h0:0<=size/2^m:=Int.ediv_nonneg hz (by exact xdg (Int.pow_pos (by decide)))
 rw[zcm h0]
 exact⟨⟨hs,Sm.of (n:=1) (by omega)⟩,rfl⟩
theorem zcq(sk:SK)(a:Int)(h:okW a):grow 2940 sk (q_whole sk a).2:=by
 delta q_whole
 rw[hid_eq]
 exact(g_walk _ _ _).wide (by unfold okW at h;omega)
theorem NC{g:FS}{a size step:Int}(hg:∀(m:Nat) (peg:Int) (sk:SK),g [some (.i a),some (.i size),some (.i step),some (.i peg),some (.i (m:Int))] sk=some (.nx [some (.i a),some (.i size),some (.i step),some (.i (q_doubled sk peg (step*(size/2^m%2))).1),some (.i (m:Int))],(q_doubled sk peg (step*(size/2^m%2))).2)) :
  ∀(n:Nat) (peg:Int) (sk:SK) (at':Option W),∃at2,kH 4 g n [some (.i a),some (.i size),some (.i step),some (.i peg),at'] sk=some ([some (.i a),some (.i size),some (.i step),some (.i (q_walk step size n peg sk).1),at2],(q_walk step size n peg sk).2)
 |0,peg,sk,at'=>⟨at',rfl⟩
 |n+1,peg,sk,at'=>by
  obtain⟨at2,h⟩:=NC hg n (q_doubled sk peg (step*(size/2^n%2))).1 (q_doubled sk peg (step*(size/2^n%2))).2 (some (W.i (n:Int)))
  refine⟨at2,?_⟩
  unfold kH
  rw[show ([some (.i a),some (.i size),some (.i step),some (.i peg),at']:List (Option W)).set 4 (some (W.i (n:Int)))=[some (.i a),some (.i size),some (.i step),some (.i peg),some (.i (n:Int))] from rfl,hg,xbg]
  exact h
theorem ND{g:FS}{a step:Int}{sk:SK}(hst:step=if 0<a then 1 else -1)(hg:∀(m:Nat) (peg:Int) (sk:SK),g [some (.i a),some (.i (absZ a)),some (.i step),some (.i peg),some (.i (m:Int))] sk=some (.nx [some (.i a),some (.i (absZ a)),some (.i step),some (.i (q_doubled sk peg (step*(absZ a/2^m%2))).1),some (.i (m:Int))],(q_doubled sk peg (step*(absZ a/2^m%2))).2)) :
  ((if 0 <= ((Builtin.Int.intBits (absZ a) : Nat) : Int) - 1 + 1 /\ ((Builtin.Int.intBits (absZ a) : Nat) : Int) - 1 + 1 <= ((140 : Nat) : Int) /\ True /\ True then
   (kH 4 g (((Builtin.Int.intBits (absZ a):Nat):Int)-1+1).toNat [some (.i a),some (.i (absZ a)),some (.i step),some (.i sk.c),none] sk).bind fun z=>some (OO.nx z.1,z.2) else none).bind fun (x:OO×SK)=>match x.1 with
    |.nx (env':List (Option W))=>(match env'[3]? with
      |some (some (W.i v))=>some (v,x.2)
      |_=>none).bind fun (x:Int×SK)=>some (OO.rt x.1,x.2)
    |.rt r=>some (OO.rt r,x.2)).bind fin=if okW a then some (q_whole sk a) else none:=by
 have en:(((Builtin.Int.intBits (absZ a):Nat):Int)-1+1).toNat=Builtin.Int.intBits (absZ a):=by omega
 rw[en]
 by_cases hk:okW a
 ·rw[xao hk,xao (by unfold okW at hk;exact⟨by omega,by omega,trivial,trivial⟩)]
  obtain⟨at2,hl⟩:=NC hg (Builtin.Int.intBits (absZ a)) sk.c sk none
  rw[hl]
  unfold q_whole
  rw[hid_eq]
  rw[<- hst]
  rfl
 ·rw[xal hk,xal (by unfold okW at hk;rintro⟨_,h,_⟩;omega)]
  rfl
theorem NF{a size step:Int}(hz:0<=size)(hs:Sm step)(m:Nat)(peg:Int)(sk:SK) :
  ((if Sm step/\Sm (Builtin.bitAnd (size/2^((m:Int)).toNat) 1) then some (step*Builtin.bitAnd (size/2^((m:Int)).toNat) 1,sk) else none):Option (Int×SK))=some (step*(size/2^m%2),sk):=by
 obtain⟨h1,h2⟩:=zcp (a:=a) hz hs m sk (m:Int) rfl
 rw[xao h1,h2]
variable{P:Program}{w:World}{K:xFg}{mg:Str->Option Value}{base:Heap}
theorem o7:cI ["self","number","size","step","peg","at"] ["self","number"] (aZ (aN sCls 21)):=⟨rfl,rfl,rfl,by decide +kernel,rfl,by decide +kernel,by decide +kernel⟩
theorem zcr{f C:Addr}{fd:FuncData}(F:bV K "whole" "Sketch.whole" (aN sCls 21) f fd)(T:dQ K mg C)(hm:cW K C "whole" f)(hb:bU K fd ["self","number"] [])(mabs:mg "abs"=none)(mr:mg "range"=none)
  (M_doubled:MO P w K mg base C 5 "doubled" 21 (z2 q_doubled)):MO P w K mg base C 6 "whole" 2940 (lH okW q_whole):=by
 apply eQ (k:=5) (n:=1) (nN:=6) (m:=lH okW q_whole) (fun _ _ _=>rfl) F o7 hm hb rfl rfl (zcn zcq)
 case hb=>
  rintro X E ⟨cdv,A,outer,s,H,rfl⟩ XC
  exact lG (mQ 1 (zch mabs (aT (cS 0) bS)) o7.nd rfl (Or.inl rfl))
   (lG (mQ 2 (M6 (zb6 (cS 0) kF) kF (zX kF)) o7.nd rfl (Or.inl rfl))
   (lG (mQ 3 (fM "corner" SK.c T.cl T.nC fun _ _ _=>rfl) o7.nd rfl (Or.inl rfl))
   (lG (zci 140 (by decide) 4 XC PassesOwn.leaving mr (aT (zb7 (zce (cS 1)) kF) (aT (zX kF) (aT (zX kF) bS)))
    (eE (mQ 3 (bZ XC T.cl M_doubled (aT (cS 3) (aT (zck (cS 2) (zcj (zcl (cS 1) (cS 4)) kF)) bS))) o7.nd rfl (Or.inl rfl))) o7.nd rfl (Or.inl rfl))
   (eE (eI (cS 3))))))
 case em=>
  refine zco fun sk a=>?_
  have hz:0<=absZ a:=by unfold absZ;split<;>omega
  cases hd:decide ((0:Int)<a) with
  |true=>
   simp only[oY,mV,rP,zY,gR,fin,xbg,xa4,xbx,xaw,xb6,xc6,xdh,xbp,hd,cond_true,cond_false,List.replicate,xbt,xbu,xb2,List.append]
   refine ND (step:=1) (by rw[xao (xa0 hd)]) (fun m peg sk=>?_)
   have h0:(0:Int)<=(m:Int):=by omega
   simp only[xbp,xb2,xbg,xbt,xbu,xao h0,NF (a:=a) hz (show Sm (1) by unfold Sm;decide +kernel) m peg,z2,two]
  |false=>
   simp only[oY,mV,rP,zY,gR,fin,xbg,xa4,xbx,xaw,xb6,xc6,xdh,xbp,hd,cond_true,cond_false,List.replicate,xbt,xbu,xb2,List.append]
   refine ND (step:=-1) (by rw[xal (of_decide_eq_false hd)]) (fun m peg sk=>?_)
   have h0:(0:Int)<=(m:Int):=by omega
   simp only[xbp,xb2,xbg,xbt,xbu,xao h0,NF (a:=a) hz (show Sm (-1) by unfold Sm;decide +kernel) m peg,z2,two]
end Sk
namespace Sk
open L2 PyProof.Rows
variable{P:Program}{w:World}{K:xFg}{mg:Str->Option Value}{base:Heap}
abbrev NG:Stmt:=aN sCls 0
def sk0(e n c t m:Int):SK:=⟨e,n,c,t,m,0,[],[]⟩
def NH(K:xFg)(mg:Str->Option Value)(C:Addr):Sp:=fun vs H Q _=>∃(G:Hp) (p q dx:Addr) (e n c t m:Int),vs=[.ref p,.ref q,.int m]/\Same G H/\H p=some (.ins C dx [])/\G p=none/\(∀H',Same G H'->bJ K H' q [.int e,.int n,.int c,.int t])/\
 ∀l d H',H l=none->H d=none->Same G H'->(∀b o,H b=some o->b≠p->H' b=some o)->SkAt K mg C G H' p l d (sk0 e n c t m)->Q .non H'
theorem zcs:cI ["self","frame","pegs"] ["self","frame","pegs"] (aZ NG):=⟨rfl,rfl,rfl,by decide +kernel,rfl,by decide +kernel,by decide +kernel⟩
theorem same_upd{G H:Hp}{p:Addr}{o:HO}(e:Same G H)(g:G p=none):Same G (upd H p o):=fun b u h=>by
 have:b≠p:=fun z=>by rw[z,g] at h;cases h
 rw[aG this];exact e b u h
theorem none_of{G H:Hp}{l:Addr}(e:Same G H)(h:H l=none):G l=none:=by
 cases z:G l with
 |none=>rfl
 |some u=>have:=e l u z;rw[h] at this;cases this
theorem zct{f C:Addr}{fd:FuncData}{k:Nat}(F:bV K "__init__" "Sketch.__init__" NG f fd)(T:dQ K mg C):cO P w K mg base (bT P w) (k+1) f fd ["self","frame","pegs"] (NH K mg C):=by
 refine F.okX zcs (fun vs H Q E h=>?_) (fun cdv A outer s H vs Q E hr h=>?_)
 ·obtain⟨G,p,q,dx,e,n,c,t,m,rfl,_⟩:=h
  rfl
 ·obtain⟨G,p,r,dx,e,n,c,t,m,rfl,e0,h1,gp,hr',q⟩:=h
  refine⟨_,cX (kS (pv 0) (lU pQ (pv 1) i0 (fun _ _=>rfl)) rfl)
   (cX (kS (pv 0) (lU pQ (pv 1) i0 (fun _ _=>rfl)) rfl)
   (cX (kS (pv 0) (lU pQ (pv 1) i0 (fun _ _=>rfl)) rfl)
   (cX (kS (pv 0) (lU pQ (pv 1) i0 (fun _ _=>rfl)) rfl)
   (cX (kS (pv 0) (pv 2) rfl)
   (cX (kS (pv 0) i0 rfl)
   (cX (kS (pv 0) (sV eL) rfl)
   (gX (kS (pv 0) zaI rfl)))))))),?_⟩
  refine⟨_,rfl,_,_,_,_,rfl,rfl,hr' _ e0,rfl,?_⟩
  refine⟨_,rfl,p,C,dx,_,rfl,h1,T.cl,T.nE,(by show 0<1000;decide),?_⟩
  have s1:=same_upd (o:=.ins C dx (cF "east" (.int e) [])) e0 gp
  refine⟨_,rfl,_,_,_,_,rfl,rfl,hr' _ s1,rfl,?_⟩
  refine⟨_,rfl,p,C,dx,_,rfl,aV,T.cl,T.nN,(by show 1<1000;decide),?_⟩
  have s2:=same_upd (o:=.ins C dx (cF "north" (.int n) (cF "east" (.int e) []))) s1 gp
  refine⟨_,rfl,_,_,_,_,rfl,rfl,hr' _ s2,rfl,?_⟩
  refine⟨_,rfl,p,C,dx,_,rfl,aV,T.cl,T.nC,(by show 2<1000;decide),?_⟩
  have s3:=same_upd (o:=.ins C dx (cF "corner" (.int c) (cF "north" (.int n) (cF "east" (.int e) [])))) s2 gp
  refine⟨_,rfl,_,_,_,_,rfl,rfl,hr' _ s3,rfl,?_⟩
  refine⟨_,rfl,p,C,dx,_,rfl,aV,T.cl,T.nT,(by show 3<1000;decide),?_⟩
  refine⟨_,rfl,_,rfl,p,C,dx,_,rfl,aV,T.cl,T.nG,(by show 4<1000;decide),?_⟩
  refine⟨_,rfl,p,C,dx,_,rfl,aV,T.cl,T.nL,(by show 5<1000;decide),?_⟩
  have uu:∀(H':Hp) (o o':HO),upd (upd H' p o) p o'=upd H' p o':=fun H' o o'=>by
   funext b
   by_cases z:b=p
   ·rw[z,aV,aV]
   ·rw[aG z,aG z,aG z]
  simp only[uu]
  obtain⟨H6,e6⟩:∃H6,H6=upd H p (.ins C dx (cF "lines" (V.int 0) (cF "pegs" (V.int m) (cF "top" (V.int t) (cF "corner" (V.int c) (cF "north" (V.int n) (cF "east" (V.int e) []))))))):=⟨_,rfl⟩
  rw[<- e6]
  have p6:H6 p=some (.ins C dx [("east",.int e),("north",.int n),("corner",.int c),("top",.int t),("pegs",.int m),("lines",.int 0)]):=by rw[e6,aV];rfl
  refine⟨xbi _,fun l hl=>?_⟩
  have npl:p≠l:=bN p6 hl
  refine⟨_,rfl,p,C,dx,_,rfl,(by rw[aG npl];exact p6),T.cl,T.nP,(by show 6<1000;decide),?_⟩
  intro d hd
  have npd:p≠d:=fun z=>by rw[<- z,aV] at hd;cases hd
  have nld:l≠d:=fun z=>by rw[<- z,aG npl.symm,aV] at hd;cases hd
  refine⟨_,rfl,p,C,dx,_,rfl,(by rw[aG npd,aV]),T.cl,T.nD,(by show 7<1000;decide),?_⟩
  have hl0:H l=none:=by rw[e6,aG npl.symm] at hl;exact hl
  have hd0:H d=none:=by rw[aG npd.symm,aG nld.symm,e6,aG npd.symm] at hd;exact hd
  have far:∀(o1 o2 o3 o4:HO) (b:Addr),b≠p->b≠l->b≠d->(upd (upd (upd (upd H6 l o1) p o2) d o3) p o4) b=H b:=fun o1 o2 o3 o4 b n1 n2 n3=>by
   rw[aG n1,aG n3,aG n1,aG n2,e6,aG n1]
  have gl:=none_of e0 hl0
  have gd:=none_of e0 hd0
  refine q l d _ hl0 hd0 (fun b u h=>?_) (fun b o h nb=>?_) ⟨⟨dx,aV⟩,⟨[],?_,DL.Reps.nil⟩,?_,gp,gl,gd,fun kv hkv=>by cases hkv⟩
  ·have n1:b≠p:=fun z=>by rw[z,gp] at h;cases h
   have n2:b≠l:=fun z=>by rw[z,gl] at h;cases h
   have n3:b≠d:=fun z=>by rw[z,gd] at h;cases h
   rw[far _ _ _ _ b n1 n2 n3]
   exact e0 b u h
  ·have n2:b≠l:=fun z=>by rw[z,hl0] at h;cases h
   have n3:b≠d:=fun z=>by rw[z,hd0] at h;cases h
   rw[far _ _ _ _ b nb n2 n3]
   exact h
  ·rw[aG npl.symm,aG nld,aG npl.symm,aV]
  ·rw[aG npd.symm,aV];rfl
section
open DL
variable{C:Addr}
structure MD(K:xFg)(C:Addr)(x q:Str)(st:Stmt):Prop where
 ex:∃f fd,bV K x q st f fd/\cW K C x f
theorem MD.mk'{x q:Str}{st:Stmt}{f:Addr}{oc:Value}{od an:Option Addr}{osl:Array (Option Value)}{kV doc pm cdv ct:Value}(a:PySem.W.findIn K (.ref C) x=some (some (.ref f)))(i:PySem.W.isFn K (.ref f)=true)(l:K.lookup f=some ⟨oc,od,.func (PySem.W.fnOf x q (i9 st) (fE st) (aZ st) .none kV doc pm an cdv ct),osl⟩)
  (c:PySem.W.codeIn K cdv q=true) (k:PySem.W.keepIn K (.ref f)=true):MD K C x q st:=⟨f,_,wP l c k,a,i,k⟩
theorem MD.go{x q:Str}{st:Stmt}(d:MD K C x q st)(ps:List Str)
  (b:∀(kV doc pm:Value) (an:Option Addr) (cdv ct:Value) (us:List Value),us.length=ps.length->bindArgs (PySem.W.fnOf x q (i9 st) (fE st) (aZ st) .none kV doc pm an cdv ct) ⟨us,[]⟩=pure (ps.zip us)):∃f fd,bV K x q st f fd/\cW K C x f/\bU K fd ps []:=by
 obtain⟨f,fd,F,m⟩:=d.ex
 exact⟨f,fd,F,m,F.binds b⟩
end
end Sk
namespace Sk
open L2 PyProof.Rows
variable{P:Program}{w:World}{K:xFg}{mg:Str->Option Value}{base:Heap}
noncomputable def q_raised(sk:SK)(number:Int):Int×SK:=hid <|
 let r1:=q_level sk
 let r2:=nLine r1.2 number r1.2.n
 nPeg r2.2 r1.1 r2.1
theorem uT(sk:SK)(number:Int):grow 3 sk (q_raised sk number).2:=by
 delta q_raised
 rw[hid_eq]
 exact(((zQ _).trans (fU _ _ _)).trans (kG _ _ _))
theorem zcu:cI ["self","number"] ["self","number"] (aZ (aN sCls 12)):=⟨rfl,rfl,rfl,by decide +kernel,rfl,by decide +kernel,by decide +kernel⟩
theorem zcv{f C:Addr}{fd:FuncData}(F:bV K "raised" "Sketch.raised" (aN sCls 12) f fd)(T:dQ K mg C)(hm:cW K C "raised" f)(hb:bU K fd ["self","number"] [])(M_peg:MO P w K mg base C 1 "peg" 1 (z2 nPeg))(M_level:MO P w K mg base C 2 "level" 1 (z0 q_level))(M_line:MO P w K mg base C 1 "line" 1 (z2 nLine)):MO P w K mg base C 3 "raised" 3 (z1 q_raised):=by
 apply eQ (k:=2) (n:=1) (nN:=2) (m:=z1 q_raised) (fun _ _ _=>rfl) F zcu hm hb rfl rfl (zM uT)
 case hb=>
  rintro X E ⟨cdv,A,outer,s,H,rfl⟩ XC
  exact eE (eI (bZ XC T.cl (M_peg.mono (by omega)) (aT (eY XC T.cl (M_level.mono (by omega))) (aT (bZ XC T.cl (M_line.mono (by omega)) (aT (cS 0) (aT (fM "north" SK.n T.cl T.nN fun _ _ _=>rfl) bS))) bS))))
 case em=>exact zN (fun _ _=>by delta q_raised;rw[hid_eq];rfl)
noncomputable def q_added(sk:SK)(number:Int)(other:Int):Int×SK:=hid <|
 let r1:=q_high sk
 let r2:=q_heading r1.2 r1.1 other
 let r3:=q_raised r2.2 number
 q_slid r3.2 r2.1 r3.1
theorem NI(sk:SK)(number:Int)(other:Int):grow 12 sk (q_added sk number other).2:=by
 delta q_added
 rw[hid_eq]
 exact((((oZ _).trans (o5 _ _ _)).trans (uT _ _)).trans (o6 _ _ _))
theorem zcw:cI ["self","number","other"] ["self","number","other"] (aZ (aN sCls 15)):=⟨rfl,rfl,rfl,by decide +kernel,rfl,by decide +kernel,by decide +kernel⟩
theorem zcx{f C:Addr}{fd:FuncData}(F:bV K "added" "Sketch.added" (aN sCls 15) f fd)(T:dQ K mg C)(hm:cW K C "added" f)(hb:bU K fd ["self","number","other"] [])(M_slid:MO P w K mg base C 3 "slid" 3 (z2 q_slid))(M_heading:MO P w K mg base C 3 "heading" 3 (z2 q_heading))(M_high:MO P w K mg base C 3 "high" 3 (z0 q_high))(M_raised:MO P w K mg base C 3 "raised" 3 (z1 q_raised)):MO P w K mg base C 4 "added" 12 (z2 q_added):=by
 apply eQ (k:=3) (n:=2) (nN:=3) (m:=z2 q_added) (fun _ _ _=>rfl) F zcw hm hb rfl rfl (mS NI)
 case hb=>
  rintro X E ⟨cdv,A,outer,s,H,rfl⟩ XC
  exact eE (eI (bZ XC T.cl (M_slid.mono (by omega)) (aT (bZ XC T.cl (M_heading.mono (by omega)) (aT (eY XC T.cl (M_high.mono (by omega))) (aT (cS 1) bS))) (aT (bZ XC T.cl (M_raised.mono (by omega)) (aT (cS 0) bS)) bS))))
 case em=>exact mU (fun _ _ _=>by delta q_added;rw[hid_eq];rfl)
noncomputable def q_less(sk:SK)(number:Int)(other:Int):Int×SK:=hid <|
 let r1:=q_raised sk other
 let r2:=q_heading r1.2 sk.c r1.1
 let r3:=q_raised r2.2 number
 q_slid r3.2 r2.1 r3.1
theorem NJ(sk:SK)(number:Int)(other:Int):grow 12 sk (q_less sk number other).2:=by
 delta q_less
 rw[hid_eq]
 exact((((uT _ _).trans (o5 _ _ _)).trans (uT _ _)).trans (o6 _ _ _))
theorem zcy:cI ["self","number","other"] ["self","number","other"] (aZ (aN sCls 16)):=⟨rfl,rfl,rfl,by decide +kernel,rfl,by decide +kernel,by decide +kernel⟩
theorem zcz{f C:Addr}{fd:FuncData}(F:bV K "less" "Sketch.less" (aN sCls 16) f fd)(T:dQ K mg C)(hm:cW K C "less" f)(hb:bU K fd ["self","number","other"] [])(M_slid:MO P w K mg base C 3 "slid" 3 (z2 q_slid))(M_heading:MO P w K mg base C 3 "heading" 3 (z2 q_heading))(M_raised:MO P w K mg base C 3 "raised" 3 (z1 q_raised)):MO P w K mg base C 4 "less" 12 (z2 q_less):=by
 apply eQ (k:=3) (n:=2) (nN:=3) (m:=z2 q_less) (fun _ _ _=>rfl) F zcy hm hb rfl rfl (mS NJ)
 case hb=>
  rintro X E ⟨cdv,A,outer,s,H,rfl⟩ XC
  exact eE (eI (bZ XC T.cl (M_slid.mono (by omega)) (aT (bZ XC T.cl (M_heading.mono (by omega)) (aT (fM "corner" SK.c T.cl T.nC fun _ _ _=>rfl) (aT (bZ XC T.cl (M_raised.mono (by omega)) (aT (cS 1) bS)) bS))) (aT (bZ XC T.cl (M_raised.mono (by omega)) (aT (cS 0) bS)) bS))))
 case em=>exact mU (fun _ _ _=>by delta q_less;rw[hid_eq];rfl)
noncomputable def q_product(sk:SK)(number:Int)(other:Int):Int×SK:=hid <|
 let r1:=q_high sk
 let r2:=q_heading r1.2 r1.1 number
 let r3:=q_turned r2.2 other
 q_slid r3.2 r2.1 r3.1
theorem NK(sk:SK)(number:Int)(other:Int):grow 21 sk (q_product sk number other).2:=by
 delta q_product
 rw[hid_eq]
 exact((((oZ _).trans (o5 _ _ _)).trans (zT _ _)).trans (o6 _ _ _))
theorem zcA:cI ["self","number","other"] ["self","number","other"] (aZ (aN sCls 17)):=⟨rfl,rfl,rfl,by decide +kernel,rfl,by decide +kernel,by decide +kernel⟩
theorem zcB{f C:Addr}{fd:FuncData}(F:bV K "product" "Sketch.product" (aN sCls 17) f fd)(T:dQ K mg C)(hm:cW K C "product" f)(hb:bU K fd ["self","number","other"] [])(M_slid:MO P w K mg base C 3 "slid" 3 (z2 q_slid))(M_heading:MO P w K mg base C 3 "heading" 3 (z2 q_heading))(M_high:MO P w K mg base C 3 "high" 3 (z0 q_high))(M_turned:MO P w K mg base C 5 "turned" 12 (z1 q_turned)):MO P w K mg base C 6 "product" 21 (z2 q_product):=by
 apply eQ (k:=5) (n:=2) (nN:=3) (m:=z2 q_product) (fun _ _ _=>rfl) F zcA hm hb rfl rfl (mS NK)
 case hb=>
  rintro X E ⟨cdv,A,outer,s,H,rfl⟩ XC
  exact eE (eI (bZ XC T.cl (M_slid.mono (by omega)) (aT (bZ XC T.cl (M_heading.mono (by omega)) (aT (eY XC T.cl (M_high.mono (by omega))) (aT (cS 0) bS))) (aT (bZ XC T.cl (M_turned.mono (by omega)) (aT (cS 1) bS)) bS))))
 case em=>exact mU (fun _ _ _=>by delta q_product;rw[hid_eq];rfl)
end Sk
section
set_option maxHeartbeats 1000000
namespace Sk
open L2 PyProof.Rows DL
theorem SkAt.step{K:xFg}{mg:Str->Option Value}{C p l d:Addr}{G H G' H':Hp}{sk:SK}(S:SkAt K mg C G H p l d sk)(s:Step G H G' H'):SkAt K mg C G' H' p l d sk:=by
 obtain⟨⟨dx,h1⟩,⟨vs,h2,h3⟩,h4,g1,g2,g3,vi⟩:=S
 exact⟨⟨dx,s.h _ _ h1⟩,⟨vs,s.h _ _ h2,h3.mono s.g⟩,s.h _ _ h4,s.c _ _ h1 g1,s.c _ _ h2 g2,s.c _ _ h4 g3,vi⟩
theorem zcC{G H G' H':Hp}{p l d:Addr}(s:Step G H G' H'):StepO G H G' H' p l d:=⟨s.g,s.e,fun b o h _ _ _=>s.h b o h,s.c⟩
theorem StepO.then{K:xFg}{mg:Str->Option Value}{C p l d:Addr}{G H G1 H1 G2 H2:Hp}{sk sk2:SK}(S:SkAt K mg C G H p l d sk)(s:Step G H G1 H1)(t:StepO G1 H1 G2 H2 p l d)(S2:SkAt K mg C G2 H2 p l d sk2):StepO G H G2 H2 p l d:=
 StepO.trans S (S.step s) (zcC s) t S2.gp S2.gl S2.gd
abbrev FQ:=Str->SK->Int->Int->Int×SK
noncomputable def q_drawn:FQ:=fun s=>if s="+" then q_added else if s="-" then q_less else if s="*" then q_product else q_quotient
theorem g_drawn(s:Str)(sk:SK)(a b:Int):grow 21 sk (q_drawn s sk a b).2:=by
 unfold q_drawn
 split
 ·exact(NI _ _ _).wide (by decide)
 ·split
  ·exact(NJ _ _ _).wide (by decide)
  ·split
   ·exact NK _ _ _
   ·exact M2 _ _ _
inductive Dr (K:xFg) (mg:Str->Option Value) (C:Addr) (f:FQ) (H:Hp) (vs:List V) (Q:VK):Prop
 |mk (G:Hp) (p l d:Addr) (sk:SK) (s:Str) (a b:Int) (e:vs=[.str s,.ref p,.int a,.int b]) (g:Same G H) (S:SkAt K mg C G H p l d sk) (r:room 21 sk) (q:∀G' H',StepO G H G' H' p l d->SkAt K mg C G' H' p l d (f s sk a b).2->Q (.int (f s sk a b).1) H'):Dr K mg C f H vs Q
def NL(K:xFg)(mg:Str->Option Value)(C:Addr)(f:FQ):Sp:=fun vs H Q _=>Dr K mg C f H vs Q
def uU(K:xFg)(mg:Str->Option Value)(C:Addr)(f:FQ):TS:=fun D U H=>∃vs,U=vs.map some/\Dr K mg C f H vs D.rt
section
variable{X:Cx}{E:XK}{C:Addr}{k:Nat}{f g:FQ}{aK a:List Stmt}
theorem uV{x:Str}{c:Nat}{m:SK->Int->Int->Int×SK}{pl:Sem Bool}{p0 p1 p2 apos pos pos':Pos}(XC:DL.XC X E k)(T:fC X.K C)(M:MO X.prog X.w X.K X.mg X.base C k x c (z2 m))(hc:c<=21)(n1:X.N[1]? = some ("sketch":Str):=by rfl)(n2:X.N[2]? = some ("one":Str):=by rfl)(n3:X.N[3]? = some ("other":Str):=by rfl)
  (v1:cA X.env.scope "sketch":=by first|exact Or.inl rfl|exact Or.inr (Or.inl rfl)|exact Or.inr (Or.inr rfl)) (v2:cA X.env.scope "one":=by first|exact Or.inl rfl|exact Or.inr (Or.inl rfl)|exact Or.inr (Or.inr rfl)) (v3:cA X.env.scope "other":=by first|exact Or.inl rfl|exact Or.inr (Or.inl rfl)|exact Or.inr (Or.inr rfl))
  (h1:starEach [.Name "one" p1,.Name "other" p2] X.env=(false,eval (.Name "one" p1) X.env)::starEach [.Name "other" p2] X.env:=by rfl) (h2:starEach [.Name "other" p2] X.env=(false,eval (.Name "other" p2) X.env)::starEach [] X.env:=by rfl) (hpl:(backTo pos (starEach [.Name "other" p2] X.env)).any (·.1)=false:=by rfl)
  (ht : eval (.Call (.Attribute (.Name "sketch" p0) x apos) [.Name "one" p1, .Name "other" p2] [] pos) X.env = (do
   let ov<-eval (.Name "sketch" p0) X.env
   standAt apos.atName
   let (f,first)<-holding [ov] (getMethod ov x pl)
   callWith pos f first (backTo pos (starEach [.Name "one" p1,.Name "other" p2] X.env)) (backToKw pos (keywordEach [] X.env))):=by rfl) :
  cB X [.Return (some (.Call (.Attribute (.Name "sketch" p0) x apos) [.Name "one" p1,.Name "other" p2] [] pos)) pos'] (uU X.K X.mg C (fun _=>m)):=by
 obtain⟨fa,fd,ps,o1,o2,o3⟩:=M.ex
 refine cB.mono' (gX (lL (wJ (pv 1 n1 v1) T o2 o1 XC.room o3 .nil XC.pass (cN (pv 2 n2 v2) (cN (pv 3 n3 v3) eL h2) h1) h1 hpl ht))) fun D U H h=>?_
 obtain⟨vs,rfl,G,p,l,d,sk,s,a,b,rfl,e,S,R,q⟩:=h
 obtain⟨dx,hp⟩:=S.hp
 exact⟨.ref p,rfl,p,dx,_,rfl,hp,M.no _ _ _,_,rfl,_,rfl,G,p,l,d,sk,[a,b],_,_,rfl,e,S,R.less hc,rfl,q⟩
theorem zZ(lit:Str){p0 p1 p2 pos:Pos}{j:Nat}(XC:DL.XC X E k)(ha:cB X a (uU X.K X.mg C f))(hr:cB X aK (uU X.K X.mg C g))(n0:X.N[0]? = some ("sign":Str):=by rfl)
  (v0:cA X.env.scope "sign":=by first|exact Or.inl rfl|exact Or.inr (Or.inl rfl)|exact Or.inr (Or.inr rfl)) :
  cB X (.If (.Compare (.Name "sign" p0) [.Eq] [.Constant (.str lit) j p1] p2) a [] pos::aK) (uU X.K X.mg C (fun s=>if s=lit then f s else g s)):=
 cB.mono' (cX (lM (fJ (E:=E) (EZ XC) (EA 0 n0 v0) tK) ha nI) hr) fun D U H h=>by
 obtain⟨vs,rfl,G,p,l,d,sk,s,a,b,rfl,e,S,R,q⟩:=h
 refine⟨G,[some (.str s),none,none,none],⟨e,rfl,fun i x h=>?_⟩,?_⟩
 ·match i,h with
  |0,h=>cases h;exact⟨_,rfl,rfl⟩
  |1,h=>cases h
  |2,h=>cases h
  |3,h=>cases h
  |i+4,h=>simp at h
 ·have ev:aR (aC a6 (aA 0) (eC (.str lit))) [some (.str s),none,none,none]=.ok (decide (s=lit)):=by
   simp[aR,aC,aA,eC,DL.R.bind,a6,gK,bX,aY,iQ]
   by_cases h:s=lit
   ·rw[xaj h];exact beq_iff_eq.mpr h
   ·rw[xar h];exact beq_eq_false_iff_ne.mpr h
  rw[ev]
  intro G1 H1 st
  by_cases hs:s=lit
  ·rw[xaj hs]
   rw[xao hs] at q
   exact jU ⟨_,rfl,G1,p,l,d,sk,s,a,b,rfl,st.e,S.step st,R,fun G' H' t A=>q G' H' (StepO.then S st t A) A⟩
  ·rw[xar hs]
   rw[xal hs] at q
   exact jT ⟨_,rfl,G1,p,l,d,sk,s,a,b,rfl,st.e,S.step st,R,fun G' H' t A=>q G' H' (StepO.then S st t A) A⟩
end
theorem zcD:cI ["sign","sketch","one","other"] ["sign","sketch","one","other"] (aZ sDrawn):=⟨rfl,rfl,rfl,by decide +kernel,rfl,by decide +kernel,by decide +kernel⟩
theorem zcE{P:Program}{w:World}{K:xFg}{mg:Str->Option Value}{base:Heap}{f C:Addr}{fd:FuncData}(F:bV K "drawn_by" "drawn_by" sDrawn f fd)(T:dQ K mg C)(M_added:MO P w K mg base C 4 "added" 12 (z2 q_added))(M_less:MO P w K mg base C 4 "less" 12 (z2 q_less))(M_product:MO P w K mg base C 6 "product" 21 (z2 q_product))(M_quotient:MO P w K mg base C 6 "quotient" 21 (z2 q_quotient)) :
  cO P w K mg base (bT P w) 7 f fd ["sign","sketch","one","other"] (NL K mg C q_drawn):=by
 refine F.okX zcD (fun vs H Q E h=>?_) (fun cdv A outer s H vs Q E hr h=>?_)
 ·obtain⟨G,p,l,d,sk,s,a,b,rfl,_⟩:=h
  rfl
 ·have XC:DL.XC (dF (bT P w) P w K mg base ["sign","sketch","one","other"] "drawn_by" (aZ sDrawn) f cdv A outer s H E) E 6:=⟨rfl,hr,sZ⟩
  refine⟨_,zZ "+" XC (uV XC T.cl (M_added.mono (by omega)) (by decide)) (zZ "-" XC (uV XC T.cl (M_less.mono (by omega)) (by decide)) (zZ "*" XC (uV XC T.cl (M_product.mono (by omega)) (by decide)) (uV XC T.cl (M_quotient.mono (by omega)) (by decide)))),vs,?_,?_⟩
  ·obtain⟨G,p,l,d,sk,s,a,b,rfl,_⟩:=h
   rfl
  ·obtain⟨G,p,l,d,sk,s,a,b,e1,e,S,R,q⟩:=h
   refine⟨G,p,l,d,sk,s,a,b,e1,e,S,R,?_⟩
   have:(if s="+" then q_added else if s="-" then q_less else if s="*" then q_product else q_quotient)=q_drawn s:=rfl
   rw[this]
   exact q
end Sk
end
section
set_option maxHeartbeats 1000000
namespace Sk
open L2 PyProof.Rows DL
structure SkG(P:Program)(w:World)(K:xFg)(mg:Str->Option Value)(base:Heap)(k:Nat)(C:Addr):Prop where
 ex:∃(j:Nat) (fi:Addr) (fdi:FuncData),k=j+1/\Mk K C fi/\mg "Sketch"=some (.ref C)/\cO P w K mg base (bT P w) j fi fdi ["self","frame","pegs"] (NH K mg C)/\bU K fdi ["self","frame","pegs"] []
 dr:∃(f:Addr) (fd:FuncData),cO P w K mg base (bT P w) k f fd ["sign","sketch","one","other"] (NL K mg C q_drawn)/\mg "drawn_by"=some (.ref f)/\PySem.W.keepIn K (.ref f)=true/\bU K fd ["sign","sketch","one","other"] []
 wh:MO P w K mg base C k "whole" 2940 (lH okW q_whole)
 T:dQ K mg C
theorem SkG.mono{P:Program}{w:World}{K:xFg}{mg:Str->Option Value}{base:Heap}{k k':Nat}{C:Addr}(F:SkG P w K mg base k C)(h:k<=k'):SkG P w K mg base k' C:=by
 obtain⟨⟨j,fi,fdi,rfl,h1,h2,h3,h4⟩,⟨f,fd,h5,h6⟩,h7,h8⟩:=F
 exact⟨⟨k'-1,fi,fdi,by omega,h1,h2,h3.mono (by omega),h4⟩,⟨f,fd,h5.mono h,h6⟩,h7.mono h,h8⟩
structure JS where
 τ:DSt
 xs:List Int
 sk:SK
structure LP(X:Cx)(C:Addr)(iS iD:Nat)(G:Hp)(xs:List Int)(sk:SK)(U:L2.St)(H:Hp)(p l d q:Addr):Prop where
 hS:U[iS]? = some (some (.ref p))
 hD:U[iD]? = some (some (.ref q))
 at_:SkAt X.K X.mg C G H p l d sk
 hq:H q=some (.lst (xs.reverse.map V.int))
 gq:G q=none
 ql:q≠l
 fp:X.H₀ p=none
 fl:X.H₀ l=none
 fd:X.H₀ d=none
 fq:X.H₀ q=none
structure LS(X:Cx)(C:Addr)(iS iD:Nat)(G0 G:Hp)(j:JS)(U:L2.St)(H:Hp):Prop where
 ok:bO X.K X.mg j.τ U G H
 s0:Step G0 X.H₀ G H
 ex:∃p l d q,LP X C iS iD G j.xs j.sk U H p l d q
section
variable{X:Cx}{C p l d q:Addr}{iS iD:Nat}{G0 G H G' H':Hp}{j:JS}{U:L2.St}
theorem LP.qp(z:LP X C iS iD G j.xs j.sk U H p l d q):q≠p:=by
 obtain⟨dx,h⟩:=z.at_.hp
 exact jP z.hq h (by intro z;cases z)
theorem LP.qd(z:LP X C iS iD G j.xs j.sk U H p l d q):q≠d:=jP z.hq z.at_.hd (by intro z;cases z)
theorem LP.step(z:LP X C iS iD G j.xs j.sk U H p l d q)(s:Step G H G' H'):LP X C iS iD G' j.xs j.sk U H' p l d q:=⟨z.hS,z.hD,z.at_.step s,s.h _ _ z.hq,s.c _ _ z.hq z.gq,z.ql,z.fp,z.fl,z.fd,z.fq⟩
theorem LS.step(h:LS X C iS iD G0 G j U H)(s:Step G H G' H'):LS X C iS iD G0 G' j U H':=
 ⟨h.ok.step s,h.s0.trans s,let⟨p,l,d,q,z⟩:=h.ex;⟨p,l,d,q,z.step s⟩⟩
theorem LS.set{i:Nat}{x:D}{v:V}(h:LS X C iS iD G0 G j U H)(nS:i≠iS)(nD:i≠iD)(r:aS X.K X.mg G x v):LS X C iS iD G0 G ⟨j.τ.set i (some x),j.xs,j.sk⟩ (U.set i (some v)) H:=
 ⟨h.ok.set r,h.s0,let⟨p,l,d,q,z⟩:=h.ex;⟨p,l,d,q,by rw[xaf nS];exact z.hS,by rw[xaf nD];exact z.hD,z.at_,z.hq,z.gq,z.ql,z.fp,z.fl,z.fd,z.fq⟩⟩
theorem LS.write{xs:List Int}(h:LS X C iS iD G0 G j U H)(z:LP X C iS iD G j.xs j.sk U H p l d q):LS X C iS iD G0 G ⟨j.τ,xs,j.sk⟩ U (upd H q (.lst (xs.reverse.map V.int))):=by
 obtain⟨⟨dx,h1⟩,⟨vs,h2,h3⟩,h4,g1,g2,g3,vi⟩:=z.at_
 refine⟨⟨fun b u e=>by rw[aG (bN e z.gq)];exact h.ok.ext b u e,h.ok.len,h.ok.val⟩,h.s0.write (o:=.lst []) z.fq z.gq,p,l,d,q,z.hS,z.hD,⟨⟨dx,?_⟩,⟨vs,?_,h3⟩,?_,g1,g2,g3,vi⟩,aV,z.gq,z.ql,z.fp,z.fl,z.fd,z.fq⟩
 ·rw[aG (xa5 z.qp)];exact h1
 ·rw[aG (xa5 z.ql)];exact h2
 ·rw[aG (xa5 z.qd)];exact h4
theorem LS.drawn{sk':SK}(h:LS X C iS iD G0 G j U H)(z:LP X C iS iD G j.xs j.sk U H p l d q)(t:StepO G H G' H' p l d)(A:SkAt X.K X.mg C G' H' p l d sk'):LS X C iS iD G0 G' ⟨j.τ,j.xs,sk'⟩ U H'/\LP X C iS iD G' j.xs sk' U H' p l d q:=by
 have L:LP X C iS iD G' j.xs sk' U H' p l d q:=⟨z.hS,z.hD,A,t.h q _ z.hq z.qp z.ql z.qd,t.c q _ z.hq z.gq,z.ql,z.fp,z.fl,z.fd,z.fq⟩
 refine⟨⟨⟨t.e,h.ok.len,fun i x e=>?_⟩,⟨h.s0.g.trans t.g,fun b o e=>t.h b o (h.s0.h b o e) (bN e z.fp) (bN e z.fl) (bN e z.fd),t.e,fun b o e1 e2=>t.c b o (h.s0.h b o e1) (h.s0.c b o e1 e2)⟩,p,l,d,q,L⟩,L⟩
 obtain⟨v,h1,h2⟩:=h.ok.val i x e
 exact⟨v,h1,h2.mono t.g⟩
end
abbrev JF:=JS->R JS
def tJ(X:Cx)(E:XK)(C:Addr)(iS iD:Nat)(G0:Hp)(f:JF):TS:=fun Dn U H=>∃G j,LS X C iS iD G0 G j U H/\RW (f j) (fun r=>∀U' G' H',LS X C iS iD G0 G' r U' H'->Same G G'->Dn.nx U' H') (bA X.K X.mg E G0 X.H₀)
def J1(X:Cx)(E:XK)(C:Addr)(iS iD:Nat)(st:Stmt)(f:JF):Prop:=∀G0,PS X st (tJ X E C iS iD G0 f)
def Js(X:Cx)(E:XK)(C:Addr)(iS iD:Nat)(st:List Stmt)(f:JF):Prop:=∀G0,cB X st (tJ X E C iS iD G0 f)
def jSeq(f g:JF):JF:=fun j=>(f j).bind g
def jIf(c:DSt->R Bool)(f g:JF):JF:=fun j=>(c j.τ).bind fun k=>bif k then f j else g j
def jPop(k:Nat):JF:=fun j=>match j.xs with
 |x::r=>.ok ⟨j.τ.set k (some (.int x)),r,j.sk⟩
 |[]=>.bad
def jApp(fe:DSt->R D):JF:=fun j=>(fe j.τ).bind fun d=>match d with
 |.int n=>bif most j.xs.length then .ok ⟨j.τ,n::j.xs,j.sk⟩ else .bad
 |_=>.bad
instance decRoom (c:Nat) (sk:SK):Decidable (room c sk):=by unfold room;exact inferInstance
noncomputable def jWhole(fe:DSt->R D):JF:=fun j=>(fe j.τ).bind fun d=>match d with
 |.int n=>bif most j.xs.length&&decide (okW n)&&decide (room 2940 j.sk) then .ok ⟨j.τ,(q_whole j.sk n).1::j.xs,(q_whole j.sk n).2⟩ else .bad
 |_=>.bad
noncomputable def AA(j:JS)(s a b:D):R JS:=match s,a,b with
 |.str s,.int a,.int b=>bif most j.xs.length&&decide (room 21 j.sk) then .ok ⟨j.τ,(q_drawn s j.sk a b).1::j.xs,(q_drawn s j.sk a b).2⟩ else .bad
 |_,_,_=>.bad
noncomputable def jDrawn(f0 f1 f2:DSt->R D):JF:=fun j=>(f0 j.τ).bind fun s=>(f1 j.τ).bind fun a=>(f2 j.τ).bind fun b=>AA j s a b
def jRaise(f:DSt->R aD):JF:=fun j=>(f j.τ).bind fun _=>.bad
def jLoop(k:Nat)(f:JF):List D->JF
 |[],j=>.ok j
 |d::ds,j=>(f ⟨j.τ.set k (some d),j.xs,j.sk⟩).bind (jLoop k f ds)
def jFor(k:Nat)(fi:DSt->R (List D))(f:JF):JF:=fun j=>(fi j.τ).bind fun ds=>jLoop k f ds j
section
variable{X:Cx}{E:XK}{C:Addr}{iS iD kX:Nat}{st:Stmt}{aK:List Stmt}{f g:JF}{pos np pos':Pos}{x y:Str}
theorem js_one(h:J1 X E C iS iD st f):Js X E C iS iD [st] f:=fun G0=>gX (h G0)
theorem js_cons(h1:J1 X E C iS iD st f)(h2:Js X E C iS iD aK g):Js X E C iS iD (st::aK) (jSeq f g):=fun G0=>cB.mono' (cX (h1 G0) (h2 G0)) fun Dn U H ⟨G,j,L,q⟩=>
 ⟨G,j,L,q.of_bind.mono (fun r _ z U' G' H' L' e=>⟨G',r,L',(show RW (g r) _ _ from z).mono (fun r' _ z σ2 G2 H2 L2 e2=>z σ2 G2 H2 L2 (e.trans e2)) fun _ z=>z⟩) fun _ z=>z⟩
theorem j1_if{c:Expr}{a b:List Stmt}{fc:DSt->R Bool}(hc:DT X E c fc)(ha:Js X E C iS iD a f)(hb:Js X E C iS iD b g):J1 X E C iS iD (.If c a b pos) (jIf fc f g):=fun G0=>
 PS.mono' (lM hc (ha G0) (hb G0)) fun Dn U H ⟨G,j,L,q⟩=>by
 refine⟨G,j.τ,L.ok,q.of_bind.mono (fun k _ z G' H' s=>?_) fun _ z=>z.step L.s0⟩
 cases k with
 |true=>exact jU ⟨G',j,L.step s,(show RW (f j) _ _ from z).mono (fun r' _ z σ2 G2 H2 L2 e2=>z σ2 G2 H2 L2 (s.g.trans e2)) fun _ z=>z⟩
 |false=>exact jT ⟨G',j,L.step s,(show RW (g j) _ _ from z).mono (fun r' _ z σ2 G2 H2 L2 e2=>z σ2 G2 H2 L2 (s.g.trans e2)) fun _ z=>z⟩
theorem j1_pop(k:Nat){apos cpos:Pos}(hN:X.N.Nodup)(hk:(!(k==iS) && !(k==iD))=true:=by rfl)(hi:X.N[iD]? = some x:=by rfl)(hj:X.N[k]? = some y:=by rfl)(hv:cA X.env.scope x:=by first|exact Or.inl rfl|exact Or.inr (Or.inl rfl)|exact Or.inr (Or.inr rfl))(hd:(x==("__debug__":Str))=false:=by decide)
  (hcd:(x==("__classdict__":Str))=false:=by decide) (hy:fB X.env.scope y:=by first|exact Or.inl rfl|exact Or.inr rfl)
  (hbase:attributeBase (.Name x np) "pop" X.env (eval (.Name x np) X.env)=eval (.Name x np) X.env:=by rfl) (hline:(apos.endLine==cpos.line)=true:=by rfl)
  (hs:swapsWith (.Call (.Attribute (.Name x np) "pop" apos) [] [] cpos) (some (.Name y pos')) pos.line X.env=pure false:=by rfl)
  (hf:X.fn y=true\/X.env.scope.names.lookup y=some .local:=by first|exact .inl rfl|exact .inr rfl|assumption) :
  J1 X E C iS iD (.Assign [.Name y pos'] (.Call (.Attribute (.Name x np) "pop" apos) [] [] cpos) pos) (jPop k):=fun G0=>
 PS.mono' (gF hN hj hy (nV PySem.F.plainAttrs_list PySem.F.slot_list_pop PySem.F.type_list_pop sX (pv iD hi hv hd hcd) hbase hline) hs hf) fun Dn U H ⟨G,j,L,q⟩=>by
 simp only[xau,xci,beq_eq_false_iff_ne] at hk
 obtain⟨p,l,d,a,z⟩:=L.ex
 unfold jPop at q
 cases hx:j.xs with
 |nil=>rw[hx] at q;exact(show False from q).elim
 |cons n r=>
  rw[hx] at q
  have hq:=z.hq
  rw[hx,xbq,xa3] at hq
  refine⟨_,z.hD,.inl ⟨rfl,_,aW.of hq⟩,a,_,.int n,rfl,rfl,hq,by simp,?_⟩
  rw[show ((r.reverse.map V.int)++[n].map V.int).dropLast=r.reverse.map V.int from by rw[List.map_singleton,xdi]]
  exact(show ∀U' G' H',LS X C iS iD G0 G' ⟨j.τ.set k (some (.int n)),r,j.sk⟩ U' H'->Same G G'->Dn.nx U' H' from q) _ G _ ((L.write (xs:=r) z).set hk.1 hk.2 rfl) (Same.refl _)
theorem AB{e:Expr}{t:TE}{apos cpos:Pos}(he:PE X e t)(hi:X.N[iD]? = some x:=by rfl)(hv:cA X.env.scope x:=by first|exact Or.inl rfl|exact Or.inr (Or.inl rfl)|exact Or.inr (Or.inr rfl))(hd:(x==("__debug__":Str))=false:=by decide)
  (hcd:(x==("__classdict__":Str))=false:=by decide)
  (hbase:attributeBase (.Name x np) "append" X.env (eval (.Name x np) X.env)=eval (.Name x np) X.env:=by rfl)
  (hfew:((backTo cpos (starEach [e] X.env)).all (fun x=>!x.1)&&(backToKw cpos (keywordEach [] X.env)).all (fun x=>x.1.isSome)&&decide ([e].length+([]:List Keyword).length+(if ([]:List Keyword).isEmpty then 0 else 1)<30))=true:=by rfl)
  (hline:(apos.endLine==cpos.line)=true:=by rfl) (hs:starEach [e] X.env=(false,eval e X.env)::starEach [] X.env:=by rfl) (hplain:(backTo cpos (starEach [] X.env)).any (·.1)=false:=by rfl)
  (hsw:swapsWith (.Call (.Attribute (.Name x np) "append" apos) [e] [] cpos) none pos.line X.env=pure false:=by rfl) :
  PS X (.Expr (.Call (.Attribute (.Name x np) "append" apos) [e] [] cpos) pos) (fun Dn U H=>∃a xs,U[iD]? = some (some (.ref a))/\H a=some (.lst xs)/\t U H fun y H1=>wN (.ref a) [y] H1 fun _ H2=>Dn.nx U H2):=
 PS.mono' (jR (kT PySem.F.plainAttrs_list PySem.F.slot_list_append PySem.F.type_list_append lW (pv iD hi hv hd hcd) (cN he eL hs) hbase hfew hline hs hplain) hsw) fun Dn U H ⟨a,xs,h1,h2,h3⟩=>⟨_,h1,.inl ⟨rfl,_,aW.of h2⟩,h3⟩
theorem LS.app{Dn:iM}{G0 G G' H:Hp}{j:JS}{U:L2.St}{p l d q:Addr}{n:Int}(L:LS X C iS iD G0 G' j U H)(z:LP X C iS iD G' j.xs j.sk U H p l d q)(hm:most j.xs.length=true)(e:Same G G')(h:∀U' G' H',LS X C iS iD G0 G' ⟨j.τ,n::j.xs,j.sk⟩ U' H'->Same G G'->Dn.nx U' H'):wN (.ref q) [.int n] H fun _ H2=>Dn.nx U H2:=by
 have hlt:j.xs.length<sizeLine:=xa0 hm
 refine⟨q,_,_,rfl,rfl,z.hq,by simpa using hlt,?_⟩
 rw[show j.xs.reverse.map V.int++[V.int n]=(n::j.xs).reverse.map V.int from by rw[xbq,xa3];rfl]
 exact h U G' _ (L.write (xs:=n::j.xs) z) e
theorem j1_app{e:Expr}{fe:DSt->R D}{apos cpos:Pos}(he:DE X E e fe)(hi:X.N[iD]? = some x:=by rfl)(hv:cA X.env.scope x:=by first|exact Or.inl rfl|exact Or.inr (Or.inl rfl)|exact Or.inr (Or.inr rfl))(hd:(x==("__debug__":Str))=false:=by decide)
  (hcd:(x==("__classdict__":Str))=false:=by decide)
  (hbase:attributeBase (.Name x np) "append" X.env (eval (.Name x np) X.env)=eval (.Name x np) X.env:=by rfl)
  (hfew:((backTo cpos (starEach [e] X.env)).all (fun x=>!x.1)&&(backToKw cpos (keywordEach [] X.env)).all (fun x=>x.1.isSome)&&decide ([e].length+([]:List Keyword).length+(if ([]:List Keyword).isEmpty then 0 else 1)<30))=true:=by rfl)
  (hline:(apos.endLine==cpos.line)=true:=by rfl) (hs:starEach [e] X.env=(false,eval e X.env)::starEach [] X.env:=by rfl) (hplain:(backTo cpos (starEach [] X.env)).any (·.1)=false:=by rfl)
  (hsw:swapsWith (.Call (.Attribute (.Name x np) "append" apos) [e] [] cpos) none pos.line X.env=pure false:=by rfl) :
  J1 X E C iS iD (.Expr (.Call (.Attribute (.Name x np) "append" apos) [e] [] cpos) pos) (jApp fe):=fun G0=>
 PS.mono' (AB he hi hv hd hcd hbase hfew hline hs hplain hsw) fun Dn U H ⟨G,j,L,q⟩=>by
 obtain⟨p,l,d,a,z⟩:=L.ex
 refine⟨a,_,z.hD,z.hq,G,j.τ,L.ok,q.of_bind.mono (fun dd _ w v G' H' s r=>?_) fun _ z=>z.step L.s0⟩
 cases dd with
 |int n=>
  cases r
  have w:RW (bif most j.xs.length then R.ok (⟨j.τ,n::j.xs,j.sk⟩:JS) else .bad) (fun r=>∀U' G' H',LS X C iS iD G0 G' r U' H'->Same G G'->Dn.nx U' H') (bA X.K X.mg E G0 X.H₀):=w
  cases hm:most j.xs.length with
  |false=>rw[hm] at w;exact(show False from w).elim
  |true=>rw[hm] at w;exact(L.step s).app (z.step s) hm s.g w
 |_=>exact(show False from w).elim
theorem j1_whole{e:Expr}{fe:DSt->R D}{apos cpos apos' cpos' np':Pos}{y:Str}{pl:Sem Bool}(XC:DL.XC X E kX)(S:SkG X.prog X.w X.K X.mg X.base kX C)(he:DE X E e fe)(hi:X.N[iD]? = some x:=by rfl)(hi':X.N[iS]? = some y:=by rfl)(hv:cA X.env.scope x:=by first|exact Or.inl rfl|exact Or.inr (Or.inl rfl)|exact Or.inr (Or.inr rfl))(hd:(x==("__debug__":Str))=false:=by decide)
  (hcd:(x==("__classdict__":Str))=false:=by decide) (hv':cA X.env.scope y:=by first|exact Or.inl rfl|exact Or.inr (Or.inl rfl)|exact Or.inr (Or.inr rfl)) (hd':(y==("__debug__":Str))=false:=by decide) (hcd':(y==("__classdict__":Str))=false:=by decide)
  (h1:starEach [e] X.env=(false,eval e X.env)::starEach [] X.env:=by rfl) (h2:(backTo cpos' (starEach [] X.env)).any (·.1)=false:=by rfl)
  (ht : eval (.Call (.Attribute (.Name y np') "whole" apos') [e] [] cpos') X.env = (do
   let ov<-eval (.Name y np') X.env
   standAt apos'.atName
   let (f,first)<-holding [ov] (getMethod ov "whole" pl)
   callWith cpos' f first (backTo cpos' (starEach [e] X.env)) (backToKw cpos' (keywordEach [] X.env))):=by rfl)
  (hbase:attributeBase (.Name x np) "append" X.env (eval (.Name x np) X.env)=eval (.Name x np) X.env:=by rfl)
  (hfew:((backTo cpos (starEach [.Call (.Attribute (.Name y np') "whole" apos') [e] [] cpos'] X.env)).all (fun x=>!x.1)&&(backToKw cpos (keywordEach [] X.env)).all (fun x=>x.1.isSome)&&decide ([Expr.Call (.Attribute (.Name y np') "whole" apos') [e] [] cpos'].length+([]:List Keyword).length+(if ([]:List Keyword).isEmpty then 0 else 1)<30))=true:=by rfl)
  (hline:(apos.endLine==cpos.line)=true:=by rfl) (hs:starEach [.Call (.Attribute (.Name y np') "whole" apos') [e] [] cpos'] X.env=(false,eval (.Call (.Attribute (.Name y np') "whole" apos') [e] [] cpos') X.env)::starEach [] X.env:=by rfl) (hplain:(backTo cpos (starEach [] X.env)).any (·.1)=false:=by rfl)
  (hsw:swapsWith (.Call (.Attribute (.Name x np) "append" apos) [.Call (.Attribute (.Name y np') "whole" apos') [e] [] cpos'] [] cpos) none pos.line X.env=pure false:=by rfl) :
  J1 X E C iS iD (.Expr (.Call (.Attribute (.Name x np) "append" apos) [.Call (.Attribute (.Name y np') "whole" apos') [e] [] cpos'] [] cpos) pos) (jWhole fe):=fun G0=>by
 obtain⟨f,fd,ps,o1,o2,o3⟩:=S.wh.ex
 refine PS.mono' (AB (wJ (pv iS hi' hv' hd' hcd') S.T.cl o2 o1 XC.room o3 .nil XC.pass (cN he eL h1) h1 h2 ht) hi hv hd hcd hbase hfew hline hs hplain hsw) fun Dn U H ⟨G,j,L,q⟩=>?_
 obtain⟨p,l,d,a,z⟩:=L.ex
 obtain⟨dx,hp⟩:=z.at_.hp
 refine⟨a,_,z.hD,z.hq,_,z.hS,p,dx,_,rfl,hp,S.wh.no _ _ _,G,j.τ,L.ok,q.of_bind.mono (fun dd _ w v G1 H1 s r=>?_) fun _ z=>z.step L.s0⟩
 cases dd with
 |int n=>
  cases r
  have w:RW (bif most j.xs.length&&decide (okW n)&&decide (room 2940 j.sk) then R.ok (⟨j.τ,(q_whole j.sk n).1::j.xs,(q_whole j.sk n).2⟩:JS) else .bad) (fun r=>∀U' G' H',LS X C iS iD G0 G' r U' H'->Same G G'->Dn.nx U' H') (bA X.K X.mg E G0 X.H₀):=w
  cases hm:(most j.xs.length&&decide (okW n)&&decide (room 2940 j.sk)) with
  |false=>rw[hm] at w;exact(show False from w).elim
  |true=>
   rw[hm] at w
   simp only[xau,decide_eq_true_eq] at hm
   have L1:=L.step s
   have z1:=z.step s
   refine⟨G1,p,l,d,j.sk,[n],(q_whole j.sk n).1,(q_whole j.sk n).2,rfl,s.e,z1.at_,hm.2,?_,fun G2 H2 t A=>?_⟩
   ·show lH okW q_whole [n] j.sk=_
    unfold lH
    exact xao hm.1.2
   ·obtain⟨L2,z2⟩:=L1.drawn z1 t A
    exact L2.app z2 hm.1.1 (s.g.trans t.g) w
 |_=>exact(show False from w).elim
theorem j1_drawn{e0 e1 e2:Expr}{f0 f1 f2:DSt->R D}{apos cpos np' fp cpos':Pos}{y:Str}(XC:DL.XC X E kX)(S:SkG X.prog X.w X.K X.mg X.base kX C)(he0:DE X E e0 f0)(he1:DE X E e1 f1)(he2:DE X E e2 f2)(hi:X.N[iD]? = some x:=by rfl)(hi':X.N[iS]? = some y:=by rfl)(hv:cA X.env.scope x:=by first|exact Or.inl rfl|exact Or.inr (Or.inl rfl)|exact Or.inr (Or.inr rfl))(hd:(x==("__debug__":Str))=false:=by decide)
  (hcd:(x==("__classdict__":Str))=false:=by decide) (hv':cA X.env.scope y:=by first|exact Or.inl rfl|exact Or.inr (Or.inl rfl)|exact Or.inr (Or.inr rfl)) (hd':(y==("__debug__":Str))=false:=by decide) (hcd':(y==("__classdict__":Str))=false:=by decide) (hg:Gl X "drawn_by":=by rfl)
  (h0:starEach [e0,.Name y np',e1,e2] X.env=(false,eval e0 X.env)::starEach [.Name y np',e1,e2] X.env:=by rfl) (h1:starEach [.Name y np',e1,e2] X.env=(false,eval (.Name y np') X.env)::starEach [e1,e2] X.env:=by rfl) (h2:starEach [e1,e2] X.env=(false,eval e1 X.env)::starEach [e2] X.env:=by rfl) (h3:starEach [e2] X.env=(false,eval e2 X.env)::starEach [] X.env:=by rfl) (h4:(backTo cpos' (starEach [.Name y np',e1,e2] X.env)).any (·.1)=false:=by rfl)
  (hbase:attributeBase (.Name x np) "append" X.env (eval (.Name x np) X.env)=eval (.Name x np) X.env:=by rfl)
  (hfew:((backTo cpos (starEach [.Call (.Name "drawn_by" fp) [e0,.Name y np',e1,e2] [] cpos'] X.env)).all (fun x=>!x.1)&&(backToKw cpos (keywordEach [] X.env)).all (fun x=>x.1.isSome)&&decide ([Expr.Call (.Name "drawn_by" fp) [e0,.Name y np',e1,e2] [] cpos'].length+([]:List Keyword).length+(if ([]:List Keyword).isEmpty then 0 else 1)<30))=true:=by rfl)
  (hline:(apos.endLine==cpos.line)=true:=by rfl) (hs:starEach [.Call (.Name "drawn_by" fp) [e0,.Name y np',e1,e2] [] cpos'] X.env=(false,eval (.Call (.Name "drawn_by" fp) [e0,.Name y np',e1,e2] [] cpos') X.env)::starEach [] X.env:=by rfl) (hplain:(backTo cpos (starEach [] X.env)).any (·.1)=false:=by rfl)
  (hsw:swapsWith (.Call (.Attribute (.Name x np) "append" apos) [.Call (.Name "drawn_by" fp) [e0,.Name y np',e1,e2] [] cpos'] [] cpos) none pos.line X.env=pure false:=by rfl) :
  J1 X E C iS iD (.Expr (.Call (.Attribute (.Name x np) "append" apos) [.Call (.Name "drawn_by" fp) [e0,.Name y np',e1,e2] [] cpos'] [] cpos) pos) (jDrawn f0 f1 f2):=fun G0=>by
 obtain⟨f,fd,o1,o2,o3,o4⟩:=S.dr
 refine PS.mono' (AB (CM o1 XC.room hg o2 o3 o4 .nil XC.pass (cN he0 (cN (pv iS hi' hv' hd' hcd') (cN he1 (cN he2 eL h3) h2) h1) h0) (by decide) h0 h4) hi hv hd hcd hbase hfew hline hs hplain hsw) fun Dn U H ⟨G,j,L,q⟩=>?_
 obtain⟨p,l,d,a,z⟩:=L.ex
 refine⟨a,_,z.hD,z.hq,G,j.τ,L.ok,q.of_bind.mono (fun ds k1 w1 v G1 H1 s1 r1=>?_) fun _ z=>z.step L.s0⟩
 have L1:=L.step s1
 have z1:=z.step s1
 refine⟨_,z.hS,G1,j.τ,L1.ok,(show RW ((f1 j.τ).bind _) _ _ from w1).of_bind.mono (fun da k2 w2 v2 G2 H2 s2 r2=>?_) fun _ z=>z.step L1.s0⟩
 have L2:=L1.step s2
 have z2:=z1.step s2
 refine⟨G2,j.τ,L2.ok,(show RW ((f2 j.τ).bind _) _ _ from w2).of_bind.mono (fun db k3 w3 v3 G3 H3 s3 r3=>?_) fun _ z=>z.step L2.s0⟩
 have L3:=L2.step s3
 have z3:=z2.step s3
 have w:RW (AA j ds da db) (fun r=>∀U' G' H',LS X C iS iD G0 G' r U' H'->Same G G'->Dn.nx U' H') (bA X.K X.mg E G0 X.H₀):=w3
 clear w1 w2 w3 k1 k2 k3
 unfold AA at w
 split at w
 ·rename_i s n m
  cases r1;cases r2;cases r3
  cases hm:(most j.xs.length&&decide (room 21 j.sk)) with
  |false=>rw[hm] at w;exact(show False from w).elim
  |true=>
   rw[hm] at w
   simp only[xau,decide_eq_true_eq] at hm
   refine⟨G3,p,l,d,j.sk,s,n,m,rfl,s3.e,z3.at_,hm.2,fun G4 H4 t A=>?_⟩
   obtain⟨L4,z4⟩:=L3.drawn z3 t A
   exact L4.app z4 hm.1 (s1.g.trans (s2.g.trans (s3.g.trans t.g))) w
 ·exact(show False from w).elim
theorem j1_raise{h:DSt->R aD}(hr:DS X E [] [] [] st h):J1 X E C iS iD st (jRaise h):=fun G0=>
 PS.mono' (hr G0) fun Dn U H ⟨G,j,L,q⟩=>⟨G,j.τ,⟨L.ok.ext,L.ok.len,fun i d _ e=>L.ok.val i d e,fun i d hi=>xaq hi (by simp),fun i k a d d' hi=>xaq hi (by simp)⟩,L.s0,q.of_bind.mono (fun o _ z=>(show False from z).elim) fun _ z=>z⟩
theorem j1_for(k:Nat){iter:Expr}{body:List Stmt}{fi:DSt->R (List D)}{tp:Pos}(L:XL X)(hc:X.calm=true)(hi:DI X E (.Name x tp) iter fi)(hg:DG X (.Name x tp) [k] bK)(hb:Js X E C iS iD body f)(hk:(!(k==iS) && !(k==iD))=true:=by rfl)(hs:∀x,foldedSetIterable iter X.env x=pure x:=by intro _;rfl) :
  J1 X E C iS iD (.For (.Name x tp) iter body [] pos) (jFor k fi f):=fun G0=>PS.mono' (sO L.own hc hi hg (hb G0) hs) fun Dn U H ⟨G,j,L,q⟩=>by
 simp only[xau,xci,beq_eq_false_iff_ne] at hk
 refine⟨G,j.τ,L.ok,q.of_bind.mono (fun ds _ z J G1 H1 s1 it=>?_) fun _ z=>z.step L.s0⟩
 refine⟨fun n m U' H'=>m=ds.length-n/\n<=ds.length/\∃G' j',LS X C iS iD G0 G' j' U' H'/\Same G1 G'/\RW (jLoop k f (ds.drop n) j') (fun r=>∀U' G' H',LS X C iS iD G0 G' r U' H'->Same G1 G'->Dn.nx U' H') (bA X.K X.mg E G0 X.H₀),
  ⟨ds.length,by simp,xbi _,G1,j,L.step s1,Same.refl _,(show RW (jLoop k f ds j) _ _ from z).mono (fun _ _ z U' G' H' a e=>z U' G' H' a (s1.g.trans e)) fun _ z=>z⟩,?_⟩
 rintro n m U' H' ⟨rfl,hn,G',j',L',e',w⟩
 by_cases hlt:n<ds.length
 ·right
  obtain⟨d,hd⟩:∃d,ds[n]? = some d:=⟨ds[n],by simp[hlt]⟩
  obtain⟨g1,g2⟩:=it.turn H' n d (e'.trans L'.ok.ext) hd
  have hdrop:ds.drop n=d::ds.drop (n+1):=by
   rw[xb8 hlt]
   congr 1
   exact xas ((xa7 hlt).symm.trans hd)
  rw[hdrop] at w
  refine⟨g1,fun σ2 H2=>n+1<=ds.length/\∃G' j',LS X C iS iD G0 G' j' σ2 H2/\Same G1 G'/\RW (jLoop k f (ds.drop (n+1)) j') (fun r=>∀U' G' H',LS X C iS iD G0 G' r U' H'->Same G1 G'->Dn.nx U' H') (bA X.K X.mg E G0 X.H₀),
   fun σ2 H2 ⟨h1,h2⟩=>⟨ds.length-(n+1),by omega,rfl,h1,h2⟩,fun x H2 hy=>?_⟩
  obtain⟨G2,s2,r2⟩:=g2 x H2 hy G' e' L'.ok.ext
  unfold jLoop at w
  refine⟨G2,d,s2.e,r2,RW.ok_of (a:=[d]) rfl fun ws rws=>?_⟩
  obtain⟨v,_,rfl,rv,hnil⟩:=rws
  cases hnil
  have L2:=(L'.step s2).set hk.1 hk.2 rv
  refine⟨G2,_,L2,w.of_bind.mono (fun o _ z=>?_) fun _ z=>z⟩
  exact fun σ4 G4 H4 L4 e4=>⟨hlt,G4,o,L4,(e'.trans s2.g).trans e4,z⟩
 ·left
  have hn2:n=ds.length:=by omega
  subst hn2
  rw[xc5] at w
  refine⟨it.stop H' (e'.trans L'.ok.ext),?_⟩
  unfold jLoop at w
  exact(show ∀U' G' H',LS X C iS iD G0 G' j' U' H'->Same G1 G'->Dn.nx U' H' from w) U' G' H' L' e'
end
end Sk
end
section
set_option maxHeartbeats 2000000
namespace Sk
open L2 PyProof.Rows DL
def NM:D->Option (List Int)
 |.tup xs=>mF xs
 |_=>none
theorem zcF{a:D}{ns:List Int}(h:NM a=some ns):a=.tup (ns.map .int):=by
 cases a with
 |tup xs=>rw[yA h]
 |_=>cases h
theorem NN{K:xFg}{mg:Str->Option Value}{G:Hp}{vs:List V}:∀{is:List Int},Reps K mg G (is.map D.int) vs->vs=is.map V.int
 |[],h=>h
 |i::is,h=>by
  obtain⟨v,r,rfl,h1,h2⟩:=h
  rw[show v=V.int i from h1,NN h2];rfl
theorem NO{K:xFg}{mg:Str->Option Value}{Ud:DSt}{U:L2.St}{G H:Hp}{i:Nat}{x:Option V}(o:bO K mg Ud U G H):bO K mg (Ud.set i none) (U.set i x) G H:=by
 refine⟨o.ext,by simp[o.len],fun j e q=>?_⟩
 by_cases hj:j=i
 ·subst hj
  have hl:j<Ud.length:=by have:=(xam.mp q).1;simpa using this
  rw[xa2 hl] at q
  cases q
 ·rw[xaf (xa5 hj)] at q ⊢
  exact o.val j e q
def outSum(j:JS):R aD:=match j.xs.reverse with
 |z::_=>.ok (.rt (.tup [.lst (j.sk.plan.map deedD),.int z]))
 |[]=>.bad
def uW(f:JF)(τ:DSt)(ds:List D):R aD:=match ds with
 |[a,.int m]=>match NM a with
  |some [e,n,c,t]=>(f ⟨τ,[],sk0 e n c t m⟩).bind outSum
  |_=>.bad
 |_=>.bad
theorem zcG{f:JF}{τ:DSt}{ds:List D}{Q:aD->Prop}{E':D->Prop}(h:RW (uW f τ ds) Q E'):∃e n c t m,ds=[.tup [.int e,.int n,.int c,.int t],.int m]/\RW ((f ⟨τ,[],sk0 e n c t m⟩).bind outSum) Q E':=by
 unfold uW at h
 split at h
 ·rename_i a m
  split at h
  ·rename_i e n c t h1
   rw[zcF h1]
   exact⟨e,n,c,t,m,rfl,h⟩
  ·exact(show False from h).elim
 ·exact(show False from h).elim
def sSum(fa:DSt->R (List D))(f:JF)(iS iD:Nat):DSt->R aD:=fun U=>bif Nat.blt iS U.length&&Nat.blt iD U.length then (fa U).bind (uW f ((U.set iS none).set iD none)) else .bad
section
variable{X:Cx}{E:XK}{own' ol:List Nat}{fa:DSt->R (List D)}{kX:Nat}{ea:Expr}{es:List Expr}{C:Addr}{stF:Stmt}{f:JF}
theorem dss_sum(iS iD:Nat)(hN:X.N.Nodup)(XC:DL.XC X E kX)(S:SkG X.prog X.w X.K X.mg X.base kX C)(ha:DA X E (ea::es) fa)(hF:J1 X E C iS iD stF f){p1 p2 p3 p4 p5 p6 p7 p8 p9 p10 p11 p12 p13 p14:Pos}{kt kc:Nat}
  (hne:(!(iS==iD))=true:=by rfl)
  (h1:X.N[iS]? = some ("sketch":Str):=by rfl) (h2:X.N[iD]? = some ("done":Str):=by rfl)
  (v1:cA X.env.scope "sketch":=by first|exact Or.inl rfl|exact Or.inr (Or.inl rfl)|exact Or.inr (Or.inr rfl)) (v2:cA X.env.scope "done":=by first|exact Or.inl rfl|exact Or.inr (Or.inl rfl)|exact Or.inr (Or.inr rfl))
  (l1:fB X.env.scope "sketch":=by first|exact Or.inl rfl|exact Or.inr rfl) (l2:fB X.env.scope "done":=by first|exact Or.inl rfl|exact Or.inr rfl)
  (f1:X.fn "sketch"=true\/X.env.scope.names.lookup ("sketch":Str)=some .local:=by first|exact .inl rfl|exact .inr rfl|assumption) (f2:X.fn "done"=true\/X.env.scope.names.lookup ("done":Str)=some .local:=by first|exact .inl rfl|exact .inr rfl|assumption)
  (g1:Gl X "Sketch":=by rfl)
  (e1:starEach (ea::es) X.env=(false,eval ea X.env)::starEach es X.env:=by rfl) (e2:(backTo p3 (starEach es X.env)).any (·.1)=false:=by rfl)
  (e3:swapsWith (.Call (.Name "Sketch" p2) (ea::es) [] p3) (some (.Name "sketch" p1)) p4.line X.env=pure false:=by rfl)
  (e4:swapsWith (.List [] p6) (some (.Name "done" p5)) p7.line X.env=pure false:=by rfl)
  (e8:attributeBase (.Name "sketch" p8) "plan" X.env (eval (.Name "sketch" p8) X.env)=eval (.Name "sketch" p8) X.env:=by rfl)
  (hix:nU (.Constant (.int 0) kc p11):=by exact fun _ _=>rfl)
  (e9:starEach [.Attribute (.Name "sketch" p8) "plan" p9,.Subscript (.Name "done" p10) (.Constant (.int 0) kc p11) p12] X.env=(false,eval (.Attribute (.Name "sketch" p8) "plan" p9) X.env)::starEach [.Subscript (.Name "done" p10) (.Constant (.int 0) kc p11) p12] X.env:=by rfl)
  (e10:starEach [.Subscript (.Name "done" p10) (.Constant (.int 0) kc p11) p12] X.env=(false,eval (.Subscript (.Name "done" p10) (.Constant (.int 0) kc p11) p12) X.env)::starEach [] X.env:=by rfl) :
  eV X E [] own' ol [.Assign [.Name "sketch" p1] (.Call (.Name "Sketch" p2) (ea::es) [] p3) p4,.Assign [.Name "done" p5] (.List [] p6) p7,stF,.Return (some (.Tuple [.Attribute (.Name "sketch" p8) "plan" p9,.Subscript (.Name "done" p10) (.Constant (.int 0) kc p11) p12] kt p13)) p14] (sSum fa f iS iD):=fun G0=>by
 obtain⟨j,fi,fdi,rfl,M,hS,Fi,bi⟩:=S.ex
 simp only[xci,beq_eq_false_iff_ne] at hne
 refine cB.mono' (cX (gF (i:=iS) hN h1 l1 (UE M Fi XC.room g1 hS bi .nil XC.pass ha (by decide) e1 e2) e3 f1)
  (cX (gF (i:=iD) hN h2 l2 (sV eL) e4 f2)
  (cX (hF G0)
  (gX (lL (nR (cN (gY (pv iS h1 v1) e8) (cN (lU wL (pv iD h2 v2) i0 hix) eL e10) e9))))))) fun Dn U H ⟨G,Ud,ok,s0,q⟩=>?_
 have ok0:bO X.K X.mg Ud U G H:=⟨ok.ext,ok.len,fun i d h=>ok.val i d (by simp) h⟩
 obtain⟨hl,q⟩:(Nat.blt iS Ud.length&&Nat.blt iD Ud.length)=true/\RW ((fa Ud).bind (uW f ((Ud.set iS none).set iD none))) (bG X.K X.mg G0 X.H₀ own' ol Dn G) (bA X.K X.mg E G0 X.H₀):=by
  unfold sSum at q
  cases hl:Nat.blt iS Ud.length&&Nat.blt iD Ud.length with
  |false=>rw[hl] at q;exact(show False from q).elim
  |true=>rw[hl] at q;exact⟨rfl,q⟩
 rw[xau,xdc,xdc,ok.len] at hl
 refine⟨G,Ud,ok0,q.of_bind.mono (fun ds _ z vs G1 H1 s1 r1=>?_) fun _ z=>z.step s0⟩
 obtain⟨e,n,c,t,m,rfl,z⟩:=zcG z
 obtain⟨_,_,rfl,⟨fr,vs4,rfl,hfr,r4⟩,_,_,rfl,rfl,rfl⟩:=r1
 obtain rfl:vs4=[e,n,c,t].map V.int:=NN (is:=[e,n,c,t]) r4
 intro p dx np ndx nex
 have gp:G1 p=none:=s1.e.free np
 have gdx:G1 dx=none:=s1.e.free ndx
 have sG:Same G1 (upd (upd H1 dx (.own p)) p (.ins C dx [])):=fun b u h=>by
  rw[aG (bN h gp),aG (bN h gdx)];exact s1.e b u h
 refine⟨G1,p,fr,dx,e,n,c,t,m,rfl,sG,aV,gp,fun H' s=>DL.Same.sqT s hfr,fun l d H2 nl nd s2 k2 A2=>⟨rfl,?_⟩⟩
 refine⟨xbi _,fun a na=>?_⟩
 have fr0:∀b,H1 b=none->X.H₀ b=none:=fun b h=>s0.h.free (s1.h.free h)
 have np1:∀b,(upd (upd H1 dx (.own p)) p (.ins C dx [])) b=none->H1 b=none:=fun b h=>by
  by_cases z1:b=p
  ·rw[z1,aV] at h;cases h
  ·rw[aG z1] at h
   by_cases z2:b=dx
   ·rw[z2,aV] at h;cases h
   ·rw[aG z2] at h;exact h
 have up2:∀b o,X.H₀ b=some o->H2 b=some o:=fun b o h=>by
  have hb1:H1 b=some o:=s1.h _ _ (s0.h _ _ h)
  have n1:b≠p:=bN hb1 np
  have n2:b≠dx:=bN hb1 ndx
  exact k2 b o (by rw[aG n1,aG n2];exact hb1) n1
 have fa0:X.H₀ a=none:=by
  cases h:X.H₀ a with
  |none=>rfl
  |some o=>rw[up2 _ _ h] at na;cases na
 have sa:Step G1 H2 G1 (upd H2 a (.lst [])):=.hid s2 na
 have sS:(U.set iS (some (.ref p)))[iS]? = some (some (.ref p)):=by rw[xa2 hl.1]
 have st0:Step G0 X.H₀ G1 H2:=⟨s0.g.trans s1.g,up2,s2,fun b o h h'=>s1.c b o (s0.h b o h) (s0.c b o h h')⟩
 have A3:=A2.step sa
 obtain⟨vl,hvl,_⟩:=A2.hl
 refine⟨G1,⟨(Ud.set iS none).set iD none,[],sk0 e n c t m⟩,⟨?_,st0.trans sa,p,l,d,a,?_,?_,A3,aV,s2.free na,(bN hvl na).symm,fr0 p np,fr0 l (np1 l nl),fr0 d (np1 d nd),fa0⟩,z.of_bind.mono (fun r _ z U' G' H' L e'=>?_) fun _ z=>z⟩
 ·have o1:bO X.K X.mg Ud U G1 H1:=ok0.step s1
  have o2:bO X.K X.mg Ud U G1 (upd H2 a (.lst [])):=⟨sa.e,o1.len,o1.val⟩
  exact NO (NO o2)
 ·rw[xaf (xa5 hne)];exact sS
 ·rw[xa2 (by rw[List.length_set];exact hl.2)]
 ·obtain⟨p,l,d,a,Z⟩:=L.ex
  obtain⟨⟨dx3,hp3⟩,⟨vs3,hl3,hv3⟩,hd3,gp3,gl3,gd3,vi3⟩:=Z.at_
  unfold outSum at z
  split at z
  ·rename_i w ws hw
   have hq:=Z.hq
   rw[hw] at hq
   refine⟨_,Z.hS,p,C,dx3,_,_,rfl,hp3,S.T.cl,S.T.nP,zJ _ _ _,_,Z.hD,a,_,0,.int w,rfl,rfl,aW.of hq,(by unfold eF iN;rw[xao (Int.le_refl 0),xao (by simp only[xa4,xaw];omega)];rfl),(show 2<=sizeLine by decide),fun t' ht=>?_⟩
   have nlt:l≠t':=bN hl3 ht
   have nt0:X.H₀ t'=none:=L.s0.h.free ht
   have gt3:G' t'=none:=L.ok.ext.free ht
   have e4:Same G' (upd (upd G' l (.lst vs3)) t' (.tup [.ref l,.int w])):=fun b u h=>by
    rw[aG (bN h gt3),aG (bN h gl3)];exact h
   have el:upd (upd G' l (.lst vs3)) t' (.tup [.ref l,.int w]) l=some (.lst vs3):=by rw[aG nlt,aV]
   refine(show bG X.K X.mg G0 X.H₀ own' ol Dn G (.rt _) from z) (.ref t') (upd (upd G' l (.lst vs3)) t' (.tup [.ref l,.int w])) _ ⟨L.s0.g.trans e4,fun b o h=>?_,fun b u h=>?_,fun b o h h'=>?_⟩ ⟨t',[.ref l,.int w],rfl,bJ.of aV,Reps.cons ⟨l,vs3,rfl,aW.of el,hv3.mono e4⟩ (Reps.cons rfl Reps.nil)⟩
   ·rw[aG (bN h nt0)];exact L.s0.h b o h
   ·by_cases z1:b=t'
    ·rw[z1,aV] at h ⊢;exact h
    ·rw[aG z1] at h ⊢
     by_cases z2:b=l
     ·rw[z2,aV] at h;rw[z2,hl3];exact h
     ·rw[aG z2] at h;exact L.ok.ext b u h
   ·rw[aG (bN h nt0),aG (bN h Z.fl)]
    exact L.s0.c b o h h'
  ·exact(show False from z).elim
end
variable{P:Program}{w:World}{K:xFg}{mg:Str->Option Value}{base:Heap}{C:Addr}
theorem skg{f:Addr}{fd:FuncData}(mC:mg "Sketch"=some (.ref C))(T:dQ K mg C)(mk:PySem.W.makesIn K C=true)(kc:PySem.W.keepIn K (.ref C)=true)(d0:MD K C "__init__" "Sketch.__init__" (aN sCls 0))(d1:MD K C "line" "Sketch.line" (aN sCls 1))(d2:MD K C "peg" "Sketch.peg" (aN sCls 2))(d3:MD K C "base" "Sketch.base" (aN sCls 3))(d4:MD K C "upright" "Sketch.upright" (aN sCls 4))(d5:MD K C "far" "Sketch.far" (aN sCls 5))(d6:MD K C "level" "Sketch.level" (aN sCls 6))(d7:MD K C "unit" "Sketch.unit" (aN sCls 7))(d8:MD K C "high" "Sketch.high" (aN sCls 8))(d9:MD K C "heading" "Sketch.heading" (aN sCls 9))(d10:MD K C "falling" "Sketch.falling" (aN sCls 10))(d11:MD K C "slid" "Sketch.slid" (aN sCls 11))(d13:MD K C "turned" "Sketch.turned" (aN sCls 13))(d12:MD K C "raised" "Sketch.raised" (aN sCls 12))(d15:MD K C "added" "Sketch.added" (aN sCls 15))(d16:MD K C "less" "Sketch.less" (aN sCls 16))(d17:MD K C "product" "Sketch.product" (aN sCls 17))(d18:MD K C "quotient" "Sketch.quotient" (aN sCls 18))(d19:MD K C "slope" "Sketch.slope" (aN sCls 19))(d20:MD K C "doubled" "Sketch.doubled" (aN sCls 20))(d21:MD K C "whole" "Sketch.whole" (aN sCls 21))
  (D:DL.FA K mg "drawn_by" sDrawn ["sign","sketch","one","other"] f fd) (na:mg "abs"=none) (nr:mg "range"=none):SkG P w K mg base 7 C:=by
 obtain⟨f0,v0,F0,m0,b0⟩:=d0.go ["self","frame","pegs"] fun _ _ _ _ _ _=>iE (fun _ _ _=>rfl)
 obtain⟨f1,v1,F1,m1,b1⟩:=d1.go ["self","one","other"] fun _ _ _ _ _ _=>iE (fun _ _ _=>rfl)
 obtain⟨f2,v2,F2,m2,b2⟩:=d2.go ["self","one","other"] fun _ _ _ _ _ _=>iE (fun _ _ _=>rfl)
 obtain⟨f3,v3,F3,m3,b3⟩:=d3.go ["self"] fun _ _ _ _ _ _=>kC (fun _=>rfl)
 obtain⟨f4,v4,F4,m4,b4⟩:=d4.go ["self"] fun _ _ _ _ _ _=>kC (fun _=>rfl)
 obtain⟨f5,v5,F5,m5,b5⟩:=d5.go ["self"] fun _ _ _ _ _ _=>kC (fun _=>rfl)
 obtain⟨f6,v6,F6,m6,b6⟩:=d6.go ["self"] fun _ _ _ _ _ _=>kC (fun _=>rfl)
 obtain⟨f7,v7,F7,m7,b7⟩:=d7.go ["self"] fun _ _ _ _ _ _=>kC (fun _=>rfl)
 obtain⟨f8,v8,F8,m8,b8⟩:=d8.go ["self"] fun _ _ _ _ _ _=>kC (fun _=>rfl)
 obtain⟨f9,v9,F9,m9,b9⟩:=d9.go ["self","one","other"] fun _ _ _ _ _ _=>iE (fun _ _ _=>rfl)
 obtain⟨f10,v10,F10,m10,b10⟩:=d10.go ["self"] fun _ _ _ _ _ _=>kC (fun _=>rfl)
 obtain⟨f11,v11,F11,m11,b11⟩:=d11.go ["self","far","near"] fun _ _ _ _ _ _=>iE (fun _ _ _=>rfl)
 obtain⟨f13,v13,F13,m13,b13⟩:=d13.go ["self","number"] fun _ _ _ _ _ _=>oP (fun _ _=>rfl)
 obtain⟨f12,v12,F12,m12,b12⟩:=d12.go ["self","number"] fun _ _ _ _ _ _=>oP (fun _ _=>rfl)
 obtain⟨f15,v15,F15,m15,b15⟩:=d15.go ["self","number","other"] fun _ _ _ _ _ _=>iE (fun _ _ _=>rfl)
 obtain⟨f16,v16,F16,m16,b16⟩:=d16.go ["self","number","other"] fun _ _ _ _ _ _=>iE (fun _ _ _=>rfl)
 obtain⟨f17,v17,F17,m17,b17⟩:=d17.go ["self","number","other"] fun _ _ _ _ _ _=>iE (fun _ _ _=>rfl)
 obtain⟨f18,v18,F18,m18,b18⟩:=d18.go ["self","number","other"] fun _ _ _ _ _ _=>iE (fun _ _ _=>rfl)
 obtain⟨f19,v19,F19,m19,b19⟩:=d19.go ["self","step"] fun _ _ _ _ _ _=>oP (fun _ _=>rfl)
 obtain⟨f20,v20,F20,m20,b20⟩:=d20.go ["self","number","step"] fun _ _ _ _ _ _=>iE (fun _ _ _=>rfl)
 obtain⟨f21,v21,F21,m21,b21⟩:=d21.go ["self","number"] fun _ _ _ _ _ _=>oP (fun _ _=>rfl)
 have M_line:MO P w K mg base C 1 "line" 1 (z2 nLine):=by rw[nLine_eq];exact zbD (k:=0) F1 T.1 m1 b1
 have M_peg:MO P w K mg base C 1 "peg" 1 (z2 nPeg):=by rw[nPeg_eq];exact zbE (k:=0) F2 T.1 m2 b2
 have M_base:=zbK (P:=P) (w:=w) (base:=base) F3 T m3 b3 M_line
 have M_upright:=zbM (P:=P) (w:=w) (base:=base) F4 T m4 b4 M_line
 have M_far:=zbO (P:=P) (w:=w) (base:=base) F5 T m5 b5 M_line
 have M_level:=zbQ (P:=P) (w:=w) (base:=base) F6 T m6 b6 M_line
 have M_unit:=zbS (P:=P) (w:=w) (base:=base) F7 T m7 b7 M_peg M_line M_base
 have M_high:=zbU (P:=P) (w:=w) (base:=base) F8 T m8 b8 M_peg M_level M_upright
 have M_heading:=zbW (P:=P) (w:=w) (base:=base) F9 T m9 b9 M_peg M_line M_far
 have M_falling:=zbY (P:=P) (w:=w) (base:=base) F10 T m10 b10 M_heading M_unit M_high
 have M_slid:=zb0 (P:=P) (w:=w) (base:=base) F11 T m11 b11 M_peg M_line M_base
 have M_turned:=zb2 (P:=P) (w:=w) (base:=base) F13 T m13 b13 M_peg M_line M_falling M_upright
 have M_raised:=zcv (P:=P) (w:=w) (base:=base) F12 T m12 b12 M_peg M_level M_line
 have M_added:=zcx (P:=P) (w:=w) (base:=base) F15 T m15 b15 M_slid M_heading M_high M_raised
 have M_less:=zcz (P:=P) (w:=w) (base:=base) F16 T m16 b16 M_slid M_heading M_raised
 have M_product:=zcB (P:=P) (w:=w) (base:=base) F17 T m17 b17 M_slid M_heading M_high M_turned
 have M_quotient:=zb4 (P:=P) (w:=w) (base:=base) F18 T m18 b18 M_slid M_high M_heading M_turned
 have M_slope:=zca (P:=P) (w:=w) (base:=base) F19 T m19 b19 M_line M_peg M_high M_unit M_far
 have M_doubled:=zcb (P:=P) (w:=w) (base:=base) F20 T m20 b20 M_line M_peg M_slope M_falling M_slid
 have M_whole:=zcr (P:=P) (w:=w) (base:=base) F21 T m21 b21 na nr M_doubled
 exact⟨⟨6,f0,v0,rfl,⟨mk,m0.at_,m0.fn,kc⟩,mC,(zct (k:=0) F0 T).mono (by omega),b0⟩,⟨f,fd,zcE D.F T M_added M_less M_product M_quotient,D.m,D.F.kp,D.b⟩,M_whole.mono (by omega),T⟩
end Sk
end
namespace Mir
open L2 DL
def kI:D:=.tup [.str "+",.str "-",.str "*",.str "/"]
noncomputable def o8:DSt->R Bool:=(aR (aC j6 (bD cR (aB (aA 2) aE)) (eC (.int 0))))
noncomputable def AC:DSt->R aD:=(cZ (aR (aC gC (aC aF (aA 3) (eC (.int 0))) (eC kI))) (zG [2,1] 2 (eG (aA 3) (dO (eC (.int 1))) fQ)) dE)
noncomputable def AD:DSt->R aD:=(aM (iU [2,1] 1 (aA 3)) AC)
noncomputable def rQ:DSt->R aD:=(aM (oQ 2 3) AD)
noncomputable def NP:DSt->R aD:=(bP (aA 1))
noncomputable def NQ:DSt->R aD:=(aM (LX 1) NP)
noncomputable def NS:DSt->R aD:=(aM (c7 o8 rQ) NQ)
noncomputable def NT:DSt->R aD:=(aM (iT [1] 2 (bW (aB (aA 0) aE))) NS)
noncomputable def uX:DSt->R aD:=(aM (iT [] 1 (bW aE)) NT)
noncomputable def iH:List D->R D:=cE 1 4 uX
theorem zcH(a0:D):iH [a0]=fin (uX [some a0,none,none,none]):=dS (b:=uX) rfl rfl
def jL:D:=.tup [.int 0,.int 1,.int 2,.int 3]
noncomputable def NU:Sk.JF:=(Sk.jSeq (Sk.jPop 6) (Sk.jSeq (Sk.jPop 7) (Sk.jDrawn (aC aF (aA 5) (eC (.int 0))) (aA 7) (aA 6))))
noncomputable def zcI:Sk.JF:=(Sk.jWhole (aC aF (aA 5) (eC (.int 1))))
noncomputable def AE:Sk.JF:=(Sk.jApp (aC mM (aA 2) (aC aF (aA 5) (eC (.int 1)))))
noncomputable def NV:Sk.JF:=(Sk.jRaise (yE "NoName"))
noncomputable def zcJ:Sk.JF:=(Sk.jIf (aR (aC rH (aC aF (aA 5) (eC (.int 1))) (aA 2))) AE NV)
noncomputable def NW:Sk.JF:=(Sk.jIf (aR (aC a6 (aC aF (aA 5) (eC (.int 0))) (eC (.str "number")))) zcI zcJ)
noncomputable def gS:Sk.JF:=(Sk.jIf (aR (aC gC (aC aF (aA 5) (eC (.int 0))) (eC kI))) NU NW)
noncomputable def AF:Sk.JF:=(Sk.jFor 5 (dB (aQ iH (aB (aA 0) aE))) gS)
noncomputable def AG:DSt->R aD:=(Sk.sSum (aB (eC jL) (aB (aC bL (bD cR (aB (eC jL) aE)) (bD cR (aB (aA 1) aE))) aE)) AF 3 4)
noncomputable def uY:DSt->R aD:=(aM (bQ 2 (bD jK (aB (bH (dZ 2 [0,1] (rK (aB (aA 1) aE) (bD cR (aB (eC jL) aE))) (eN 2) cQ (dM (aB (aA 1) (aB (aA 0) aE))))) aE))) AG)
noncomputable def mW:List D->R D:=cE 2 8 uY
theorem zcK(a0:D)(a1:D):mW [a0,a1]=fin (uY [some a0,some a1,none,none,none,none,none,none]):=dS (b:=uY) rfl rfl
noncomputable def NX:DSt->R aD:=(bP (eC (.int 0)))
noncomputable def uZ:DSt->R aD:=(aM (cZ (aR (aC k9 (aA 1) (bD cR (aB (aA 0) aE)))) (bP (aC aF (aA 0) (aA 1))) dE) NX)
noncomputable def fV:List D->R D:=cE 2 2 uZ
theorem zcL(a0:D)(a1:D):fV [a0,a1]=fin (uZ [some a0,some a1]):=dS (b:=uZ) rfl rfl
noncomputable def u4:DSt->R aD:=(bP (qA (bD (g2 cU) (aB (aA 0) (aB (eC (.ty "int")) aE))) (xH (bD (g2 cU) (aB (aA 0) (aB (eC (.ty "bool")) aE))))))
noncomputable def iI:List D->R D:=cE 1 1 u4
theorem zcM(a0:D):iI [a0]=fin (u4 [some a0]):=dS (b:=u4) rfl rfl
noncomputable def N0:DSt->R aD:=(bP (aC bY (aC bC (aA 2) (aA 2)) (eC (.int 2305843009213693951))))
noncomputable def N1:DSt->R aD:=(aM (bQ 2 (aC bY (aC bL (aC bL (aC bC (aA 2) (aA 2)) (aC bC (aC bC (eC (.int 69621)) (aA 1)) (aA 1))) (aA 1)) (eC (.int 2305843009213693951)))) N0)
noncomputable def N2:DSt->R aD:=(aM (bQ 2 (aC bY (aA 2) (eC (.int 2305843009213693951)))) N1)
noncomputable def u5:DSt->R aD:=(aM (bQ 2 (aC bL (aC bL (aC bC (aC bL (aC bY (aA 0) (eC (.int 1000000007))) (eC (.int 1))) (eC (.int 6364136223846793005))) (aC bC (aC bC (eC (.int 7919)) (aA 1)) (aA 1))) (aC bC (eC (.int 31)) (aA 1)))) N2)
noncomputable def o9:List D->R D:=cE 2 3 u5
theorem zcN(a0:D)(a1:D):o9 [a0,a1]=fin (u5 [some a0,some a1,none]):=dS (b:=u5) rfl rfl
noncomputable def N3:DSt->R aD:=(hV [2] 3 (aC iV (aA 3) (aC l8 (eC (.int 10)) (eC (.int 6)))))
noncomputable def N4:DSt->R aD:=(aM (iU [2] 2 (aC bY (aA 3) (aC l8 (eC (.int 10)) (eC (.int 6))))) N3)
noncomputable def rR:DSt->R aD:=(cZ (l6 (aR (aC a6 (aC bY (aA 0) (eC (.int 2))) (eC (.int 0)))) (aR (aC j6 (aA 3) (eC (.int 0))))) N4 (iU [2] 2 (aC bY (aQ o9 (aB (aA 0) (aB (aA 4) aE))) (aC l8 (eC (.int 10)) (eC (.int 6))))))
noncomputable def N5:DSt->R aD:=(bP (aA 2))
noncomputable def N6:DSt->R aD:=(aM (j4 [2] [4] bK (fZ fH (aB (aA 1) aE)) rR) N5)
noncomputable def N7:DSt->R aD:=(aM (hV [2] 3 (aC iV (aA 0) (eC (.int 2)))) N6)
noncomputable def u6:DSt->R aD:=(aM (iT [] 2 (bW aE)) N7)
noncomputable def dU:List D->R D:=cE 2 5 u6
theorem zcO(a0:D)(a1:D):dU [a0,a1]=fin (u6 [some a0,some a1,none,none,none]):=dS (b:=u6) rfl rfl
noncomputable def u7:DSt->R Bool:=(aR (aC j6 (aA 1) (eC (.int 0))))
noncomputable def AH:DSt->R aD:=(xR [] 0 1 (aB (aA 1) (aB (aC bY (aA 0) (aA 1)) aE)))
noncomputable def N8:DSt->R aD:=(bP (aA 0))
noncomputable def N9:DSt->R aD:=(aM (c7 u7 AH) N8)
noncomputable def OA:DSt->R aD:=(aM (bQ 1 (bD qO (aB (aA 1) aE))) N9)
noncomputable def u8:DSt->R aD:=(aM (bQ 0 (bD qO (aB (aA 0) aE))) OA)
noncomputable def kJ:List D->R D:=cE 2 2 u8
theorem zcP(a0:D)(a1:D):kJ [a0,a1]=fin (u8 [some a0,some a1]):=dS (b:=u8) rfl rfl
noncomputable def OB:DSt->R aD:=(bP (dM (aB (aC iV (aA 0) (aA 3)) (aB (aC iV (aA 1) (aA 3)) (aB (aC iV (aA 2) (aA 3)) aE)))))
noncomputable def OC:DSt->R aD:=(aM (cZ (aR (aC k9 (aA 4) (eC (.int 0)))) (bQ 3 (aC gSub (eC (.int 0)) (aA 3))) dE) OB)
noncomputable def OD:DSt->R aD:=(aM (bQ 4 (aC aF (bH (dZ 1 [0] (dB (dM (aB (aA 0) (aB (aA 1) (aB (aA 2) aE))))) bK (aR (aC eD (aA 0) (eC (.int 0)))) (aA 0))) (qB qM (eC (.int 1))))) OC)
noncomputable def u9:DSt->R aD:=(aM (bQ 3 (aQ kJ (aB (aQ kJ (aB (aA 0) (aB (aA 1) aE))) (aB (aA 2) aE)))) OD)
noncomputable def kK:List D->R D:=cE 3 5 u9
theorem zcQ(a0:D)(a1:D)(a2:D):kK [a0,a1,a2]=fin (u9 [some a0,some a1,some a2,none,none]):=dS (b:=u9) rfl rfl
noncomputable def rS:DSt->R aD:=(bQ 4 (aC bL (aA 4) (aC fT (aA 2) (aC bY (aC iV (aC aF (aA 3) (eC (.int 11))) (aC aF (bH (bW (aB (eC (.int 1)) (aB (eC (.int 26)) (aB (eC (.int 676)) (aB (eC (.int 17576)) (aB (eC (.int 5)) (aB (eC (.int 9)) (aB (eC (.int 77)) aE))))))))) (aA 5))) (eC (.int 26))))))
noncomputable def OE:DSt->R aD:=(bP (bH (dZ 1 [0] (fZ fH (aB (aA 1) aE)) bK cQ (aC bL (aC fT (aA 3) (aC bY (aC bL (aC aF (aA 4) (eC (.int 9))) (aA 0)) (eC (.int 26)))) (aA 5)))))
noncomputable def OF:DSt->R aD:=(aM (cZ (aR (aC a6 (aC bY (aC aF (aA 3) (eC (.int 8))) (eC (.int 4))) (eC (.int 1)))) (bP (eG (bH (bW (aB (eC (.str "end")) (aB (eC (.str "x")) (aB (eC (.str "times")) (aB (eC (.str "rule")) (aB (eC (.str "ends")) (aB (eC (.str "xx")) aE)))))))) fQ (dO (aA 1)))) dE) OE)
noncomputable def OG:DSt->R aD:=(aM (j4 [] [5] bK (fZ fH (aB (aC bY (aC aF (aA 3) (eC (.int 10))) (eC (.int 8))) aE)) rS) OF)
noncomputable def OH:DSt->R aD:=(aM (bQ 4 (eC (.str ""))) OG)
noncomputable def OI:DSt->R aD:=(aM (bQ 3 (aQ dU (aB (aA 0) (aB (eC (.int 12)) aE)))) OH)
noncomputable def vA:DSt->R aD:=(aM (bQ 2 (eC (.str "abcdefghijklmnopqrstuvwxyz"))) OI)
noncomputable def pA:List D->R D:=cE 2 6 vA
theorem zcR(a0:D)(a1:D):pA [a0,a1]=fin (vA [some a0,some a1,none,none,none,none]):=dS (b:=vA) rfl rfl
noncomputable def OJ:DSt->R aD:=(bP (dM (aB (eC (.str "number")) (aB (aC bY (aC aF (aA 0) (eC (.int 3))) (aC aF (bH (bW (aB (eC (.int 10)) (aB (eC (.int 10)) (aB (eC (.int 10)) (aB (eC (.int 1000)) aE)))))) (aC bY (aC aF (aA 0) (eC (.int 5))) (eC (.int 4))))) aE))))
noncomputable def OK:DSt->R aD:=(aM (cZ (aR (aC a6 (aC bY (aC aF (aA 0) (eC (.int 5))) (eC (.int 16))) (eC (.int 1)))) (bP (dM (aB (eC (.str "number")) (aB (aC bL (aC bC (aC aF (aA 0) (eC (.int 3))) (eC (.int 1000))) (aC bY (aC aF (aA 0) (eC (.int 4))) (eC (.int 1000)))) aE)))) dE) OJ)
noncomputable def vB:DSt->R aD:=(aM (cZ (aR (aC j6 (aC bY (aC aF (aA 0) (eC (.int 2))) (eC (.int 3))) (eC (.int 0)))) (bP (dM (aB (eC (.str "name")) (aB (aC aF (aA 1) (aC bY (aC aF (aA 0) (eC (.int 3))) (bD cR (aB (aA 1) aE)))) aE)))) dE) OK)
noncomputable def kL:List D->R D:=cE 2 2 vB
theorem zcS(a0:D)(a1:D):kL [a0,a1]=fin (vB [some a0,some a1]):=dS (b:=vB) rfl rfl
noncomputable def OL:DSt->R aD:=(rF [2] 2 2 (aC fT (eC (.str "+-*/")) (aC bY (aC aF (aA 4) (eC (.int 1))) (eC (.int 4)))) (aA 5))
noncomputable def OM:DSt->R aD:=(aM (oQ 2 5) OL)
noncomputable def ON:DSt->R aD:=(cZ (l6 (aR (aC j6 (bD cR (aB (aA 2) aE)) (eC (.int 1)))) (aR (aC a6 (aC bY (aC aF (aA 4) (eC (.int 0))) (eC (.int 2))) (eC (.int 0))))) OM (iU [2] 2 (aQ kL (aB (aA 4) (aB (aA 1) aE)))))
noncomputable def mY:DSt->R aD:=(aM (hV [2] 4 (aQ dU (aB (aA 3) (aB (eC (.int 6)) aE)))) ON)
noncomputable def vC:DSt->R Bool:=(aR (aC j6 (bD cR (aB (aA 2) aE)) (eC (.int 1))))
noncomputable def OP:DSt->R aD:=(rJ [2] 2 2 (aC fT (eC (.str "-+/*")) (aC bY (bD cR (aB (aA 2) aE)) (eC (.int 4)))) (aA 5))
noncomputable def AI:DSt->R aD:=(aM (oQ 2 5) OP)
noncomputable def OQ:DSt->R aD:=(bP (aC aF (aA 2) (eC (.int 0))))
noncomputable def OR:DSt->R aD:=(aM (c7 vC AI) OQ)
noncomputable def OS:DSt->R aD:=(aM (j4 [2] [3] bK (dB (aA 0)) mY) OR)
noncomputable def vD:DSt->R aD:=(aM (iT [] 2 (bW aE)) OS)
noncomputable def pB:List D->R D:=cE 2 6 vD
theorem zcT(a0:D)(a1:D):pB [a0,a1]=fin (vD [some a0,some a1,none,none,none,none]):=dS (b:=vD) rfl rfl
noncomputable def OT:DSt->R aD:=(bP (dM (aB (aC iV (aA 0) (aA 2)) (aB (aC iV (aA 1) (aA 2)) aE))))
noncomputable def OU:DSt->R aD:=(aM (cZ (aR (aC k9 (aA 1) (eC (.int 0)))) (bQ 2 (aC gSub (eC (.int 0)) (aA 2))) dE) OT)
noncomputable def vE:DSt->R aD:=(aM (bQ 2 (aQ kJ (aB (aA 0) (aB (aA 1) aE)))) OU)
noncomputable def fN:List D->R D:=cE 2 3 vE
theorem zcU(a0:D)(a1:D):fN [a0,a1]=fin (vE [some a0,some a1,none]):=dS (b:=vE) rfl rfl
noncomputable def OV(m:List D->R D):DSt->R aD:=(bP (aQ fN (aB (aC bC (aC aF (aA 2) (eC (.int 0))) (aC aF (aA 3) (eC (.int 1)))) (aB (aC bC (aC aF (aA 2) (eC (.int 1))) (aC aF (aA 3) (eC (.int 0)))) aE))))
noncomputable def AJ(m:List D->R D):DSt->R aD:=(aM (cZ (aR (aC a6 (aC aF (aA 0) (eC (.int 0))) (eC (.str "*")))) (bP (aQ fN (aB (aC bC (aC aF (aA 2) (eC (.int 0))) (aC aF (aA 3) (eC (.int 0)))) (aB (aC bC (aC aF (aA 2) (eC (.int 1))) (aC aF (aA 3) (eC (.int 1)))) aE)))) dE) (OV m))
noncomputable def vF(m:List D->R D):DSt->R aD:=(aM (cZ (aR (aC a6 (aC aF (aA 0) (eC (.int 0))) (eC (.str "-")))) (bP (aQ fN (aB (aC gSub (aC bC (aC aF (aA 2) (eC (.int 0))) (aC aF (aA 3) (eC (.int 1)))) (aC bC (aC aF (aA 3) (eC (.int 0))) (aC aF (aA 2) (eC (.int 1))))) (aB (aC bC (aC aF (aA 2) (eC (.int 1))) (aC aF (aA 3) (eC (.int 1)))) aE)))) dE) (AJ m))
noncomputable def rT(m:List D->R D):DSt->R aD:=(aM (cZ (aR (aC a6 (aC aF (aA 0) (eC (.int 0))) (eC (.str "+")))) (bP (aQ fN (aB (aC bL (aC bC (aC aF (aA 2) (eC (.int 0))) (aC aF (aA 3) (eC (.int 1)))) (aC bC (aC aF (aA 3) (eC (.int 0))) (aC aF (aA 2) (eC (.int 1))))) (aB (aC bC (aC aF (aA 2) (eC (.int 1))) (aC aF (aA 3) (eC (.int 1)))) aE)))) dE) (vF m))
noncomputable def vG(m:List D->R D):DSt->R aD:=(aM (cZ (eU (aR (aC mE (aA 2) (eC .non))) (eU (aR (aC mE (aA 3) (eC .non))) (l6 (aR (aC a6 (aC aF (aA 0) (eC (.int 0))) (eC (.str "/")))) (aR (aC a6 (aC aF (aA 3) (eC (.int 0))) (eC (.int 0))))))) (bP (eC .non)) dE) (rT m))
noncomputable def OX(m:List D->R D):DSt->R aD:=(aM (bQ 3 (aQ m (aB (aC aF (aA 0) (eC (.int 2))) (aB (aA 1) aE)))) (vG m))
noncomputable def OY(m:List D->R D):DSt->R aD:=(aM (bQ 2 (aQ m (aB (aC aF (aA 0) (eC (.int 1))) (aB (aA 1) aE)))) (OX m))
noncomputable def AK(m:List D->R D):DSt->R aD:=(aM (cZ (aR (aC a6 (aC aF (aA 0) (eC (.int 0))) (eC (.str "name")))) (bP (zF (aA 1) (aC aF (aA 0) (eC (.int 1))))) dE) (OY m))
noncomputable def lI(m:List D->R D):DSt->R aD:=(aM (cZ (aR (aC a6 (aC aF (aA 0) (eC (.int 0))) (eC (.str "number")))) (bP (dM (aB (aC aF (aA 0) (eC (.int 1))) (aB (eC (.int 1)) aE)))) dE) (AK m))
noncomputable def pC:Nat->List D->R D:=uK fun m=>cE 2 4 (lI m)
noncomputable def rV:List D->R D:=pC 64
theorem AL(n:Nat)(a0:D)(a1:D):pC (n+1) [a0,a1]=fin (lI (pC n) [some a0,some a1,none,none]):=show cE 2 4 (lI (pC n)) [a0,a1]=_ from dS (b:=lI (pC n)) rfl rfl
noncomputable def OZ:DSt->R aD:=(bP (aQ fN (aB (aC aF (bH (bW (aB (eC (.int 0)) (aB (eC (.int 1)) (aB (qB qM (eC (.int 1))) (aB (aC gSub (aC bY (aC aF (aA 2) (eC (.int 0))) (eC (.int 61))) (eC (.int 30))) aE)))))) (aC bY (aC aF (aA 2) (eC (.int 1))) (eC (.int 4)))) (aB (aC aF (bH (bW (aB (eC (.int 1)) (aB (aC bL (eC (.int 1)) (aC bY (aC aF (aA 2) (eC (.int 2))) (eC (.int 12)))) aE)))) (aC bY (aC aF (aA 2) (eC (.int 3))) (eC (.int 2)))) aE))))
noncomputable def O0:DSt->R aD:=(aM (cZ (aR (aC a6 (aC bY (aA 0) (eC (.int 2))) (eC (.int 0)))) (bP (aQ fN (aB (aC gSub (aC bL (aC bC (aC aF (aA 2) (eC (.int 0))) (aC l8 (eC (.int 10)) (eC (.int 6)))) (aC aF (aA 2) (eC (.int 1)))) (aC bC (eC (.int 5)) (aC l8 (eC (.int 10)) (eC (.int 11))))) (aB (aC bL (eC (.int 1)) (aC aF (aA 2) (eC (.int 2)))) aE)))) dE) OZ)
noncomputable def vH:DSt->R aD:=(aM (bQ 2 (aQ dU (aB (aA 0) (aB (eC (.int 4)) aE)))) O0)
noncomputable def pE:List D->R D:=cE 2 3 vH
theorem zcV(a0:D)(a1:D):pE [a0,a1]=fin (vH [some a0,some a1,none]):=dS (b:=vH) rfl rfl
noncomputable def AM:DSt->R aD:=(iU [1] 1 (bH (dZ 1 [0] (dB (aA 3)) bK cQ (aC gSub (aC bY (aA 0) (aC aF (bH (bW (aB (eC (.int 2001)) (aB (eC (.int 7)) aE)))) (aC bY (aA 3) (eC (.int 2))))) (aC aF (bH (bW (aB (eC (.int 1000)) (aB (eC (.int 3)) aE)))) (aC bY (aA 3) (eC (.int 2))))))))
noncomputable def pF:DSt->R aD:=(aM (hV [1] 3 (aQ dU (aB (aA 2) (aB (eC (.int 3)) aE)))) AM)
noncomputable def O1:DSt->R aD:=(bP (aA 1))
noncomputable def O2:DSt->R aD:=(aM (cZ (aR (aC a6 (aC bL (aC bL (aA 7) (aA 8)) (aC bC (aC aF (aA 4) (eC (.int 2))) (aC gSub (aC bC (aC aF (aA 5) (eC (.int 0))) (aC aF (aA 6) (eC (.int 1)))) (aC bC (aC aF (aA 5) (eC (.int 1))) (aC aF (aA 6) (eC (.int 0))))))) (eC (.int 0)))) (bP (bH (bW (aB (bH (bW (aB (eC (.int 1)) (aB (eC (.int 2)) (aB (eC (.int 0)) aE))))) (aB (bH (bW (aB (eC (.int 0)) (aB (eC (.int 1)) (aB (eC (.int 3)) aE))))) (aB (bH (bW (aB (eC (.int 1)) (aB (eC (.int 0)) (aB (eC (.int 1)) aE))))) aE)))))) dE) O1)
noncomputable def O3:DSt->R aD:=(aM (bQ 8 (aC bC (aC aF (aA 4) (eC (.int 1))) (aC gSub (aC bC (aC aF (aA 5) (eC (.int 2))) (aC aF (aA 6) (eC (.int 0)))) (aC bC (aC aF (aA 5) (eC (.int 0))) (aC aF (aA 6) (eC (.int 2))))))) O2)
noncomputable def O4:DSt->R aD:=(aM (bQ 7 (aC bC (aC aF (aA 4) (eC (.int 0))) (aC gSub (aC bC (aC aF (aA 5) (eC (.int 1))) (aC aF (aA 6) (eC (.int 2)))) (aC bC (aC aF (aA 5) (eC (.int 2))) (aC aF (aA 6) (eC (.int 1))))))) O3)
noncomputable def AN:DSt->R aD:=(aM (xQ [] [4,5,6] (eN 3) (aA 1)) O4)
noncomputable def O5:DSt->R aD:=(aM (j4 [1] [2] bK (dB (aA 0)) pF) AN)
noncomputable def vI:DSt->R aD:=(aM (iT [] 1 (bW aE)) O5)
noncomputable def pG:List D->R D:=cE 1 9 vI
theorem zcW(a0:D):pG [a0]=fin (vI [some a0,none,none,none,none,none,none,none,none]):=dS (b:=vI) rfl rfl
noncomputable def AO:DSt->R aD:=(iU [2] 2 (bD oF (aB (bH (dZ 1 [0] (fZ fH (aB (eC (.int 3)) aE)) bK cQ (aC bC (aC aF (aA 4) (aA 0)) (aC aF (aA 2) (aA 0))))) aE)))
noncomputable def O6:DSt->R aD:=(bP (aQ kK (aB (aC aF (aA 2) (eC (.int 0))) (aB (aC aF (aA 2) (eC (.int 1))) (aB (aC aF (aA 2) (eC (.int 2))) aE)))))
noncomputable def O7:DSt->R aD:=(aM (j4 [2] [3] bK (dB (aA 0)) AO) O6)
noncomputable def vJ:DSt->R aD:=(aM (iT [] 2 (bW aE)) O7)
noncomputable def iX:List D->R D:=cE 2 4 vJ
theorem zcX(a0:D)(a1:D):iX [a0,a1]=fin (vJ [some a0,some a1,none,none]):=dS (b:=vJ) rfl rfl
noncomputable def AQ:DSt->R aD:=(bP (bH (dZ 1 [0] (dB (aA 2)) bK cQ (aQ iX (aB (aA 1) (aB (aA 0) aE))))))
noncomputable def vK:DSt->R aD:=(aM (bQ 2 (aC bL (bH (bW (aB (dM (aB (eC (.int 1)) (aB (eC (.int 0)) (aB (eC (.int 0)) aE)))) (aB (dM (aB (eC (.int 0)) (aB (eC (.int 1)) (aB (eC (.int 0)) aE)))) (aB (dM (aB (eC (.int 0)) (aB (eC (.int 0)) (aB (eC (.int 1)) aE)))) (aB (dM (aB (eC (.int 1)) (aB (eC (.int 1)) (aB (eC (.int 1)) aE)))) aE)))))) (bH (dZ 2 [0,1] (dB (aA 1)) (eN 2) cQ (dM (aB (aA 0) (aB (eC (.int 0)) (aB (aA 1) aE)))))))) AQ)
noncomputable def kM:List D->R D:=cE 2 3 vK
theorem zcY(a0:D)(a1:D):kM [a0,a1]=fin (vK [some a0,some a1,none]):=dS (b:=vK) rfl rfl
noncomputable def O8:DSt->R aD:=(bP (aQ kK (aB (aA 2) (aB (aA 3) (aB (aA 4) aE)))))
noncomputable def AR:DSt->R aD:=(aM (cZ (l6 (aR (aC a6 (aA 2) (eC (.int 0)))) (l6 (aR (aC a6 (aA 3) (eC (.int 0)))) (aR (aC a6 (aA 4) (eC (.int 0)))))) (bP (eC .non)) dE) O8)
noncomputable def O9:DSt->R aD:=(aM (bQ 4 (aC gSub (aC bC (aC aF (aA 0) (eC (.int 0))) (aC aF (aA 1) (eC (.int 1)))) (aC bC (aC aF (aA 0) (eC (.int 1))) (aC aF (aA 1) (eC (.int 0)))))) AR)
noncomputable def PB:DSt->R aD:=(aM (bQ 3 (aC gSub (aC bC (aC aF (aA 0) (eC (.int 2))) (aC aF (aA 1) (eC (.int 0)))) (aC bC (aC aF (aA 0) (eC (.int 0))) (aC aF (aA 1) (eC (.int 2)))))) O9)
noncomputable def vL:DSt->R aD:=(aM (bQ 2 (aC gSub (aC bC (aC aF (aA 0) (eC (.int 1))) (aC aF (aA 1) (eC (.int 2)))) (aC bC (aC aF (aA 0) (eC (.int 2))) (aC aF (aA 1) (eC (.int 1)))))) PB)
noncomputable def rW:List D->R D:=cE 2 5 vL
theorem zcZ(a0:D)(a1:D):rW [a0,a1]=fin (vL [some a0,some a1,none,none,none]):=dS (b:=vL) rfl rfl
noncomputable def PD:DSt->R aD:=(uI [3,2] 3 2 (bD qP (aB (aC a6 (aC aF (aA 4) (eC (.int 0))) (eC (.str "peg"))) aE)) (aA 7))
noncomputable def PF:DSt->R aD:=(aM (cZ (aR (aC mE (aA 7) (eC .non))) (bP (eC .non)) dE) PD)
noncomputable def PH:DSt->R aD:=(aM (xN 7 (aQ rW (aB (aC aF (aA 5) (aC aF (aA 4) (eC (.int 1)))) (aB (aC aF (aA 5) (aC aF (aA 4) (eC (.int 2)))) aE)))) (zA 5 PF))
noncomputable def AS:DSt->R aD:=(uP [3,2] 5 6 (dB (eG (aA 4) (dO (eC (.int 1))) fQ)) (eU (dX (aR (aQ iI (aB (aA 6) aE)))) (dX (aR (jZ qN k9 (eC (.int 0)) (aA 6) (bD cR (aB (aA 5) aE)))))) PH)
noncomputable def PJ:DSt->R aD:=(uJ [3,2] 5 2 3 (bD qP (aB (aC a6 (aC aF (aA 4) (eC (.int 0))) (eC (.str "peg"))) aE)) AS)
noncomputable def pH:DSt->R aD:=(aM (cZ (eU (dX (aR (bD (g2 cU) (aB (aA 4) (aB (eC (.ty "tuple")) aE))))) (eU (aR (aC eD (bD cR (aB (aA 4) aE)) (eC (.int 3)))) (aR (aC jI (aC aF (aA 4) (eC (.int 0))) (bH (bW (aB (eC (.str "line")) (aB (eC (.str "peg")) aE)))))))) (bP (eC .non)) dE) PJ)
noncomputable def PL:DSt->R aD:=(bP (aA 2))
noncomputable def PM:DSt->R aD:=(aM (j4 [3,2] [4] bK (dB (aA 1)) pH) PL)
noncomputable def PN:DSt->R aD:=(aM (iT [2] 3 (bW aE)) PM)
noncomputable def vM:DSt->R aD:=(aM (iT [] 2 (oG oH (aB (aA 0) aE))) PN)
noncomputable def pI:List D->R D:=cE 2 8 vM
theorem zc0(a0:D)(a1:D):pI [a0,a1]=fin (vM [some a0,some a1,none,none,none,none,none,none]):=dS (b:=vM) rfl rfl
noncomputable def AT:DSt->R aD:=(bP (qA (aC oE (aA 3) (eC .non)) (qA (jZ qN k9 (eC (.int 0)) (aC aF (aA 0) (eC (.int 1))) (bD cR (aB (aA 3) aE))) (aC a6 (aC aF (aA 3) (aC aF (aA 0) (eC (.int 1)))) (aA 2)))))
noncomputable def PP:DSt->R aD:=(aM (bQ 3 (aQ pI (aB (aA 1) (aB (aC aF (aA 0) (eC (.int 0))) aE)))) AT)
noncomputable def vN:DSt->R aD:=(aM (cZ (eU (dX (aR (bD (g2 cU) (aB (aA 0) (aB (eC (.ty "tuple")) aE))))) (eU (aR (aC eD (bD cR (aB (aA 0) aE)) (eC (.int 2)))) (eU (dX (aR (bD (g2 cU) (aB (aC aF (aA 0) (eC (.int 0))) (aB (eC (.ty "list")) aE))))) (dX (aR (aQ iI (aB (aC aF (aA 0) (eC (.int 1))) aE))))))) (bP (eC (.bl false))) dE) PP)
noncomputable def jM:List D->R D:=cE 3 4 vN
theorem zc1(a0:D)(a1:D)(a2:D):jM [a0,a1,a2]=fin (vN [some a0,some a1,some a2,none]):=dS (b:=vN) rfl rfl
noncomputable def AU:DSt->R aD:=(cZ (dX (aR (aQ jM (aB (aA 11) (aB (aQ kM (aB (aA 6) (aB (aA 4) aE))) (aB (aA 13) aE)))))) (bP (eC (.bl false))) dE)
noncomputable def PQ:DSt->R aD:=(aM (bQ 13 (aQ iX (aB (aA 6) (aB (dM (aB (aC aF (aA 9) (eC (.int 0))) (aB (eC (.int 0)) (aB (aC aF (aA 9) (eC (.int 1))) aE)))) aE)))) AU)
noncomputable def AV:DSt->R aD:=(aM (cZ (eU (aR (aC eD (aA 10) (aA 3))) (dX (aR (aQ jM (aB (aA 11) (aB (aA 12) (aB (dM (aB (aC aF (aA 9) (eC (.int 0))) (aB (eC (.int 0)) (aB (aC aF (aA 9) (eC (.int 1))) aE)))) aE))))))) (bP (eC (.bl false))) dE) PQ)
noncomputable def AW:DSt->R aD:=(aM (bQ 12 (aQ kM (aB (bH (bW (aB (bH (bW (aB (eC (.int 1)) (aB (eC (.int 0)) (aB (eC (.int 0)) aE))))) (aB (bH (bW (aB (eC (.int 0)) (aB (eC (.int 1)) (aB (eC (.int 0)) aE))))) (aB (bH (bW (aB (eC (.int 0)) (aB (eC (.int 0)) (aB (eC (.int 1)) aE))))) aE))))) (aB (aA 4) aE)))) AV)
noncomputable def AX:DSt->R aD:=(aM (bQ 11 (aQ mW (aB (aA 8) (aB (aA 10) aE)))) AW)
noncomputable def AY:DSt->R aD:=(aM (bQ 10 (bH (oG oH (aB (aA 3) aE)))) AX)
noncomputable def AZ:DSt->R aD:=(cZ (aR (aC oE (aA 9) (eC .non))) AY dE)
noncomputable def A0:DSt->R aD:=(aM (bQ 9 (aQ rV (aB (aA 8) (aB (aA 5) aE)))) AZ)
noncomputable def mZ:DSt->R aD:=(aM (bQ 8 (aQ pB (aB (aC bL (eG (aA 0) (dO (eC (.int 1))) (dO (aA 7))) (bH (bW (aB (eC (.int 1)) aE)))) (aB (eG (aA 1) fQ (dO (eC (.int 5)))) aE)))) A0)
noncomputable def A1:DSt->R aD:=(bP (eC (.bl true)))
noncomputable def A4:DSt->R aD:=(aM (j4 [] [7] bK (dB (bH (bW (aB (eC (.int 3)) (aB (eC (.int 9)) aE))))) mZ) A1)
noncomputable def A5:DSt->R aD:=(aM (bQ 6 (aQ pG (aB (bH (dZ 1 [0] (fZ fH (aB (eC (.int 3)) aE)) bK cQ (aQ fV (aB (aA 1) (aB (aC bL (eC (.int 50)) (aA 0)) aE))))) aE))) A4)
noncomputable def A6:DSt->R aD:=(aM (bQ 5 (bD jK (aB (bH (uQ (aB (aA 3) (aB (aA 4) aE)))) aE))) A5)
noncomputable def A7:DSt->R aD:=(aM (hV [] 4 (bH (dZ 1 [0] (fZ fH (aB (eC (.int 6)) aE)) bK cQ (aQ pE (aB (aQ fV (aB (aA 1) (aB (aC bL (eC (.int 41)) (aA 0)) aE))) (aB (aA 0) aE)))))) A6)
noncomputable def A8:DSt->R aD:=(aM (bQ 3 (aC bL (eG (aA 1) (dO (aA 2)) fQ) (eG (aA 1) fQ (dO (aA 2))))) A7)
noncomputable def A9:DSt->R aD:=(aM (bQ 2 (aC bY (aC aF (aQ dU (aB (aQ fV (aB (aA 0) (aB (eC (.int 0)) aE))) (aB (eC (.int 12)) aE))) (eC (.int 7))) (eC (.int 6)))) A8)
noncomputable def vO:DSt->R aD:=(aM (bQ 1 (aQ pA (aB (aQ fV (aB (aA 0) (aB (eC (.int 0)) aE))) (aB (eC (.int 6)) aE)))) A9)
noncomputable def vP:List D->R D:=cE 1 14 vO
theorem zc2(a0:D):vP [a0]=fin (vO [some a0,none,none,none,none,none,none,none,none,none,none,none,none,none]):=dS (b:=vO) rfl rfl
end Mir
section
open L2 DL Mir
local macro_rules | `(tactic| kd_p)=>`(tactic| simp only[cV,iB,E9,FB,FC,FE,qS,FF,FG,FH,qT,lC,FJ,FK,qU,FL,FM,FP,FR,qV,FV,FX,FY,FZ,GA,jF,GB,GC,GD,GF,GG,GH,GI,GJ,GK,GL,GM,GN,GO,GP,GQ,GR,GU,GV,GW,iW,yH,yI,GX,GY,GZ,HA,oI,HB,oJ,yK,HC,HD,HE,HF,HG,HH,HI,HK,HL,HM,HN,HP,oK,HQ,qY,HS,HU,oM,HY,HZ,H9,yP,IB,IC,ID,IE,IF,fK,rB,oN,IG,IL,IM,IN,IP,IQ,IR,IS,IU,IV,IX,IY,IZ,JA,JB,JC,JD,JE,JG,yR,JH,JJ,JK,JL,JM,JN,JO,JP,JQ,JR,JU,JV,JW,JX,JY,JZ,J0,mB,J2,J3,J4,J5,J6,J7,J8,J9,KA,KB,KC,KD,eq_self,decide_true,decide_false,Int.reduceEq,Int.reduceLT,Int.reduceLE,Int.reduceNeg,Int.reduceToNat,KF,KG,KH,KI,KJ,KK,KL,KM,KN,KO,KP,KQ,KR,KU,KW,KY,KZ,K0,K2,K3,uF,K8,rE,K4,K5,K6,K7,kA,xO,mask,hU,List.contains_cons,List.contains_nil,Bool.or_false,Bool.false_or,Bool.true_or,Bool.or_true,Nat.reduceBEq,Nat.reduceAdd,xdd,cond_true,cond_false,xbu,xbt,xc3,xcx,Bool.not_not,Bool.true_and,Bool.false_and,Bool.and_true,Bool.and_false])
local macro_rules | `(tactic| walk_at "side")=>`(tactic| first|assumption|decide|omega|(refine gL ?_ ?_<;>omega)|(refine IA ?_ ?_ ?_<;>omega)|(refine Z7 ?_ ?_<;>omega)|(simp only[xaw,xb6,xav,xak];omega))
local macro_rules | `(tactic| kst_p1)=>`(tactic| simp(disch:=walk_at "side") only [cV,iB,E9,FB,FC,FE,qS,FF,FG,FH,qT,lC,FJ,FK,qU,FL,FM,FP,FR,qV,FV,FX,FY,FZ,GA,jF,GB,GC,GD,GF,GG,GH,GI,GJ,GK,GL,GM,GN,GO,GP,GQ,GR,GU,GV,GW,iW,yH,yI,GX,GY,GZ,HA,oI,HB,oJ,yK,HC,HD,HE,HF,HG,HH,HI,HK,HL,HM,HN,HP,oK,HQ,qY,HS,HU,oM,HY,HZ,H9,yP,IB,IC,ID,IE,IF,fK,rB,oN,IG,IL,IM,IN,IP,IQ,IR,IS,IU,IV,IX,IY,IZ,JA,JB,JC,JD,JE,JG,yR,JH,JJ,JK,JL,JM,JN,JO,JP,JQ,JR,JU,JV,JW,JX,JY,JZ,J0,mB,J2,J3,J4,J5,J6,J7,J8,J9,KA,KB,KC,KD,eq_self,decide_true,decide_false,Int.reduceEq,Int.reduceLT,Int.reduceLE,Int.reduceNeg,Int.reduceToNat,KF,KG,KH,KI,KJ,KK,KL,KM,KN,KO,KP,KQ,KR,KU,KW,KY,KZ,K0,K2,K3,uF,K8,rE,K4,K5,K6,K7,kA,xO,mask,hU,List.contains_cons,List.contains_nil,Bool.or_false,Bool.false_or,Bool.true_or,Bool.or_true,Nat.reduceBEq,Nat.reduceAdd,xdd,cond_true,cond_false,xbu,xbt,xc3,xcx,Bool.not_not,Bool.true_and,Bool.false_and,Bool.and_true,Bool.and_false,fR,JI,iC,Z1,Z2,Z5,Z6,qZ,ZZ,IJ,II])
namespace LmP
open Mth
theorem BA{n:Nat}{i:Int}(h:B n i):i.natAbs<=2^n-1:=by unfold B at h;omega
theorem zc3{n:Nat}{x y z:Int}(hx:B n x)(hy:B n y)(hz:B n z)(h:NZ x y z)(hn:n<=9000):jE (cK x y z)=true:=by
 refine xX (n:=n) ?_ (l0 h).ne hn
 have:=WN (BA hx) (BA hy) (BA hz)
 have p:0<2^n:=Nat.pow_pos (by decide)
 unfold B;omega
theorem zc4(x y z:Int)(h:NZ x y z)(U:DSt):lB aF (yG (j9 1 [0] (.ok [.int x,.int y,.int z]) bK (aR (aC eD (aA 0) (eC (.int 0)))) (aA 0) U)) (.ok (.int (-1)))=.ok (.int (cC x y z)):=by
 rw[Z8 (p:=fun d=>!aY d (.int 0)) (g:=id) (by simp) (fun d hd=>?_) (fun d hd _=>?_)]
 ·kd_p
  unfold cC
  by_cases hz:z=0
  ·by_cases hy:y=0
   ·have hx:x≠0:=fun e=>h ⟨e,hy,hz⟩
    subst hz;subst hy
    simp only[List.filter_cons,List.filter_nil,lD,hx,decide_false,decide_true,xcx,xc3,if_true,xcf,if_false,xa4,xbx,id,ne_eq,not_true_eq_false]
    rfl
   ·subst hz
    by_cases hx:x=0
    ·subst hx
     simp only[List.filter_cons,List.filter_nil,lD,hy,decide_false,decide_true,xcx,xc3,if_true,xcf,if_false,xa4,xbx,id,ne_eq,not_true_eq_false,not_false_eq_true]
     rfl
    ·simp only[List.filter_cons,List.filter_nil,lD,hx,hy,decide_false,decide_true,xcx,xc3,if_true,xcf,if_false,xa4,xbx,id,ne_eq,not_true_eq_false,not_false_eq_true]
     rfl
  ·have e:List.map id (List.filter (fun d=>!aY d (.int 0)) [.int x,.int y,.int z])=List.map id (List.filter (fun d=>!aY d (.int 0)) [.int x,.int y])++[D.int z]:=by
    rw[show ([.int x,.int y,.int z]:List D)=[.int x,.int y]++[.int z] from rfl,List.filter_append,xa3]
    congr 1
    simp[lD,hz]
   rw[e,Z4]
   simp[hz]
 ·simp only[xaz,xbe,or_false] at hd
  rcases hd with rfl|rfl|rfl<;>(kd_p;rw[lD])
 ·simp only[xaz,xbe,or_false] at hd
  rcases hd with rfl|rfl|rfl<;>(kd_p;rfl)
abbrev lowD(x y z:Int):D:=t3 (x.fdiv (cK x y z)) (y.fdiv (cK x y z)) (z.fdiv (cK x y z))
theorem zc6(x y z:Int):(cC x y z<0/\cK x y z=-((g3 x y z:Nat):Int))\/(¬cC x y z<0/\cK x y z=((g3 x y z:Nat):Int)):=by
 unfold cK
 by_cases h:cC x y z<0
 ·left;rw[xao h];exact⟨h,by omega⟩
 ·right;rw[xal h];exact⟨h,rfl⟩
end LmP
open L2 DL Mir
namespace LmA
open Mth LmP
theorem dW{i j:Int}(h:0<j):0<=i%j/\i%j<j:=⟨Int.emod_nonneg _ (by omega),Int.emod_lt_of_pos _ h⟩
theorem zc7(c k:Int)(h0:0<=k)(h1:k<=1000):∃r,o9 [.int c,.int k]=.ok (.int r)/\0<=r/\r<2305843009213693951:=by
 rw[zcN];unfold u5 N2 N1 N0;kd_p
 have m1:=dW (i:=c) (j:=1000000007) (by decide)
 rw[iC _ _ (by decide)];kd_p
 rw[fR _ _ (gL (by omega) (by omega)) (by decide +kernel),fR _ k (by decide +kernel) (gL (by omega) (by omega))];kd_p
 rw[fR _ k (gL (by omega) (by omega)) (gL (by omega) (by omega)),fR _ k (by decide +kernel) (gL (by omega) (by omega))];kd_p
 rw[iC _ _ (by decide)];kd_p
 generalize ((c%1000000007+1)*6364136223846793005+7919*k*k+31*k)=v
 have m2:=dW (i:=v) (j:=2305843009213693951) (by decide)
 generalize v%2305843009213693951=u at m2 ⊢
 rw[fR u u (gL (by omega) (by omega)) (gL (by omega) (by omega)),fR _ k (by decide +kernel) (gL (by omega) (by omega))];kd_p
 rw[fR _ k (gL (by omega) (by omega)) (gL (by omega) (by omega))];kd_p
 rw[iC _ _ (by decide)];kd_p
 generalize (u*u+69621*k*k+k)=t
 have m3:=dW (i:=t) (j:=2305843009213693951) (by decide)
 generalize t%2305843009213693951=q at m3 ⊢
 rw[fR q q (gL (by omega) (by omega)) (gL (by omega) (by omega))];kd_p
 rw[iC _ _ (by decide)];kd_p
 exact⟨_,rfl,dW (by decide)⟩
theorem BB(a b:Int):kJ [.int a,.int b]=.ok (.int ((Nat.gcd a.natAbs b.natAbs:Nat):Int)):=by
 rw[zcP];unfold u8 OA N9 N8;kd_p
 have loop:∀(n m:Nat),c7 u7 AH [some (.int (m:Int)),some (.int (n:Int))]=.ok (.nx [some (.int ((Nat.gcd m n:Nat):Int)),some (.int 0)]):=by
  intro n
  induction n using Nat.strongRecOn with
  |_ n ih=>
   intro m
   by_cases hn:n=0
   ·subst hn
    rw[yW (by unfold u7;kd_p;rfl),Nat.gcd_zero_right];rfl
   ·have hlt:m%n<n:=Nat.mod_lt _ (by omega)
    have h:=ih (m%n) hlt n
    rw[uG (U':=[some (.int (n:Int)),some (.int ((m%n:Nat):Int))]) ?_ ?_,h,Mth.gcd_step]
    ·unfold u7;kd_p
     rw[xaj (by omega)]
    ·unfold AH;kd_p
     rw[iC _ _ (by omega)]
     kd_p
     rfl
 rw[loop]
 kd_p
theorem PR{n:Nat}{x y z:Int}(hx:B n x)(hy:B n y)(hz:B n z)(h:NZ x y z)(hn:n<=9000):kK [.int x,.int y,.int z]=.ok (lowD x y z):=by
 have hd:=zc3 hx hy hz h hn
 rw[zcQ];unfold u9 OD OC OB;kd_p
 rw[BB];kd_p
 rw[BB];kd_p
 rw[zc4 x y z h];kd_p
 rw[xcv]
 rcases zc6 x y z with⟨hl,hs⟩|⟨hl,hs⟩
 ·rw[xaj hl];kd_p
  rw[show 0-(((Nat.gcd (Nat.gcd x.natAbs y.natAbs) z.natAbs:Nat)):Int)=cK x y z from by rw[hs,xdb];rfl,jG _ _ hd,jG _ _ hd,jG _ _ hd]
  kd_p
 ·rw[xar hl];kd_p
  rw[show (((Nat.gcd (Nat.gcd x.natAbs y.natAbs) z.natAbs:Nat)):Int)=cK x y z from hs.symm,jG _ _ hd,jG _ _ hd,jG _ _ hd]
  kd_p
theorem PU(i:Int):iI [.int i]=.ok (.bl true):=by
 rw[zcM];unfold u4;kd_p
end LmA
open L2 DL Mir
namespace LmD
open Mth LmP LmA
abbrev aI(p:P3):D:=t3 p.1 p.2.1 p.2.2
structure BP(n:Nat)(p:P3):Prop where
 x:B n p.1
 y:B n p.2.1
 z:B n p.2.2
theorem BP.mono{m n:Nat}{p:P3}(h:BP m p)(hn:m<=n):BP n p:=⟨h.x.mono hn,h.y.mono hn,h.z.mono hn⟩
theorem BP.crs{m n:Nat}{p q:P3}(hp:BP m p)(hq:BP n q):BP (m+n+1) (Mth.crs p q):=
 ⟨((hp.y.mul hq.z).sub (hp.z.mul hq.y)).mono (by omega),((hp.z.mul hq.x).sub (hp.x.mul hq.z)).mono (by omega),((hp.x.mul hq.y).sub (hp.y.mul hq.x)).mono (by omega)⟩
theorem BP.dot{m n:Nat}{p q:P3}(hp:BP m p)(hq:BP n q):B (m+n+2) (Mth.dot p q):=
 (((hp.x.mul hq.x).add (hp.y.mul hq.y)).add (hp.z.mul hq.z)).mono (by omega)
theorem BP.low{n:Nat}{p:P3}(h:BP n p)(hz:Nz p):BP n (Mth.low p):=by
 obtain⟨a,b,c⟩:=WO hz
 exact⟨xa9 a h.x,xa9 b h.y,xa9 c h.z⟩
theorem pJ{n:Nat}{i:Int}(h:B n i)(hn:n<=10000):fP i=true:=tY h (by omega)
theorem eqP(p q:P3):(p.1=q.1/\p.2.1=q.2.1/\p.2.2=q.2.2)↔p=q:=⟨fun⟨a,b,c⟩=>xag a (xag b c),fun h=>by subst h;exact⟨rfl,rfl,rfl⟩⟩
structure BM(n:Nat)(m:M3):Prop where
 a:BP n m.1
 b:BP n m.2.1
 c:BP n m.2.2
theorem BM.mono{k n:Nat}{m:M3}(h:BM k m)(hn:k<=n):BM n m:=⟨h.a.mono hn,h.b.mono hn,h.c.mono hn⟩
theorem BM.cof{n:Nat}{m:M3}(h:BM n m):BM (n+n+1) (Mth.cof m):=⟨h.b.crs h.c,h.c.crs h.a,h.a.crs h.b⟩
theorem BM.mul{k n:Nat}{m:M3}{p:P3}(h:BM k m)(hp:BP n p):BP (k+n+2) (Mth.mul m p):=⟨h.a.dot hp,h.b.dot hp,h.c.dot hp⟩
theorem BM.of{n:Nat}{m:M3}(h:∀i∈flat m,B n i):BM n m:=by
 simp only[flat,xaz,xbe,or_false,forall_eq_or_imp,forall_eq] at h
 obtain⟨h1,h2,h3,h4,h5,h6,h7,h8,h9⟩:=h
 exact⟨⟨h1,h2,h3⟩,⟨h4,h5,h6⟩,⟨h7,h8,h9⟩⟩
end LmD
open L2 DL Mir
open L2 DL Mir
namespace Lk42
open Mth LmP LmA LmD
theorem eSl_to(fe f:DSt->R D)(U:DSt)(ds:List D)(n:Nat)(h1:fe U=.ok (.lst ds))(h2:f U=.ok (.int (n:Int))):eG fe fQ (dO f) U=.ok (.lst (ds.take n)):=by
 unfold eG fQ dO
 rw[h1,h2]
 show R.ok (D.lst (iA ds none (some (n:Int))))=_
 unfold iA
 rw[HT.sIx_none,HT.sIx_nat,List.drop_zero,Nat.sub_zero,<- List.take_eq_take_min]
theorem gAdd_ll{xs ys:List D}(h:xs.length+ys.length<=1000000):bL (.lst xs) (.lst ys)=.ok (.lst (xs++ys)):=by
 show (bif dR (xs.length+ys.length) then _ else _)=_
 rw[show dR (xs.length+ys.length)=true from xaj (xa1 h (by decide))];rfl
end Lk42
open L2 DL Mir
namespace LmB
open Mth LmP LmA LmD
theorem lc_mapP{α:Type}{xs:List α}{f:α->D}{e:DSt->R D}{U:DSt}{g:α->D}(hl:xs.length<=1000000)(h:∀a∈xs,e (some (f a)::U)=.ok (g a)):j9 1 [0] (.ok (xs.map f)) bK cQ e U=.ok (xs.map g):=by
 have go:∀xs:List α,(∀a∈xs,e (some (f a)::U)=.ok (g a))->dY [0] bK cQ e (List.replicate 1 none++U) (xs.map f)=.ok (xs.map g):=by
  intro xs
  induction xs with
  |nil=>intro _;rfl
  |cons d ds ih=>
   intro h
   show (e (some (f d)::U)).bind (fun y=>(dY [0] bK cQ e (List.replicate 1 none++U) (ds.map f)).bind fun ys=>.ok (y::ys))=_
   rw[h d xba,ih fun d' hd=>h d' (xat _ hd)];rfl
 show (bif most (xs.map f).length then _ else _)=_
 rw[kB (by rw[xak];exact hl),go xs h];rfl
structure Pts(n:Nat)(ps:List P3):Prop where
 nrm:∀p∈ps,cY p
 bd:∀p∈ps,BP n p
end LmB
open L2 DL Mir
namespace LmF
open Mth LmP LmA LmD
theorem lc_3{a b c x y z:D}{e:DSt->R D}{U:DSt}(ha:e (some a::U)=.ok x)(hb:e (some b::U)=.ok y)(hc:e (some c::U)=.ok z):j9 1 [0] (.ok [a,b,c]) bK cQ e U=.ok [x,y,z]:=by
 have t:dY [0] bK cQ e (List.replicate 1 none++U) [a,b,c]=(e (some a::U)).bind (fun y=>((e (some b::U)).bind fun y'=>((e (some c::U)).bind fun y''=>(R.ok ([]:List D)).bind fun ys=>.ok (y''::ys)).bind fun ys=>.ok (y'::ys)).bind fun ys=>.ok (y::ys)):=rfl
 show (bif most 3 then (dY [0] bK cQ e (List.replicate 1 none++U) [a,b,c]).noerr else .bad)=_
 rw[t,ha,hb,hc];rfl
end LmF
open L2 DL Mir
open L2 DL Mir
open L2 DL Mir
namespace LmJ
open Mth LmP LmA LmD LmB LmF
structure Fl(ps:List P3):Prop where
 pts:Pts 24 ps
 nd:ps.Nodup
 one:1<=ps.length
 most:ps.length<=12
def pk(ps:List P3)(k:Nat):P3:=ps.getD k (0,0,1)
theorem BC{ps:List P3}{k:Nat}(h:k<ps.length):ps[k]? = some (pk ps k):=by simp[pk,h]
theorem BD{ps:List P3}{k:Nat}(h:k<ps.length):pk ps k∈ps:=xbo (BC h)
theorem Fl.ix{ps:List P3}{k:Nat}(h:k<ps.length):aF (.lst (ps.map aI)) (.int (k:Int))=.ok (aI (pk ps k)):=uE (by rw[xbj,BC h];rfl)
end LmJ
open L2 DL Mir
namespace LmSa
open Mth LmP LmA LmD LmJ
structure Mf where
 m:M3
 fr:Nat->Prop
def im(w:Bool)(m:Mf)(v:P3):P3:=low (mul (bif w then cof m.m else m.m) v)
structure Mt(m:Mf)(ps:List P3):Prop where
 d:bM m.m≠0
 b:BM 300 m.m
 n:∀k,ps.length<=k->m.fr k
theorem Mt.dw{m:Mf}{ps:List P3}(h:Mt m ps)(w:Bool):bM (bif w then cof m.m else m.m)≠0:=by
 cases w
 ·exact h.d
 ·show bM (cof m.m)≠0
  rw[W3];exact w9 h.d h.d
theorem nA{m:Mf}{ps:List P3}(h:Mt m ps)(w:Bool){v:P3}(hv:Nz v):Nz (mul (bif w then cof m.m else m.m) v):=s9 (h.dw w) hv
theorem zda{m:Mf}{ps:List P3}(h:Mt m ps)(w:Bool){v:P3}(hv:Nz v)(hb:BP 390 v):cY (im w m v)/\BP 1000 (im w m v):=by
 refine⟨pU (nA h w hv),BP.low ?_ (nA h w hv)⟩
 cases w
 ·exact(BM.mul h.b hb).mono (by omega)
 ·exact(BM.mul h.b.cof hb).mono (by omega)
theorem PX{m:Mf}{ps:List P3}(h:Mt m ps)(w:Bool){v:P3}{k:Int}(hk:k≠0)(hv:Nz v):im w m (bB k v)=im w m v:=by
 unfold im
 rw[WV,xA hk (nA h w hv)]
theorem PY{m:Mf}{ps:List P3}(h:Mt m ps)(w:Bool){u v:P3}(hu:Nz u)(hv:Nz v)(hc:Nz (crs u v)):im w m u≠im w m v/\low (crs (im w m u) (im w m v))=im (!w) m (crs u v):=by
 have e:=WQ (bif w then cof m.m else m.m) u v
 rw[tD (nA h w hu),tD (nA h w hv),D1] at e
 have hs:=w9 (nX (nA h w hu)).1 (nX (nA h w hv)).1
 have hz:Nz (mul (cof (bif w then cof m.m else m.m)) (crs u v)):=WU (h.dw w) hc
 rw[<- e] at hz
 have hz':=WY hz
 refine⟨fun q=>pV hz' (by show crs (im w m u) (im w m v)=_;rw[q,W2]),?_⟩
 show low (crs (low (mul (bif w then cof m.m else m.m) u)) (low (mul (bif w then cof m.m else m.m) v)))=_
 rw[<- xA hs hz',e]
 cases w
 ·rfl
 ·show low (mul (cof (cof m.m)) (crs u v))=low (mul m.m (crs u v))
  rw[D8,D5,xA h.d (s9 h.d hc)]
abbrev S2:=List P3×List P3
structure De where
 w:Bool
 a:Nat
 b:Nat
abbrev wd(w:Bool):Str:=bif w then "peg" else "line"
def De.S(d:De):Str×Int×Int:=(wd d.w,(d.a:Int),(d.b:Int))
def bF(s:S2)(w:Bool):List P3:=bif w then s.2 else s.1
def fresh(s:S2)(d:De):P3:=low (crs (pk (bF s d.w) d.a) (pk (bF s d.w) d.b))
def stp(s:S2)(d:De):S2:=bif d.w then (s.1++[fresh s d],s.2) else (s.1,s.2++[fresh s d])
structure BE(s:S2)(d:De):Prop where
 a:d.a<(bF s d.w).length
 b:d.b<(bF s d.w).length
 ne:pk (bF s d.w) d.a≠pk (bF s d.w) d.b
def pK:S2->List De->Prop
 |_,[]=>True
 |s,d::ds=>BE s d/\pK (stp s d) ds
theorem PZ:∀(s:S2) (ds:List De) (d:De),pK s ds->BE (ds.foldl stp s) d->pK s (ds++[d])
 |_,[],_,_,h=>⟨h,trivial⟩
 |s,e::ds,d,h,h'=>⟨h.1,PZ (stp s e) ds d h.2 h'⟩
def Le(t t':S2):Prop:=∀(w:Bool) (n:Nat),n<(bF t w).length->n<(bF t' w).length/\pk (bF t' w) n=pk (bF t w) n
theorem Le.refl(t:S2):Le t t:=fun _ _ h=>⟨h,rfl⟩
theorem Le.trans{a b c:S2}(h:Le a b)(h':Le b c):Le a c:=fun w n z=>⟨(h' w n (h w n z).1).1,((h' w n (h w n z).1).2).trans (h w n z).2⟩
theorem vQ(t:S2)(w x:Bool)(a b:Nat):bF (stp t ⟨w,a,b⟩) x=bif w==x then bF t x else bF t x++[fresh t ⟨w,a,b⟩]:=by
 cases w<;>cases x<;>rfl
theorem zdb{l:List P3}{x:P3}{n:Nat}(h:n<l.length):pk (l++[x]) n=pk l n:=by
 unfold pk;rw[xco,xco,xbh h]
theorem P0(l:List P3)(x:P3):pk (l++[x]) l.length=x:=by
 unfold pk;simp
theorem P1(t:S2)(w:Bool)(a b:Nat):Le t (stp t ⟨w,a,b⟩):=fun x n h=>by
 rw[vQ]
 cases (w==x)
 ·exact⟨by rw[cond_false,xav];omega,zdb h⟩
 ·exact⟨h,rfl⟩
def At(m:Mf)(t:S2)(w:Bool)(k:Int)(v:P3):Prop:=Nz v/\∃n:Nat,k=n/\n<(bF t w).length/\pk (bF t w) n=im w m v/\(w=false->m.fr n)
theorem At.mono{m:Mf}{t t':S2}{w:Bool}{k:Int}{v:P3}(h:At m t w k v)(l:Le t t'):At m t' w k v:=by
 obtain⟨z,n,e,h1,h2,h3⟩:=h
 exact⟨z,n,e,(l w n h1).1,((l w n h1).2).trans h2,h3⟩
structure Inv(f:Bool)(m:Mf)(ps:List P3)(sk:Sk.SK)(t:S2):Prop where
 pl:∃ds:List De,sk.plan=ds.map De.S/\pK (ps,[]) ds/\t=ds.foldl stp (ps,[])/\∀d∈ds,d.w=false->m.fr d.a/\m.fr d.b
 le:ps.length<=t.1.length
 cl:sk.c<(ps.length:Int)
 e1:f=true->∀(a b:Nat) (v:V),bR sk.drawn (Sk.keyK "line" a b)=some v->(b:Int)=sk.e->(a:Int)=sk.c
 np:sk.pegs=(t.1.length:Int)
 nl:sk.lines=(t.2.length:Int)
 dr:∀(w:Bool) (a b:Nat) (v:V),bR sk.drawn (Sk.keyK (wd w) a b)=some v->∃r:Nat,v=.int r/\r<(bF t (!w)).length/\a<(bF t w).length/\b<(bF t w).length/\pk (bF t (!w)) r=low (crs (pk (bF t w) a) (pk (bF t w) b))/\(w=true->ps.length<=r)
 fe:At m t false sk.e (1,0,0)
 fn:At m t false sk.n (0,1,0)
 fc:At m t false sk.c (0,0,1)
 ft:At m t false sk.t (1,1,1)
 fi:∀w,∀p∈bF t w,cY p/\BP 1000 p
noncomputable def mD(w:Bool)(sk:Sk.SK)(a b:Int):Int×Sk.SK:=bif w then Sk.nPeg sk a b else Sk.nLine sk a b
def cnt(w:Bool)(sk:Sk.SK):Int:=bif w then sk.pegs else sk.lines
def put(w:Bool)(sk:Sk.SK)(a b:Int):Sk.SK:={ sk with pegs:=bif w then sk.pegs+1 else sk.pegs,lines:=bif w then sk.lines else sk.lines+1,plan:=sk.plan++[(wd w,a,b)],drawn:=L2.putK sk.drawn (Sk.keyK (wd w) a b) (.int (cnt w sk)) }
theorem zdc{w:Bool}{sk:Sk.SK}{a b r:Int}(h:bR sk.drawn (Sk.keyK (wd w) a b)=some (.int r)):mD w sk a b=(r,sk):=by
 unfold mD
 cases w
 ·rw[cond_false,Sk.nLine_eq];unfold Sk.mLine;rw[show bR sk.drawn (Sk.keyK "line" a b)=_ from h]
 ·rw[cond_true,Sk.nPeg_eq];unfold Sk.mPeg;rw[show bR sk.drawn (Sk.keyK "peg" a b)=_ from h]
theorem zdd{w:Bool}{sk:Sk.SK}{a b:Int}(h:bR sk.drawn (Sk.keyK (wd w) a b)=none):mD w sk a b=(cnt w sk,put w sk a b):=by
 unfold mD
 cases w
 ·rw[cond_false,Sk.nLine_eq];unfold Sk.mLine;rw[show bR sk.drawn (Sk.keyK "line" a b)=_ from h];rfl
 ·rw[cond_true,Sk.nPeg_eq];unfold Sk.mPeg;rw[show bR sk.drawn (Sk.keyK "peg" a b)=_ from h];rfl
theorem P2{w w':Bool}{a b a' b':Int}(h:Sk.keyK (wd w) a b=Sk.keyK (wd w') a' b'):w=w'/\a=a'/\b=b':=by
 unfold Sk.keyK at h
 simp only[List.cons.injEq,Sum.inr.injEq,Sum.inl.injEq,and_true] at h
 refine⟨?_,h.2⟩
 have:=h.1
 cases w<;>cases w'<;>first|rfl|exact xaq this (by decide)
theorem vR(t:S2)(w:Bool)(a b:Nat):((stp t ⟨w,a,b⟩).1.length=bif w then t.1.length+1 else t.1.length)/\((stp t ⟨w,a,b⟩).2.length=bif w then t.2.length else t.2.length+1):=by
 cases w<;>refine⟨?_,?_⟩<;>simp[stp]
theorem step{f:Bool}{m:Mf}{ps:List P3}{sk:Sk.SK}{t:S2}(w:Bool){a b:Int}{u v:P3}(H:Mt m ps)(I:Inv f m ps sk t)(ha:At m t w a u)(hb:At m t w b v)(k:Int)(x:P3)(hk:k≠0)(hx:Nz x)(e:crs u v=bB k x)(hB:BP 390 x)(he:f=true->w=false->Nz (crs v (1,0,0))\/a=sk.c) :
  ∃t',Inv f m ps (mD w sk a b).2 t'/\Le t t'/\At m t' (!w) (mD w sk a b).1 x/\(w=true->(ps.length:Int)<=(mD w sk a b).1)/\(bR sk.drawn (Sk.keyK (wd w) a b)=none->(mD w sk a b).1=((bF t (!w)).length:Int)/\(bF t' (!w)).length=(bF t (!w)).length+1/\bF t' w=bF t w/\(mD w sk a b).2.drawn=L2.putK sk.drawn (Sk.keyK (wd w) a b) (.int (cnt w sk))):=by
 obtain⟨zu,na,rfl,la,pa,fa⟩:=ha
 obtain⟨zv,nb,rfl,lb,pb,fb⟩:=hb
 have hc:Nz (crs u v):=by rw[e];exact D4 hk hx
 have hi:=PY H w zu zv hc
 rw[e,PX H (!w) hk hx,<- pa,<- pb] at hi
 cases hv:bR sk.drawn (Sk.keyK (wd w) (na:Int) (nb:Int)) with
 |some y=>
  obtain⟨r,rfl,h1,h2,h3,h4,h5⟩:=I.dr w na nb y hv
  rw[zdc hv]
  refine⟨t,I,Le.refl t,⟨hx,r,rfl,h1,h4.trans hi.2,fun hw=>H.n r (h5 (by cases w;cases hw;rfl))⟩,fun hw=>Int.ofNat_le.mpr (h5 hw),fun z=>?_⟩
  cases z
 |none=>
  rw[zdd hv]
  have l:=P1 t w na nb
  have ef:fresh t ⟨w,na,nb⟩=im (!w) m x:=hi.2
  have ll:bF (stp t ⟨w,na,nb⟩) (!w)=bF t (!w)++[im (!w) m x]:=by rw[vQ,ef];cases w<;>rfl
  have ls:bF (stp t ⟨w,na,nb⟩) w=bF t w:=by rw[vQ];cases w<;>rfl
  have ec:cnt w sk=((bF t (!w)).length:Int):=by
   cases w
   ·exact I.nl
   ·exact I.np
  have lp:w=true->ps.length<=(bF t (!w)).length:=fun hw=>by subst hw;exact I.le
  refine⟨stp t ⟨w,na,nb⟩,?_,l,⟨hx,(bF t (!w)).length,ec,by rw[ll,xav];simp,by rw[ll];exact P0 _ _,fun hw=>H.n _ (lp (by cases w;cases hw;rfl))⟩,fun hw=>by show (ps.length:Int)<=cnt w sk;rw[ec];exact Int.ofNat_le.mpr (lp hw),fun _=>⟨ec,by rw[ll,xav];simp,ls,rfl⟩⟩
  obtain⟨ds,p1,p2,p3,p4⟩:=I.pl
  refine⟨⟨ds++[⟨w,na,nb⟩],?_,?_,?_,?_⟩,xa1 I.le (by rw[(vR t w na nb).1];cases w<;>simp),I.cl,?_,?_,?_,?_,I.fe.mono l,I.fn.mono l,I.fc.mono l,I.ft.mono l,?_⟩
  ·rw[xa3,<- p1];rfl
  ·exact PZ _ _ _ p2 (by rw[<- p3];exact⟨la,lb,hi.1⟩)
  ·rw[List.foldl_append,<- p3];rfl
  ·intro d hd hw
   rcases xbf.mp hd with hd|hd
   ·exact p4 d hd hw
   ·rw[xbc.mp hd] at hw ⊢
    exact⟨fa hw,fb hw⟩
  ·intro hf a' b' y hy hb'
   rw[show (put w sk (na:Int) (nb:Int)).drawn=L2.putK sk.drawn (Sk.keyK (wd w) (na:Int) (nb:Int)) (.int (cnt w sk)) from rfl,uL] at hy
   split at hy
   ·rename_i hk'
    obtain⟨h1,h2,h3⟩:=P2 (w:=false) hk'
    subst h1
    obtain rfl:a'=na:=by omega
    obtain rfl:b'=nb:=by omega
    rcases he hf rfl with h|h
    ·obtain⟨ze,ne',ee,_,pe,_⟩:=I.fe
     have:b'=ne':=by have hb':(b':Int)=sk.e:=hb';omega
     subst this
     exact xaq (pb.symm.trans pe) (PY H false zv ze h).1
    ·exact h
   ·exact I.e1 hf a' b' y hy hb'
  ·rw[(vR t w na nb).1]
   have:=I.np
   cases w
   ·exact this
   ·show sk.pegs+1=((t.1.length+1:Nat):Int);omega
  ·rw[(vR t w na nb).2]
   have:=I.nl
   cases w
   ·show sk.lines+1=((t.2.length+1:Nat):Int);omega
   ·exact this
  ·intro w' a' b' y hy
   rw[show (put w sk (na:Int) (nb:Int)).drawn=L2.putK sk.drawn (Sk.keyK (wd w) (na:Int) (nb:Int)) (.int (cnt w sk)) from rfl,uL] at hy
   split at hy
   ·rename_i hk'
    obtain⟨rfl,h2,h3⟩:=P2 hk'
    obtain rfl:a'=na:=by omega
    obtain rfl:b'=nb:=by omega
    refine⟨(bF t (!w')).length,by rw[<- xas hy,ec],by rw[ll,xav];simp,by rw[ls];exact la,by rw[ls];exact lb,?_,lp⟩
    rw[ll,P0,ls];exact hi.2.symm
   ·obtain⟨r,h1,h2,h3,h4,h5,h6⟩:=I.dr w' a' b' y hy
    refine⟨r,h1,(l _ _ h2).1,(l _ _ h3).1,(l _ _ h4).1,?_,h6⟩
    rw[(l _ _ h2).2,(l _ _ h3).2,(l _ _ h4).2];exact h5
  ·intro x' p hp
   rw[vQ] at hp
   cases hx':(w==x') with
   |true=>rw[hx'] at hp;exact I.fi x' p hp
   |false=>
    rw[hx',cond_false] at hp
    rcases xbf.mp hp with hp|hp
    ·exact I.fi x' p hp
    ·rw[xbc.mp hp,ef];exact zda H _ hx hB
end LmSa
open L2 DL Mir
namespace LmSb
open Mth LmP LmA LmD LmJ LmSa
variable{f:Bool}{m:Mf}{ps:List P3}{sk:Sk.SK}{t:S2}
def Br(f:Bool)(m:Mf)(ps:List P3)(t:S2)(r:Int×Sk.SK)(w:Bool)(v:P3):Prop:=∃t',Inv f m ps r.2 t'/\Le t t'/\At m t' w r.1 v
theorem ln(H:Mt m ps)(I:Inv f m ps sk t){a b:Int}{u v:P3}(ha:At m t false a u)(hb:At m t false b v)(k:Int)(x:P3)(hk:k≠0)(hx:Nz x)(e:crs u v=bB k x)(hB:BP 390 x)(he:f=true->Nz (crs v (1,0,0))\/a=sk.c:=by exact fun _=>.inl (by decide)):Br f m ps t (Sk.nLine sk a b) true x:=
 let⟨t',h1,h2,h3,_⟩:=step false H I ha hb k x hk hx e hB (fun h _=>he h)
 ⟨t',h1,h2,h3⟩
theorem pg(H:Mt m ps)(I:Inv f m ps sk t){a b:Int}{u v:P3}(ha:At m t true a u)(hb:At m t true b v)(k:Int)(x:P3)(hk:k≠0)(hx:Nz x)(e:crs u v=bB k x)(hB:BP 390 x):Br f m ps t (Sk.nPeg sk a b) false x:=
 let⟨t',h1,h2,h3,_⟩:=step true H I ha hb k x hk hx e hB (fun _ h=>by cases h)
 ⟨t',h1,h2,h3⟩
theorem b2{i:Int}(h:i.natAbs<=2):B 390 i:=xa9 h (by decide +kernel)
theorem B0:B 390 0:=b2 (by decide)
theorem B1:B 390 1:=b2 (by decide)
theorem bc{x y z:Int}(hx:x.natAbs<=2)(hy:y.natAbs<=2)(hz:z.natAbs<=2):BP 390 (x,y,z):=⟨b2 hx,b2 hy,b2 hz⟩
theorem base(H:Mt m ps)(I:Inv f m ps sk t):Br f m ps t (Sk.q_base sk) true (0,1,0):=by
 delta Sk.q_base;rw[Sk.hid_eq]
 exact ln H I I.fc I.fe 1 _ (by decide) (by decide) (by decide) (bc (by decide) (by decide) (by decide)) fun _=>.inr rfl
theorem upright(H:Mt m ps)(I:Inv f m ps sk t):Br f m ps t (Sk.q_upright sk) true (1,0,0):=by
 delta Sk.q_upright;rw[Sk.hid_eq]
 exact ln H I I.fc I.fn (-1) _ (by decide) (by decide) (by decide) (bc (by decide) (by decide) (by decide))
theorem far(H:Mt m ps)(I:Inv f m ps sk t):Br f m ps t (Sk.q_far sk) true (0,0,1):=by
 delta Sk.q_far;rw[Sk.hid_eq]
 exact ln H I I.fe I.fn 1 _ (by decide) (by decide) (by decide) (bc (by decide) (by decide) (by decide))
theorem level(H:Mt m ps)(I:Inv f m ps sk t):Br f m ps t (Sk.q_level sk) true (0,-1,1):=by
 delta Sk.q_level;rw[Sk.hid_eq]
 exact ln H I I.fe I.ft 1 _ (by decide) (by decide) (by decide) (bc (by decide) (by decide) (by decide))
theorem unit(H:Mt m ps)(I:Inv f m ps sk t):Br f m ps t (Sk.q_unit sk) false (1,0,1):=by
 delta Sk.q_unit;rw[Sk.hid_eq]
 obtain⟨t1,I1,l1,a1⟩:=base H I
 obtain⟨t2,I2,l2,a2⟩:=ln H I1 I1.fn I1.ft 1 (1,0,-1) (by decide) (by decide) (by decide) (bc (by decide) (by decide) (by decide))
 obtain⟨t3,I3,l3,a3⟩:=pg H I2 (a1.mono l2) a2 (-1) (1,0,1) (by decide) (by decide) (by decide) (bc (by decide) (by decide) (by decide))
 exact⟨t3,I3,l1.trans (l2.trans l3),a3⟩
theorem high(H:Mt m ps)(I:Inv f m ps sk t):Br f m ps t (Sk.q_high sk) false (0,1,1):=by
 delta Sk.q_high;rw[Sk.hid_eq]
 obtain⟨t1,I1,l1,a1⟩:=upright H I
 obtain⟨t2,I2,l2,a2⟩:=level H I1
 obtain⟨t3,I3,l3,a3⟩:=pg H I2 (a1.mono l2) a2 (-1) (0,1,1) (by decide) (by decide) (by decide) (bc (by decide) (by decide) (by decide))
 exact⟨t3,I3,l1.trans (l2.trans l3),a3⟩
theorem heading(H:Mt m ps)(I:Inv f m ps sk t){a b:Int}{u v:P3}(ha:At m t false a u)(hb:At m t false b v)(k:Int)(y:P3)(hk:k≠0)(hy:Nz y)(e:crs u v=bB k y)(hB:BP 390 y)(k':Int)(x:P3)(hk':k'≠0)(hx:Nz x)(e':crs (0,0,1) y=bB k' x)(hB':BP 390 x)(he:f=true->Nz (crs v (1,0,0)):=by exact fun _=>by decide):Br f m ps t (Sk.q_heading sk a b) false x:=by
 delta Sk.q_heading;rw[Sk.hid_eq]
 obtain⟨t1,I1,l1,a1⟩:=far H I
 obtain⟨t2,I2,l2,a2⟩:=ln H I1 (ha.mono l1) (hb.mono l1) k y hk hy e hB (fun h=>.inl (he h))
 obtain⟨t3,I3,l3,a3⟩:=pg H I2 (a1.mono l2) a2 k' x hk' hx e' hB'
 exact⟨t3,I3,l1.trans (l2.trans l3),a3⟩
theorem falling(H:Mt m ps)(I:Inv f m ps sk t):Br f m ps t (Sk.q_falling sk) false (-1,1,0):=by
 delta Sk.q_falling;rw[Sk.hid_eq]
 obtain⟨t1,I1,l1,a1⟩:=high H I
 obtain⟨t2,I2,l2,a2⟩:=unit H I1
 obtain⟨t3,I3,l3,a3⟩:=heading H I2 (a1.mono l2) a2 1 (1,1,-1) (by decide) (by decide) (by decide) (bc (by decide) (by decide) (by decide)) 1 (-1,1,0) (by decide) (by decide) (by decide) (bc (by decide) (by decide) (by decide))
 exact⟨t3,I3,l1.trans (l2.trans l3),a3⟩
theorem slid(H:Mt m ps)(I:Inv f m ps sk t){a b:Int}{u v:P3}(ha:At m t false a u)(hb:At m t false b v)(k:Int)(y:P3)(hk:k≠0)(hy:Nz y)(e:crs u v=bB k y)(hB:BP 390 y)(k':Int)(x:P3)(hk':k'≠0)(hx:Nz x)(e':crs (0,1,0) y=bB k' x)(hB':BP 390 x)(he:f=true->Nz (crs v (1,0,0)):=by exact fun _=>by decide):Br f m ps t (Sk.q_slid sk a b) false x:=by
 delta Sk.q_slid;rw[Sk.hid_eq]
 obtain⟨t1,I1,l1,a1⟩:=base H I
 obtain⟨t2,I2,l2,a2⟩:=ln H I1 (ha.mono l1) (hb.mono l1) k y hk hy e hB (fun h=>.inl (he h))
 obtain⟨t3,I3,l3,a3⟩:=pg H I2 (a1.mono l2) a2 k' x hk' hx e' hB'
 exact⟨t3,I3,l1.trans (l2.trans l3),a3⟩
theorem nz_z{x y z:Int}(h:z≠0):Nz (x,y,z):=fun q=>h q.2.2
theorem nz_x{x y z:Int}(h:x≠0):Nz (x,y,z):=fun q=>h q.1
theorem nz_y{x y z:Int}(h:y≠0):Nz (x,y,z):=fun q=>h q.2.1
theorem eZ{n:Nat}{i:Int}(h:B n i):B n (-i):=by unfold B at *;rw[Int.natAbs_neg];exact h
def St(s:Int):Prop:=s=0\/s=1\/s=-1
theorem St.abs{s:Int}(h:St s):s.natAbs<=2:=by rcases h with rfl|rfl|rfl<;>decide
theorem slope(H:Mt m ps)(I:Inv f m ps sk t){s:Int}(hs:St s):Br f m ps t (Sk.q_slope sk s) true (1,-1,s):=by
 delta Sk.q_slope;rw[Sk.hid_eq]
 obtain⟨t1,I1,l1,a1⟩:=ln H I I.fc I.ft (-1) (1,-1,0) (by decide) (by decide) (by decide) (bc (by decide) (by decide) (by decide))
 by_cases h0:s=0
 ·subst h0
  exact⟨t1,I1,l1,a1⟩
 ·dsimp only
  rw[xal h0]
  by_cases h1:s=1
  ·subst h1
   rw[xao rfl]
   obtain⟨t2,I2,l2,a2⟩:=high H I1
   obtain⟨t3,I3,l3,a3⟩:=far H I2
   obtain⟨t4,I4,l4,a4⟩:=pg H I3 a3 (a1.mono (l2.trans l3)) 1 (1,1,0) (by decide) (by decide) (by decide) (bc (by decide) (by decide) (by decide))
   obtain⟨t5,I5,l5,a5⟩:=ln H I4 (a2.mono (l3.trans l4)) a4 (-1) (1,-1,1) (by decide) (by decide) (by decide) (bc (by decide) (by decide) (by decide))
   exact⟨t5,I5,l1.trans (l2.trans (l3.trans (l4.trans l5))),a5⟩
  ·obtain rfl:s=-1:=by
    rcases hs with h|h|h
    ·exact xaq h h0
    ·exact xaq h h1
    ·exact h
   rw[xal h1]
   obtain⟨t2,I2,l2,a2⟩:=unit H I1
   obtain⟨t3,I3,l3,a3⟩:=far H I2
   obtain⟨t4,I4,l4,a4⟩:=pg H I3 a3 (a1.mono (l2.trans l3)) 1 (1,1,0) (by decide) (by decide) (by decide) (bc (by decide) (by decide) (by decide))
   obtain⟨t5,I5,l5,a5⟩:=ln H I4 (a2.mono (l3.trans l4)) a4 (-1) (1,-1,-1) (by decide) (by decide) (by decide) (bc (by decide) (by decide) (by decide))
   exact⟨t5,I5,l1.trans (l2.trans (l3.trans (l4.trans l5))),a5⟩
theorem doubled(H:Mt m ps)(I:Inv f m ps sk t){a p s:Int}(hs:St s)(bp:B 140 p)(ha:At m t false a (p,0,1)):Br f m ps t (Sk.q_doubled sk a s) false (2*p+s,0,1):=by
 delta Sk.q_doubled;rw[Sk.hid_eq]
 have bs:B 140 s:=xa9 hs.abs (by decide +kernel)
 have b1:B 141 (p+s):=bp.add bs
 have b3:B 142 (2*p+s):=by rw[show 2*p+s=p+(p+s) by omega];exact(bp.add b1).mono (by omega)
 obtain⟨t1,I1,l1,a1⟩:=ln H I ha I.fn (-1) (1,0,-p) (by decide) (nz_x (by decide)) (by unfold crs bB;exact xag (by grind) (xag (by grind) (by grind))) ⟨B1,B0,(eZ bp).mono (by omega)⟩
 obtain⟨t2,I2,l2,a2⟩:=slope H I1 hs
 obtain⟨t3,I3,l3,a3⟩:=pg H I2 (a1.mono l2) a2 (-1) (p,p+s,1) (by decide) (nz_z (by decide)) (by unfold crs bB;exact xag (by grind) (xag (by grind) (by grind))) ⟨bp.mono (by omega),b1.mono (by omega),B1⟩
 obtain⟨t4,I4,l4,a4⟩:=falling H I3
 obtain⟨t5,I5,l5,a5⟩:=slid H I4 a4 (a3.mono l4) 1 (1,1,-(2*p+s)) (by decide) (nz_x (by decide)) (by unfold crs bB;exact xag (by grind) (xag (by grind) (by grind))) ⟨B1,B1,(eZ b3).mono (by omega)⟩ (-1) (2*p+s,0,1) (by decide) (nz_z (by decide)) (by unfold crs bB;exact xag (by grind) (xag (by grind) (by grind))) ⟨b3.mono (by omega),B0,B1⟩ (fun _=>nz_y (by show (1:Int)*1-p*0≠0;omega))
 exact⟨t5,I5,l1.trans (l2.trans (l3.trans (l4.trans l5))),a5⟩
theorem P4(H:Mt m ps){st size:Int}(hst:st=1\/st=-1)(h0:0<=size)(hb:B 140 size):∀(n:Nat) {sk:Sk.SK} {t:S2} {a:Int},Inv f m ps sk t->At m t false a (st*(size/2^n),0,1)->Br f m ps t (Sk.q_walk st size n a sk) false (st*size,0,1)
 |0,sk,t,a,I,ha=>⟨t,I,Le.refl t,by rw[Int.pow_zero,Int.ediv_one] at ha;exact ha⟩
 |n+1,sk,t,a,I,ha=>by
  have hd:size/2^n=2*(size/2^(n+1))+size/2^n%2:=by
   rw[Int.pow_succ,<- Int.ediv_ediv_of_nonneg (by exact xdg (Int.pow_pos (by decide)))];omega
  have hsz:B 140 (size/2^(n+1)):=by
   have h1:0<=size/2^(n+1):=Int.ediv_nonneg h0 (xdg (Int.pow_pos (by decide)))
   have h2:size/2^(n+1)<=size:=Int.ediv_le_self _ h0
   unfold B at *
   omega
  have hs:St (st*(size/2^n%2)):=by
   unfold St
   rcases hst with rfl|rfl<;>omega
  have hp:B 140 (st*(size/2^(n+1))):=by
   unfold B at *
   rcases hst with rfl|rfl<;>omega
  obtain⟨t1,I1,l1,a1⟩:=doubled H I hs hp ha
  rw[show 2*(st*(size/2^(n+1)))+st*(size/2^n%2)=st*(size/2^n) by rw[hd];rcases hst with rfl|rfl<;>omega] at a1
  obtain⟨t2,I2,l2,a2⟩:=P4 H hst h0 hb n I1 a1
  exact⟨t2,I2,l1.trans l2,a2⟩
end LmSb
open L2 DL Mir
namespace LmSd
open Mth LmP LmA LmD LmJ LmSa LmSb
variable{f:Bool}{m:Mf}{ps:List P3}{sk:Sk.SK}{t:S2}
theorem P5(x:Int):(Sk.absZ x).natAbs=x.natAbs:=by unfold Sk.absZ;split<;>omega
theorem bits_lt(x:Int):x.natAbs<2^Builtin.Int.intBits x:=by
 unfold Builtin.Int.intBits
 split
 ·rename_i h;rw[show x=0 from by simpa using h];decide
 ·exact Nat.lt_log2_self
theorem zde{x:Int}(h:Sk.okW x):B 140 x:=by
 unfold Sk.okW at h
 have:=bits_lt (Sk.absZ x)
 rw[P5] at this
 exact xae this (Nat.pow_le_pow_right (by decide) h)
theorem whole(H:Mt m ps)(I:Inv f m ps sk t){x:Int}(hx:Sk.okW x):Br f m ps t (Sk.q_whole sk x) false (x,0,1):=by
 delta Sk.q_whole;rw[Sk.hid_eq]
 have h0:0<=Sk.absZ x:=by unfold Sk.absZ;split<;>omega
 have hb:B 140 (Sk.absZ x):=by have:=zde hx;unfold B at *;rw[P5];exact this
 have hst:(if 0<x then (1:Int) else -1)=1\/(if 0<x then (1:Int) else -1)=-1:=by split<;>simp
 have he:(if 0<x then (1:Int) else -1)*Sk.absZ x=x:=by unfold Sk.absZ;split<;>split<;>omega
 have hz:Sk.absZ x/2^Builtin.Int.intBits (Sk.absZ x)=0:=by
  have h1:=bits_lt (Sk.absZ x)
  refine Int.ediv_eq_zero_of_lt h0 ?_
  have h2:((Sk.absZ x).natAbs:Int)=Sk.absZ x:=Int.natAbs_of_nonneg h0
  have h3:((Sk.absZ x).natAbs:Int)<((2^Builtin.Int.intBits (Sk.absZ x):Nat):Int):=Int.ofNat_lt.mpr h1
  rw[h2] at h3
  rwa [Int.natCast_pow] at h3
 have:=P4 (ps:=ps) H hst h0 hb (Builtin.Int.intBits (Sk.absZ x)) (a:=sk.c) I (by rw[hz,Int.mul_zero];exact I.fc)
 rw[he] at this
 exact this
end LmSd
open L2 DL Mir
open L2 DL Mir
open L2 DL Mir
open L2 DL Mir
open L2 DL Mir
namespace LmL
open Mth LmP LmA LmD LmB LmF LmJ
theorem eSl_from(fe f:DSt->R D)(U:DSt)(ds:List D)(n:Nat)(h1:fe U=.ok (.lst ds))(h2:f U=.ok (.int (n:Int))):eG fe (dO f) fQ U=.ok (.lst (ds.drop n)):=by
 unfold eG fQ dO
 rw[h1,h2]
 show R.ok (D.lst (iA ds (some (n:Int)) none))=_
 unfold iA
 rw[HT.sIx_none,HT.sIx_nat]
 congr 2
 by_cases h:n<=ds.length
 ·rw[Nat.min_eq_left h,List.take_of_length_le (by rw[xca];omega)]
 ·rw[Nat.min_eq_right (by omega),List.drop_of_length_le (by omega),List.drop_of_length_le (by omega)];simp
end LmL
open L2 DL Mir
namespace LmC
open Mth LmP LmA LmD LmB
def cell(ns:List Int)(k:Nat):Int:=ns.getD k 0
theorem pL(ns:List Int)(k:Nat):fV [.lst (ns.map .int),.int (k:Int)]=.ok (.int (cell ns k)):=by
 rw[zcL];unfold uZ NX;kd_p
 rw[xak]
 by_cases h:k<ns.length
 ·rw[xaj (by omega)];kd_p
  rw[uE (d:=.int ns[k]) (by simp[h])];kd_p
  simp[cell,h]
 ·rw[xar (by omega)];kd_p
  simp[cell,h]
end LmC
open L2 DL Mir
open L2 DL Mir
open L2 DL Mir
namespace LmW
open Mth LmP LmA LmD LmB LmC LmJ
structure Dd where
 w:Bool
 a:Nat
 b:Nat
end LmW
open L2 DL Mir
namespace LmX
open Mth LmP LmA LmD LmB LmC LmJ LmW
theorem eSl_mid(fe f g:DSt->R D)(U:DSt)(ds:List D)(a b:Nat)(h1:fe U=.ok (.lst ds))(h2:f U=.ok (.int (a:Int)))(h3:g U=.ok (.int (b:Int))):eG fe (dO f) (dO g) U=.ok (.lst ((ds.drop (min a ds.length)).take (min b ds.length-min a ds.length))):=by
 unfold eG dO
 rw[h1,h2,h3]
 show R.ok (D.lst (iA ds (some (a:Int)) (some (b:Int))))=_
 unfold iA
 rw[HT.sIx_nat,HT.sIx_nat]
theorem zdf(p:P3):imm (aI p)=true:=rfl
end LmX
open L2 DL Mir
open L2 DL Mir
open L2 DL Mir
namespace LmWa
open Mth LmP LmA TxtA
theorem rX(c:Int)(N:Nat)(hN:N<=1000):∃ns:List Int,dU [.int c,.int (N:Int)]=.ok (.lst (ns.map .int))/\ns.length=N/\∀n∈ns,0<=n/\n<1000000:=by
 rw[zcO];unfold u6;kd_p
 unfold N7;kst_p1
 unfold N6;kst_p1
 rw[xch]
 have turn:∀(j:Nat) (d:D) (U:DSt),(eO 0 N)[j]? = some d->(∃(ns:List Int) (v:Int) (a:Option D),U=[some (.int c),some (.int (N:Int)),some (.lst (ns.map .int)),some (.int v),a]/\ns.length=j/\∀n∈ns,0<=n/\n<1000000)->∃U',(rR (U.set 4 (some d))=.ok (.nx U')\/rR (U.set 4 (some d))=.ok (.ct U'))/\∃(ns:List Int) (v:Int) (a:Option D),U'=[some (.int c),some (.int (N:Int)),some (.lst (ns.map .int)),some (.int v),a]/\ns.length=j+1/\∀n∈ns,0<=n/\n<1000000:=by
  rintro j d U hd ⟨ns,v,a,rfl,hl,hb⟩
  have hj:j<N:=by
   have:=(xam.mp hd).1
   simpa [eO] using this
  obtain rfl:d=.int (j:Int):=by
   unfold eO at hd
   rw[xbj,xdj hj] at hd
   simpa using hd.symm
  have put:∀x:Int,0<=x->x<1000000->(ns++[x]).length=j+1/\∀n∈ns++[x],0<=n/\n<1000000:=fun x h0 h1=>by
   refine⟨by simp[hl],fun n hn=>?_⟩
   rcases xbf.mp hn with hn|hn
   ·exact hb n hn
   ·rw[xbc.mp hn];exact⟨h0,h1⟩
  unfold rR;kst_p1
  obtain⟨k,hk⟩:∃k,uB (.ok (decide (c%2=0))) (aR (aC j6 (aA 3) (eC (.int 0)))) [some (.int c),some (.int (N:Int)),some (.lst (ns.map .int)),some (.int v),some (.int (j:Int))]=.ok k:=by
   cases decide (c%2=0)
   ·exact⟨_,rfl⟩
   ·kd_p;exact⟨_,rfl⟩
  rw[hk]
  cases k with
  |true=>
   kd_p
   unfold N4;kst_p1
   have e:=dW (i:=v) (j:=10^6) (by decide)
   unfold N3;kst_p1
   obtain⟨p1,p2⟩:=put (v%10^6) (by omega) (by omega)
   exact⟨_,.inl rfl,ns++[v%10^6],v/10^6,some (.int (j:Int)),by rw[xa3];rfl,p1,p2⟩
  |false=>
   kd_p
   obtain⟨r,er,r0,r1⟩:=zc7 c (j:Int) (by omega) (by omega)
   rw[er];kst_p1
   have e:=dW (i:=r) (j:=10^6) (by decide)
   obtain⟨p1,p2⟩:=put (r%10^6) (by omega) (by omega)
   exact⟨_,.inl rfl,ns++[r%10^6],v,some (.int (j:Int)),by rw[xa3];rfl,p1,p2⟩
 obtain⟨U',e,ns,v,a,rfl,hl,hb⟩:=yV (i:=4) (fb:=rR) _ _ turn [some (.int c),some (.int (N:Int)),some (.lst []),some (.int (c/2)),none] ⟨[],c/2,none,rfl,rfl,by simp⟩
 rw[e];kd_p
 unfold N5;kd_p
 exact⟨ns,rfl,by rw[hl];simp[eO],hb⟩
end LmWa
open L2 DL Mir
namespace LmWb
open Mth LmP LmA LmWa TxtA
inductive Sg where|plus|minus|times|over
def Sg.str:Sg->Str
 |.plus=>"+"|.minus=>"-"|.times=>"*"|.over=>"/"
inductive Tr where
 |nm (x:Str)|nb (i:Int)|op (s:Sg) (a b:Tr)
def Tr.d:Tr->D
 |.nm x=>.tup [.str "name",.str x]
 |.nb i=>.tup [.str "number",.int i]
 |.op s a b=>.tup [.str s.str,a.d,b.d]
def Tr.many:Tr->Nat
 |.nm _=>1|.nb _=>1|.op _ a b=>a.many+b.many
theorem Tr.pos:∀t:Tr,0<t.many
 |.nm _=>Nat.one_pos|.nb _=>Nat.one_pos
 |.op _ a b=>by have:=a.pos;show 0<a.many+b.many;omega
def sg(p q:Int):Int:=if q<0 then -((Nat.gcd p.natAbs q.natAbs:Nat):Int) else ((Nat.gcd p.natAbs q.natAbs:Nat):Int)
def low(p q:Int):Int×Int:=(p.fdiv (sg p q),q.fdiv (sg p q))
def fr(v:Int×Int):D:=.tup [.int v.1,.int v.2]
theorem BF{p q:Int}(h0:q≠0):sg p q≠0/\(sg p q).natAbs<=q.natAbs/\(∃a,p=sg p q*a)/\∃b,q=sg p q*b/\0<b:=by
 have hg:0<Nat.gcd p.natAbs q.natAbs:=Nat.gcd_pos_of_pos_right _ (by omega)
 have dp:((Nat.gcd p.natAbs q.natAbs:Nat):Int) ∣ p:=Int.ofNat_dvd_left.mpr (xc4 _ _)
 have dq:((Nat.gcd p.natAbs q.natAbs:Nat):Int) ∣ q:=Int.ofNat_dvd_left.mpr (xcz _ _)
 have lq:Nat.gcd p.natAbs q.natAbs<=q.natAbs:=Nat.le_of_dvd (by omega) (xcz _ _)
 unfold sg
 generalize ((Nat.gcd p.natAbs q.natAbs:Nat))=g at *
 obtain⟨a,ha⟩:=dp
 obtain⟨b,hb⟩:=dq
 by_cases hq:q<0
 ·rw[xao hq]
  refine⟨by omega,by omega,⟨-a,by rw[ha];grind⟩,-b,by rw[hb];grind,?_⟩
  by_cases hbb:0<=b
  ·have:=Int.mul_nonneg (show (0:Int)<=(g:Int) by omega) hbb
   omega
  ·omega
 ·rw[xal hq]
  refine⟨by omega,by omega,⟨a,ha⟩,b,hb,?_⟩
  by_cases hbb:b<=0
  ·have:=Int.mul_nonneg (show (0:Int)<=(g:Int) by omega) (show 0 <= -b by omega)
   have:(g:Int) * -b=-(g*b):=by grind
   omega
  ·omega
theorem P6{n:Nat}{p q:Int}(hp:B n p)(hq:B n q)(h0:q≠0):B n (low p q).1/\B n (low p q).2/\0<(low p q).2:=by
 obtain⟨h1,h2,⟨a,ha⟩,b,hb,hb0⟩:=BF (p:=p) h0
 unfold low
 have ea:p.fdiv (sg p q)=a:=by
  conv=>lhs;arg 1;rw[ha]
  exact xby _ h1
 have eb:q.fdiv (sg p q)=b:=by
  conv=>lhs;arg 1;rw[hb]
  exact xby _ h1
 have la:a.natAbs<=p.natAbs:=by
  conv=>rhs;rw[ha,xb9]
  exact xc1 _ (by omega)
 have lb:b.natAbs<=q.natAbs:=by
  conv=>rhs;rw[hb,xb9]
  exact xc1 _ (by omega)
 show B n (p.fdiv (sg p q))/\B n (q.fdiv (sg p q))/\0<q.fdiv (sg p q)
 rw[ea,eb]
 unfold B at *
 exact⟨by omega,by omega,hb0⟩
theorem zdg{n:Nat}{p q:Int}(hq:B n q)(h0:q≠0)(hn:n<=9000):jE (sg p q)=true:=by
 obtain⟨h1,h2,_⟩:=BF (p:=p) h0
 exact xX (n:=n) (xa9 h2 hq) h1 hn
theorem rY{n:Nat}{p q:Int}(hq:B n q)(h0:q≠0)(hn:n<=9000):fN [.int p,.int q]=.ok (fr (low p q)):=by
 have hd:=zdg (p:=p) hq h0 hn
 unfold low fr
 rw[zcU];unfold vE OU OT;kd_p
 rw[BB];kd_p
 by_cases h:q<0
 ·have e:0-((Nat.gcd p.natAbs q.natAbs:Nat):Int)=sg p q:=by unfold sg;rw[xao h];omega
  rw[xaj h];kd_p
  rw[e,jG _ _ hd,jG _ _ hd];kd_p
 ·have e:((Nat.gcd p.natAbs q.natAbs:Nat):Int)=sg p q:=by unfold sg;rw[xal h]
  rw[xar h];kd_p
  rw[e,jG _ _ hd,jG _ _ hd];kd_p
def two:Sg->Int×Int->Int×Int->Int×Int
 |.plus,a,b=>(a.1*b.2+b.1*a.2,a.2*b.2)
 |.minus,a,b=>(a.1*b.2-b.1*a.2,a.2*b.2)
 |.times,a,b=>(a.1*b.1,a.2*b.2)
 |.over,a,b=>(a.1*b.2,a.2*b.1)
def iJ(s:Sg)(a b:Int×Int):Option (Int×Int):=match s with
 |.over=>if b.1=0 then none else some (low (two .over a b).1 (two .over a b).2)
 |s=>some (low (two s a b).1 (two s a b).2)
structure Fr(n:Nat)(v:Int×Int):Prop where
 p:B n v.1
 q:B n v.2
 pos:0<v.2
theorem BG{m n:Nat}{a b:Int×Int}(ha:Fr m a)(hb:Fr n b)(s:Sg):B (m+n+1) (two s a b).1/\B (m+n+1) (two s a b).2:=by
 have x1:B (m+n) (a.1*b.2):=ha.p.mul hb.q
 have x2:B (m+n) (b.1*a.2):=(hb.p.mul ha.q).mono (by omega)
 have x3:B (m+n) (a.2*b.2):=ha.q.mul hb.q
 have x4:B (m+n) (a.1*b.1):=ha.p.mul hb.p
 have x5:B (m+n) (a.2*b.1):=ha.q.mul hb.p
 cases s with
 |plus=>exact⟨(x1.add x2).mono (by omega),x3.mono (by omega)⟩
 |minus=>exact⟨(x1.sub x2).mono (by omega),x3.mono (by omega)⟩
 |times=>exact⟨x4.mono (by omega),x3.mono (by omega)⟩
 |over=>exact⟨x1.mono (by omega),x5.mono (by omega)⟩
theorem lJ{m n:Nat}{a b:Int×Int}(ha:Fr m a)(hb:Fr n b)(s:Sg)(h:s=.over->b.1≠0):(two s a b).2≠0:=by
 have h1:=ha.pos
 have h2:=hb.pos
 cases s with
 |over=>exact xcg (by omega) (h rfl)
 |_=>exact xcg (by omega) (by omega)
theorem zdh{m n:Nat}{a b v:Int×Int}(ha:Fr m a)(hb:Fr n b){s:Sg}(h:iJ s a b=some v):Fr (m+n+1) v:=by
 obtain⟨z1,z2⟩:=BG ha hb s
 have key:∀nz:(two s a b).2≠0,Fr (m+n+1) (low (two s a b).1 (two s a b).2):=fun nz=>let⟨y1,y2,y3⟩:=P6 z1 z2 nz;⟨y1,y2,y3⟩
 cases s with
 |over=>
  unfold iJ at h
  by_cases h0:b.1=0
  ·simp only[h0,if_true] at h;cases h
  ·simp only[h0,if_false] at h
   cases h
   exact key (lJ ha hb .over fun _=>h0)
 |plus=>cases h;exact key (lJ ha hb .plus nofun)
 |minus=>cases h;exact key (lJ ha hb .minus nofun)
 |times=>cases h;exact key (lJ ha hb .times nofun)
end LmWb
open L2 DL Mir
namespace LmWc
open Mth LmP LmA LmWa LmWb TxtA
theorem gD(a b:D):aF (.tup [a,b]) (.int 0)=.ok a:=(rfl)
theorem ix21(a b:D):aF (.tup [a,b]) (.int 1)=.ok b:=(rfl)
theorem jN{m n:Nat}{x y:Int}(hx:B m x)(hy:B n y)(hm:m<=9000)(hn:n<=9000):bC (.int x) (.int y)=.ok (.int (x*y)):=fR _ _ (tY hx (by omega)) (tY hy (by omega))
def c8(val:Str->Option (Int×Int)):Tr->Option (Int×Int)
 |.nm x=>val x
 |.nb i=>some (i,1)
 |.op s a b=>match c8 val a,c8 val b with
  |some u,some v=>iJ s u v
  |_,_=>none
theorem P7(val:Str->Option (Int×Int))(s:Sg)(a b:Tr):c8 val (.op s a b)=(c8 val a).bind fun u=>(c8 val b).bind fun v=>iJ s u v:=by
 rw[c8]
 cases c8 val a<;>cases c8 val b<;>rfl
def nB:Option (Int×Int)->D
 |none=>.non
 |some v=>fr v
structure En(ks:List Key)(ds:List D)(val:Str->Option (Int×Int)):Prop where
 here:∀x,dH ks ds (.inr x)=(val x).map fr
 sz:∀x v,val x=some v->Fr 40 v
def iK:Tr->Prop
 |.nb i=>0<=i/\i<10000000000
 |.op _ a b=>iK a/\iK b
 |.nm _=>True
section
variable{ks:List Key}{ds:List D}{val:Str->Option (Int×Int)}(E:En ks ds val)
include E
theorem kN:∀{t:Tr} {v:Int×Int},iK t->c8 val t=some v->Fr (41*t.many-1) v
 |.nm x,v,_,h=>E.sz x v h
 |.nb i,v,hN,h=>by
  cases h
  show Fr 40 (i,1)
  refine⟨?_,?_,show (0:Int)<1 by decide⟩
  ·exact B.of (k:=10000000000) (by obtain⟨h1,h2⟩:=hN;show i.natAbs<=_;omega)
  ·exact B.of (k:=1) (show (1:Int).natAbs<=1 by decide)
 |.op s a b,v,hN,h=>by
  unfold c8 at h
  cases ea:c8 val a with
  |none=>rw[ea] at h;simp at h
  |some u=>cases eb:c8 val b with
   |none=>rw[ea,eb] at h;simp at h
   |some w=>
    rw[ea,eb] at h
    have:=zdh (kN hN.1 ea) (kN hN.2 eb) h
    have pa:=a.pos
    have pb:=b.pos
    rw[show 41*(Tr.op s a b).many-1=41*a.many-1+(41*b.many-1)+1 by show 41*(a.many+b.many)-1=_;omega]
    exact this
theorem BH:∀(t:Tr) (n:Nat),iK t->t.many<=n->t.many<=200->pC n [t.d,.dct ks ds]=.ok (nB (c8 val t))
 |.nm x,n,_,hn,_=>by
  obtain⟨k,rfl⟩:∃k,n=k+1:=⟨n-1,by have:1<=n:=hn;omega⟩
  rw[AL];unfold lI AK;kd_p
  unfold Tr.d;simp only[gD,ix21];kd_p
  rw[show a6 (.str "name") (.str "number")=.ok (.bl false) from rfl];kd_p
  simp only[gD,ix21];kd_p
  rw[show a6 (.str "name") (.str "name")=.ok (.bl true) from rfl];kd_p
  rw[show zF (aA 1) (aC aF (aA 0) (eC (.int 1))) [some (.tup [.str "name",.str x]),some (.dct ks ds),none,none]=.ok ((dH ks ds (.inr x)).getD .non) from rfl,E.here];kd_p
  show R.ok _=.ok (nB (val x))
  cases val x<;>rfl
 |.nb i,n,_,hn,_=>by
  obtain⟨k,rfl⟩:∃k,n=k+1:=⟨n-1,by have:1<=n:=hn;omega⟩
  rw[AL];unfold lI;kd_p
  unfold Tr.d;simp only[gD,ix21];kd_p
  rw[show a6 (.str "number") (.str "number")=.ok (.bl true) from rfl];kd_p
  rfl
 |.op s a b,n,hN,hn,h2=>by
  have pa:=a.pos
  have pb:=b.pos
  have hm:(Tr.op s a b).many=a.many+b.many:=rfl
  obtain⟨k,rfl⟩:∃k,n=k+1:=⟨n-1,by omega⟩
  have i1:=BH a k hN.1 (by omega) (by omega)
  have i2:=BH b k hN.2 (by omega) (by omega)
  rw[AL];unfold lI AK OY OX;kd_p
  unfold Tr.d;kd_p
  rw[show a6 (.str s.str) (.str "number")=.ok (.bl false) from by cases s<;>rfl];kd_p
  rw[show a6 (.str s.str) (.str "name")=.ok (.bl false) from by cases s<;>rfl];kd_p
  rw[i1];kd_p
  rw[i2];kd_p
  rw[show c8 val (.op s a b)=(match c8 val a,c8 val b with
   |some u,some v=>iJ s u v
   |_,_=>none) from by rw[c8]]
  cases ea:c8 val a with
  |none=>unfold vG nB;kd_p
  |some u=>cases eb:c8 val b with
   |none=>unfold vG nB fr;kd_p
   |some w=>
    have ha:=kN E hN.1 ea
    have hb:=kN E hN.2 eb
    have bn:(41*a.many-1)+(41*b.many-1)+1<=9000:=by omega
    have z2:=(BG ha hb s).2
    have nz:=lJ ha hb s
    have x1:=jN ha.p hb.q (by omega) (by omega)
    have x2:=jN hb.p ha.q (by omega) (by omega)
    have x3:=jN ha.q hb.q (by omega) (by omega)
    have x4:=jN ha.p hb.p (by omega) (by omega)
    have x5:=jN ha.q hb.p (by omega) (by omega)
    unfold vG nB fr;kd_p
    cases s with
    |over=>
     rw[show a6 (.str Sg.over.str) (.str "/")=.ok (.bl true) from rfl];kd_p
     simp only[gD,ix21];kd_p
     by_cases h0:w.1=0
     ·rw[xaj h0];kd_p
      simp only[iJ,h0,if_true]
     ·rw[xar h0];kd_p
      unfold rT vF AJ OV;kd_p
      rw[show a6 (.str Sg.over.str) (.str "+")=.ok (.bl false) from rfl];kd_p
      rw[show a6 (.str Sg.over.str) (.str "-")=.ok (.bl false) from rfl];kd_p
      rw[show a6 (.str Sg.over.str) (.str "*")=.ok (.bl false) from rfl];kd_p
      simp only[gD,ix21];kd_p
      rw[x1,x5];kd_p
      simp only[iJ,h0,if_false]
      show fin (gM (fN [.int (two .over u w).1,.int (two .over u w).2]))=_
      rw[rY z2 (nz fun _=>h0) bn];rfl
    |plus=>
     rw[show a6 (.str Sg.plus.str) (.str "/")=.ok (.bl false) from rfl];kd_p
     unfold rT;kd_p
     rw[show a6 (.str Sg.plus.str) (.str "+")=.ok (.bl true) from rfl];kd_p
     simp only[gD,ix21];kd_p
     rw[x1,x2,x3];kd_p
     show fin (eX (gM (fN [.int (two .plus u w).1,.int (two .plus u w).2])) _)=_
     rw[rY z2 (nz nofun) bn] ;rfl
    |minus=>
     rw[show a6 (.str Sg.minus.str) (.str "/")=.ok (.bl false) from rfl];kd_p
     unfold rT vF;kd_p
     rw[show a6 (.str Sg.minus.str) (.str "+")=.ok (.bl false) from rfl];kd_p
     rw[show a6 (.str Sg.minus.str) (.str "-")=.ok (.bl true) from rfl];kd_p
     simp only[gD,ix21];kd_p
     rw[x1,x2,x3];kd_p
     show fin (eX (gM (fN [.int (two .minus u w).1,.int (two .minus u w).2])) _)=_
     rw[rY z2 (nz nofun) bn] ;rfl
    |times=>
     rw[show a6 (.str Sg.times.str) (.str "/")=.ok (.bl false) from rfl];kd_p
     unfold rT vF AJ;kd_p
     rw[show a6 (.str Sg.times.str) (.str "+")=.ok (.bl false) from rfl];kd_p
     rw[show a6 (.str Sg.times.str) (.str "-")=.ok (.bl false) from rfl];kd_p
     rw[show a6 (.str Sg.times.str) (.str "*")=.ok (.bl true) from rfl];kd_p
     simp only[gD,ix21];kd_p
     rw[x4,x3];kd_p
     show fin (eX (gM (fN [.int (two .times u w).1,.int (two .times u w).2])) _)=_
     rw[rY z2 (nz nofun) bn] ;rfl
end
end LmWc
open L2 DL Mir
namespace LmQa
open Mth LmP LmA LmD LmJ LmSa LmSb
variable{m:Mf}{ps:List P3}{sk:Sk.SK}{t:S2}
theorem raised(H:Mt m ps)(I:Inv false m ps sk t){n:Nat}{a p q:Int}(hn:n<=380)(hq:q≠0)(bp:B n p)(bq:B n q)(ha:At m t false a (p,0,q)):Br false m ps t (Sk.q_raised sk a) false (p,q,q):=by
 delta Sk.q_raised;rw[Sk.hid_eq]
 obtain⟨t1,I1,l1,a1⟩:=level H I
 obtain⟨t2,I2,l2,a2⟩:=ln H I1 (ha.mono l1) I1.fn (-1) (q,0,-p) (by decide) (nz_x hq) (by unfold crs bB;exact xag (by grind) (xag (by grind) (by grind))) ⟨bq.mono (by omega),B0,(eZ bp).mono (by omega)⟩ (fun h=>by cases h)
 obtain⟨t3,I3,l3,a3⟩:=pg H I2 (a1.mono l2) a2 1 (p,q,q) (by decide) (nz_z hq) (by unfold crs bB;exact xag (by grind) (xag (by grind) (by grind))) ⟨bp.mono (by omega),bq.mono (by omega),bq.mono (by omega)⟩
 exact⟨t3,I3,l1.trans (l2.trans l3),a3⟩
theorem P8(H:Mt m ps)(I:Inv false m ps sk t){n:Nat}{a p q:Int}(hn:n<=380)(hq:q≠0)(bp:B n p)(bq:B n q)(ha:At m t false a (p,0,q)):Br false m ps t (Sk.q_turned sk a) false (0,p,q):=by
 delta Sk.q_turned;rw[Sk.hid_eq]
 obtain⟨t1,I1,l1,a1⟩:=upright H I
 obtain⟨t2,I2,l2,a2⟩:=falling H I1
 obtain⟨t3,I3,l3,a3⟩:=ln H I2 (ha.mono (l1.trans l2)) a2 (-1) (q,q,-p) (by decide) (nz_x hq) (by unfold crs bB;exact xag (by grind) (xag (by grind) (by grind))) ⟨bq.mono (by omega),bq.mono (by omega),(eZ bp).mono (by omega)⟩ (fun h=>by cases h)
 obtain⟨t4,I4,l4,a4⟩:=pg H I3 (a1.mono (l2.trans l3)) a3 1 (0,p,q) (by decide) (nz_z hq) (by unfold crs bB;exact xag (by grind) (xag (by grind) (by grind))) ⟨B0,bp.mono (by omega),bq.mono (by omega)⟩
 exact⟨t4,I4,l1.trans (l2.trans (l3.trans l4)),a4⟩
section
variable{i j:Nat}{a b p q r s:Int}
theorem added(H:Mt m ps)(I:Inv false m ps sk t)(hij:i+j<=380)(hq:q≠0)(hs:s≠0)(bp:B i p)(bq:B i q)(br:B j r)(bs:B j s)(ha:At m t false a (p,0,q))(hb:At m t false b (r,0,s)):Br false m ps t (Sk.q_added sk a b) false (p*s+r*q,0,q*s):=by
 delta Sk.q_added;rw[Sk.hid_eq]
 have hsq:s*q≠0:=xcg hs hq
 have bsq:B (i+j) (s*q):=(bs.mul bq).mono (by omega)
 have brq:B (i+j) (r*q):=(br.mul bq).mono (by omega)
 have bps:B (i+j) (p*s):=bp.mul bs
 obtain⟨t1,I1,l1,a1⟩:=high H I
 obtain⟨t2,I2,l2,a2⟩:=heading H I1 a1 (hb.mono l1) 1 (s,r,-r) (by decide) (nz_x hs) (by unfold crs bB;exact xag (by grind) (xag (by grind) (by grind))) ⟨bs.mono (by omega),br.mono (by omega),(eZ br).mono (by omega)⟩ 1 (-r,s,0) (by decide) (nz_y hs) (by unfold crs bB;exact xag (by grind) (xag (by grind) (by grind))) ⟨(eZ br).mono (by omega),bs.mono (by omega),B0⟩ (fun h=>by cases h)
 obtain⟨t3,I3,l3,a3⟩:=raised H I2 (n:=i) (by omega) hq bp bq (ha.mono (l1.trans l2))
 obtain⟨t4,I4,l4,a4⟩:=slid H I3 (a2.mono l3) a3 1 (s*q,r*q,-(r*q+s*p)) (by decide) (nz_x hsq) (by unfold crs bB;exact xag (by grind) (xag (by grind) (by grind))) ⟨bsq.mono (by omega),brq.mono (by omega),(eZ (brq.add ((bs.mul bp).mono (show j+i<=i+j by omega)))).mono (by omega)⟩ (-1) (p*s+r*q,0,q*s) (by decide) (nz_z (by rw[Int.mul_comm];exact hsq)) (by unfold crs bB;exact xag (by grind) (xag (by grind) (by grind))) ⟨(bps.add brq).mono (by omega),B0,(bq.mul bs).mono (by omega)⟩ (fun h=>by cases h)
 exact⟨t4,I4,l1.trans (l2.trans (l3.trans l4)),a4⟩
theorem less(H:Mt m ps)(I:Inv false m ps sk t)(hij:i+j<=380)(hq:q≠0)(hs:s≠0)(bp:B i p)(bq:B i q)(br:B j r)(bs:B j s)(ha:At m t false a (p,0,q))(hb:At m t false b (r,0,s)):Br false m ps t (Sk.q_less sk a b) false (p*s-r*q,0,q*s):=by
 delta Sk.q_less;rw[Sk.hid_eq]
 have hsq:s*q≠0:=xcg hs hq
 have bsq:B (i+j) (s*q):=(bs.mul bq).mono (by omega)
 have brq:B (i+j) (r*q):=(br.mul bq).mono (by omega)
 have bps:B (i+j) (p*s):=bp.mul bs
 obtain⟨t1,I1,l1,a1⟩:=raised H I (n:=j) (by omega) hs br bs hb
 obtain⟨t2,I2,l2,a2⟩:=heading H I1 (I.fc.mono l1) a1 (-1) (s,-r,0) (by decide) (nz_x hs) (by unfold crs bB;exact xag (by grind) (xag (by grind) (by grind))) ⟨bs.mono (by omega),(eZ br).mono (by omega),B0⟩ 1 (r,s,0) (by decide) (nz_y hs) (by unfold crs bB;exact xag (by grind) (xag (by grind) (by grind))) ⟨br.mono (by omega),bs.mono (by omega),B0⟩ (fun h=>by cases h)
 obtain⟨t3,I3,l3,a3⟩:=raised H I2 (n:=i) (by omega) hq bp bq (ha.mono (l1.trans l2))
 have bd:B (i+j+1) (p*s-r*q):=by rw[Int.sub_eq_add_neg];exact(bps.add (eZ brq)).mono (by omega)
 obtain⟨t4,I4,l4,a4⟩:=slid H I3 (a2.mono l3) a3 1 (s*q,-(r*q),-(p*s-r*q)) (by decide) (nz_x hsq) (by unfold crs bB;exact xag (by grind) (xag (by grind) (by grind))) ⟨bsq.mono (by omega),(eZ brq).mono (by omega),(eZ bd).mono (by omega)⟩ (-1) (p*s-r*q,0,q*s) (by decide) (nz_z (by rw[Int.mul_comm];exact hsq)) (by unfold crs bB;exact xag (by grind) (xag (by grind) (by grind))) ⟨bd.mono (by omega),B0,(bq.mul bs).mono (by omega)⟩ (fun h=>by cases h)
 exact⟨t4,I4,l1.trans (l2.trans (l3.trans l4)),a4⟩
theorem product(H:Mt m ps)(I:Inv false m ps sk t)(hij:i+j<=380)(hq:q≠0)(hs:s≠0)(bp:B i p)(bq:B i q)(br:B j r)(bs:B j s)(ha:At m t false a (p,0,q))(hb:At m t false b (r,0,s)):Br false m ps t (Sk.q_product sk a b) false (p*r,0,q*s):=by
 delta Sk.q_product;rw[Sk.hid_eq]
 have hqs:q*s≠0:=xcg hq hs
 obtain⟨t1,I1,l1,a1⟩:=high H I
 obtain⟨t2,I2,l2,a2⟩:=heading H I1 a1 (ha.mono l1) 1 (q,p,-p) (by decide) (nz_x hq) (by unfold crs bB;exact xag (by grind) (xag (by grind) (by grind))) ⟨bq.mono (by omega),bp.mono (by omega),(eZ bp).mono (by omega)⟩ 1 (-p,q,0) (by decide) (nz_y hq) (by unfold crs bB;exact xag (by grind) (xag (by grind) (by grind))) ⟨(eZ bp).mono (by omega),bq.mono (by omega),B0⟩ (fun h=>by cases h)
 obtain⟨t3,I3,l3,a3⟩:=P8 H I2 (n:=j) (by omega) hs br bs (hb.mono (l1.trans l2))
 obtain⟨t4,I4,l4,a4⟩:=slid H I3 (a2.mono l3) a3 1 (q*s,p*s,-(p*r)) (by decide) (nz_x hqs) (by unfold crs bB;exact xag (by grind) (xag (by grind) (by grind))) ⟨(bq.mul bs).mono (by omega),(bp.mul bs).mono (by omega),(eZ (bp.mul br)).mono (by omega)⟩ (-1) (p*r,0,q*s) (by decide) (nz_z hqs) (by unfold crs bB;exact xag (by grind) (xag (by grind) (by grind))) ⟨(bp.mul br).mono (by omega),B0,(bq.mul bs).mono (by omega)⟩ (fun h=>by cases h)
 exact⟨t4,I4,l1.trans (l2.trans (l3.trans l4)),a4⟩
theorem over(H:Mt m ps)(I:Inv false m ps sk t)(hij:i+j<=380)(hq:q≠0)(hs:s≠0)(hr:r≠0)(bp:B i p)(bq:B i q)(br:B j r)(bs:B j s)(ha:At m t false a (p,0,q))(hb:At m t false b (r,0,s)):Br false m ps t (Sk.q_quotient sk a b) false (p*s,0,q*r):=by
 delta Sk.q_quotient;rw[Sk.hid_eq]
 have hqr:q*r≠0:=xcg hq hr
 obtain⟨t1,I1,l1,a1⟩:=P8 H I (n:=j) (by omega) hs br bs hb
 obtain⟨t2,I2,l2,a2⟩:=heading H I1 a1 (ha.mono l1) 1 (q*r,p*s,-(p*r)) (by decide) (nz_x hqr) (by unfold crs bB;exact xag (by grind) (xag (by grind) (by grind))) ⟨(bq.mul br).mono (by omega),(bp.mul bs).mono (by omega),(eZ (bp.mul br)).mono (by omega)⟩ 1 (-(p*s),q*r,0) (by decide) (nz_y hqr) (by unfold crs bB;exact xag (by grind) (xag (by grind) (by grind))) ⟨(eZ (bp.mul bs)).mono (by omega),(bq.mul br).mono (by omega),B0⟩ (fun h=>by cases h)
 obtain⟨t3,I3,l3,a3⟩:=high H I2
 obtain⟨t4,I4,l4,a4⟩:=slid H I3 (a2.mono l3) a3 1 (q*r,p*s,-(p*s)) (by decide) (nz_x hqr) (by unfold crs bB;exact xag (by grind) (xag (by grind) (by grind))) ⟨(bq.mul br).mono (by omega),(bp.mul bs).mono (by omega),(eZ (bp.mul bs)).mono (by omega)⟩ (-1) (p*s,0,q*r) (by decide) (nz_z hqr) (by unfold crs bB;exact xag (by grind) (xag (by grind) (by grind))) ⟨(bp.mul bs).mono (by omega),B0,(bq.mul br).mono (by omega)⟩ (fun h=>by cases h)
 exact⟨t4,I4,l1.trans (l2.trans (l3.trans l4)),a4⟩
end
end LmQa
open L2 DL Mir
namespace LmWd
open Mth LmP LmA LmWa LmWb LmWc TxtA
def Tr.size:Tr->Nat
 |.nm _=>1|.nb _=>1|.op _ a b=>1+Tr.size a+Tr.size b
theorem vS:∀t:Tr,Tr.size t+1=2*t.many
 |.nm _=>rfl|.nb _=>rfl
 |.op _ a b=>by have:=vS a;have:=vS b;show 1+Tr.size a+Tr.size b+1=2*(a.many+b.many);omega
def pre:Tr->List D
 |.nm x=>[Tr.d (.nm x)]|.nb i=>[Tr.d (.nb i)]|.op s a b=>Tr.d (.op s a b)::(pre b++pre a)
def post:Tr->List D
 |.nm x=>[Tr.d (.nm x)]|.nb i=>[Tr.d (.nb i)]|.op s a b=>post a++post b++[Tr.d (.op s a b)]
theorem BI:∀t:Tr,(pre t).reverse=post t
 |.nm _=>rfl|.nb _=>rfl
 |.op s a b=>by
  show (Tr.d (.op s a b)::(pre b++pre a)).reverse=post a++post b++[Tr.d (.op s a b)]
  rw[xbq,List.reverse_append,BI a,BI b]
theorem BJ{i j:Nat}{U:DSt}{xs:List D}{d:D}(h:aX U i=.ok (xs++[d])):oQ i j U=.ok (.nx ((U.set i (some (.lst xs))).set j (some d))):=by
 show (aX U i).bind _=_
 rw[h]
 show (match (xs++[d])[(xs++[d]).length-1]? with
  |some d'=>R.ok (aD.nx ((U.set i (some (.lst (xs++[d]).dropLast))).set j (some d')))
  |none=>.bad)=_
 have e:(xs++[d])[(xs++[d]).length-1]? = some d:=by simp
 rw[e]
 simp
def iY(ws:List Tr):Nat:=(ws.map Tr.size).sum
theorem BK(ws:List Tr)(t:Tr):iY (ws++[t])=iY ws+Tr.size t:=by unfold iY;simp
theorem P9:∀t:Tr,0<Tr.size t:=fun t=>by have:=vS t;have:=t.pos;omega
theorem zdi(e:D):∀(n:Nat) (ws:List Tr) (ps:List D) (z:Option D),iY ws=n->ps.length+n<=100000->
  ∃z',c7 o8 rQ [some e,some (.lst ps),some (.lst (ws.map Tr.d)),z]=.ok (.nx [some e,some (.lst (ps++ws.reverse.flatMap pre)),some (.lst []),z']):=by
 intro n
 induction n using Nat.strongRecOn with
 |_ n ih=>
  intro ws ps z hn hl
  rcases xc9 ws with rfl|⟨ws',t,rfl⟩
  ·refine⟨z,?_⟩
   rw[yW (by unfold o8;kd_p;rfl)]
   simp
  ·rw[xda] at *
   rw[BK] at hn
   have hp:=P9 t
   have hc:o8 [some e,some (.lst ps),some (.lst ((ws'++[t]).map Tr.d)),z]=.ok true:=by
    unfold o8;kd_p
    rw[xaj (by simp)]
   have pop:oQ 2 3 [some e,some (.lst ps),some (.lst ((ws'++[t]).map Tr.d)),z]=.ok (.nx [some e,some (.lst ps),some (.lst (ws'.map Tr.d)),some t.d]):=BJ (xs:=ws'.map Tr.d) (d:=t.d) (by rw[xa3];rfl)
   have app:∀g,eX (iU [2,1] 1 (aA 3) [some e,some (.lst ps),some (.lst (ws'.map Tr.d)),some t.d]) g=g [some e,some (.lst (ps++[t.d])),some (.lst (ws'.map Tr.d)),some t.d]:=fun g=>by
    rw[oM,show aX [some e,some (.lst ps),some (.lst (ws'.map Tr.d)),some t.d] 1=.ok ps from rfl,show aA 3 (mask [2,1] [some e,some (.lst ps),some (.lst (ws'.map Tr.d)),some t.d])=.ok t.d from rfl,qZ _ _ _ _ (by omega)]
    rfl
   have leaf:∀c:Str,gC (.str c) kI=.ok (.bl false)->(∃y,t.d=.tup [.str c,y])->pre t=[t.d]->∃z',c7 o8 rQ [some e,some (.lst ps),some (.lst ((ws'++[t]).map Tr.d)),z]=.ok (.nx [some e,some (.lst (ps++(ws'++[t]).reverse.flatMap pre)),some (.lst []),z']):=by
    intro c hg ⟨y,hy⟩ hpre
    obtain⟨z',hz⟩:=ih (iY ws') (by omega) ws' (ps++[t.d]) (some t.d) rfl (by rw[xav];show ps.length+1+_<=_;omega)
    refine⟨z',?_⟩
    rw[uG hc (U':=[some e,some (.lst (ps++[t.d])),some (.lst (ws'.map Tr.d)),some t.d]) ?_,hz]
    ·rw[List.reverse_append,List.flatMap_append,show [t].reverse.flatMap pre=[t.d] by simp[hpre],List.append_assoc]
    ·unfold rQ AD AC
     rw[cV,pop,iB,cV,app];kd_p
     rw[hy,gD];kd_p
     rw[hg];kd_p
   cases t with
   |nm x=>exact leaf "name" rfl ⟨_,rfl⟩ rfl
   |nb i=>exact leaf "number" rfl ⟨_,rfl⟩ rfl
   |op s a b=>
    have hsz:Tr.size (.op s a b)=1+Tr.size a+Tr.size b:=rfl
    have hab:iY (ws'++[a]++[b])=iY ws'+Tr.size a+Tr.size b:=by rw[BK,BK]
    have hlen:ws'.length<=iY ws':=by
     unfold iY
     clear pop app leaf hc hab hn hl ih
     induction ws' with
     |nil=>simp
     |cons w ws ih=>have:=P9 w;simp only[xa4,List.sum_cons,xaw];omega
    obtain⟨z',hz⟩:=ih (iY (ws'++[a]++[b])) (by omega) (ws'++[a]++[b]) (ps++[Tr.d (.op s a b)]) (some (Tr.d (.op s a b))) rfl (by rw[xav];show ps.length+1+_<=_;omega)
    refine⟨z',?_⟩
    rw[uG hc (U':=[some e,some (.lst (ps++[Tr.d (.op s a b)])),some (.lst ((ws'++[a]++[b]).map Tr.d)),some (Tr.d (.op s a b))]) ?_,hz]
    ·simp[pre,List.append_assoc]
    ·unfold rQ AD AC
     rw[cV,pop,iB,cV,app];kd_p
     rw[show Tr.d (.op s a b)=.tup [.str s.str,a.d,b.d] from rfl];kd_p
     rw[show gC (.str s.str) kI=.ok (.bl true) from by cases s<;>rfl];kd_p
     rw[zaX,show aX [some e,some (.lst (ps++[.tup [.str s.str,a.d,b.d]])),some (.lst (ws'.map Tr.d)),some (.tup [.str s.str,a.d,b.d])] 2=.ok (ws'.map Tr.d) from rfl,
      show eG (aA 3) (dO (eC (.int 1))) fQ (mask [2,1] [some e,some (.lst (ps++[.tup [.str s.str,a.d,b.d]])),some (.lst (ws'.map Tr.d)),some (.tup [.str s.str,a.d,b.d])])=.ok (.tup [a.d,b.d]) from rfl,
      zaY _ _ _ _ (by simp only[xak,xaw,xb6];omega)]
     simp
theorem zdj(t:Tr)(h:t.many<=200):iH [t.d]=.ok (.lst (post t)):=by
 have hs:=vS t
 rw[zcH];unfold uX NT NS NQ NP;kd_p
 obtain⟨z',hz⟩:=zdi t.d (iY [t]) [t] [] none rfl (by show 0+(Tr.size t+0)<=_;omega)
 rw[show [some t.d,some (D.lst []),some (D.lst [t.d]),none]=[some t.d,some (.lst []),some (.lst ([t].map Tr.d)),none] from rfl,hz];kd_p
 rw[<- BI]
 simp only[xbq,List.reverse_nil,xdh,List.flatMap_cons,List.flatMap_nil,xb5]
 rfl
end LmWd
open L2 DL Mir
open L2 DL Mir
namespace LmWf
open Mth LmP LmA LmWa LmWb LmWc TxtA
theorem fW(ns:List Int)(hb:∀n∈ns,0<=n/\n<1000000)(j:Nat)(h:j<ns.length):∃d:Int,aF (.lst (ns.map .int)) (.int (j:Int))=.ok (.int d)/\0<=d/\d<1000000:=
 ⟨ns[j],uE (by rw[xbj,xa7 h];rfl),(hb _ (xcl h)).1,(hb _ (xcl h)).2⟩
structure Pn(x:Str):Prop where
 ex:∃l:List Nat,x=cP l/\l.length<=8/\l≠[]/\∀c∈l,97<=c/\c<=122
def gT:Tr->Prop
 |.nm x=>Pn x
 |.nb i=>0<=i/\i<1000000000
 |.op _ a b=>gT a/\gT b
theorem gT.nums:∀{t:Tr},gT t->iK t
 |.nm _,_=>trivial
 |.nb _,h=>⟨h.1,by have:=h.2;omega⟩
 |.op _ _ _,h=>⟨gT.nums h.1,gT.nums h.2⟩
end LmWf
open L2 DL Mir
namespace LmWg
open Mth LmP LmA LmWa LmWb LmWc LmWf TxtA
def lK:Str:="abcdefghijklmnopqrstuvwxyz"
theorem QA(r:Int)(h0:0<=r)(h1:r<26):fT (.str lK) (.int r)=.ok (.str (cP [97+r.toNat])):=by
 obtain⟨j,rfl⟩:∃j:Nat,r=(j:Int):=⟨r.toNat,by omega⟩
 have hj:j<26:=by omega
 have hc:lK.cps=((List.range 26).map (97 + ·)).toArray:=by rfl
 show (bif decide (0<=(j:Int))&&Nat.blt (j:Int).natAbs 1073741824 then (match lK.cps[(j:Int).toNat]? with
  |some c=>R.ok (D.str (yX c))
  |none=>.bad) else .bad)=_
 rw[xaj h0,show Nat.blt (j:Int).natAbs 1073741824=true from by rw[xdc];omega,hc,xch]
 rw[List.getElem?_toArray,xbj,xdj hj]
 rfl
theorem zdk(a b:List Nat):(cP a:Str)++cP b=cP (a++b):=by
 show (⟨(cP a).cps++(cP b).cps⟩:Str)=_
 unfold cP
 simp
theorem QB{a b:List Nat}(h:a.length+b.length<=1000000):bL (.str (cP a)) (.str (cP b))=.ok (.str (cP (a++b))):=by
 show (bif dR ((cP a).length+(cP b).length) then R.ok (D.str (cP a++cP b)) else .bad)=_
 rw[show dR ((cP a).length+(cP b).length)=true from xaj (by show a.toArray.size+b.toArray.size<=_;rw[xan,xan];exact xa1 h (by decide)),zdk];rfl
theorem ofL_inj{a b:List Nat}(h:cP a=cP b):a=b:=by
 have:=congrArg (fun z:Str=>z.cps.toList) h
 simpa [cP] using this
end LmWg
open L2 DL Mir
namespace LmWh
open Mth LmP LmA LmWa LmWb LmWc LmWd LmWf LmWg TxtA
def gU(ts:List Tr):Nat:=(ts.map Tr.many).sum
theorem nF(ts:List Tr)(t:Tr):gU (ts++[t])=gU ts+t.many:=by unfold gU;simp
theorem BL:∀ts:List Tr,ts.length<=gU ts
 |[]=>xbi _
 |t::ts=>by have:=BL ts;have:=t.pos;unfold gU at *;simp only[xa4,List.sum_cons,xaw];omega
theorem sg1(r:Int)(h0:0<=r)(h1:r<4):∃s:Sg,fT (.str "+-*/") (.int r)=.ok (.str s.str):=by
 have:r=0\/r=1\/r=2\/r=3:=by omega
 rcases this with rfl|rfl|rfl|rfl
 ·exact⟨.plus,rfl⟩
 ·exact⟨.minus,rfl⟩
 ·exact⟨.times,rfl⟩
 ·exact⟨.over,rfl⟩
theorem sg2(r:Int)(h0:0<=r)(h1:r<4):∃s:Sg,fT (.str "-+/*") (.int r)=.ok (.str s.str):=by
 have:r=0\/r=1\/r=2\/r=3:=by omega
 rcases this with rfl|rfl|rfl|rfl
 ·exact⟨.minus,rfl⟩
 ·exact⟨.plus,rfl⟩
 ·exact⟨.over,rfl⟩
 ·exact⟨.times,rfl⟩
section
variable{a b z3 z4:Option D}{xs:List D}{d x d1:D}{f1:DSt->R D}
theorem zdn(h:f1 [a,b,none,z3,z4,some x]=.ok d1)(hl:xs.length<=1000000) :
  rF [2] 2 2 f1 (aA 5) [a,b,some (.lst (xs++[d])),z3,z4,some x]=.ok (.nx [a,b,some (.lst (xs++[.tup [d1,d,x]])),z3,z4,some x]):=by
 unfold rF
 rw[show aX [a,b,some (.lst (xs++[d])),z3,z4,some x] 2=.ok (xs++[d]) from rfl,show mask [2] [a,b,some (.lst (xs++[d])),z3,z4,some x]=[a,b,none,z3,z4,some x] from rfl,h]
 show (match (xs++[d])[(xs++[d]).length-1]? with
  |some e=>R.bind (.ok x) fun d2=>R.bind (.ok (xs++[d]).dropLast) fun ys=>bif most ys.length then R.ok (aD.nx [a,b,some (.lst (ys++[D.tup [d1,e,d2]])),z3,z4,some x]) else .bad
  |none=>.bad)=_
 have e:(xs++[d])[(xs++[d]).length-1]? = some d:=by simp
 rw[e,xdi]
 show (bif most xs.length then R.ok (aD.nx [a,b,some (.lst (xs++[.tup [d1,d,x]])),z3,z4,some x]) else .bad)=_
 rw[kB hl];rfl
theorem zdo(h:f1 [a,b,some (.lst (xs++[d])),z3,z4,some x]=.ok d1)(hi:imm d1=true)(hl:xs.length<=1000000) :
  rJ [2] 2 2 f1 (aA 5) [a,b,some (.lst (xs++[d])),z3,z4,some x]=.ok (.nx [a,b,some (.lst (xs++[.tup [d1,d,x]])),z3,z4,some x]):=by
 unfold rJ
 rw[show aX [a,b,some (.lst (xs++[d])),z3,z4,some x] 2=.ok (xs++[d]) from rfl,h]
 show (bif imm d1 then (match (xs++[d])[(xs++[d]).length-1]? with
  |some e=>R.bind (.ok x) fun d2=>R.bind (.ok (xs++[d]).dropLast) fun ys=>bif most ys.length then R.ok (aD.nx [a,b,some (.lst (ys++[D.tup [d1,e,d2]])),z3,z4,some x]) else .bad
  |none=>.bad) else .bad)=_
 have e:(xs++[d])[(xs++[d]).length-1]? = some d:=by simp
 rw[hi,e,xdi]
 show (bif most xs.length then R.ok (aD.nx [a,b,some (.lst (xs++[.tup [d1,d,x]])),z3,z4,some x]) else .bad)=_
 rw[kB hl];rfl
end
theorem QC{α:Type}(ts:List α)(h:1<ts.length):∃us a b,ts=us++[a]++[b]:=by
 rcases xc9 ts with rfl|⟨l,b,rfl⟩
 ·simp at h
 ·rw[xda] at *
  rcases xc9 l with rfl|⟨us,a,rfl⟩
  ·simp at h
  ·exact⟨us,a,b,by rw[xda]⟩
end LmWh
open L2 DL Mir
open L2 DL Mir
namespace LmQb
open Mth LmP LmA LmWa LmWb LmWc LmWd TxtA
noncomputable def dJ(no:Str->Option Int):Tr->Sk.SK->Option (Int×Sk.SK)
 |.nm x,sk=>(no x).map fun n=>(n,sk)
 |.nb i,sk=>some (Sk.q_whole sk i)
 |.op s a b,sk=>(dJ no a sk).bind fun u=>(dJ no b u.2).bind fun v=>some (Sk.q_drawn s.str v.2 u.1 v.1)
theorem QD{i:Int}(h:0<=i/\i<10000000000):Builtin.Int.intBits (Sk.absZ i)<=34:=by
 have e:Sk.absZ i=i:=by unfold Sk.absZ;rw[xal (by omega)]
 rw[e]
 unfold Builtin.Int.intBits
 split
 ·omega
 ·have:i.natAbs<2^34:=by omega
  have h0:i.natAbs≠0:=by rename_i h1;simp at h1;omega
  have:=(Nat.log2_lt h0).mpr this
  omega
theorem QE{i:Int}(h:0<=i/\i<10000000000):Sk.okW i:=by unfold Sk.okW;have:=QD h;omega
theorem zdp{i:Int}(h:0<=i/\i<10000000000)(sk:Sk.SK):Sk.grow 714 sk (Sk.q_whole sk i).2:=by
 delta Sk.q_whole
 rw[Sk.hid_eq]
 exact(Sk.g_walk _ _ _).wide (by have:=QD h;omega)
theorem rZ{no:Str->Option Int}:∀(t:Tr) (sk:Sk.SK) (r:Int) (sk':Sk.SK),iK t->dJ no t sk=some (r,sk')->Sk.grow (756*t.many-21) sk sk'
 |.nm x,sk,r,sk',_,h=>by
  unfold dJ at h
  obtain⟨n,_,h⟩:=xbr.mp h
  cases h
  exact(Sk.grow.refl _).wide (xbi _)
 |.nb i,sk,r,sk',hN,h=>by
  unfold dJ at h
  have h:=xas h
  rw[show sk'=(Sk.q_whole sk i).2 from (congrArg Prod.snd h).symm]
  exact(zdp hN sk).wide (by show 714<=756*1-21;omega)
 |.op s a b,sk,r,sk',hN,h=>by
  unfold dJ at h
  obtain⟨⟨u,s1⟩,ha,h⟩:=xab.mp h
  obtain⟨⟨v,s2⟩,hb,h⟩:=xab.mp h
  have h:=xas h
  rw[show sk'=(Sk.q_drawn s.str s2 u v).2 from (congrArg Prod.snd h).symm]
  have g1:=rZ a sk u s1 hN.1 ha
  have g2:=rZ b s1 v s2 hN.2 hb
  have pa:=a.pos
  have pb:=b.pos
  refine((g1.trans g2).trans (Sk.g_drawn _ _ _ _)).wide ?_
  show 756*a.many-21+(756*b.many-21)+21<=756*(a.many+b.many)-21
  omega
structure Pg(ks:List Key)(ds:List D)(no:Str->Option Int):Prop where
 here:∀x,dH ks ds (.inr x)=(no x).map D.int
theorem zdq(k:Nat)(f:Sk.JF)(d:D)(ds:List D)(j:Sk.JS):Sk.jLoop k f (d::ds) j=(f ⟨j.τ.set k (some d),j.xs,j.sk⟩).bind (Sk.jLoop k f ds):=rfl
section
variable{ks:List Key}{ds:List D}{no:Str->Option Int}(E:Pg ks ds no)(a0 a1:Option D)
include E
abbrev cM(ks:List Key)(ds:List D)(a0 a1 z5 z6 z7:Option D):DSt:=[a0,a1,some (.dct ks ds),none,none,z5,z6,z7]
theorem BN:∀(t:Tr) (xs:List Int) (sk:Sk.SK) (aK:List D) (z5 z6 z7:Option D),iK t->t.many<=200->xs.length+t.many<=100000->Sk.room (756*t.many+3000) sk->
  (∀r sk',dJ no t sk=some (r,sk')->∃y5 y6 y7,Sk.jLoop 5 gS (post t++aK) ⟨cM ks ds a0 a1 z5 z6 z7,xs,sk⟩=Sk.jLoop 5 gS aK ⟨cM ks ds a0 a1 y5 y6 y7,r::xs,sk'⟩)/\
  (dJ no t sk=none->Sk.jLoop 5 gS (post t++aK) ⟨cM ks ds a0 a1 z5 z6 z7,xs,sk⟩=.err (.exc "NoName" []))
 |.nm x,xs,sk,aK,z5,z6,z7,_,_,hx,_=>by
  have go:Sk.jLoop 5 gS (post (.nm x)++aK) ⟨cM ks ds a0 a1 z5 z6 z7,xs,sk⟩=(gS ⟨cM ks ds a0 a1 (some (Tr.d (.nm x))) z6 z7,xs,sk⟩).bind (Sk.jLoop 5 gS aK):=rfl
  have hb:gS ⟨cM ks ds a0 a1 (some (Tr.d (.nm x))) z6 z7,xs,sk⟩=bif (no x).isSome then AE ⟨cM ks ds a0 a1 (some (Tr.d (.nm x))) z6 z7,xs,sk⟩ else .err (.exc "NoName" []):=by
   have h3:aR (aC rH (aC aF (aA 5) (eC (.int 1))) (aA 2)) (cM ks ds a0 a1 (some (Tr.d (.nm x))) z6 z7)=.ok (no x).isSome:=by
    show R.ok (dH ks ds (.inr x)).isSome=_
    rw[E.here x,xc0]
   show (aR (aC rH (aC aF (aA 5) (eC (.int 1))) (aA 2)) (cM ks ds a0 a1 (some (Tr.d (.nm x))) z6 z7)).bind (fun k=>bif k then AE ⟨cM ks ds a0 a1 (some (Tr.d (.nm x))) z6 z7,xs,sk⟩ else NV ⟨cM ks ds a0 a1 (some (Tr.d (.nm x))) z6 z7,xs,sk⟩)=_
   rw[h3]
   rfl
  rw[go,hb]
  refine⟨fun r sk' h=>?_,fun h=>?_⟩
  ·unfold dJ at h
   obtain⟨n,hn,h⟩:=xbr.mp h
   cases h
   refine⟨some (Tr.d (.nm x)),z6,z7,?_⟩
   rw[hn]
   have he:aC mM (aA 2) (aC aF (aA 5) (eC (.int 1))) (cM ks ds a0 a1 (some (Tr.d (.nm x))) z6 z7)=.ok (.int r):=by
    show mM (.dct ks ds) (.str x)=_
    unfold mM
    have:=E.here x
    rw[hn] at this
    simp only[this,xcs]
   have hm:most xs.length=true:=kB (by omega)
   show ((aC mM (aA 2) (aC aF (aA 5) (eC (.int 1))) (cM ks ds a0 a1 (some (Tr.d (.nm x))) z6 z7)).bind _).bind _=_
   rw[he]
   show (bif most xs.length then R.ok (⟨cM ks ds a0 a1 (some (Tr.d (.nm x))) z6 z7,r::xs,sk⟩:Sk.JS) else .bad).bind _=_
   rw[hm];rfl
  ·unfold dJ at h
   rw[Option.map_eq_none_iff] at h
   rw[h];rfl
 |.nb i,xs,sk,aK,z5,z6,z7,hN,_,hx,hr=>by
  have go:Sk.jLoop 5 gS (post (.nb i)++aK) ⟨cM ks ds a0 a1 z5 z6 z7,xs,sk⟩=(gS ⟨cM ks ds a0 a1 (some (Tr.d (.nb i))) z6 z7,xs,sk⟩).bind (Sk.jLoop 5 gS aK):=rfl
  have hm:(most xs.length&&decide (Sk.okW i)&&decide (Sk.room 2940 sk))=true:=by
   rw[kB (by omega),xaj (QE hN),xaj (hr.less (by show 2940<=756*1+3000;omega))];rfl
  have hb:gS ⟨cM ks ds a0 a1 (some (Tr.d (.nb i))) z6 z7,xs,sk⟩=.ok ⟨cM ks ds a0 a1 (some (Tr.d (.nb i))) z6 z7,(Sk.q_whole sk i).1::xs,(Sk.q_whole sk i).2⟩:=by
   show (bif most xs.length&&decide (Sk.okW i)&&decide (Sk.room 2940 sk) then R.ok (⟨cM ks ds a0 a1 (some (Tr.d (.nb i))) z6 z7,(Sk.q_whole sk i).1::xs,(Sk.q_whole sk i).2⟩:Sk.JS) else .bad)=_
   rw[hm];rfl
  rw[go,hb]
  refine⟨fun r sk' h=>?_,fun h=>by cases h⟩
  unfold dJ at h
  have h:=xas h
  rw[h]
  exact⟨some (Tr.d (.nb i)),z6,z7,rfl⟩
 |.op s a b,xs,sk,aK,z5,z6,z7,hN,h2,hx,hr=>by
  have pa:=a.pos
  have pb:=b.pos
  have hx:xs.length+(a.many+b.many)<=100000:=hx
  have h2:a.many+b.many<=200:=h2
  have hr:Sk.room (756*(a.many+b.many)+3000) sk:=hr
  have ep:post (.op s a b)++aK=post a++(post b++(Tr.d (.op s a b)::aK)):=by
   show post a++post b++[Tr.d (.op s a b)]++aK=_
   simp
  rw[ep]
  obtain⟨ra,na⟩:=BN a xs sk (post b++(Tr.d (.op s a b)::aK)) z5 z6 z7 hN.1 (by omega) (by omega) (hr.less (by omega))
  cases ha:dJ no a sk with
  |none=>
   refine⟨fun r sk' h=>?_,fun _=>na ha⟩
   unfold dJ at h
   rw[ha] at h;cases h
  |some u=>
   obtain⟨u,s1⟩:=u
   obtain⟨y5,y6,y7,ea⟩:=ra u s1 ha
   rw[ea]
   have g1:=rZ a sk u s1 hN.1 ha
   have hr1:Sk.room (756*b.many+3000) s1:=Sk.room.on (hr.less (by omega)) g1
   obtain⟨rb,nb⟩:=BN b (u::xs) s1 (Tr.d (.op s a b)::aK) y5 y6 y7 hN.2 (by omega) (by rw[xaw];omega) hr1
   cases hb:dJ no b s1 with
   |none=>
    refine⟨fun r sk' h=>?_,fun _=>nb hb⟩
    unfold dJ at h
    rw[ha,xbg,hb] at h;cases h
   |some v=>
    obtain⟨v,s2⟩:=v
    obtain⟨w5,w6,w7,eb⟩:=rb v s2 hb
    rw[eb]
    refine⟨fun r sk' h=>?_,fun h=>?_⟩
    ·unfold dJ at h
     rw[ha,xbg,hb,xbg] at h
     have h:=xas h
     have g2:=rZ b s1 v s2 hN.2 hb
     have hr2:Sk.room 21 s2:=Sk.room.on (hr1.less (by omega)) g2
     have hm:(most xs.length&&decide (Sk.room 21 s2))=true:=by rw[kB (by omega),xaj hr2];rfl
     have t1:aR (aC gC (aC aF (aA 5) (eC (.int 0))) (eC kI)) (cM ks ds a0 a1 (some (Tr.d (.op s a b))) w6 w7)=.ok true:=by cases s<;>rfl
     refine⟨some (Tr.d (.op s a b)),some (.int v),some (.int u),?_⟩
     rw[zdq]
     show (((aR (aC gC (aC aF (aA 5) (eC (.int 0))) (eC kI)) (cM ks ds a0 a1 (some (Tr.d (.op s a b))) w6 w7)).bind (fun k=>bif k then NU ⟨cM ks ds a0 a1 (some (Tr.d (.op s a b))) w6 w7,v::u::xs,s2⟩ else NW ⟨cM ks ds a0 a1 (some (Tr.d (.op s a b))) w6 w7,v::u::xs,s2⟩)).bind _)=_
     rw[t1]
     show ((bif most xs.length&&decide (Sk.room 21 s2) then R.ok (⟨cM ks ds a0 a1 (some (Tr.d (.op s a b))) (some (.int v)) (some (.int u)),(Sk.q_drawn s.str s2 u v).1::xs,(Sk.q_drawn s.str s2 u v).2⟩:Sk.JS) else .bad).bind _)=_
     rw[hm,h];rfl
    ·unfold dJ at h
     rw[ha,xbg,hb] at h;cases h
end
theorem lc_map2{ds:List D}{e:DSt->R D}{U:DSt}{g:D->D}(hl:ds.length<=1000000)(h:∀d∈ds,∃a b,d=.tup [a,b]/\e (some a::some b::U)=.ok (g d)):j9 2 [0,1] (.ok ds) (eN 2) cQ e U=.ok (ds.map g):=by
 have go:∀ds:List D,(∀d∈ds,∃a b,d=.tup [a,b]/\e (some a::some b::U)=.ok (g d))->dY [0,1] (eN 2) cQ e (List.replicate 2 none++U) ds=.ok (ds.map g):=by
  intro ds
  induction ds with
  |nil=>intro _;rfl
  |cons d ds ih=>
   intro h
   obtain⟨a,b,e1,e2⟩:=h d xba
   have i2:=ih fun d' hd=>h d' (xat _ hd)
   subst e1
   show (e (some a::some b::U)).bind (fun y=>(dY [0,1] (eN 2) cQ e (List.replicate 2 none++U) ds).bind fun ys=>.ok (y::ys))=_
   rw[e2,i2];rfl
 show (bif most ds.length then _ else _)=_
 rw[kB hl,go ds h];rfl
def vT:D->D
 |.tup [a,b]=>.tup [b,a]
 |d=>d
def gE(k:Nat):List Str->List D
 |[]=>[]
 |_::ns=>.int (k:Int)::gE (k+1) ns
def kO(k:Nat):List Str->Str->Option Int
 |[],_=>none
 |n::ns,x=>if n=x then some (k:Int) else kO (k+1) ns x
theorem QF:∀(ns:List Str) (k:Nat),kD ((gN k (ns.map .str)).map vT)=some (ns,gE k ns)
 |[],_=>rfl
 |n::ns,k=>by
  have:=QF ns (k+1)
  rw[xa4]
  show (rL (.tup [.str n,.int (k:Int)])).bind (fun x=>(kD ((gN (k+1) (ns.map .str)).map vT)).bind fun r=>some (x.1::r.1,x.2::r.2))=_
  rw[this];rfl
theorem QG:∀(ns:List Str) (k:Nat) (x:Str),dH (ns.map Sum.inr) (gE k ns) (.inr x)=(kO k ns x).map D.int
 |[],_,_=>rfl
 |n::ns,k,x=>by
  rw[xa4]
  show (if (Sum.inr n:Key)=.inr x then some (D.int (k:Int)) else dH (ns.map Sum.inr) (gE (k+1) ns) (.inr x))=_
  unfold kO
  by_cases h:n=x
  ·rw[xao (by rw[h]),xao h];rfl
  ·rw[xal (fun e=>h (Sum.inr.inj e)),xal h,QG ns (k+1) x]
theorem QH:∀(ns:List Str) (k:Nat) (d:D),d∈gN k (ns.map .str)->∃i n,d=.tup [.int i,.str n]
 |[],_,_,h=>by cases h
 |n::ns,k,d,h=>by
  rw[xa4] at h
  rcases xaz.mp h with h|h
  ·exact⟨_,_,h⟩
  ·exact QH ns (k+1) d h
def out:Option (Int×Sk.SK)->R D
 |some (r,sk)=>.ok (.tup [.lst (sk.plan.map Sk.deedD),.int r])
 |none=>.err (.exc "NoName" [])
theorem zdr{t:Tr}{ns:List Str}(hN:iK t)(h2:t.many<=100)(hn:ns.length<=1000)(hd:iG ns=true) :
  mW [t.d,.lst (ns.map .str)]=out (dJ (kO 4 ns) t (Sk.sk0 0 1 2 3 (4+(ns.length:Int)))):=by
 have hl:dZ 2 [0,1] (rK (aB (aA 1) aE) (bD cR (aB (eC jL) aE))) (eN 2) cQ (dM (aB (aA 1) (aB (aA 0) aE))) [some t.d,some (.lst (ns.map .str)),none,none,none,none,none,none]=.ok ((gN 4 (ns.map .str)).map vT):=by
  rw[kA,show rK (aB (aA 1) aE) (bD cR (aB (eC jL) aE)) [some t.d,some (.lst (ns.map .str)),none,none,none,none,none,none]=.ok (gN 4 (ns.map .str)) from rfl]
  refine lc_map2 (by rw[yY,xak];omega) fun d h=>?_
  obtain⟨i,n,rfl⟩:=QH ns 4 d h
  exact⟨_,_,rfl,rfl⟩
 have hdict:bD jK (aB (bH (dZ 2 [0,1] (rK (aB (aA 1) aE) (bD cR (aB (eC jL) aE))) (eN 2) cQ (dM (aB (aA 1) (aB (aA 0) aE))))) aE) [some t.d,some (.lst (ns.map .str)),none,none,none,none,none,none]=.ok (.dct (ns.map Sum.inr) (gE 4 ns)):=by
  rw[qV,jF,iW,hl]
  show (jK [.lst ((gN 4 (ns.map .str)).map vT)]).noerr=_
  unfold jK
  simp only[QF,hd,cond_true];rfl
 rw[zcK]
 unfold uY
 rw[cV,fK,hdict]
 show fin (AG [some t.d,some (.lst (ns.map .str)),some (.dct (ns.map Sum.inr) (gE 4 ns)),none,none,none,none,none])=_
 have ea:aB (eC jL) (aB (aC bL (bD cR (aB (eC jL) aE)) (bD cR (aB (aA 1) aE))) aE) [some t.d,some (.lst (ns.map .str)),some (.dct (ns.map Sum.inr) (gE 4 ns)),none,none,none,none,none]=.ok [.tup [.int 0,.int 1,.int 2,.int 3],.int (4+(ns.length:Int))]:=by
  show qW _ (qW (lB bL (.ok (.int 4)) (.ok (.int ((ns.map D.str).length:Int)))) (.ok []))=_
  rw[xak];rfl
 unfold AG Sk.sSum
 rw[ea]
 show fin (((AF ⟨cM (ns.map Sum.inr) (gE 4 ns) (some t.d) (some (.lst (ns.map .str))) none none none,[],Sk.sk0 0 1 2 3 (4+(ns.length:Int))⟩)).bind Sk.outSum)=_
 have ei:dB (aQ iH (aB (aA 0) aE)) (cM (ns.map Sum.inr) (gE 4 ns) (some t.d) (some (.lst (ns.map .str))) none none none)=.ok (post t):=by
  have:aQ iH (aB (aA 0) aE) (cM (ns.map Sum.inr) (gE 4 ns) (some t.d) (some (.lst (ns.map .str))) none none none)=.ok (.lst (post t)):=by
   show iH [t.d]=_
   exact zdj t (by omega)
  rw[show dB (aQ iH (aB (aA 0) aE)) (cM (ns.map Sum.inr) (gE 4 ns) (some t.d) (some (.lst (ns.map .str))) none none none)=(aQ iH (aB (aA 0) aE) (cM (ns.map Sum.inr) (gE 4 ns) (some t.d) (some (.lst (ns.map .str))) none none none)).bind xM from rfl,this];rfl
 obtain⟨h1,h3⟩:=BN ⟨QG ns 4⟩ (some t.d) (some (.lst (ns.map .str))) t [] (Sk.sk0 0 1 2 3 (4+(ns.length:Int))) [] none none none hN (by omega) (by simp;omega) ⟨by show 0+_<=100000;omega,by show 0+_<=100000;omega⟩
 rw[xb5] at h1 h3
 unfold AF
 show fin (((dB (aQ iH (aB (aA 0) aE)) (cM (ns.map Sum.inr) (gE 4 ns) (some t.d) (some (.lst (ns.map .str))) none none none)).bind _).bind Sk.outSum)=_
 rw[ei]
 show fin ((Sk.jLoop 5 gS (post t) ⟨cM (ns.map Sum.inr) (gE 4 ns) (some t.d) (some (.lst (ns.map .str))) none none none,[],Sk.sk0 0 1 2 3 (4+(ns.length:Int))⟩).bind Sk.outSum)=_
 cases he:dJ (kO 4 ns) t (Sk.sk0 0 1 2 3 (4+(ns.length:Int))) with
 |none=>rw[h3 he];rfl
 |some v=>
  obtain⟨r,sk'⟩:=v
  obtain⟨y5,y6,y7,e⟩:=h1 r sk' he
  rw[e];rfl
end LmQb
open L2 DL Mir
namespace LmQc
open Mth LmP LmA LmD LmJ LmSa LmSb LmWb LmWc LmQa LmQb
variable{m:Mf}{ps:List P3}{sk:Sk.SK}{t:S2}
theorem zds(H:Mt m ps){k P Q:Int}(hQ:Q≠0)(h:At m t false k (P,0,Q)):At m t false k ((LmWb.low P Q).1,0,(LmWb.low P Q).2):=by
 obtain⟨z,n,e,h1,h2,h3⟩:=h
 obtain⟨s0,_,⟨a,ha⟩,b,hb,pb⟩:=BF (p:=P) (q:=Q) hQ
 have e1:(LmWb.low P Q).1=a:=by
  show P.fdiv (sg P Q)=a
  generalize sg P Q=g at *
  rw[ha];exact xby a s0
 have e2:(LmWb.low P Q).2=b:=by
  show Q.fdiv (sg P Q)=b
  have:∀g:Int,g≠0->Q=g*b->Q.fdiv g=b:=fun g hg hq=>by rw[hq];exact xby b hg
  exact this _ s0 hb
 rw[e1,e2]
 have nz:Nz (a,0,b):=nz_z (by omega)
 refine⟨nz,n,e,h1,?_,h3⟩
 rw[h2,show ((P,0,Q):P3)=bB (sg P Q) (a,0,b) from xag ha (xag (by show (0:Int)=sg P Q*0;omega) hb)]
 exact PX H false s0 nz
theorem byS_some{s:Sg}{a b v:Int×Int}(h:iJ s a b=some v):v=LmWb.low (two s a b).1 (two s a b).2/\(s=.over->b.1≠0):=by
 cases s with
 |over=>
  unfold iJ at h
  by_cases h0:b.1=0
  ·simp only[h0,if_true] at h;cases h
  ·simp only[h0,if_false] at h;exact⟨(xas h).symm,fun _=>h0⟩
 |_=>exact⟨(xas h).symm,fun h=>by cases h⟩
theorem zdt(H:Mt m ps)(I:Inv false m ps sk t){i j:Nat}{a b:Int}{u w v:Int×Int}(hij:i+j<=380)(fu:Fr i u)(fw:Fr j w){s:Sg}(hv:iJ s u w=some v)(ha:At m t false a (u.1,0,u.2))(hb:At m t false b (w.1,0,w.2)):Br false m ps t (Sk.q_drawn s.str sk a b) false (v.1,0,v.2):=by
 obtain⟨rfl,h0⟩:=byS_some hv
 have nz:=lJ fu fw s h0
 have hq:u.2≠0:=by have:=fu.pos;omega
 have hs:w.2≠0:=by have:=fw.pos;omega
 have key:Br false m ps t (Sk.q_drawn s.str sk a b) false ((two s u w).1,0,(two s u w).2):=by
  cases s with
  |plus=>exact added H I hij hq hs fu.p fu.q fw.p fw.q ha hb
  |minus=>
   have:Sk.q_drawn (Sg.str .minus)=Sk.q_less:=by unfold Sk.q_drawn Sg.str;rw[xal (by decide),xao rfl]
   rw[this];exact less H I hij hq hs fu.p fu.q fw.p fw.q ha hb
  |times=>
   have:Sk.q_drawn (Sg.str .times)=Sk.q_product:=by unfold Sk.q_drawn Sg.str;rw[xal (by decide),xal (by decide),xao rfl]
   rw[this];exact product H I hij hq hs fu.p fu.q fw.p fw.q ha hb
  |over=>
   have:Sk.q_drawn (Sg.str .over)=Sk.q_quotient:=by unfold Sk.q_drawn Sg.str;rw[xal (by decide),xal (by decide),xal (by decide)]
   rw[this];exact over H I hij hq hs (h0 rfl) fu.p fu.q fw.p fw.q ha hb
 obtain⟨t',I',l',a'⟩:=key
 exact⟨t',I',l',zds H nz a'⟩
theorem vU(H:Mt m ps){ks:List Key}{ds:List D}{val:Str->Option (Int×Int)}(E:En ks ds val){no:Str->Option Int}(hno:∀x v,val x=some v->∃n,no x=some n/\At m (ps,[]) false n (v.1,0,v.2)) :
  ∀(e:Tr) (sk:Sk.SK) (t:S2) (v:Int×Int),Inv false m ps sk t->Le (ps,[]) t->iK e->e.many<=9->c8 val e=some v->∃r sk' t',dJ no e sk=some (r,sk')/\Inv false m ps sk' t'/\Le t t'/\At m t' false r (v.1,0,v.2)
 |.nm x,sk,t,v,I,l,_,_,h=>by
  obtain⟨n,h1,h2⟩:=hno x v h
  exact⟨n,sk,t,by unfold dJ;rw[h1];rfl,I,Le.refl t,h2.mono l⟩
 |.nb i,sk,t,v,I,l,hN,_,h=>by
  cases h
  obtain⟨t',I',l',a'⟩:=LmSd.whole H I (QE hN)
  exact⟨_,_,t',rfl,I',l',a'⟩
 |.op s a b,sk,t,v,I,l,hN,h9,h=>by
  have pa:=a.pos
  have pb:=b.pos
  have h9:a.many+b.many<=9:=h9
  rw[P7] at h
  obtain⟨u,hu,h⟩:=xab.mp h
  obtain⟨w,hw,h⟩:=xab.mp h
  obtain⟨r1,s1,t1,d1,I1,l1,a1⟩:=vU H E hno a sk t u I l hN.1 (by omega) hu
  obtain⟨r2,s2,t2,d2,I2,l2,a2⟩:=vU H E hno b s1 t1 w I1 (l.trans l1) hN.2 (by omega) hw
  obtain⟨t3,I3,l3,a3⟩:=zdt H I2 (i:=41*a.many-1) (j:=41*b.many-1) (by omega) (kN E hN.1 hu) (kN E hN.2 hw) h (a1.mono l2) a2
  refine⟨_,_,t3,?_,I3,l1.trans (l2.trans l3),a3⟩
  unfold dJ
  rw[d1,xbg,d2];rfl
theorem zdu(H:Mt m ps)(hf:∀k,m.fr k)(hl:4<=ps.length)(hp:∀p∈ps,cY p/\BP 1000 p)(h0:pk ps 0=im false m (1,0,0))(h1:pk ps 1=im false m (0,1,0))(h2:pk ps 2=im false m (0,0,1))(h3:pk ps 3=im false m (1,1,1)):Inv false m ps (Sk.sk0 0 1 2 3 (ps.length:Int)) (ps,[]):=by
 refine⟨⟨[],rfl,trivial,rfl,(fun d hd=>by cases hd)⟩,xap _,(by show (2:Int)<_;omega),(fun h=>by cases h),rfl,rfl,(fun w a b v h=>by cases h),?_,?_,?_,?_,fun w p h=>?_⟩
 ·exact⟨by decide,0,rfl,by show 0<ps.length;omega,h0,fun _=>hf _⟩
 ·exact⟨by decide,1,rfl,by show 1<ps.length;omega,h1,fun _=>hf _⟩
 ·exact⟨by decide,2,rfl,by show 2<ps.length;omega,h2,fun _=>hf _⟩
 ·exact⟨by decide,3,rfl,by show 3<ps.length;omega,h3,fun _=>hf _⟩
 ·cases w with
  |false=>exact hp p h
  |true=>cases h
end LmQc
open L2 DL Mir
open L2 DL Mir
open L2 DL Mir
open L2 DL Mir
open L2 DL Mir
open L2 DL Mir
open L2 DL Mir
namespace Lk15
open Mth LmP LmA LmD LmB LmF LmJ LmL
theorem pk_of{xs:List P3}{p:P3}(h:p∈xs):∃i,i<xs.length/\pk xs i=p:=by
 obtain⟨i,hi⟩:=List.mem_iff_getElem?.mp h
 have hl:=(xam.mp hi).1
 have:=BC hl
 rw[hi] at this
 exact⟨i,hl,(xas this).symm⟩
end Lk15
open L2 DL Mir
namespace LmSe
open Mth LmP LmA LmD LmB LmF LmJ LmL LmX LmSa
def dD(d:De):D:=.tup [.str (wd d.w),.int (d.a:Int),.int (d.b:Int)]
theorem zdv(s:S2)(d:De):(stp s d).1.length+(stp s d).2.length=s.1.length+s.2.length+1:=by
 obtain⟨w,a,b⟩:=d
 have:=vR s w a b
 cases w<;>simp only[cond_true,cond_false] at this<;>omega
theorem QI:∀(ds:List De) (s:S2),Le s (ds.foldl stp s)
 |[],s=>Le.refl s
 |⟨w,a,b⟩::ds,s=>(P1 s w a b).trans (QI ds _)
theorem zdw{s t:S2}(l:Le s t){w:Bool}{p:P3}(h:p∈bF s w):p∈bF t w:=by
 obtain⟨n,hn,rfl⟩:=Lk15.pk_of h
 have:=l w n hn
 rw[<- this.2];exact BD this.1
end LmSe
open L2 DL Mir
namespace LmQd
open Mth LmP LmA LmD LmF LmJ LmX LmSa LmSe LmWa
abbrev dL(p:P3):D:=l3 p.1 p.2.1 p.2.2
abbrev cD(m:M3):D:=.lst [dL m.1,dL m.2.1,dL m.2.2]
theorem sum3(x y z:Int):oF [.lst [.int x,.int y,.int z]]=.ok (.int (x+y+z)):=by
 show R.ok (D.int ([x,y,z].sum))=_
 simp[Int.add_assoc]
theorem BO{n:Nat}{r p:P3}(br:BP 10 r)(bp:BP n p)(hn:n<=4000)(rs:D)(xs:List D)(hx:xs.length<=10):AO [some rs,some (aI p),some (.lst xs),some (dL r)]=.ok (.nx [some rs,some (aI p),some (.lst (xs++[.int (dot r p)])),some (dL r)]):=by
 have m1:∀{x:Int},B 10 x->fP x=true:=fun h=>pJ h (by decide)
 have m2:∀{x:Int},B n x->fP x=true:=fun h=>pJ h (by omega)
 unfold AO
 rw[oM,show aX [some rs,some (aI p),some (.lst xs),some (dL r)] 2=.ok xs from rfl,show mask [2] [some rs,some (aI p),some (.lst xs),some (dL r)]=[some rs,some (aI p),none,some (dL r)] from rfl]
 have he:bD oF (aB (bH (dZ 1 [0] (fZ fH (aB (eC (.int 3)) aE)) bK cQ (aC bC (aC aF (aA 4) (aA 0)) (aC aF (aA 2) (aA 0))))) aE) [some rs,some (aI p),none,some (dL r)]=.ok (.int (dot r p)):=by
  rw[qV,jF,iW,kA,show fZ fH (aB (eC (.int 3)) aE) [some rs,some (aI p),none,some (dL r)]=.ok [.int 0,.int 1,.int 2] from rfl]
  have o0:(aC bC (aC aF (aA 4) (aA 0)) (aC aF (aA 2) (aA 0))) (some (.int 0)::[some rs,some (aI p),none,some (dL r)])=.ok (.int (r.1*p.1)):=by
   show bC (.int r.1) (.int p.1)=_
   exact fR _ _ (m1 br.x) (m2 bp.x)
  have o1:(aC bC (aC aF (aA 4) (aA 0)) (aC aF (aA 2) (aA 0))) (some (.int 1)::[some rs,some (aI p),none,some (dL r)])=.ok (.int (r.2.1*p.2.1)):=by
   show bC (.int r.2.1) (.int p.2.1)=_
   exact fR _ _ (m1 br.y) (m2 bp.y)
  have o2:(aC bC (aC aF (aA 4) (aA 0)) (aC aF (aA 2) (aA 0))) (some (.int 2)::[some rs,some (aI p),none,some (dL r)])=.ok (.int (r.2.2*p.2.2)):=by
   show bC (.int r.2.2) (.int p.2.2)=_
   exact fR _ _ (m1 br.z) (m2 bp.z)
  rw[lc_3 o0 o1 o2]
  show (oF [.lst [.int (r.1*p.1),.int (r.2.1*p.2.1),.int (r.2.2*p.2.2)]]).noerr=_
  rw[sum3];rfl
 rw[he,qZ _ _ _ _ (by omega)]
 rfl
theorem QJ{n:Nat}{m:M3}{p:P3}(hm:BM 10 m)(bp:BP n p)(hn:n<=4000)(hd:bM m≠0)(hz:Nz p):iX [cD m,aI p]=.ok (aI (low (mul m p))):=by
 rw[zcX];unfold vJ;kd_p
 unfold O7;kd_p
 rw[BO hm.a bp hn _ _ (by simp)];kd_p
 rw[BO hm.b bp hn _ _ (by simp)];kd_p
 rw[BO hm.c bp hn _ _ (by simp)];kd_p
 unfold O6
 have bb:=hm.mul bp
 show fin (gM (kK [.int (mul m p).1,.int (mul m p).2.1,.int (mul m p).2.2]))=_
 rw[PR bb.x bb.y bb.z (s9 hd hz) (by omega)];rfl
def sH:List P3:=[(1,0,0),(0,1,0),(0,0,1),(1,1,1)]
def iL(vs:List (Int×Int)):List P3:=sH++vs.map fun v=>(v.1,0,v.2)
def c9(m:M3)(vs:List (Int×Int)):List P3:=(iL vs).map fun p=>low (mul m p)
def BQ:D->D
 |.tup [a,b]=>.tup [a,.int 0,b]
 |d=>d
theorem QK{vs:List (Int×Int)}(hv:∀v∈vs,LmWb.Fr 40 v):∀p∈iL vs,BP 40 p/\Nz p:=fun p hp=>by
 have b1:B 40 1:=B.of (k:=1) (by decide)
 have b0:B 40 0:=B.of (k:=1) (by decide)
 rcases xbf.mp hp with hp|hp
 ·unfold sH at hp
  simp only[xaz,xbe,or_false] at hp
  rcases hp with rfl|rfl|rfl|rfl
  ·exact⟨⟨b1,b0,b0⟩,by decide⟩
  ·exact⟨⟨b0,b1,b0⟩,by decide⟩
  ·exact⟨⟨b0,b0,b1⟩,by decide⟩
  ·exact⟨⟨b1,b1,b1⟩,by decide⟩
 ·obtain⟨v,h1,rfl⟩:=xcb.mp hp
  have f:=hv v h1
  exact⟨⟨f.p,b0,f.q⟩,LmSb.nz_z (by have:=f.pos;show v.2≠0;omega)⟩
theorem QL{m:M3}{vs:List (Int×Int)}(hm:BM 10 m)(hd:bM m≠0)(hv:∀v∈vs,LmWb.Fr 40 v)(hl:vs.length<=1000):kM [cD m,.lst (vs.map LmWb.fr)]=.ok (.lst ((c9 m vs).map aI)):=by
 have h1:dZ 2 [0,1] (dB (aA 1)) (eN 2) cQ (dM (aB (aA 0) (aB (eC (.int 0)) (aB (aA 1) aE)))) [some (cD m),some (.lst (vs.map LmWb.fr)),none]=.ok ((vs.map LmWb.fr).map BQ):=by
  rw[kA,show dB (aA 1) [some (cD m),some (.lst (vs.map LmWb.fr)),none]=.ok (vs.map LmWb.fr) from rfl]
  refine LmQb.lc_map2 (by rw[xak];omega) fun d h=>?_
  obtain⟨v,_,rfl⟩:=xcb.mp h
  exact⟨_,_,rfl,rfl⟩
 have e1:sH.map aI++(vs.map LmWb.fr).map BQ=(iL vs).map aI:=by
  unfold iL
  rw[xa3,xcw,xcw];rfl
 rw[zcY];unfold vK
 rw[cV,fK,qT,iW,iW,h1]
 show fin (eX (rA 2 (bL (.lst (sH.map aI)) (.lst ((vs.map LmWb.fr).map BQ))) _) _)=_
 rw[Lk42.gAdd_ll (by rw[xak,xak,xak];show 4+_<=_;omega),e1]
 show fin (AQ [some (cD m),some (.lst (vs.map LmWb.fr)),some (.lst ((iL vs).map aI))])=_
 unfold AQ
 have h2:dZ 1 [0] (dB (aA 2)) bK cQ (aQ iX (aB (aA 1) (aB (aA 0) aE))) [some (cD m),some (.lst (vs.map LmWb.fr)),some (.lst ((iL vs).map aI))]=.ok ((c9 m vs).map aI):=by
  rw[kA,show dB (aA 2) [some (cD m),some (.lst (vs.map LmWb.fr)),some (.lst ((iL vs).map aI))]=.ok ((iL vs).map aI) from rfl]
  have gen:∀ps:List P3,(∀p∈ps,BP 40 p/\Nz p)->ps.length<=1000000->j9 1 [0] (.ok (ps.map aI)) bK cQ (aQ iX (aB (aA 1) (aB (aA 0) aE))) [some (cD m),some (.lst (vs.map LmWb.fr)),some (.lst ((iL vs).map aI))]=.ok ((ps.map fun p=>low (mul m p)).map aI):=fun ps hps hl=>by
   rw[xcw]
   exact LmB.lc_mapP hl fun p hp=>by
    show iX [cD m,aI p]=_
    exact QJ hm (hps p hp).1 (by decide) hd (hps p hp).2
  exact gen _ (QK hv) (by unfold iL;rw[xav,xak];show 4+_<=_;omega)
 rw[yP,iW,h2];rfl
theorem zdy{p q:P3}(hp:BP 1000 p)(hq:BP 1000 q):rW [aI p,aI q]=.ok (bif decide (crs p q=(0,0,0)) then .non else aI (low (crs p q))):=by
 have m1:∀{i j:Int},B 1000 i->B 1000 j->bC (.int i) (.int j)=.ok (.int (i*j)):=fun h h'=>fR _ _ (pJ h (by decide)) (pJ h' (by decide))
 have bc:=hp.crs hq
 rw[zcZ];unfold vL;kd_p
 rw[m1 hp.y hq.z,m1 hp.z hq.y];kd_p
 unfold PB;kd_p
 rw[m1 hp.z hq.x,m1 hp.x hq.z];kd_p
 unfold O9;kd_p
 rw[m1 hp.x hq.y,m1 hp.y hq.x];kd_p
 show fin (AR [some (aI p),some (aI q),some (.int (crs p q).1),some (.int (crs p q).2.1),some (.int (crs p q).2.2)])=_
 generalize crs p q=c at *
 obtain⟨x,y,z⟩:=c
 have aK:Nz (x,y,z)->fin (O8 [some (aI p),some (aI q),some (.int x),some (.int y),some (.int z)])=.ok (aI (low (x,y,z))):=fun nz=>by
  show fin (gM (kK [.int x,.int y,.int z]))=_
  rw[PR bc.x bc.y bc.z nz (by decide)];rfl
 unfold AR;kd_p
 by_cases hx:x=0
 ·rw[xaj hx];kd_p
  by_cases hy:y=0
  ·rw[xaj hy];kd_p
   by_cases hz:z=0
   ·subst hx hy hz
    rw[xaj (show (0:Int)=0 from rfl)];kd_p
   ·rw[xar hz,xar (show ¬((x,y,z):P3)=(0,0,0) from fun e=>hz (congrArg (·.2.2) e))];kd_p
    exact aK (LmSb.nz_z hz)
  ·rw[xar hy,xar (show ¬((x,y,z):P3)=(0,0,0) from fun e=>hy (congrArg (·.2.1) e))];kd_p
   exact aK (LmSb.nz_y hy)
 ·rw[xar hx,xar (show ¬((x,y,z):P3)=(0,0,0) from fun e=>hx (congrArg (·.1) e))];kd_p
  exact aK (LmSb.nz_x hx)
theorem zdz{own:List Nat}{x k:Nat}{fi:DSt->R (List D)}{fc:DSt->R Bool}{g:DSt->R aD}{U:DSt}{a b:Int}(h1:fi (mask own (U.set x none))=.ok [.int a,.int b])(h2:fc (U.set k (some (.int a)))=.ok false)(h3:fc ((U.set k (some (.int a))).set k (some (.int b)))=.ok false) :
  uP own x k fi fc g U=g ((U.set k (some (.int a))).set k (some (.int b))):=by
 unfold uP
 rw[h1]
 show (fc (U.set k (some (.int a)))).bind _=_
 rw[h2]
 show (fc ((U.set k (some (.int a))).set k (some (.int b)))).bind _=_
 rw[h3];rfl
theorem zdA{s:S2}{d:De}(f:∀w,∀p∈bF s w,cY p/\BP 1000 p)(o:BE s d)(hl:s.1.length+s.2.length<=50000)(pl pn x5 x6 x7:Option D) :
  ∃y5 y6 y7,pH [pl,pn,some (.lst (s.1.map aI)),some (.lst (s.2.map aI)),some (dD d),x5,x6,x7]=.ok (.nx [pl,pn,some (.lst ((stp s d).1.map aI)),some (.lst ((stp s d).2.map aI)),some (dD d),y5,y6,y7]):=by
 obtain⟨w,a,b⟩:=d
 obtain⟨la,lb,hne⟩:=o
 have la:a<(bF s w).length:=la
 have lb:b<(bF s w).length:=lb
 have na:=f w _ (BD la)
 have nb:=f w _ (BD lb)
 have hz:=DV na.1 nb.1 hne
 have ia:aF (.lst ((bF s w).map aI)) (.int (a:Int))=.ok (aI (pk (bF s w) a)):=Fl.ix la
 have ib:aF (.lst ((bF s w).map aI)) (.int (b:Int))=.ok (aI (pk (bF s w) b)):=Fl.ix lb
 have tst:∀(c:Nat) (x7:Option D),c<(bF s w).length->(eU (dX (aR (aQ iI (aB (aA 6) aE)))) (dX (aR (jZ qN k9 (eC (.int 0)) (aA 6) (bD cR (aB (aA 5) aE)))))) [pl,pn,some (.lst (s.1.map aI)),some (.lst (s.2.map aI)),some (.tup [.str (wd w),.int (a:Int),.int (b:Int)]),some (.lst ((bF s w).map aI)),some (.int (c:Int)),x7]=.ok false:=fun c x7 hc=>by
  kd_p
  rw[PU];kd_p
  rw[xaj (show (0:Int)<=(c:Int) by omega)];kd_p
  rw[xak,xaj (show (c:Int)<((bF s w).length:Int) by omega)];kd_p
 have aK:∃y5 y6 y7,AS [pl,pn,some (.lst (s.1.map aI)),some (.lst (s.2.map aI)),some (.tup [.str (wd w),.int (a:Int),.int (b:Int)]),some (.lst ((bF s w).map aI)),x6,x7]=.ok (.nx [pl,pn,some (.lst ((stp s ⟨w,a,b⟩).1.map aI)),some (.lst ((stp s ⟨w,a,b⟩).2.map aI)),some (.tup [.str (wd w),.int (a:Int),.int (b:Int)]),y5,y6,y7]):=by
  unfold AS
  rw[zdz (a:=a) (b:=b) rfl (tst a x7 la) (tst b x7 lb)]
  unfold PH
  rw[cV,II];kd_p
  rw[ia,ib];kd_p
  rw[zdy na.2 nb.2,xar (pV hz),cond_false,IJ _ _ _ (zdf _)];kd_p
  unfold zA;kd_p
  unfold PF;kd_p
  unfold PD
  cases w with
  |false=>
   rw[LQ (l:=3) (ix:=.int 0) (d:=aI (fresh s ⟨false,a,b⟩)) rfl rfl rfl rfl rfl rfl (by rw[xak];omega)]
   refine⟨none,some (.int (b:Int)),some (aI (fresh s ⟨false,a,b⟩)),?_⟩
   rw[show stp s ⟨false,a,b⟩=(s.1,s.2++[fresh s ⟨false,a,b⟩]) from rfl,xa3];rfl
  |true=>
   rw[LQ (l:=2) (ix:=.int 1) (d:=aI (fresh s ⟨true,a,b⟩)) rfl rfl rfl rfl rfl rfl (by rw[xak];omega)]
   refine⟨none,some (.int (b:Int)),some (aI (fresh s ⟨true,a,b⟩)),?_⟩
   rw[show stp s ⟨true,a,b⟩=(s.1++[fresh s ⟨true,a,b⟩],s.2) from rfl,xa3];rfl
 obtain⟨y5,y6,y7,aK⟩:=aK
 refine⟨y5,y6,y7,?_⟩
 unfold pH dD
 have hc:∀z5 z6 z7,(eU (dX (aR (bD (g2 cU) (aB (aA 4) (aB (eC (.ty "tuple")) aE))))) (eU (aR (aC eD (bD cR (aB (aA 4) aE)) (eC (.int 3)))) (aR (aC jI (aC aF (aA 4) (eC (.int 0))) (bH (bW (aB (eC (.str "line")) (aB (eC (.str "peg")) aE)))))))) [pl,pn,some (.lst (s.1.map aI)),some (.lst (s.2.map aI)),some (.tup [.str (wd w),.int (a:Int),.int (b:Int)]),z5,z6,z7]=.ok false:=fun z5 z6 z7=>by cases w<;>rfl
 rw[cV,oK,hc,qY,qS,iB]
 unfold PJ
 cases w with
 |false=>
  rw[LO (l:=2) (ix:=.int 0) rfl rfl rfl rfl rfl]
  exact aK
 |true=>
  rw[LO (l:=3) (ix:=.int 1) rfl rfl rfl rfl rfl]
  exact aK
theorem QM:∀(ds:List De) (s:S2),(∀w,∀p∈bF (ds.foldl stp s) w,cY p/\BP 1000 p)->pK s ds->s.1.length+s.2.length+ds.length<=50000->∀(pl pn x4 x5 x6 x7:Option D),∃y4 y5 y6 y7,eP [4] bK pH (ds.map dD) [pl,pn,some (.lst (s.1.map aI)),some (.lst (s.2.map aI)),x4,x5,x6,x7] =
  .ok (.nx [pl,pn,some (.lst ((ds.foldl stp s).1.map aI)),some (.lst ((ds.foldl stp s).2.map aI)),y4,y5,y6,y7])
 |[],s,_,_,_,pl,pn,x4,x5,x6,x7=>⟨x4,x5,x6,x7,rfl⟩
 |d::ds,s,f,o,hl,pl,pn,x4,x5,x6,x7=>by
  rw[xaw] at hl
  obtain⟨y5,y6,y7,e⟩:=zdA (fun w p hp=>f w p (zdw (QI (d::ds) s) hp)) o.1 (by omega) pl pn x5 x6 x7
  obtain⟨z4,z5,z6,z7,e2⟩:=QM ds (stp s d) f o.2 (by rw[zdv];omega) pl pn (some (dD d)) y5 y6 y7
  refine⟨z4,z5,z6,z7,?_⟩
  rw[xa4,uF]
  show jH (pH [pl,pn,some (.lst (s.1.map aI)),some (.lst (s.2.map aI)),some (dD d),x5,x6,x7]) _=_
  rw[e,rE,e2];rfl
theorem zdB{ps:List P3}{ds:List De}(f:∀w,∀p∈bF (ds.foldl stp (ps,[])) w,cY p/\BP 1000 p)(o:pK (ps,[]) ds)(hl:ps.length+ds.length<=50000):pI [.lst (ps.map aI),.lst (ds.map dD)]=.ok (.lst ((ds.foldl stp (ps,[])).1.map aI)):=by
 obtain⟨y4,y5,y6,y7,e⟩:=QM ds (ps,[]) f o (by simpa using hl) (some (.lst (ps.map aI))) (some (.lst (ds.map dD))) none none none none
 rw[zc0];unfold vM;kd_p
 rw[show (oH [.lst (ps.map aI)]).noerr=.ok (ps.map aI) from rfl];kd_p
 unfold PN;kd_p
 unfold PM;kd_p
 rw[show eP [4] bK pH (ds.map dD) [some (.lst (ps.map aI)),some (.lst (ds.map dD)),some (.lst (ps.map aI)),some (.lst []),none,none,none,none]=_ from e];kd_p
 unfold PL;kd_p
theorem zdC{m:Mf}{ps:List P3}{sk:Sk.SK}{t:S2}{r:Int}{v:P3}(I:Inv false m ps sk t)(hr:At m t false r v)(hl:ps.length<=1000)(hk:sk.plan.length<=20000):jM [.tup [.lst (sk.plan.map Sk.deedD),.int r],.lst (ps.map aI),aI (im false m v)]=.ok (.bl true):=by
 obtain⟨ds,p1,p2,p3,_⟩:=I.pl
 obtain⟨_,n,rfl,h1,h2,_⟩:=hr
 have ed:sk.plan.map Sk.deedD=ds.map dD:=by rw[p1,xcw];rfl
 have hlen:ds.length=sk.plan.length:=by rw[p1,xak]
 have fi:=I.fi
 rw[p3] at fi h1 h2
 have hw:=zdB fi p2 (by omega)
 have h1:n<((ds.foldl stp (ps,[])).1).length:=h1
 rw[ed,zc1]
 unfold vN
 have hc:(eU (dX (aR (bD (g2 cU) (aB (aA 0) (aB (eC (.ty "tuple")) aE))))) (eU (aR (aC eD (bD cR (aB (aA 0) aE)) (eC (.int 2)))) (eU (dX (aR (bD (g2 cU) (aB (aC aF (aA 0) (eC (.int 0))) (aB (eC (.ty "list")) aE))))) (dX (aR (aQ iI (aB (aC aF (aA 0) (eC (.int 1))) aE))))))) [some (.tup [.lst (ds.map dD),.int (n:Int)]),some (.lst (ps.map aI)),some (aI (im false m v)),none]=.ok false:=by
  have e4:dX (aR (aQ iI (aB (aC aF (aA 0) (eC (.int 1))) aE))) [some (.tup [.lst (ds.map dD),.int (n:Int)]),some (.lst (ps.map aI)),some (aI (im false m v)),none]=.ok false:=by
   show uC (qX (iI [.int (n:Int)]))=_
   rw[PU];rfl
  rw[oI,show dX (aR (bD (g2 cU) (aB (aA 0) (aB (eC (.ty "tuple")) aE)))) [some (.tup [.lst (ds.map dD),.int (n:Int)]),some (.lst (ps.map aI)),some (aI (im false m v)),none]=.ok false from rfl,oJ,oI,show aR (aC eD (bD cR (aB (aA 0) aE)) (eC (.int 2))) [some (.tup [.lst (ds.map dD),.int (n:Int)]),some (.lst (ps.map aI)),some (aI (im false m v)),none]=.ok false from rfl,oJ,oI,show dX (aR (bD (g2 cU) (aB (aC aF (aA 0) (eC (.int 0))) (aB (eC (.ty "list")) aE)))) [some (.tup [.lst (ds.map dD),.int (n:Int)]),some (.lst (ps.map aI)),some (aI (im false m v)),none]=.ok false from rfl,oJ,e4]
 rw[cV,oK,hc,qY,qS,iB]
 unfold PP
 rw[cV,fK,show aQ pI (aB (aA 1) (aB (aC aF (aA 0) (eC (.int 0))) aE)) [some (.tup [.lst (ds.map dD),.int (n:Int)]),some (.lst (ps.map aI)),some (aI (im false m v)),none]=_ from hw]
 show fin (AT [some (.tup [.lst (ds.map dD),.int (n:Int)]),some (.lst (ps.map aI)),some (aI (im false m v)),some (.lst ((ds.foldl stp (ps,[])).1.map aI))])=_
 unfold AT;kd_p
 rw[LmWc.ix21];kd_p
 rw[xaj (show (0:Int)<=(n:Int) by omega)];kd_p
 rw[xak,xaj (show (n:Int)<(((ds.foldl stp (ps,[])).1).length:Int) by omega)];kd_p
 rw[LmWc.ix21];kd_p
 rw[Fl.ix h1];kd_p
 rw[xaj ((eqP _ _).mpr (show pk (ds.foldl stp (ps,[])).1 n=im false m v from h2))]
theorem dgs{ns:List Int}(hl:ns.length=3):∃a b c,ns=[a,b,c]:=by
 match ns,hl with
 |[a,b,c],_=>exact⟨a,b,c,rfl⟩
theorem BR(c:Int):∃p:P3,BP 10 p/\∀(e:D) (rs:List D) (x3 x4 x5 x6 x7 x8:Option D),rs.length<=10->∃y3,pF [some e,some (.lst rs),some (.int c),x3,x4,x5,x6,x7,x8]=.ok (.nx [some e,some (.lst (rs++[dL p])),some (.int c),y3,x4,x5,x6,x7,x8]):=by
 obtain⟨ns,h1,h2,h3⟩:=rX c 3 (by decide)
 obtain⟨n0,n1,n2,rfl⟩:=dgs h2
 obtain⟨w,o,hw,ho,w0,hb⟩:∃w o:Int,aF (.lst [.int 2001,.int 7]) (.int (c%2))=.ok (.int w)/\aF (.lst [.int 1000,.int 3]) (.int (c%2))=.ok (.int o)/\0<w/\∀e:Int,(e%w-o).natAbs<=1000:=by
  rcases(show c%2=0\/c%2=1 by omega) with h|h<;>rw[h]
  ·exact⟨2001,1000,rfl,rfl,by decide,fun e=>by omega⟩
  ·exact⟨7,3,rfl,rfl,by decide,fun e=>by omega⟩
 have b10:∀e:Int,B 10 (e%w-o):=fun e=>B.of (k:=1000) (hb e)
 refine⟨(n0%w-o,n1%w-o,n2%w-o),⟨b10 _,b10 _,b10 _⟩,fun e rs x3 x4 x5 x6 x7 x8 hr=>⟨some (.lst [.int n0,.int n1,.int n2]),?_⟩⟩
 have two:∀(e':Int) (y0 y1 y3:Option D),(aC gSub (aC bY (aA 0) (aC aF (bH (bW (aB (eC (.int 2001)) (aB (eC (.int 7)) aE)))) (aC bY (aA 3) (eC (.int 2))))) (aC aF (bH (bW (aB (eC (.int 1000)) (aB (eC (.int 3)) aE)))) (aC bY (aA 3) (eC (.int 2))))) (some (.int e')::[y0,y1,some (.int c),y3,x4,x5,x6,x7,x8])=.ok (.int (e'%w-o)):=fun e' y0 y1 y3=>by
  kd_p
  rw[iC c 2 (by decide)];kd_p
  rw[hw,ho];kd_p
  rw[iC _ _ w0];kd_p
 unfold pF
 rw[cV,rB,show aQ dU (aB (aA 2) (aB (eC (.int 3)) aE)) (mask [1] [some e,some (.lst rs),some (.int c),x3,x4,x5,x6,x7,x8])=_ from h1]
 show AM [some e,some (.lst rs),some (.int c),some (.lst [.int n0,.int n1,.int n2]),x4,x5,x6,x7,x8]=_
 unfold AM
 rw[oM,show aX [some e,some (.lst rs),some (.int c),some (.lst [.int n0,.int n1,.int n2]),x4,x5,x6,x7,x8] 1=.ok rs from rfl,show mask [1] [some e,some (.lst rs),some (.int c),some (.lst [.int n0,.int n1,.int n2]),x4,x5,x6,x7,x8]=[some e,none,some (.int c),some (.lst [.int n0,.int n1,.int n2]),x4,x5,x6,x7,x8] from rfl,iW,kA,show dB (aA 3) [some e,none,some (.int c),some (.lst [.int n0,.int n1,.int n2]),x4,x5,x6,x7,x8]=.ok [.int n0,.int n1,.int n2] from rfl,lc_3 (two _ _ _ _) (two _ _ _ _) (two _ _ _ _),yH,qZ _ _ _ _ (by omega)]
 rfl
theorem zdE(c0 c1 c2:Int):∃m:M3,pG [.lst [.int c0,.int c1,.int c2]]=.ok (cD m)/\bM m≠0/\BM 10 m:=by
 obtain⟨p,bp,e0⟩:=BR c0
 obtain⟨q,bq,e1⟩:=BR c1
 obtain⟨r,br,e2⟩:=BR c2
 have m1:∀{i j:Int} {a b:Nat},B a i->B b j->a<=100->b<=100->bC (.int i) (.int j)=.ok (.int (i*j)):=fun h h' ha hb=>fR _ _ (pJ h (by omega)) (pJ h' (by omega))
 obtain⟨y0,e0⟩:=e0 (.lst [.int c0,.int c1,.int c2]) [] none none none none none none (by simp)
 obtain⟨y1,e1⟩:=e1 (.lst [.int c0,.int c1,.int c2]) [dL p] y0 none none none none none (by simp)
 obtain⟨y2,e2⟩:=e2 (.lst [.int c0,.int c1,.int c2]) [dL p,dL q] y1 none none none none none (by simp)
 rw[zcW];unfold vI;kd_p
 unfold O5;kd_p
 rw[show pF [some (.lst [.int c0,.int c1,.int c2]),some (.lst []),some (.int c0),none,none,none,none,none,none]=_ from e0];kd_p
 rw[show pF [some (.lst [.int c0,.int c1,.int c2]),some (.lst ([]++[dL p])),some (.int c1),y0,none,none,none,none,none]=_ from e1];kd_p
 rw[show pF [some (.lst [.int c0,.int c1,.int c2]),some (.lst ([dL p]++[dL q])),some (.int c2),y1,none,none,none,none,none]=_ from e2];kd_p
 show ∃m:M3,fin (AN [some (.lst [.int c0,.int c1,.int c2]),some (.lst [dL p,dL q,dL r]),some (.int c2),y2,none,none,none,none,none])=.ok (cD m)/\_
 unfold AN;kd_p
 unfold O4;kd_p
 have bc:=bq.crs br
 rw[m1 bq.y br.z (by decide) (by decide),m1 bq.z br.y (by decide) (by decide)];kd_p
 rw[m1 bp.x bc.x (by decide) (by decide) |> fun z=>show bC (.int p.1) (.int (q.2.1*r.2.2-q.2.2*r.2.1))=.ok (.int (p.1*(crs q r).1)) from z];kd_p
 unfold O3;kd_p
 rw[m1 bq.z br.x (by decide) (by decide),m1 bq.x br.z (by decide) (by decide)];kd_p
 rw[m1 bp.y bc.y (by decide) (by decide) |> fun z=>show bC (.int p.2.1) (.int (q.2.2*r.1-q.1*r.2.2))=.ok (.int (p.2.1*(crs q r).2.1)) from z];kd_p
 unfold O2;kd_p
 rw[m1 bq.x br.y (by decide) (by decide),m1 bq.y br.x (by decide) (by decide)];kd_p
 rw[m1 bp.z bc.z (by decide) (by decide) |> fun z=>show bC (.int p.2.2) (.int (q.1*r.2.1-q.2.1*r.1))=.ok (.int (p.2.2*(crs q r).2.2)) from z];kd_p
 by_cases hd:p.1*(crs q r).1+p.2.1*(crs q r).2.1+p.2.2*(crs q r).2.2=0
 ·rw[xaj hd];kd_p
  exact⟨((1,2,0),(0,1,3),(1,0,1)),rfl,by decide,BM.of fun i hi=>B.of (k:=3) (by
   unfold flat at hi
   simp only[xaz,xbe,or_false] at hi
   rcases hi with rfl|rfl|rfl|rfl|rfl|rfl|rfl|rfl|rfl<;>decide)⟩
 ·rw[xar hd];kd_p
  unfold O1;kd_p
  exact⟨(p,q,r),rfl,hd,⟨bp,bq,br⟩⟩
end LmQd
open L2 DL Mir
namespace LmQe
open Mth LmP LmA LmD LmJ LmSa LmWb LmWc LmQb LmQc LmQd
theorem sI(m:M3)(vs:List (Int×Int)):c9 m vs=low (mul m (1,0,0))::low (mul m (0,1,0))::low (mul m (0,0,1))::low (mul m (1,1,1))::vs.map fun v=>low (mul m (v.1,0,v.2)):=by
 unfold c9 iL sH
 rw[xa3,xcw]
 rfl
theorem zdF(m:M3)(vs:List (Int×Int))(n:Nat)(v:Int×Int)(h:vs[n]? = some v):pk (c9 m vs) (4+n)=low (mul m (v.1,0,v.2)):=by
 rw[sI]
 unfold pk
 rw[show 4+n=n+1+1+1+1 by omega,xcq,xcq,xcq,xcq,xco,xbj,h];rfl
theorem vV(m:M3)(vs:List (Int×Int)):(c9 m vs).length=4+vs.length:=by unfold c9 iL;rw[xak,xav,xak];rfl
abbrev mf(m:M3):Mf:=⟨m,fun _=>True⟩
theorem vW{m:M3}{vs:List (Int×Int)}(hm:BM 10 m)(hd:bM m≠0)(hv:∀v∈vs,Fr 40 v):Mt (mf m) (c9 m vs)/\(∀p∈c9 m vs,cY p/\BP 1000 p):=by
 refine⟨⟨hd,hm.mono (by decide),fun _ _=>trivial⟩,fun p hp=>?_⟩
 obtain⟨q,h1,rfl⟩:=xcb.mp hp
 obtain⟨b,z⟩:=QK hv q h1
 have nz:=s9 hd z
 exact⟨pU nz,((hm.mul b).low nz).mono (by decide)⟩
theorem QN{m:M3}{vs:List (Int×Int)}(hm:BM 10 m)(hd:bM m≠0)(hv:∀v∈vs,Fr 40 v):Inv false (mf m) (c9 m vs) (Sk.sk0 0 1 2 3 (4+(vs.length:Int))) (c9 m vs,[]):=by
 have h:=zdu (vW hm hd hv).1 (fun _=>trivial) (by rw[vV];omega) (vW hm hd hv).2 (by rw[sI];rfl) (by rw[sI];rfl) (by rw[sI];rfl) (by rw[sI];rfl)
 rw[vV,show ((4+vs.length:Nat):Int)=4+(vs.length:Int) by omega] at h
 exact h
theorem zdG(m:M3)(w:P3):im false (mf m) w=low (mul m w):=by unfold im;rw[cond_false]
theorem QO{m:M3}{vs:List (Int×Int)}(hm:BM 10 m)(hd:bM m≠0)(hv:∀v∈vs,Fr 40 v)(hl:vs.length<=900){ks:List Key}{ds:List D}{val:Str->Option (Int×Int)}(E:En ks ds val){no:Str->Option Int}(hno:∀x v,val x=some v->∃n,no x=some n/\At (mf m) (c9 m vs,[]) false n (v.1,0,v.2)){t:Tr}{v:Int×Int}(hN:iK t)(h9:t.many<=9)(hw:c8 val t=some v){r:Int}{sk':Sk.SK}(hr:dJ no t (Sk.sk0 0 1 2 3 (4+(vs.length:Int)))=some (r,sk')) :
  jM [.tup [.lst (sk'.plan.map Sk.deedD),.int r],.lst ((c9 m vs).map aI),aI (low (mul m (v.1,0,v.2)))]=.ok (.bl true):=by
 obtain⟨r',s',t',d1,I',l',a'⟩:=vU (vW hm hd hv).1 E hno t _ _ v (QN hm hd hv) (Le.refl _) hN h9 hw
 rw[hr] at d1
 have d1:=xas d1
 obtain rfl:r=r':=congrArg Prod.fst d1
 obtain rfl:sk'=s':=congrArg Prod.snd d1
 have g:=(rZ t _ _ _ hN hr).1
 rw[show (Sk.sk0 0 1 2 3 (4+(vs.length:Int))).plan.length=0 from rfl] at g
 rw[<- zdG]
 exact zdC I' a' (by rw[vV];omega) (by omega)
end LmQe
open L2 DL Mir
namespace LmNe
open Mth LmP LmA LmWa LmWb LmWc LmWf LmWg TxtA
theorem zdH(c:Int):∃ns:List Str,pA [.int c,.int 6]=.ok (.lst (ns.map .str))/\ns.length=6/\ns.Nodup/\∀x∈ns,Pn x:=by
 obtain⟨ns,e,hl,hb⟩:=rX c 12 (by decide)
 have e:dU [.int c,.int 12]=.ok (.lst (ns.map .int)):=e
 obtain⟨d8,g8,a8,b8⟩:=fW ns hb 8 (by omega)
 obtain⟨d9,g9,a9,b9⟩:=fW ns hb 9 (by omega)
 obtain⟨d10,g10,a10,b10⟩:=fW ns hb 10 (by omega)
 obtain⟨d11,g11,a11,b11⟩:=fW ns hb 11 (by omega)
 have g8:aF (.lst (ns.map .int)) (.int 8)=.ok (.int d8):=g8
 have g9:aF (.lst (ns.map .int)) (.int 9)=.ok (.int d9):=g9
 have g10:aF (.lst (ns.map .int)) (.int 10)=.ok (.int d10):=g10
 have g11:aF (.lst (ns.map .int)) (.int 11)=.ok (.int d11):=g11
 rw[zcR];unfold vA OI OH OG;kd_p
 rw[e];kd_p
 rw[g10];kst_p1
 have m10:=dW (i:=d10) (j:=8) (by decide)
 rw[show ("abcdefghijklmnopqrstuvwxyz":Str)=lK from rfl,show (D.str "")=.str (cP []) from rfl]
 have turn:∀(j:Nat) (d:D) (U:DSt),(eO 0 (d10%8).toNat)[j]? = some d->(∃(l:List Nat) (z:Option D),U=[some (.int c),some (.int 6),some (.str lK),some (.lst (ns.map .int)),some (.str (cP l)),z]/\l.length=j/\∀c∈l,97<=c/\c<=122)->
   ∃U',(rS (U.set 5 (some d))=.ok (.nx U')\/rS (U.set 5 (some d))=.ok (.ct U'))/\∃(l:List Nat) (z:Option D),U'=[some (.int c),some (.int 6),some (.str lK),some (.lst (ns.map .int)),some (.str (cP l)),z]/\l.length=j+1/\∀c∈l,97<=c/\c<=122:=by
  rintro j d U hd ⟨l,z,rfl,hl,hc⟩
  have hj:j<(d10%8).toNat:=by
   have:=(xam.mp hd).1
   simpa [eO] using this
  obtain rfl:d=.int (j:Int):=by
   unfold eO at hd
   rw[xbj,xdj hj] at hd
   simpa using hd.symm
  unfold rS;kd_p
  rw[g11]
  rw[show j8 (.ok [D.int 1,.int 26,.int 676,.int 17576,.int 5,.int 9,.int 77])=.ok [D.int 1,.int 26,.int 676,.int 17576,.int 5,.int 9,.int 77] from rfl];kd_p
  obtain⟨q,hq,hq0,hq1⟩:∃q:Int,aF (.lst [.int 1,.int 26,.int 676,.int 17576,.int 5,.int 9,.int 77]) (.int (j:Int))=.ok (.int q)/\0<q/\q<=20000:=by
   have:j=0\/j=1\/j=2\/j=3\/j=4\/j=5\/j=6:=by omega
   rcases this with rfl|rfl|rfl|rfl|rfl|rfl|rfl
   ·exact⟨1,rfl,by decide,by decide⟩
   ·exact⟨26,rfl,by decide,by decide⟩
   ·exact⟨676,rfl,by decide,by decide⟩
   ·exact⟨17576,rfl,by decide,by decide⟩
   ·exact⟨5,rfl,by decide,by decide⟩
   ·exact⟨9,rfl,by decide,by decide⟩
   ·exact⟨77,rfl,by decide,by decide⟩
  rw[hq];kd_p
  rw[JI _ _ (IA (by omega) (by omega) (by omega)) hq0];kd_p
  rw[iC _ _ (by decide)];kd_p
  have m:=dW (i:=d11/q) (j:=26) (by decide)
  rw[QA _ m.1 m.2];kd_p
  rw[QB (by simp;omega)];kd_p
  refine⟨_,.inl rfl,l++[97+(d11/q%26).toNat],_,rfl,by simp[hl],fun x hx=>?_⟩
  rcases xbf.mp hx with h|h
  ·exact hc x h
  ·rw[xbc.mp h];omega
 obtain⟨U',e2,l,z,rfl,hl2,hc⟩:=yV (i:=5) (fb:=rS) _ _ turn [some (.int c),some (.int 6),some (.str lK),some (.lst (ns.map .int)),some (.str (cP [])),none] ⟨[],none,rfl,rfl,by simp⟩
 have hl7:l.length<=7:=by
  have:(eO 0 (d10%8).toNat).length=(d10%8).toNat:=by simp[eO]
  omega
 rw[e2];kd_p
 unfold OF;kd_p
 rw[g8];kst_p1
 by_cases h:d8%4=1
 ·rw[xaj h];kd_p
  rw[Lk42.eSl_to _ _ _ [D.str "end",.str "x",.str "times",.str "rule",.str "ends",.str "xx"] 6 rfl rfl];kd_p
  refine⟨["end","x","times","rule","ends","xx"],rfl,rfl,by decide,fun x hx=>?_⟩
  simp only[xaz,xbe,or_false] at hx
  rcases hx with rfl|rfl|rfl|rfl|rfl|rfl
  ·exact⟨[101,110,100],rfl,by decide,by decide,by decide⟩
  ·exact⟨[120],rfl,by decide,by decide,by decide⟩
  ·exact⟨[116,105,109,101,115],rfl,by decide,by decide,by decide⟩
  ·exact⟨[114,117,108,101],rfl,by decide,by decide,by decide⟩
  ·exact⟨[101,110,100,115],rfl,by decide,by decide,by decide⟩
  ·exact⟨[120,120],rfl,by decide,by decide,by decide⟩
 ·rw[xar h];kd_p
  unfold OE;kst_p1
  have nm:∀k:Int,lB bL (lB fT (.ok (.str lK)) (lB bY (lB bL (.ok (.int d9)) (.ok (.int k))) (.ok (.int 26)))) (.ok (.str (cP l)))=.ok (.str (cP ((97+((d9+k)%26).toNat)::l))):=fun k=>by
   have m:=dW (i:=d9+k) (j:=26) (by decide)
   rw[lC,yR,lC,iC _ _ (by decide),lC,QA _ m.1 m.2,lC,QB (by simp;omega)];rfl
  rw[show eO 0 6=[D.int 0,.int 1,.int 2,.int 3,.int 4,.int 5] from rfl]
  rw[K9 (g:=fun d=>match d with|.int k=>.str (cP ((97+((d9+k)%26).toNat)::l))|_=>.non) (by decide) (fun d hd=>?_)]
  ·kd_p
   refine⟨[0,1,2,3,4,5].map fun k:Int=>cP ((97+((d9+k)%26).toNat)::l),rfl,rfl,?_,fun x hx=>?_⟩
   ·have ne:∀i j:Int,0<=i->i<6->0<=j->j<6->i≠j->cP ((97+((d9+i)%26).toNat)::l)≠cP ((97+((d9+j)%26).toNat)::l):=fun i j h1 h2 h3 h4 h5 h6=>by
     have:=LmWg.ofL_inj h6
     injection this with h7 _
     omega
    simp only[xa4,xbx,xbv,xaz,xbe,or_false,not_or,not_false_eq_true,xdk,and_true]
    refine⟨⟨?_,?_,?_,?_,?_⟩,⟨?_,?_,?_,?_⟩,⟨?_,?_,?_⟩,⟨?_,?_⟩,?_⟩<;>exact ne _ _ (by decide) (by decide) (by decide) (by decide) (by decide)
   ·obtain⟨k,hk,rfl⟩:=xcb.mp hx
    refine⟨_,rfl,by simp;omega,by simp,fun y hy=>?_⟩
    rcases xaz.mp hy with rfl|hy
    ·have:=dW (i:=d9+k) (j:=26) (by decide);omega
    ·exact hc y hy
  ·simp only[xaz,xbe,or_false] at hd
   rcases hd with rfl|rfl|rfl|rfl|rfl|rfl<;>(kd_p;rw[g9];exact nm _)
end LmNe
open L2 DL Mir
namespace LmNf
open Mth LmP LmA LmWa LmWb LmWc LmWf TxtA
theorem QP(p q:Int)(h:q≠0):iP (p,0,q)=sg p q:=by
 show cK p 0 q=_
 unfold cK cC g3 LmWb.sg
 rw[xao h,show (0:Int).natAbs=0 from rfl,Nat.gcd_zero_right]
 by_cases c:q<0
 ·rw[xao c,xao c,xdb]
 ·rw[xal c,xal c]
theorem QQ{p q:Int}(h:q≠0):cY ((LmWb.low p q).1,0,(LmWb.low p q).2):=by
 have nz:Nz (p,0,q):=fun e=>h e.2.2
 have e:Mth.low (p,0,q)=((LmWb.low p q).1,0,(LmWb.low p q).2):=by
  unfold Mth.low LmWb.low
  rw[QP p q h]
  show (p.fdiv (sg p q),(0:Int).fdiv (sg p q),q.fdiv (sg p q))=_
  rw[Int.zero_fdiv]
 rw[<- e]
 exact pU nz
theorem zdI(i:Int):cY (i,0,1):=by
 refine⟨fun e=>xaq e.2.2 (by show ¬(1:Int)=0;decide),?_⟩
 rw[QP i 1 (by decide)]
 unfold LmWb.sg
 rw[xal (by decide),show (1:Int).natAbs=1 from rfl,Nat.gcd_one_right];rfl
theorem zdJ{val:Str->Option (Int×Int)}(hv:∀x v,val x=some v->cY (v.1,0,v.2)){ks:List Key}{ds:List D}(E:En ks ds val):∀(t:Tr) (v:Int×Int),iK t->c8 val t=some v->cY (v.1,0,v.2)
 |.nm x,v,_,h=>hv x v h
 |.nb i,v,_,h=>by cases h;exact zdI i
 |.op s a b,v,hN,h=>by
  rw[P7] at h
  obtain⟨u,hu,h⟩:=xab.mp h
  obtain⟨w,hw,h⟩:=xab.mp h
  obtain⟨rfl,h0⟩:=LmQc.byS_some h
  exact QQ (lJ (kN E hN.1 hu) (kN E hN.2 hw) s h0)
theorem zdK(c k:Int):∃v,pE [.int c,.int k]=.ok (fr v)/\Fr 40 v/\cY (v.1,0,v.2):=by
 obtain⟨ns,e,hl,hb⟩:=rX c 4 (by decide)
 have e:dU [.int c,.int 4]=.ok (.lst (ns.map .int)):=e
 obtain⟨d0,g0,a0,b0⟩:=fW ns hb 0 (by omega)
 obtain⟨d1,g1,a1,b1⟩:=fW ns hb 1 (by omega)
 obtain⟨d2,g2,a2,b2⟩:=fW ns hb 2 (by omega)
 obtain⟨d3,g3,a3,b3⟩:=fW ns hb 3 (by omega)
 have g0:aF (.lst (ns.map .int)) (.int 0)=.ok (.int d0):=g0
 have g1:aF (.lst (ns.map .int)) (.int 1)=.ok (.int d1):=g1
 have g2:aF (.lst (ns.map .int)) (.int 2)=.ok (.int d2):=g2
 have g3:aF (.lst (ns.map .int)) (.int 3)=.ok (.int d3):=g3
 rw[zcV];unfold vH O0;kd_p
 rw[e];kst_p1
 have fin':∀p q:Int,p.natAbs<=1000000000000->0<q->q<=1000001->∃v,fN [.int p,.int q]=.ok (fr v)/\Fr 40 v/\cY (v.1,0,v.2):=fun p q hp h0 hq=>by
  have bp:B 40 p:=B.of (k:=1000000000000) hp
  have bq:B 40 q:=B.of (k:=1000001) (by omega)
  obtain⟨z1,z2,z3⟩:=P6 bp bq (by omega)
  exact⟨_,rY bq (by omega) (by decide),⟨z1,z2,z3⟩,QQ (by omega)⟩
 by_cases h:c%2=0
 ·rw[xaj h];kd_p
  rw[g0,g1,g2];kst_p1
  obtain⟨v,ev,hv⟩:=fin' (d0*10^6+d1-5*10^11) (1+d2) (by omega) (by omega) (by omega)
  rw[ev];kd_p
  exact⟨v,rfl,hv⟩
 ·rw[xar h];kd_p
  unfold OZ;kd_p
  rw[g0,g1,g2,g3];kst_p1
  have m1:=dW (i:=d1) (j:=4) (by decide)
  have m3:=dW (i:=d3) (j:=2) (by decide)
  have m0:=dW (i:=d0) (j:=61) (by decide)
  have m2:=dW (i:=d2) (j:=12) (by decide)
  obtain⟨p,ep,hp⟩:∃p:Int,aF (.lst [.int 0,.int 1,.int (-1),.int (d0%61-30)]) (.int (d1%4))=.ok (.int p)/\p.natAbs<=1000000000000:=by
   have:d1%4=0\/d1%4=1\/d1%4=2\/d1%4=3:=by omega
   rcases this with h|h|h|h<;>rw[h]
   ·exact⟨0,rfl,by decide⟩
   ·exact⟨1,rfl,by decide⟩
   ·exact⟨-1,rfl,by decide⟩
   ·exact⟨d0%61-30,rfl,by omega⟩
  obtain⟨q,eq,hq,hq'⟩:∃q:Int,aF (.lst [.int 1,.int (1+d2%12)]) (.int (d3%2))=.ok (.int q)/\0<q/\q<=1000001:=by
   have:d3%2=0\/d3%2=1:=by omega
   rcases this with h|h<;>rw[h]
   ·exact⟨1,rfl,by decide,by decide⟩
   ·exact⟨1+d2%12,rfl,by omega,by omega⟩
  rw[ep,eq];kd_p
  obtain⟨v,ev,hv⟩:=fin' p q hp hq hq'
  rw[ev];kd_p
  exact⟨v,rfl,hv⟩
end LmNf
open L2 DL Mir
namespace LmNc
open Mth LmP LmA LmWa LmWb LmWc LmWd LmWf LmWg LmWh TxtA
theorem zdL(dg:List Int)(hl:dg.length=6)(hb:∀n∈dg,0<=n/\n<1000000)(ns:List Str)(hn:ns.length=5)(hp:∀x∈ns,Pn x):∃t:Tr,kL [.lst (dg.map .int),.lst (ns.map .str)]=.ok t.d/\gT t/\t.many=1:=by
 obtain⟨d2,g2,a2,b2⟩:=fW dg hb 2 (by omega)
 obtain⟨d3,g3,a3,b3⟩:=fW dg hb 3 (by omega)
 obtain⟨d4,g4,a4,b4⟩:=fW dg hb 4 (by omega)
 obtain⟨d5,g5,a5,b5⟩:=fW dg hb 5 (by omega)
 have g2:aF (.lst (dg.map .int)) (.int 2)=.ok (.int d2):=g2
 have g3:aF (.lst (dg.map .int)) (.int 3)=.ok (.int d3):=g3
 have g4:aF (.lst (dg.map .int)) (.int 4)=.ok (.int d4):=g4
 have g5:aF (.lst (dg.map .int)) (.int 5)=.ok (.int d5):=g5
 rw[zcS];unfold vB;kd_p
 rw[g2];kst_p1
 by_cases h:0<d2%3
 ·rw[xaj h];kd_p
  rw[g3];kd_p
  rw[iC _ _ (by rw[xak,hn];decide)];kd_p
  have m:=dW (i:=d3) (j:=((ns.map D.str).length:Int)) (by rw[xak,hn];decide)
  rw[xak,hn] at m ⊢
  obtain⟨j,hj⟩:∃j:Nat,d3%((5:Nat):Int)=(j:Int):=⟨(d3%((5:Nat):Int)).toNat,by omega⟩
  have hj5:j<ns.length:=by omega
  rw[hj,uE (d:=.str ns[j]) (by rw[xbj,xa7 hj5];rfl)];kd_p
  exact⟨.nm ns[j],rfl,hp _ (xcl hj5),rfl⟩
 ·rw[xar h];kd_p
  unfold OK;kd_p
  rw[g5];kst_p1
  have m3:=dW (i:=d3) (j:=10) (by decide)
  have m4:=dW (i:=d4) (j:=1000) (by decide)
  have m5:=dW (i:=d3) (j:=1000) (by decide)
  by_cases h16:d5%16=1
  ·rw[xaj h16];kd_p
   rw[g3,g4];kst_p1
   exact⟨.nb (d3*1000+d4%1000),rfl,⟨by omega,by omega⟩,rfl⟩
  ·rw[xar h16];kd_p
   unfold OJ;kd_p
   rw[g3,g5];kst_p1
   have:d5%4=0\/d5%4=1\/d5%4=2\/d5%4=3:=by omega
   rcases this with h|h|h|h<;>rw[h]
   ·rw[show aF (.lst [.int 10,.int 10,.int 10,.int 1000]) (.int 0)=.ok (.int 10) from rfl];kst_p1;exact⟨.nb (d3%10),rfl,⟨by omega,by omega⟩,rfl⟩
   ·rw[show aF (.lst [.int 10,.int 10,.int 10,.int 1000]) (.int 1)=.ok (.int 10) from rfl];kst_p1;exact⟨.nb (d3%10),rfl,⟨by omega,by omega⟩,rfl⟩
   ·rw[show aF (.lst [.int 10,.int 10,.int 10,.int 1000]) (.int 2)=.ok (.int 10) from rfl];kst_p1;exact⟨.nb (d3%10),rfl,⟨by omega,by omega⟩,rfl⟩
   ·rw[show aF (.lst [.int 10,.int 10,.int 10,.int 1000]) (.int 3)=.ok (.int 1000) from rfl];kst_p1;exact⟨.nb (d3%1000),rfl,⟨by omega,by omega⟩,rfl⟩
section
variable(C:D)(ns:List Str)(hn:ns.length=5)(hp:∀x∈ns,Pn x)
theorem zdM(z3 z4:Option D):∀(n:Nat) (ts:List Tr) (z5:Option D),ts.length=n->1<=n->n<=1000->(∀t∈ts,gT t)->∃(t:Tr) (z:Option D),c7 vC AI [some C,some (.lst (ns.map .str)),some (.lst (ts.map Tr.d)),z3,z4,z5]=.ok (.nx [some C,some (.lst (ns.map .str)),some (.lst [t.d]),z3,z4,z])/\gT t/\t.many=gU ts:=by
 intro n
 induction n with
 |zero=>intro ts z5 h1 h2;omega
 |succ n ih=>
  intro ts z5 h1 h2 h3 hg
  by_cases hn1:n=0
  ·subst hn1
   match ts,h1 with
   |[t],_=>
    refine⟨t,z5,?_,hg t (by simp),by unfold gU;simp⟩
    rw[yW (by unfold vC;kd_p;rfl)];rfl
  ·obtain⟨us,a,b,rfl⟩:=QC ts (by omega)
   have hlu:us.length+2=n+1:=by simp at h1;omega
   have m:=dW (i:=(((us++[a]).map Tr.d).length:Int)) (j:=4) (by decide)
   obtain⟨s,hs⟩:=sg2 _ m.1 m.2
   obtain⟨t,z,e1,e2,e3⟩:=ih (us++[.op s a b]) (some b.d) (by simp;omega) (by omega) (by omega) (fun t ht=>by
    rcases xbf.mp ht with h|h
    ·exact hg t (by simp[h])
    ·rw[xbc.mp h];exact⟨hg a (by simp),hg b (by simp)⟩)
   refine⟨t,z,?_,e2,by rw[e3,nF,nF,nF];show gU us+(a.many+b.many)=_;omega⟩
   rw[uG (U':=[some C,some (.lst (ns.map .str)),some (.lst ((us++[Tr.op s a b]).map Tr.d)),z3,z4,some b.d]) ?_ ?_,e1]
   ·unfold vC;kd_p
    rw[xaj (by simp;omega)]
   ·unfold AI OP
    rw[cV,BJ (xs:=(us++[a]).map Tr.d) (d:=b.d) (by rw[xa3 (l₂:=[b])];rfl),iB]
    show rJ [2] 2 2 _ (aA 5) [some C,some (.lst (ns.map .str)),some (.lst ((us++[a]).map Tr.d)),z3,z4,some b.d]=_
    rw[xa3] at m hs ⊢
    rw[show [a].map Tr.d=[a.d] from rfl] at *
    rw[zdo (d1:=.str s.str) ?_ rfl (by simp;omega)]
    ·rw[xa3];rfl
    ·kd_p
     rw[iC _ _ (by decide)];kd_p
     exact hs
include hn hp in
theorem zdN(cs:List Int)(h1:cs≠[])(h2:cs.length<=1000):∃t:Tr,pB [.lst (cs.map .int),.lst (ns.map .str)]=.ok t.d/\gT t/\t.many<=cs.length:=by
 rw[zcT];unfold vD OS OR OQ;kd_p
 have turn:∀(j:Nat) (d:D) (U:DSt),(cs.map D.int)[j]? = some d->(∃(ts:List Tr) (z3 z4 z5:Option D),U=[some (.lst (cs.map .int)),some (.lst (ns.map .str)),some (.lst (ts.map Tr.d)),z3,z4,z5]/\(0<j->ts≠[])/\gU ts<=j/\∀t∈ts,gT t)->
   ∃U',(mY (U.set 3 (some d))=.ok (.nx U')\/mY (U.set 3 (some d))=.ok (.ct U'))/\∃(ts:List Tr) (z3 z4 z5:Option D),U'=[some (.lst (cs.map .int)),some (.lst (ns.map .str)),some (.lst (ts.map Tr.d)),z3,z4,z5]/\(0<j+1->ts≠[])/\gU ts<=j+1/\∀t∈ts,gT t:=by
  rintro j d U hd ⟨ts,z3,z4,z5,rfl,h0,hm,hg⟩
  have hj:j<cs.length:=by
   have:=(xam.mp hd).1
   simpa using this
  have hlt:=BL ts
  obtain⟨c,rfl⟩:∃c,d=.int c:=by
   rw[xbj,xa7 hj] at hd
   exact⟨_,(xas hd).symm⟩
  obtain⟨dg,e,hl,hb⟩:=rX c 6 (by decide)
  have e:dU [.int c,.int 6]=.ok (.lst (dg.map .int)):=e
  obtain⟨d0,g0,a0,b0⟩:=fW dg hb 0 (by omega)
  obtain⟨d1,g1,a1,b1⟩:=fW dg hb 1 (by omega)
  have g0:aF (.lst (dg.map .int)) (.int 0)=.ok (.int d0):=g0
  have g1:aF (.lst (dg.map .int)) (.int 1)=.ok (.int d1):=g1
  have set4:∀g,eX (hV [2] 4 (aQ dU (aB (aA 3) (aB (eC (.int 6)) aE))) [some (.lst (cs.map .int)),some (.lst (ns.map .str)),some (.lst (ts.map Tr.d)),some (.int c),z4,z5]) g=g [some (.lst (cs.map .int)),some (.lst (ns.map .str)),some (.lst (ts.map Tr.d)),some (.int c),some (.lst (dg.map .int)),z5]:=fun g=>by
   rw[rB,show aQ dU (aB (aA 3) (aB (eC (.int 6)) aE)) (mask [2] [some (.lst (cs.map .int)),some (.lst (ns.map .str)),some (.lst (ts.map Tr.d)),some (.int c),z4,z5])=.ok (.lst (dg.map .int)) from e,oN];rfl
  show ∃U',(mY [some (.lst (cs.map .int)),some (.lst (ns.map .str)),some (.lst (ts.map Tr.d)),some (.int c),z4,z5]=.ok (.nx U')\/mY [some (.lst (cs.map .int)),some (.lst (ns.map .str)),some (.lst (ts.map Tr.d)),some (.int c),z4,z5]=.ok (.ct U'))/\_
  unfold mY
  rw[cV,set4]
  have push:∃U',(iU [2] 2 (aQ kL (aB (aA 4) (aB (aA 1) aE))) [some (.lst (cs.map .int)),some (.lst (ns.map .str)),some (.lst (ts.map Tr.d)),some (.int c),some (.lst (dg.map .int)),z5]=.ok (.nx U')\/iU [2] 2 (aQ kL (aB (aA 4) (aB (aA 1) aE))) [some (.lst (cs.map .int)),some (.lst (ns.map .str)),some (.lst (ts.map Tr.d)),some (.int c),some (.lst (dg.map .int)),z5]=.ok (.ct U'))/\
    ∃(ts:List Tr) (z3 z4 z5:Option D),U'=[some (.lst (cs.map .int)),some (.lst (ns.map .str)),some (.lst (ts.map Tr.d)),z3,z4,z5]/\(0<j+1->ts≠[])/\gU ts<=j+1/\∀t∈ts,gT t:=by
   obtain⟨t,et,gt,mt⟩:=zdL dg hl hb ns hn hp
   refine⟨_,.inl ?_,ts++[t],some (.int c),some (.lst (dg.map .int)),z5,rfl,by simp,by rw[nF,mt];omega,fun u hu=>?_⟩
   ·rw[oM,show aX [some (.lst (cs.map .int)),some (.lst (ns.map .str)),some (.lst (ts.map Tr.d)),some (.int c),some (.lst (dg.map .int)),z5] 2=.ok (ts.map Tr.d) from rfl,
     show aQ kL (aB (aA 4) (aB (aA 1) aE)) (mask [2] [some (.lst (cs.map .int)),some (.lst (ns.map .str)),some (.lst (ts.map Tr.d)),some (.int c),some (.lst (dg.map .int)),z5])=.ok t.d from et,qZ _ _ _ _ (by simp;omega),xa3];rfl
   ·rcases xbf.mp hu with h|h
    ·exact hg u h
    ·rw[xbc.mp h];exact gt
  unfold ON;kd_p
  by_cases hlen:1<ts.length
  ·rw[xaj (by simp;omega)];kd_p
   rw[g0];kst_p1
   by_cases he:d0%2=0
   ·rw[xaj he];kd_p
    obtain⟨us,a,b,rfl⟩:=QC ts hlen
    have m:=dW (i:=d1) (j:=4) (by decide)
    obtain⟨s,hs⟩:=sg1 _ m.1 m.2
    refine⟨_,.inl ?_,us++[.op s a b],some (.int c),some (.lst (dg.map .int)),some b.d,rfl,by simp,?_,fun u hu=>?_⟩
    ·unfold OM OL
     rw[cV,BJ (xs:=us.map Tr.d++[a.d]) (d:=b.d) (by rw[xa3,xa3];rfl),iB]
     show rF [2] 2 2 _ (aA 5) [some (.lst (cs.map .int)),some (.lst (ns.map .str)),some (.lst (us.map Tr.d++[a.d])),some (.int c),some (.lst (dg.map .int)),some b.d]=_
     rw[zdn (d1:=.str s.str) ?_ (by simp only[xav,xak,xaw,xb6] at hlt ⊢;omega)]
     ·rw[xa3];rfl
     ·kd_p
      rw[g1];kst_p1
      exact hs
    ·rw[nF]
     rw[nF,nF] at hm
     show gU us+(a.many+b.many)<=_
     omega
    ·rcases xbf.mp hu with h|h
     ·exact hg u (by simp[h])
     ·rw[xbc.mp h];exact⟨hg a (by simp),hg b (by simp)⟩
   ·rw[xar he];kd_p
    exact push
  ·rw[xar (by simp;omega)];kd_p
   exact push
 obtain⟨U',e,ts,z3,z4,z5,rfl,hne,hm,hg⟩:=yV (i:=3) (fb:=mY) _ _ turn [some (.lst (cs.map .int)),some (.lst (ns.map .str)),some (.lst []),none,none,none] ⟨[],none,none,none,rfl,by simp,by simp[gU],by simp⟩
 rw[xak] at hne hm
 rw[e];kd_p
 have hc:0<cs.length:=List.length_pos_iff.mpr h1
 obtain⟨t,z,e1,e2,e3⟩:=zdM (.lst (cs.map .int)) ns z3 z4 ts.length ts z5 rfl (List.length_pos_iff.mpr (hne hc)) (by have:=BL ts;omega) hg
 rw[e1];kd_p
 exact⟨t,rfl,e2,by omega⟩
end
end LmNc
open L2 DL Mir
namespace Lk59
open Mth LmP LmA LmD LmJ LmSa LmWa LmWb LmWc LmWf LmQb LmQc LmQd LmQe LmNe LmNf LmNc
open LmC (cell pL)
def gW:List Str->List (Int×Int)->Str->Option (Int×Int)
 |n::ns,v::vs,x=>if n=x then some v else gW ns vs x
 |_,_,_=>none
theorem BS:∀{ns:List Str} {vs:List (Int×Int)} {x:Str} {v:Int×Int},gW ns vs x=some v->∃j,vs[j]? = some v/\∀k:Nat,kO k ns x=some ((k+j:Nat):Int)
 |[],_,_,_,h=>by unfold gW at h;cases h
 |_::_,[],_,_,h=>by unfold gW at h;cases h
 |n::ns,w::vs,x,v,h=>by
  unfold gW at h
  by_cases e:n=x
  ·rw[xao e] at h;cases h
   exact⟨0,rfl,fun k=>by unfold kO;rw[xao e];rfl⟩
  ·rw[xal e] at h
   obtain⟨j,h1,h2⟩:=BS h
   refine⟨j+1,h1,fun k=>?_⟩
   unfold kO
   rw[xal e,h2 (k+1)]
   congr 2
   omega
theorem QR:∀(ns:List Str) (vs:List (Int×Int)) (x:Str),ns.length=vs.length->dH (ns.map Sum.inr) (vs.map fr) (.inr x)=(gW ns vs x).map fr
 |[],[],_,_=>rfl
 |[],_::_,_,h=>by cases h
 |_::_,[],_,h=>by cases h
 |n::ns,v::vs,x,h=>by
  show (if (Sum.inr n:Key)=.inr x then some (fr v) else dH (ns.map Sum.inr) (vs.map fr) (.inr x))=_
  unfold gW
  by_cases e:n=x
  ·rw[xao (congrArg Sum.inr e),xao e];rfl
  ·rw[xal (fun z=>e (Sum.inr.inj z)),xal e,QR ns vs x (by simpa using h)]
theorem QS:∀(ns:List Str) (vs:List (Int×Int)),ns.length=vs.length->kD (lE (ns.map .str) (vs.map fr))=some (ns,vs.map fr)
 |[],[],_=>rfl
 |[],_::_,h=>by cases h
 |_::_,[],h=>by cases h
 |n::ns,v::vs,h=>by
  have:=QS ns vs (by simpa using h)
  show (rL (.tup [.str n,fr v])).bind (fun x=>(kD (lE (ns.map .str) (vs.map fr))).bind fun r=>some (x.1::r.1,x.2::r.2))=_
  rw[this];rfl
def I3:M3:=((1,0,0),(0,1,0),(0,0,1))
theorem zdO(p:P3):mul I3 p=p:=by
 unfold mul I3 dot
 obtain⟨a,b,c⟩:=p
 simp
theorem bI:BM 10 I3:=by
 have h0:B 10 0:=B.of (k:=1) (by decide)
 have h1:B 10 1:=B.of (k:=1) (by decide)
 exact⟨⟨h1,h0,h0⟩,⟨h0,h1,h0⟩,⟨h0,h0,h1⟩⟩
theorem dI:bM I3≠0:=by decide
abbrev st(S N T m k:D)(ls:List Str)(vs:List (Int×Int))(z8 z9 z10 z11 z12 z13:Option D):DSt:=[some S,some N,some T,some (.lst (ls.map .str)),some (.lst (vs.map fr)),some (.dct (ls.map Sum.inr) (vs.map fr)),some m,some k,z8,z9,z10,z11,z12,z13]
theorem zdP(ls:List Str):eD (.lst (ls.map .str)) (.lst (ls.map .str))=.ok (.bl false):=by
 have h:bX 9 (.lst (ls.map D.str))=true:=by
  rw[show bX 9 (.lst (ls.map D.str))=(ls.map D.str).all (bX 8) from by unfold bX;rfl,xbn]
  intro d hd
  obtain⟨x,_,rfl⟩:=xcb.mp hd
  rfl
 unfold eD gK
 rw[h,xU 9 _ h];rfl
theorem zdQ{S N T K:D}{m:M3}(hm:BM 10 m)(hd:bM m≠0){ls:List Str}{vs:List (Int×Int)}(hnd:iG ls=true)(hl:ls.length=vs.length)(hl2:vs.length<=100)(hv:∀v∈vs,Fr 40 v/\cY (v.1,0,v.2)){t:Tr}(hN:iK t)(h9:t.many<=9)(z9 z10 z11 z12 z13:Option D) :
  ∃y9 y10 y11 y12 y13,A0 (st S N T (cD m) K ls vs (some t.d) z9 z10 z11 z12 z13)=.ok (.nx (st S N T (cD m) K ls vs (some t.d) y9 y10 y11 y12 y13)):=by
 have mem:∀x v,gW ls vs x=some v->v∈vs:=fun x v h=>by
  obtain⟨j,h1,_⟩:=BS h
  exact xbo h1
 have hF:∀v∈vs,Fr 40 v:=fun v h=>(hv v h).1
 have en:En (ls.map Sum.inr) (vs.map fr) (gW ls vs):=⟨fun x=>QR ls vs x hl,fun x v h=>hF v (mem x v h)⟩
 have hno:∀(m:M3) x v,gW ls vs x=some v->∃n,kO 4 ls x=some n/\At (mf m) (c9 m vs,[]) false n (v.1,0,v.2):=fun m x v h=>by
  obtain⟨j,h1,h2⟩:=BS h
  have hj:j<vs.length:=(xam.mp h1).1
  have fv:=hF v (mem x v h)
  exact⟨_,h2 4,LmSb.nz_z (by have:=fv.pos;show v.2≠0;omega),4+j,rfl,by show 4+j<(c9 m vs).length;rw[vV];omega,zdF m vs j v h1,fun _=>trivial⟩
 have e1:rV [t.d,.dct (ls.map Sum.inr) (vs.map fr)]=.ok (nB (c8 (gW ls vs) t)):=BH en t 64 hN (by omega) (by omega)
 unfold A0
 rw[cV,fK,show aQ rV (aB (aA 8) (aB (aA 5) aE)) (st S N T (cD m) K ls vs (some t.d) z9 z10 z11 z12 z13)=_ from e1]
 show ∃y9 y10 y11 y12 y13,AZ (st S N T (cD m) K ls vs (some t.d) (some (nB (c8 (gW ls vs) t))) z10 z11 z12 z13)=_
 unfold AZ
 cases hx:c8 (gW ls vs) t with
 |none=>exact⟨some .non,z10,z11,z12,z13,rfl⟩
 |some v=>
  have fv:=kN en hN hx
  have nv:=zdJ (fun x v h=>(hv v (mem x v h)).2) en t v hN hx
  have bv:BP 380 (v.1,0,v.2):=⟨fv.p.mono (by omega),(show B 380 (0:Int) from B.of (k:=1) (by decide)),fv.q.mono (by omega)⟩
  have nz:Nz (v.1,0,v.2):=LmSb.nz_z (by have:=fv.pos;show v.2≠0;omega)
  obtain⟨r,sk',_,hr,_⟩:=vU (vW hm hd hF).1 en (hno m) t _ _ v (QN hm hd hF) (Le.refl _) hN h9 hx
  have e2:mW [t.d,.lst (ls.map .str)]=.ok (.tup [.lst (sk'.plan.map Sk.deedD),.int r]):=by
   rw[zdr (t:=t) (ns:=ls) hN (by omega) (by omega) hnd,hl,hr];rfl
  have p1:=QO bI dI hF (show vs.length<=900 by omega) en (hno I3) hN h9 hx hr
  have p2:=QO hm hd hF (show vs.length<=900 by omega) en (hno m) hN h9 hx hr
  rw[zdO,nv.low] at p1
  have f1:=QL bI dI hF (show vs.length<=1000 by omega)
  have f2:=QL hm hd hF (show vs.length<=1000 by omega)
  have e3:=QJ hm bv (by decide) hd nz
  refine⟨some (fr v),some (.lst (ls.map .str)),some (.tup [.lst (sk'.plan.map Sk.deedD),.int r]),some (.lst ((c9 I3 vs).map aI)),some (aI (low (mul m (v.1,0,v.2)))),?_⟩
  show AY (st S N T (cD m) K ls vs (some t.d) (some (fr v)) z10 z11 z12 z13)=_
  unfold AY
  rw[cV,fK,show bH (oG oH (aB (aA 3) aE)) (st S N T (cD m) K ls vs (some t.d) (some (fr v)) z10 z11 z12 z13)=.ok (.lst (ls.map .str)) from rfl]
  show AX (st S N T (cD m) K ls vs (some t.d) (some (fr v)) (some (.lst (ls.map .str))) z11 z12 z13)=_
  unfold AX
  rw[cV,fK,show aQ mW (aB (aA 8) (aB (aA 10) aE)) (st S N T (cD m) K ls vs (some t.d) (some (fr v)) (some (.lst (ls.map .str))) z11 z12 z13)=_ from e2]
  show AW (st S N T (cD m) K ls vs (some t.d) (some (fr v)) (some (.lst (ls.map .str))) (some (.tup [.lst (sk'.plan.map Sk.deedD),.int r])) z12 z13)=_
  unfold AW
  rw[cV,fK,show aQ kM (aB (bH (bW (aB (bH (bW (aB (eC (.int 1)) (aB (eC (.int 0)) (aB (eC (.int 0)) aE))))) (aB (bH (bW (aB (eC (.int 0)) (aB (eC (.int 1)) (aB (eC (.int 0)) aE))))) (aB (bH (bW (aB (eC (.int 0)) (aB (eC (.int 0)) (aB (eC (.int 1)) aE))))) aE))))) (aB (aA 4) aE)) (st S N T (cD m) K ls vs (some t.d) (some (fr v)) (some (.lst (ls.map .str))) (some (.tup [.lst (sk'.plan.map Sk.deedD),.int r])) z12 z13)=_ from f1]
  show AV (st S N T (cD m) K ls vs (some t.d) (some (fr v)) (some (.lst (ls.map .str))) (some (.tup [.lst (sk'.plan.map Sk.deedD),.int r])) (some (.lst ((c9 I3 vs).map aI))) z13)=_
  unfold AV
  have c1:aR (aC eD (aA 10) (aA 3)) (st S N T (cD m) K ls vs (some t.d) (some (fr v)) (some (.lst (ls.map .str))) (some (.tup [.lst (sk'.plan.map Sk.deedD),.int r])) (some (.lst ((c9 I3 vs).map aI))) z13)=.ok false:=by
   show qX (eD (.lst (ls.map .str)) (.lst (ls.map .str)))=_
   rw[zdP];rfl
  have c2:dX (aR (aQ jM (aB (aA 11) (aB (aA 12) (aB (dM (aB (aC aF (aA 9) (eC (.int 0))) (aB (eC (.int 0)) (aB (aC aF (aA 9) (eC (.int 1))) aE)))) aE))))) (st S N T (cD m) K ls vs (some t.d) (some (fr v)) (some (.lst (ls.map .str))) (some (.tup [.lst (sk'.plan.map Sk.deedD),.int r])) (some (.lst ((c9 I3 vs).map aI))) z13)=.ok false:=by
   show uC (qX (jM [.tup [.lst (sk'.plan.map Sk.deedD),.int r],.lst ((c9 I3 vs).map aI),aI (v.1,0,v.2)]))=_
   rw[p1];rfl
  rw[cV,oK,oI,c1,oJ,c2,qY,qS,iB]
  unfold PQ
  rw[cV,fK,show aQ iX (aB (aA 6) (aB (dM (aB (aC aF (aA 9) (eC (.int 0))) (aB (eC (.int 0)) (aB (aC aF (aA 9) (eC (.int 1))) aE)))) aE)) (st S N T (cD m) K ls vs (some t.d) (some (fr v)) (some (.lst (ls.map .str))) (some (.tup [.lst (sk'.plan.map Sk.deedD),.int r])) (some (.lst ((c9 I3 vs).map aI))) z13)=_ from e3]
  show AU (st S N T (cD m) K ls vs (some t.d) (some (fr v)) (some (.lst (ls.map .str))) (some (.tup [.lst (sk'.plan.map Sk.deedD),.int r])) (some (.lst ((c9 I3 vs).map aI))) (some (aI (low (mul m (v.1,0,v.2))))))=_
  unfold AU
  have c3:aQ kM (aB (aA 6) (aB (aA 4) aE)) (st S N T (cD m) K ls vs (some t.d) (some (fr v)) (some (.lst (ls.map .str))) (some (.tup [.lst (sk'.plan.map Sk.deedD),.int r])) (some (.lst ((c9 I3 vs).map aI))) (some (aI (low (mul m (v.1,0,v.2))))))=.ok (.lst ((c9 m vs).map aI)):=f2
  have c4:aQ jM (aB (aA 11) (aB (aQ kM (aB (aA 6) (aB (aA 4) aE))) (aB (aA 13) aE))) (st S N T (cD m) K ls vs (some t.d) (some (fr v)) (some (.lst (ls.map .str))) (some (.tup [.lst (sk'.plan.map Sk.deedD),.int r])) (some (.lst ((c9 I3 vs).map aI))) (some (aI (low (mul m (v.1,0,v.2))))))=.ok (.bl true):=by
   rw[qU,jF,jF,c3]
   exact p2
  rw[oK,yK,yI,c4];rfl
theorem zdR{ds:List D}{e:DSt->R D}{U:DSt}(P:Int×Int->Prop)(hl:ds.length<=1000)(h:∀d∈ds,∃v,e (some d::U)=.ok (fr v)/\P v):∃vs:List (Int×Int),j9 1 [0] (.ok ds) bK cQ e U=.ok (vs.map fr)/\vs.length=ds.length/\∀v∈vs,P v:=by
 have:∃g:D->Int×Int,∀d∈ds,e (some d::U)=.ok (fr (g d))/\P (g d):=by
  refine⟨fun d=>open Classical in if h:∃p,e (some d::U)=.ok (fr p)/\P p then h.choose else default,fun d hd=>?_⟩
  have hx:=h d hd
  simp only[dif_pos hx]
  exact hx.choose_spec
 obtain⟨g,hg⟩:=this
 refine⟨ds.map g,?_,by simp,fun p hp=>?_⟩
 ·rw[K9 (g:=fun d=>fr (g d)) (by omega) (fun d hd=>(hg d hd).1),xcw];rfl
 ·obtain⟨d,hd,rfl⟩:=xcb.mp hp
  exact(hg d hd).2
theorem QT(ns:List Int){T:D}{m:M3}(hm:BM 10 m)(hd:bM m≠0){xs ls:List Str}(h6:xs.length=6)(hp:∀x∈xs,Pn x){vs:List (Int×Int)}(hnd:iG ls=true)(hl:ls.length=vs.length)(hl2:vs.length<=100)(hv:∀v∈vs,Fr 40 v/\cY (v.1,0,v.2))(k:Nat)(hk:k<=9)(h1:1<=k)(z8 z9 z10 z11 z12 z13:Option D) :
  ∃y8 y9 y10 y11 y12 y13,mZ (st (.lst (ns.map .int)) (.lst (xs.map .str)) T (cD m) (.int (k:Int)) ls vs z8 z9 z10 z11 z12 z13)=.ok (.nx (st (.lst (ns.map .int)) (.lst (xs.map .str)) T (cD m) (.int (k:Int)) ls vs y8 y9 y10 y11 y12 y13)):=by
 obtain⟨cs,ec,hc⟩:∃cs:List Int,((ns.map D.int).drop (min 1 (ns.map D.int).length)).take (min k (ns.map D.int).length-min 1 (ns.map D.int).length)=cs.map D.int/\cs.length<=8:=by
  refine⟨(ns.drop (min 1 (ns.map D.int).length)).take (min k (ns.map D.int).length-min 1 (ns.map D.int).length),by rw[List.map_take,List.map_drop],?_⟩
  rw[xb3,xca,xak]
  omega
 have hadd:bL (.lst (cs.map D.int)) (.lst [.int 1])=.ok (.lst ((cs++[1]).map .int)):=by
  show (bif dR ((cs.map D.int).length+1) then R.ok (D.lst (cs.map D.int++[.int 1])) else .bad)=_
  rw[show dR ((cs.map D.int).length+1)=true from xaj (by rw[xak];exact xa1 (show cs.length+1<=63 by omega) (by decide)),xa3];rfl
 obtain⟨t,et,hg,hmn⟩:=zdN (xs.take 5) (by rw[xb3];omega) (fun x hx=>hp x (List.mem_of_mem_take hx)) (cs++[1]) (by simp) (by simp;omega)
 rw[xav] at hmn
 have hmn:t.many<=cs.length+1:=hmn
 have e1:aQ pB (aB (aC bL (eG (aA 0) (dO (eC (.int 1))) (dO (aA 7))) (bH (bW (aB (eC (.int 1)) aE)))) (aB (eG (aA 1) fQ (dO (eC (.int 5)))) aE)) (st (.lst (ns.map .int)) (.lst (xs.map .str)) T (cD m) (.int (k:Int)) ls vs z8 z9 z10 z11 z12 z13)=.ok t.d:=by
  rw[qU,jF,qT,LmX.eSl_mid _ _ _ _ (ns.map D.int) 1 k rfl rfl rfl,ec,show bH (bW (aB (eC (.int 1)) aE)) (st (.lst (ns.map .int)) (.lst (xs.map .str)) T (cD m) (.int (k:Int)) ls vs z8 z9 z10 z11 z12 z13)=.ok (.lst [.int 1]) from rfl,lC,hadd,jF,Lk42.eSl_to _ _ _ (xs.map D.str) 5 rfl rfl,<- List.map_take]
  exact et
 obtain⟨y9,y10,y11,y12,y13,e2⟩:=zdQ (S:=.lst (ns.map .int)) (N:=.lst (xs.map .str)) (T:=T) (K:=.int (k:Int)) hm hd hnd hl hl2 hv hg.nums (by omega) z9 z10 z11 z12 z13
 refine⟨some t.d,y9,y10,y11,y12,y13,?_⟩
 unfold mZ
 rw[cV,fK,e1]
 exact e2
theorem zdS(ns:List Int){T:D}{m:M3}(hm:BM 10 m)(hd:bM m≠0){xs ls:List Str}(h6:xs.length=6)(hp:∀x∈xs,Pn x){vs:List (Int×Int)}(hnd:iG ls=true)(hl:ls.length=vs.length)(hl2:vs.length<=100)(hv:∀v∈vs,Fr 40 v/\cY (v.1,0,v.2)) :
  fin (A4 [some (.lst (ns.map .int)),some (.lst (xs.map .str)),some T,some (.lst (ls.map .str)),some (.lst (vs.map fr)),some (.dct (ls.map Sum.inr) (vs.map fr)),some (cD m),none,none,none,none,none,none,none])=.ok (.bl true):=by
 obtain⟨a8,a9,a10,a11,a12,a13,e1⟩:=QT ns (T:=T) hm hd h6 hp hnd hl hl2 hv 3 (by decide) (by decide) none none none none none none
 obtain⟨b8,b9,b10,b11,b12,b13,e2⟩:=QT ns (T:=T) hm hd h6 hp hnd hl hl2 hv 9 (by decide) (by decide) a8 a9 a10 a11 a12 a13
 unfold A4
 show fin (eX (jH (mZ (st (.lst (ns.map .int)) (.lst (xs.map .str)) T (cD m) (.int ((3:Nat):Int)) ls vs none none none none none none)) (eP [7] bK mZ [.int 9])) A1)=_
 rw[e1,rE]
 show fin (eX (jH (mZ (st (.lst (ns.map .int)) (.lst (xs.map .str)) T (cD m) (.int ((9:Nat):Int)) ls vs a8 a9 a10 a11 a12 a13)) (eP [7] bK mZ [])) A1)=_
 rw[e2,rE]
 rfl
theorem BT:∀{ns:List Str},ns.Nodup->iG ns=true
 |[],_=>rfl
 |n::ns,h=>by
  obtain⟨h1,h2⟩:=xbv.mp h
  unfold iG
  rw[BT h2,Bool.and_true]
  simpa using h1
theorem law_ok(ns:List Int)(h:ns.length<=63):vP [.lst (ns.map .int)]=.ok (.bl true):=by
 obtain⟨xs,ex,h6,hnd,hp⟩:=zdH (cell ns 0)
 obtain⟨dg,ed,hl,hb⟩:=rX (cell ns 0) 12 (by decide)
 have ed:dU [.int (cell ns 0),.int 12]=.ok (.lst (dg.map .int)):=ed
 obtain⟨d7,g7,a7,b7⟩:=fW dg hb 7 (by omega)
 have g7:aF (.lst (dg.map .int)) (.int 7)=.ok (.int d7):=g7
 have m7:=dW (i:=d7) (j:=6) (by decide)
 obtain⟨j,hj⟩:∃j:Nat,d7%6=(j:Int):=⟨(d7%6).toNat,by omega⟩
 have c0:fV [.lst (ns.map .int),.int 0]=.ok (.int (cell ns 0)):=pL ns 0
 obtain⟨m,em,hd,hm⟩:=zdE (cell ns 50) (cell ns 51) (cell ns 52)
 rw[zc2]
 unfold vO
 rw[cV,fK,show aQ pA (aB (aQ fV (aB (aA 0) (aB (eC (.int 0)) aE))) (aB (eC (.int 6)) aE)) [some (.lst (ns.map .int)),none,none,none,none,none,none,none,none,none,none,none,none,none]=.ok (.lst (xs.map .str)) from by kd_p;rw[c0];kd_p;rw[ex],oN,iB]
 show fin (A9 [some (.lst (ns.map .int)),some (.lst (xs.map .str)),none,none,none,none,none,none,none,none,none,none,none,none])=_
 unfold A9
 rw[cV,fK,show aC bY (aC aF (aQ dU (aB (aQ fV (aB (aA 0) (aB (eC (.int 0)) aE))) (aB (eC (.int 12)) aE))) (eC (.int 7))) (eC (.int 6)) [some (.lst (ns.map .int)),some (.lst (xs.map .str)),none,none,none,none,none,none,none,none,none,none,none,none]=.ok (.int (j:Int)) from by
  kd_p
  rw[c0];kd_p
  rw[ed];kd_p
  rw[g7];kst_p1
  rw[hj],oN,iB]
 show fin (A8 [some (.lst (ns.map .int)),some (.lst (xs.map .str)),some (.int (j:Int)),none,none,none,none,none,none,none,none,none,none,none])=_
 unfold A8
 have hadd:bL (.lst ((xs.drop j).map D.str)) (.lst ((xs.take j).map .str))=.ok (.lst ((xs.drop j++xs.take j).map .str)):=by
  show (bif dR (((xs.drop j).map D.str).length+((xs.take j).map D.str).length) then R.ok (D.lst ((xs.drop j).map D.str++(xs.take j).map D.str)) else .bad)=_
  rw[show dR (((xs.drop j).map D.str).length+((xs.take j).map D.str).length)=true from xaj (by rw[xak,xak,xca,xb3];exact xa1 (show _<=1000 by omega) (by decide)),xa3];rfl
 rw[cV,fK,show aC bL (eG (aA 1) (dO (aA 2)) fQ) (eG (aA 1) fQ (dO (aA 2))) [some (.lst (ns.map .int)),some (.lst (xs.map .str)),some (.int (j:Int)),none,none,none,none,none,none,none,none,none,none,none]=.ok (.lst ((xs.drop j++xs.take j).map .str)) from by
  rw[qT,LmL.eSl_from _ _ _ (xs.map D.str) j rfl rfl,Lk42.eSl_to _ _ _ (xs.map D.str) j rfl rfl,lC,<- List.map_drop,<- List.map_take,hadd],oN,iB]
 have hln:(xs.drop j++xs.take j).length=6:=by rw[xav,xca,xb3];omega
 have hpm:(xs.drop j++xs.take j).Nodup:=by
  refine(List.perm_append_comm.nodup_iff).mpr ?_
  rw[List.take_append_drop];exact hnd
 generalize xs.drop j++xs.take j=ls at hln hpm
 show fin (A7 [some (.lst (ns.map .int)),some (.lst (xs.map .str)),some (.int (j:Int)),some (.lst (ls.map .str)),none,none,none,none,none,none,none,none,none,none])=_
 unfold A7
 obtain⟨vs,e4,hvl,hv⟩:∃vs:List (Int×Int),dZ 1 [0] (fZ fH (aB (eC (.int 6)) aE)) bK cQ (aQ pE (aB (aQ fV (aB (aA 1) (aB (aC bL (eC (.int 41)) (aA 0)) aE))) (aB (aA 0) aE))) [some (.lst (ns.map .int)),some (.lst (xs.map .str)),some (.int (j:Int)),some (.lst (ls.map .str)),none,none,none,none,none,none,none,none,none,none]=.ok (vs.map fr)/\vs.length=6/\∀v∈vs,Fr 40 v/\cY (v.1,0,v.2):=by
  rw[kA,show fZ fH (aB (eC (.int 6)) aE) [some (.lst (ns.map .int)),some (.lst (xs.map .str)),some (.int (j:Int)),some (.lst (ls.map .str)),none,none,none,none,none,none,none,none,none,none]=.ok ((List.range 6).map fun i:Nat=>.int (i:Int)) from rfl]
  refine zdR (fun v=>Fr 40 v/\cY (v.1,0,v.2)) (by decide) fun d hd=>?_
  obtain⟨i,_,rfl⟩:=xcb.mp hd
  obtain⟨v,ev,f1,f2⟩:=zdK (cell ns (41+i)) (i:Int)
  refine⟨v,?_,f1,f2⟩
  kd_p
  rw[show fV [.lst (ns.map .int),.int (41+(i:Int))]=.ok (.int (cell ns (41+i))) from by
   have:=pL ns (41+i)
   rw[show (((41+i:Nat)):Int)=41+(i:Int) by omega] at this
   exact this];kd_p
  exact ev
 rw[cV,rB,show mask [] [some (.lst (ns.map .int)),some (.lst (xs.map .str)),some (.int (j:Int)),some (.lst (ls.map .str)),none,none,none,none,none,none,none,none,none,none]=[some (.lst (ns.map .int)),some (.lst (xs.map .str)),some (.int (j:Int)),some (.lst (ls.map .str)),none,none,none,none,none,none,none,none,none,none] from rfl,iW,e4]
 show fin (A6 [some (.lst (ns.map .int)),some (.lst (xs.map .str)),some (.int (j:Int)),some (.lst (ls.map .str)),some (.lst (vs.map fr)),none,none,none,none,none,none,none,none,none])=_
 unfold A6
 have hz:uQ (aB (aA 3) (aB (aA 4) aE)) [some (.lst (ns.map .int)),some (.lst (xs.map .str)),some (.int (j:Int)),some (.lst (ls.map .str)),some (.lst (vs.map fr)),none,none,none,none,none,none,none,none,none]=.ok (lE (ls.map .str) (vs.map fr)):=by
  show (bif (ls.map D.str).length==(vs.map fr).length then R.ok (lE (ls.map .str) (vs.map fr)) else .bad)=_
  rw[xak,xak,hln,hvl];rfl
 have hdict:bD jK (aB (bH (uQ (aB (aA 3) (aB (aA 4) aE)))) aE) [some (.lst (ns.map .int)),some (.lst (xs.map .str)),some (.int (j:Int)),some (.lst (ls.map .str)),some (.lst (vs.map fr)),none,none,none,none,none,none,none,none,none]=.ok (.dct (ls.map Sum.inr) (vs.map fr)):=by
  rw[qV,jF,iW,hz]
  show (jK [.lst (lE (ls.map .str) (vs.map fr))]).noerr=_
  unfold jK
  simp only[QS ls vs (by omega),BT hpm,cond_true];rfl
 rw[cV,fK,hdict]
 show fin (A5 [some (.lst (ns.map .int)),some (.lst (xs.map .str)),some (.int (j:Int)),some (.lst (ls.map .str)),some (.lst (vs.map fr)),some (.dct (ls.map Sum.inr) (vs.map fr)),none,none,none,none,none,none,none,none])=_
 unfold A5
 have c5:aQ pG (aB (bH (dZ 1 [0] (fZ fH (aB (eC (.int 3)) aE)) bK cQ (aQ fV (aB (aA 1) (aB (aC bL (eC (.int 50)) (aA 0)) aE))))) aE) [some (.lst (ns.map .int)),some (.lst (xs.map .str)),some (.int (j:Int)),some (.lst (ls.map .str)),some (.lst (vs.map fr)),some (.dct (ls.map Sum.inr) (vs.map fr)),none,none,none,none,none,none,none,none]=.ok (cD m):=by
  rw[qU,jF,iW,kA,show fZ fH (aB (eC (.int 3)) aE) [some (.lst (ns.map .int)),some (.lst (xs.map .str)),some (.int (j:Int)),some (.lst (ls.map .str)),some (.lst (vs.map fr)),some (.dct (ls.map Sum.inr) (vs.map fr)),none,none,none,none,none,none,none,none]=.ok [.int ((0:Nat):Int),.int ((1:Nat):Int),.int ((2:Nat):Int)] from rfl,
   LmF.lc_3 (x:=.int (cell ns 50)) (y:=.int (cell ns 51)) (z:=.int (cell ns 52)) (pL ns 50) (pL ns 51) (pL ns 52)]
  exact em
 rw[cV,fK,c5]
 exact zdS ns hm hd h6 hp (BT hpm) (by omega) (by omega) hv
end Lk59
end
section
namespace Kx
open L2 DL Mir
local macro_rules | `(tactic| kd_p1)=>`(tactic| (first|exact Or.inl rfl|exact Or.inr (Or.inl rfl)|exact Or.inr (Or.inr rfl)))
local macro_rules | `(tactic| kcj_m)=>`(tactic| (first|exact Or.inl rfl|exact Or.inr rfl))
local macro_rules | `(tactic| kcf_m)=>`(tactic| (first|exact .inl rfl|exact .inr rfl|assumption))
local macro_rules | `(tactic| walk_at "C")=>`(tactic| first|assumption|exact XC.lc (by assumption) _ _ _ _ _ _|exact XC.nox (by assumption))
local macro_rules | `(tactic| walk_at "H")=>`(tactic| first|assumption|exact XC.calm (by walk_at "C")|rfl)
local macro_rules | `(tactic| walk_at "F")=>`(tactic| first|exact oB|exact xZ|exact l9|exact YS|exact t7|exact x0|exact EZ (by walk_at "C")|exact YV (by walk_at "C")|exact zab (by walk_at "C")|exact zac (by walk_at "C")|exact zaQ (by walk_at "C"))
local macro_rules | `(tactic| walk_at "E")=>`(tactic| first|((with_reducible refine @EA _ _ _ _ _ ?_ ?_ ?_ ?_);rfl;(first|exact Or.inl rfl|exact Or.inr (Or.inl rfl)|exact Or.inr (Or.inr rfl));decide;decide)|((with_reducible refine @gZ _ _ _ _ _))|((with_reducible refine @eM _ _ _ _ _ _ ?_ ?_ ?_);walk_at "E";walk_at "E";rfl)|((with_reducible refine @EF _ _ _ _ _ _ _ ?_ ?_ ?_);walk_at "E";walk_at "E";(intro _ _;rfl))|((with_reducible refine @gG _ _))|((with_reducible refine @EG _ _ _ _ _ _ _ _ _ _ (by walk_at "C") ?_ ?_ ?_ ?_ ?_ ?_);walk_at "H";walk_at "E";rfl;decide;rfl;rfl)|((with_reducible refine @YM _ _ _ _ _ _ _ ?_ ?_);walk_at "E";walk_at "E")|((with_reducible refine @YO _ _ _ _ _ _ _ ?_ ?_);walk_at "E";walk_at "E")|((with_reducible refine @XN _ _ _ _ _ ?_);walk_at "E")|((with_reducible refine @fJ _ _ _ _ _ _ _ _ _ ?_ ?_ ?_ ?_);walk_at "F";walk_at "E";walk_at "E";(first|exact dA _ (by decide) (by decide)|rfl))|((with_reducible refine @tK _ _ _ _ _))|((with_reducible refine @DF.val _ _ _ _ ?_);walk_at "E")|((with_reducible refine @EV _ _ _ _ _ _ _ ?_ ?_);walk_at "E";walk_at "E")|((with_reducible refine @XM _ _ _ _ _ _ ?_);walk_at "E")|((with_reducible refine @Y2 _ _ _ _ _ _ _ ?_ ?_ ?_ ?_ ?_);walk_at "H";walk_at "E";rfl;rfl;rfl)|((with_reducible refine @YL _ _ _ _ _ _ _ ?_ ?_);walk_at "E";walk_at "E")|((with_reducible refine @XT _ _ _ _ _ ?_);walk_at "E")|((with_reducible refine @YN _ _ _ _ _ _ _ ?_ ?_);walk_at "E";walk_at "E")|((with_reducible refine @ZP _ _ _ _ ?_);walk_at "E")|((with_reducible refine @ZQ _ _ _ _ _ _ _ _ _ _ ?_ ?_ ?_);walk_at "E";walk_at "E";walk_at "E")|((with_reducible refine @XW _ _ _ _ _ _ _ ?_ ?_ ?_ ?_);walk_at "H";walk_at "E";rfl;rfl)|((with_reducible refine @ZO _ _))|((with_reducible refine @YQ _ _ _ _ _ _ _ ?_ ?_);walk_at "E";walk_at "E")|((with_reducible refine @ZW _ _ _ _ _ ?_ ?_ ?_);walk_at "H";rfl;decide)|((with_reducible refine @zag _ _ _ _ _ _ _ ?_ ?_ ?_);walk_at "E";walk_at "E";(intro _ _;rfl))|((with_reducible refine @xG _ _ _ _ _ ?_);walk_at "E")|((with_reducible refine @nY _ _ _ _))|((with_reducible refine @n6 _ _ _ _ _ ?_);walk_at "E")|((with_reducible refine @W7 _ _ _ _ _))|((with_reducible refine @xF _ _ _ _ _ ?_);walk_at "E")|((with_reducible refine @DW.dt _ _ _ _ ?_);walk_at "E")|((with_reducible refine @tL _ _ _ _ _ _ _ _ ?_ ?_);walk_at "E";walk_at "E")|((with_reducible refine @E2 _ _ _ _ _ _ _ _ _ ?_ ?_ ?_ ?_);walk_at "F";walk_at "E";walk_at "E";(first|exact dA _ (by decide) (by decide)|rfl))|((with_reducible refine @Y5 _ _ _ _ _ _ _ ?_ ?_ ?_ ?_ ?_);walk_at "H";walk_at "E";rfl;rfl;rfl)|((with_reducible refine @YR _ _ _ _ _ ?_);walk_at "E")|((with_reducible refine @ZJ _ _ _ _ _ _ _ ?_ ?_ ?_ ?_ ?_);walk_at "H";walk_at "E";rfl;rfl;rfl)|((with_reducible refine @j0 _ _ _ _ _ _ _ _ ?_ ?_);walk_at "E";walk_at "E")|((with_reducible refine @ZF _ _ _ _ _ _ _ ?_ ?_ ?_ ?_ ?_);walk_at "H";walk_at "E";rfl;rfl;rfl)|((with_reducible refine @zaR _ _ _ _ _ _ _ (by walk_at "C") ?_ ?_ _ _ ?_ ?_ ?_ ?_);walk_at "E";walk_at "E";rfl;rfl;rfl;rfl)|((with_reducible refine @zbg _ _ _ _ _ _ _ _ _ _ _ _ ?_ ?_ ?_ ?_ ?_ ?_ ?_ ?_ ?_);walk_at "H";walk_at "E";walk_at "E";rfl;rfl;rfl;rfl;rfl;rfl)|((with_reducible refine @zaO _ _ _ _ _ _ _ _ (by walk_at "C") ?_ ?_ ?_);walk_at "E";walk_at "E";(intro _ _;rfl))|((with_reducible refine @MM _ _ _ _ _ _ ?_ ?_ ?_ ?_ ?_ ?_);walk_at "H";walk_at "H";walk_at "E";rfl;rfl;rfl)|((with_reducible refine @zbv _ _ _ _ _ _ _ _ _ _ (by walk_at "C") ?_ ?_ ?_ ?_ ?_ ?_ ?_ ?_);walk_at "H";walk_at "H";walk_at "E";rfl;rfl;rfl;rfl;rfl)|((with_reducible refine @pZ _ _ _ _ ?_ ?_);walk_at "E";(intro _;rfl))|((with_reducible refine @EC _ _ _ _ _ _ ?_);walk_at "E")|((refine @gZ _ _ _ _ _))|((refine @fJ _ _ _ _ _ _ _ _ _ ?_ ?_ ?_ ?_);walk_at "F";walk_at "E";walk_at "E";(first|exact dA _ (by decide) (by decide)|rfl))|((refine @tK _ _ _ _ _))|((refine @xG _ _ _ _ _ ?_);walk_at "E")|((refine @n6 _ _ _ _ _ ?_);walk_at "E")|((refine @xF _ _ _ _ _ ?_);walk_at "E")|((refine @DW.dt _ _ _ _ ?_);walk_at "E")|((refine @tL _ _ _ _ _ _ _ _ ?_ ?_);walk_at "E";walk_at "E")|((refine @j0 _ _ _ _ _ _ _ _ ?_ ?_);walk_at "E";walk_at "E")|((refine @pZ _ _ _ _ ?_ ?_);walk_at "E";(intro _;rfl)))
local macro_rules | `(tactic| walk_at "GS")=>`(tactic| first|exact @SA _|((refine @SB _ _ _ _ _ ?_ ?_ ?_);((refine @wA _ _ _ _ ?_ ?_ ?_ ?_);assumption;rfl;(first|exact Or.inl rfl|exact Or.inr rfl);(first|exact .inl rfl|exact .inr rfl|assumption));walk_at "GS";rfl))
local macro_rules | `(tactic| walk_at "G")=>`(tactic| first|((with_reducible refine @XR _ _ _ _ ?_ ?_ ?_ ?_);assumption;rfl;(first|exact Or.inl rfl|exact Or.inr rfl);(first|exact .inl rfl|exact .inr rfl|assumption))|((with_reducible refine @XS _ _ _ _ _ _ ?_ ?_ ?_ ?_ ?_);walk_at "H";walk_at "GS";rfl;rfl;rfl))
local macro_rules | `(tactic| kst_p)=>`(tactic| exact @qI _ _ _ _ _ _ _ _ _ (by assumption) (by walk_at "E") (by rfl) (by kcj_m) (by rfl) (by kcf_m))
local macro_rules | `(tactic| walk_at "s3")=>`(tactic| exact @qG _ _ _ _ _ _ _ _ (by walk_at "E"))
local macro_rules | `(tactic| walk_at "s5")=>`(tactic| exact @X4 _ _ _ _ _ _ _ _ _ _ _ (by assumption) (by walk_at "E") (by rfl) (by rfl) (by kcj_m) (by rfl) (by kcf_m))
local macro_rules | `(tactic| walk_at "s1")=>`(tactic| exact @X3 _ _ _ _ _ _ _ _ _ _ (by assumption) (by walk_at "E") (by rfl) (by rfl) (by kcj_m) (by rfl) (by kcf_m))
local macro_rules | `(tactic| walk_at "s7")=>`(tactic| exact @xS _ _ _ _ _ _ _ _ _ _ _ _ (by walk_at "E") (by rfl) (by rfl) (by kd_p1) (by decide) (by decide) (by rfl) (by rfl) (by rfl) (by rfl) (by rfl) (by rfl))
local macro_rules | `(tactic| walk_at "s9")=>`(tactic| exact @X8 _ _ _ _ _ _ _ _ _ _ (by walk_at "E") (by walk_at "G") (by rfl) (by rfl) (by rfl) (by rfl))
local macro_rules | `(tactic| walk_at "sU")=>`(tactic| exact @zaW _ _ _ _ _ _ _ _ _ _ _ _ (by walk_at "E") (by rfl) (by rfl) (by kd_p1) (by decide) (by decide) (by rfl) (by rfl) (by rfl) (by rfl) (by rfl) (by rfl))
local macro_rules | `(tactic| kst_p2)=>`(tactic| exact(@dG _ _ _ _ _ _ _ (by walk_at "s3")))
local macro_rules | `(tactic| walk_at "I3")=>`(tactic| exact(@gJ _ _ _ _ _ _ _ _ _ _ _ _ (by walk_at "E") (by kst_p2) (@iR _ _ _ _)))
set_option maxHeartbeats 4000000
variable{P:Program}{w:World}{K:xFg}{mg:Str->Option Value}{base:Heap}{f:Addr}{fd:FuncData}{k:Nat}
local macro_rules | `(tactic| kpf_c)=>`(tactic| exact⟨rfl,rfl,rfl,by decide +kernel,rfl,by decide +kernel,by decide +kernel⟩)
local macro_rules | `(tactic| walk_at "b0")=>`(tactic| exact fun _ _ _ _ _ _=>us0 (rfl))
local macro_rules | `(tactic| walk_at "b1")=>`(tactic| exact fun _ _ _ _ _ _=>kC (fun _=>rfl))
local macro_rules | `(tactic| walk_at "b2")=>`(tactic| exact fun _ _ _ _ _ _=>oP (fun _ _=>rfl))
local macro_rules | `(tactic| walk_at "b3")=>`(tactic| exact fun _ _ _ _ _ _=>iE (fun _ _ _=>rfl))
local macro_rules | `(tactic| walk_at "b4")=>`(tactic| exact fun _ _ _ _ _ _=>us4 (fun _ _ _ _=>rfl))
local macro_rules | `(tactic| walk_at "b5")=>`(tactic| exact fun _ _ _ _ _ _=>us5 (fun _ _ _ _ _=>rfl))
def top(i:Nat):Stmt:=PySem.Challenge.pw_chalkline_k59_sums_drawn.main.body.getD i (.Pass ⟨0,0,0,0⟩)
theorem zdT(F:FA K mg "_law_mixed" (top 16) ["_law_cell_here","_law_k"] f fd):aU P w K mg base (k+1) "_law_mixed" o9:=F.ok (own':=[]) (N:=["_law_cell_here","_law_k","_law_number"]) (by kpf_c) rfl rfl fun _ _ _ _ _ _ C L nd=>(@aO _ _ _ _ _ _ _ _ _ _ (by kst_p) (@aO _ _ _ _ _ _ _ _ _ _ (by kst_p) (@aO _ _ _ _ _ _ _ _ _ _ (by kst_p) (by kst_p2))))
theorem zdU(F:FA K mg "_law_digits" (top 17) ["_law_cell_here","_law_many"] f fd)(q1:mg "range"=none)(q0:aU P w K mg base k "_law_mixed" o9):aU P w K mg base (k+1) "_law_digits" dU:=F.ok (own':=[]) (N:=["_law_cell_here","_law_many","_law_found","_law_number","_law_k"]) (by kpf_c) rfl rfl fun _ _ _ _ _ _ C L nd=>(@aO _ _ _ _ _ _ _ _ _ _ (by walk_at "s5") (@aO _ _ _ _ _ _ _ _ _ _ (by walk_at "s1") (@aO _ _ _ _ _ _ _ _ _ _ (@l7 _ _ _ _ _ _ _ _ _ _ _ _ L C.calm (by walk_at "E") (by walk_at "G") (@dG _ _ _ _ _ _ _ (@gJ _ _ _ _ _ _ _ _ _ _ _ _ (@DW.dt _ _ _ _ (@tL _ _ _ _ _ _ _ _ (by walk_at "E") (@xF _ _ _ _ _ (@fJ _ _ _ _ _ _ _ _ _ (@l9 _) (by walk_at "E") (@gZ _ _ _ _ _) (by first|exact dA _ (by decide) (by decide)|rfl))))) (@aO _ _ _ _ _ _ _ _ _ _ (by walk_at "s7") (@dG _ _ _ _ _ _ _ (by walk_at "s1"))) (@dG _ _ _ _ _ _ _ (by walk_at "s7")))) (by rfl) (by intro _;rfl)) (@k8 _ _ _ _ _ _ _ _ 2 (by rfl) (by rfl) (by kst_p2)))))
theorem zdV(F:FA K mg "_law_words" (top 20) ["_law_cell_here","_law_many"] f fd)(q1:mg "range"=none)(q0:aU P w K mg base k "_law_digits" dU):aU P w K mg base (k+1) "_law_words" pA:=F.ok (own':=[]) (N:=["_law_cell_here","_law_many","_law_letters","_law_digits_here","_law_tail","_law_j"]) (by kpf_c) rfl rfl fun _ _ _ _ _ _ C L nd=>(@aO _ _ _ _ _ _ _ _ _ _ (by kst_p) (@aO _ _ _ _ _ _ _ _ _ _ (by kst_p) (@aO _ _ _ _ _ _ _ _ _ _ (by kst_p) (@aO _ _ _ _ _ _ _ _ _ _ (@l7 _ _ _ _ _ _ _ _ _ _ _ _ L C.calm (by walk_at "E") (by walk_at "G") (@dG _ _ _ _ _ _ _ (by kst_p)) (by rfl) (by intro _;rfl)) (@aO _ _ _ _ _ _ _ _ _ _ (by walk_at "I3") (@dG _ _ _ _ _ _ _ (@qG _ _ _ _ _ _ _ _ (@DF.val _ _ _ _ (@k7 _ _ _ _ _ _ _ _ _ _ _ _ _ _ _ C.calm (LC.of (k:=1) (NY:=["_law_k","_law_cell_here","_law_many","_law_letters","_law_digits_here","_law_tail","_law_j"]) (N:=["_law_cell_here","_law_many","_law_letters","_law_digits_here","_law_tail","_law_j"]) (sc0:=(aZ (top 20))) rfl rfl (by decide +kernel)) rfl (by walk_at "E") (fun _ _ _ _ nd2=>⟨(by walk_at "G"),(@k6 _ _),(by walk_at "E")⟩) (by intro _;rfl))))))))))
theorem zdW(F:FA K mg "_law_change" (top 26) ["_law_cells"] f fd)(q0:aU P w K mg base k "_law_digits" dU):aU P w K mg base (k+1) "_law_change" pG:=F.ok (own':=[]) (N:=["_law_cells","_law_rows","_law_cell_here","_law_digits_here","_law_a","_law_b","_law_c","_law_first","_law_second"]) (by kpf_c) rfl rfl fun _ _ _ _ _ _ C L nd=>(@aO _ _ _ _ _ _ _ _ _ _ (by walk_at "s5") (@aO _ _ _ _ _ _ _ _ _ _ (@l7 _ _ _ _ _ _ _ _ _ _ _ _ L C.calm (by walk_at "E") (by walk_at "G") (@aO _ _ _ _ _ _ _ _ _ _ (by walk_at "s1") (@dG _ _ _ _ _ _ _ (@xS _ _ _ _ _ _ _ _ 1 _ _ _ (@DF.val _ _ _ _ (@k7 _ _ _ _ _ _ _ _ _ _ _ _ _ _ _ C.calm (LC.of (k:=1) (NY:=["_law_digit","_law_cells","_law_rows","_law_cell_here","_law_digits_here","_law_a","_law_b","_law_c","_law_first","_law_second"]) (N:=["_law_cells","_law_rows","_law_cell_here","_law_digits_here","_law_a","_law_b","_law_c","_law_first","_law_second"]) (sc0:=(aZ (top 26))) rfl rfl (by decide +kernel)) rfl (by walk_at "E") (fun _ _ _ _ nd2=>⟨(by walk_at "G"),(@k6 _ _),(by walk_at "E")⟩) (by intro _;rfl))) (by rfl) (by rfl) (by kd_p1) (by decide) (by decide) (by rfl) (by rfl) (by rfl) (by rfl) (by rfl) (by rfl)))) (by rfl) (by intro _;rfl)) (@k8 _ _ _ _ _ _ _ _ 1 (by rfl) (by rfl) (@aO _ _ _ _ _ _ _ _ _ _ (by walk_at "s9") (@aO _ _ _ _ _ _ _ _ _ _ (by kst_p) (@aO _ _ _ _ _ _ _ _ _ _ (by kst_p) (@aO _ _ _ _ _ _ _ _ _ _ (by walk_at "I3") (by kst_p2))))))))
theorem zdX(F:FA K mg "_law_cell" (top 14) ["_law_script","_law_k"] f fd)(q0:mg "len"=none):aU P w K mg base (k+1) "_law_cell" fV:=F.ok (own':=[]) (N:=["_law_script","_law_k"]) (by kpf_c) rfl rfl fun _ _ _ _ _ _ C L nd=>(@aO _ _ _ _ _ _ _ _ _ _ (@gJ _ _ _ _ _ _ _ _ _ _ _ _ (@fJ _ _ _ _ _ _ _ _ _ (@oB _) (by walk_at "E") (by walk_at "E") (by first|exact dA _ (by decide) (by decide)|rfl)) (by kst_p2) (@iR _ _ _ _)) (by kst_p2))
theorem zdY(F:FA K mg "_law_divisor" (top 18) ["_law_one","_law_other"] f fd)(q0:mg "abs"=none):aU P w K mg base (k+1) "_law_divisor" kJ:=F.ok (own':=[]) (N:=["_law_one","_law_other"]) (by kpf_c) rfl rfl fun _ _ _ _ _ _ C L nd=>(@aO _ _ _ _ _ _ _ _ _ _ (by kst_p) (@aO _ _ _ _ _ _ _ _ _ _ (by kst_p) (@aO _ _ _ _ _ _ _ _ _ _ (@xT _ _ _ _ _ _ _ _ _ L (@fJ _ _ _ _ _ _ _ _ _ (@l9 _) (by walk_at "E") (@gZ _ _ _ _ _) (by first|exact dA _ (by decide) (by decide)|rfl)) (@dG _ _ _ _ _ _ _ (@X9 _ _ _ _ _ 0 1 _ _ _ _ _ _ _ _ _ _ _ C.calm nd (by walk_at "E") (by decide) (by rfl) (by rfl) (by rfl) (by rfl) (by rfl) (by rfl) (by rfl)))) (by kst_p2))))
theorem zdZ(F:FA K mg "_law_low" (top 23) ["_law_top","_law_bottom"] f fd)(q0:aU P w K mg base k "_law_divisor" kJ):aU P w K mg base (k+1) "_law_low" fN:=F.ok (own':=[]) (N:=["_law_top","_law_bottom","_law_share"]) (by kpf_c) rfl rfl fun _ _ _ _ _ _ C L nd=>(@aO _ _ _ _ _ _ _ _ _ _ (by kst_p) (@aO _ _ _ _ _ _ _ _ _ _ (@gJ _ _ _ _ _ _ _ _ _ _ _ _ (@fJ _ _ _ _ _ _ _ _ _ (@oB _) (by walk_at "E") (@gZ _ _ _ _ _) (by first|exact dA _ (by decide) (by decide)|rfl)) (@dG _ _ _ _ _ _ _ (by kst_p)) (@iR _ _ _ _)) (by kst_p2)))
theorem zd0(F:FA K mg "_law_fraction" (top 25) ["_law_cell_here","_law_k"] f fd)(q0:aU P w K mg base k "_law_digits" dU)(q1:aU P w K mg base k "_law_low" fN):aU P w K mg base (k+1) "_law_fraction" pE:=F.ok (own':=[]) (N:=["_law_cell_here","_law_k","_law_digits_here"]) (by kpf_c) rfl rfl fun _ _ _ _ _ _ C L nd=>(@aO _ _ _ _ _ _ _ _ _ _ (by kst_p) (@aO _ _ _ _ _ _ _ _ _ _ (by walk_at "I3") (by kst_p2)))
theorem zd1(F:FA K mg "_law_leaf" (top 21) ["_law_digits_here","_law_names"] f fd)(q0:mg "len"=none):aU P w K mg base (k+1) "_law_leaf" kL:=F.ok (own':=[]) (N:=["_law_digits_here","_law_names"]) (by kpf_c) rfl rfl fun _ _ _ _ _ _ C L nd=>(@aO _ _ _ _ _ _ _ _ _ _ (@gJ _ _ _ _ _ _ _ _ _ _ _ _ (@fJ _ _ _ _ _ _ _ _ _ (@l9 _) (by walk_at "E") (@gZ _ _ _ _ _) (by first|exact dA _ (by decide) (by decide)|rfl)) (by kst_p2) (@iR _ _ _ _)) (@aO _ _ _ _ _ _ _ _ _ _ (by walk_at "I3") (by kst_p2)))
theorem zd2(F:FA K mg "_law_tree" (top 22) ["_law_cells","_law_names"] f fd)(q2:mg "len"=none)(q0:aU P w K mg base k "_law_digits" dU)(q1:aU P w K mg base k "_law_leaf" kL):aU P w K mg base (k+1) "_law_tree" pB:=F.ok (own':=[]) (N:=["_law_cells","_law_names","_law_stack","_law_cell_here","_law_digits_here","_law_other"]) (by kpf_c) rfl rfl fun _ _ _ _ _ _ C L nd=>(@aO _ _ _ _ _ _ _ _ _ _ (by walk_at "s5") (@aO _ _ _ _ _ _ _ _ _ _ (@l7 _ _ _ _ _ _ _ _ _ _ _ _ L C.calm (by walk_at "E") (by walk_at "G") (@aO _ _ _ _ _ _ _ _ _ _ (by walk_at "s1") (@dG _ _ _ _ _ _ _ (@gJ _ _ _ _ _ _ _ _ _ _ _ _ (@DW.dt _ _ _ _ (@tL _ _ _ _ _ _ _ _ (@fJ _ _ _ _ _ _ _ _ _ (@l9 _) (by walk_at "E") (@gZ _ _ _ _ _) (by first|exact dA _ (by decide) (by decide)|rfl)) (by walk_at "E"))) (@aO _ _ _ _ _ _ _ _ _ _ (@zB _ _ _ _ _ _ _ _ _ 2 5 _ _ nd (by rfl) (by rfl) (by rfl) (by rfl) (by kd_p1) (by decide) (by decide) (by kcj_m) (by rfl) (by rfl) (by rfl) (by kcf_m)) (@dG _ _ _ _ _ _ _ (@zau _ _ _ _ _ _ _ _ _ _ _ _ _ 2 2 _ _ _ _ _ _ (by walk_at "E") (by walk_at "E") (by rfl) (by rfl) (by rfl) (by rfl) (by kd_p1) (by decide) (by decide) (by kd_p1) (by decide) (by decide) (by rfl) (by rfl) (by rfl) (by rfl) (by rfl) (by rfl) (by rfl) (by rfl) (by rfl) (by rfl) (by rfl)))) (@dG _ _ _ _ _ _ _ (by walk_at "s7"))))) (by rfl) (by intro _;rfl)) (@aO _ _ _ _ _ _ _ _ _ _ (@xT _ _ _ _ _ _ _ _ _ L (@fJ _ _ _ _ _ _ _ _ _ (@l9 _) (by walk_at "E") (@gZ _ _ _ _ _) (by first|exact dA _ (by decide) (by decide)|rfl)) (@aO _ _ _ _ _ _ _ _ _ _ (@zB _ _ _ _ _ _ _ _ _ 2 5 _ _ nd (by rfl) (by rfl) (by rfl) (by rfl) (by kd_p1) (by decide) (by decide) (by kcj_m) (by rfl) (by rfl) (by rfl) (by kcf_m)) (@dG _ _ _ _ _ _ _ (@zaS _ _ _ _ _ _ _ _ _ _ _ _ _ 2 2 _ _ _ _ _ _ (by walk_at "E") (by walk_at "E") (by rfl) (by rfl) (by rfl) (by rfl) (by kd_p1) (by decide) (by decide) (by kd_p1) (by decide) (by decide) (by rfl) (by rfl) (by rfl) (by rfl) (by rfl) (by rfl) (by rfl) (by rfl) (by rfl) (by rfl) (by rfl))))) (@k8 _ _ _ _ _ _ _ _ 2 (by rfl) (by rfl) (by kst_p2)))))
theorem zd3(F:FA K mg "_law_worth" (top 24) ["_law_tree_here","_law_values"] f fd)(q0:aU P w K mg base k "_law_low" fN):aU P w K mg base (k+1+64) "_law_worth" rV:=show aU P w K mg base (k+1+64) "_law_worth" (uK (fun m=>cE 2 4 (lI m)) 64) from F.deep (own':=[]) (N:=["_law_tree_here","_law_values","_law_one","_law_other"]) (by kpf_c) rfl rfl (fun j m F__law_worth _ _ _ _ _ _ C L nd=>have q0:=aU.mono q0 (show k<=k+1+j by omega);(@aO _ _ _ _ _ _ _ _ _ _ (by walk_at "I3") (@aO _ _ _ _ _ _ _ _ _ _ (by walk_at "I3") (@aO _ _ _ _ _ _ _ _ _ _ (by kst_p) (@aO _ _ _ _ _ _ _ _ _ _ (by kst_p) (@aO _ _ _ _ _ _ _ _ _ _ (@gJ _ _ _ _ _ _ _ _ _ _ _ _ (@DW.dt _ _ _ _ (@j0 _ _ _ _ _ _ _ _ (@fJ _ _ _ _ _ _ _ _ _ (@t7 _) (by walk_at "E") (@nY _ _ _ _) (by first|exact dA _ (by decide) (by decide)|rfl)) (@j0 _ _ _ _ _ _ _ _ (@fJ _ _ _ _ _ _ _ _ _ (@t7 _) (by walk_at "E") (@nY _ _ _ _) (by first|exact dA _ (by decide) (by decide)|rfl)) (by walk_at "E")))) (by kst_p2) (@iR _ _ _ _)) (@aO _ _ _ _ _ _ _ _ _ _ (by walk_at "I3") (@aO _ _ _ _ _ _ _ _ _ _ (by walk_at "I3") (@aO _ _ _ _ _ _ _ _ _ _ (by walk_at "I3") (by kst_p2)))))))))) 64
theorem zd4(F:FA K mg "parts_of" (top 8) ["expression"] f fd)(q1:mg "len"=none)(q0:∃u v,mg "SIGNS"=some u/\aJ v u/\∀G,aS K mg G kI v):aU P w K mg base (k+1) "parts_of" iH:=F.ok (own':=[]) (N:=["expression","parts","waiting","part"]) (by kpf_c) rfl rfl fun _ _ _ _ _ _ C L nd=>(@aO _ _ _ _ _ _ _ _ _ _ (by walk_at "s5") (@aO _ _ _ _ _ _ _ _ _ _ (by walk_at "s5") (@aO _ _ _ _ _ _ _ _ _ _ (@xT _ _ _ _ _ _ _ _ _ L (@fJ _ _ _ _ _ _ _ _ _ (@l9 _) (by walk_at "E") (@gZ _ _ _ _ _) (by first|exact dA _ (by decide) (by decide)|rfl)) (@aO _ _ _ _ _ _ _ _ _ _ (@zB _ _ _ _ _ _ _ _ _ 2 3 _ _ nd (by rfl) (by rfl) (by rfl) (by rfl) (by kd_p1) (by decide) (by decide) (by kcj_m) (by rfl) (by rfl) (by rfl) (by kcf_m)) (@aO _ _ _ _ _ _ _ _ _ _ (by walk_at "s7") (@dG _ _ _ _ _ _ _ (@gJ _ _ _ _ _ _ _ _ _ _ _ _ (by walk_at "E") (@dG _ _ _ _ _ _ _ (by walk_at "sU")) (@iR _ _ _ _)))))) (@k8 _ _ _ _ _ _ _ _ 2 (by rfl) (by rfl) (@aO _ _ _ _ _ _ _ _ _ _ (@zat _ _ _ _ _ _ _ 1 _ _ (by rfl) (by rfl) (by kd_p1) (by decide) (by decide) (by rfl) (by rfl) (by rfl)) (@k8 _ _ _ _ _ _ _ _ 1 (by rfl) (by rfl) (by kst_p2)))))))
theorem zd5(F:FA K mg "sum_plan" (top 11) ["expression","names"] f fd){q4:Addr}(q5:mg "NoName"=some (.ref q4))(q6:PySem.W.excIn K q4 [.type "ValueError",.type "Exception",.type "BaseException",.type "object"] "ValueError.__new__"=true)(q7:jC K mg "NoName" q4){q10:Addr}(q11:Sk.SkG P w K mg base k q10)(q8:mg "dict"=none)(q0:mg "enumerate"=none)(q9:mg "len"=none)(q1:∃u v,mg "FRAME"=some u/\aJ v u/\∀G,aS K mg G jL v)(q2:∃u v,mg "SIGNS"=some u/\aJ v u/\∀G,aS K mg G kI v)(q3:aU P w K mg base k "parts_of" iH):aU P w K mg base (k+1) "sum_plan" mW:=F.ok (own':=[]) (N:=["expression","names","pegs","sketch","done","part","other","one"]) (by kpf_c) rfl rfl fun _ _ _ _ _ _ C L nd=>(@aO _ _ _ _ _ _ _ _ _ _ (@qI _ _ _ _ _ _ _ _ 2 nd (@MM _ _ _ _ _ _ C.calm q8 (@eM _ _ _ _ _ _ (@DF.val _ _ _ _ (@k7 _ _ _ _ _ _ _ _ _ _ _ _ _ _ _ C.calm (LC.of (k:=2) (NY:=["number","name","expression","names","pegs","sketch","done","part","other","one"]) (N:=["expression","names","pegs","sketch","done","part","other","one"]) (sc0:=(aZ (top 11))) rfl rfl (by decide +kernel)) rfl (by walk_at "E") (fun _ _ _ _ nd2=>⟨(by walk_at "G"),(@k6 _ _),(by walk_at "E")⟩) (by intro _;rfl))) (@gG _ _) (by rfl)) (by rfl) (by rfl) (by rfl)) (by rfl) (by kcj_m) (by rfl) (by kcf_m)) (@Sk.dss_sum _ _ _ _ _ _ _ _ _ _ _ 3 4 nd C q11 (by walk_at "E") (@Sk.j1_for _ _ _ _ _ _ _ _ 5 _ _ _ _ L C.calm (by walk_at "E") (by walk_at "G") (@Sk.js_one _ _ _ _ _ _ _ (@Sk.j1_if _ _ _ _ _ _ _ _ _ _ _ _ (by walk_at "E") (@Sk.js_cons _ _ _ _ _ _ _ _ _ (@Sk.j1_pop _ _ _ _ _ _ _ _ _ _ 6 _ _ nd (by rfl) (by rfl) (by rfl) (by kd_p1) (by decide) (by decide) (by kcj_m) (by rfl) (by rfl) (by rfl) (by kcf_m)) (@Sk.js_cons _ _ _ _ _ _ _ _ _ (@Sk.j1_pop _ _ _ _ _ _ _ _ _ _ 7 _ _ nd (by rfl) (by rfl) (by rfl) (by kd_p1) (by decide) (by decide) (by kcj_m) (by rfl) (by rfl) (by rfl) (by kcf_m)) (@Sk.js_one _ _ _ _ _ _ _ (@Sk.j1_drawn _ _ _ _ _ _ _ _ _ _ _ _ _ _ _ _ _ _ _ _ _ C q11 (by walk_at "E") (by walk_at "E") (by walk_at "E") (by rfl) (by rfl) (by kd_p1) (by decide) (by decide) (by kd_p1) (by decide) (by decide) (by rfl) (by rfl) (by rfl) (by rfl) (by rfl) (by rfl) (by rfl) (by rfl) (by rfl) (by rfl) (by rfl) (by rfl))))) (@Sk.js_one _ _ _ _ _ _ _ (@Sk.j1_if _ _ _ _ _ _ _ _ _ _ _ _ (by walk_at "E") (@Sk.js_one _ _ _ _ _ _ _ (@Sk.j1_whole _ _ _ _ _ _ _ _ _ _ _ _ _ _ _ _ _ _ C q11 (by walk_at "E") (by rfl) (by rfl) (by kd_p1) (by decide) (by decide) (by kd_p1) (by decide) (by decide) (by rfl) (by rfl) (by rfl) (by rfl) (by rfl) (by rfl) (by rfl) (by rfl) (by rfl))) (@Sk.js_one _ _ _ _ _ _ _ (@Sk.j1_if _ _ _ _ _ _ _ _ _ _ _ _ (by walk_at "E") (@Sk.js_one _ _ _ _ _ _ _ (@Sk.j1_app _ _ _ _ _ _ _ _ _ _ _ _ (by walk_at "E") (by rfl) (by kd_p1) (by decide) (by decide) (by rfl) (by rfl) (by rfl) (by rfl) (by rfl) (by rfl))) (@Sk.js_one _ _ _ _ _ _ _ (@Sk.j1_raise _ _ _ _ _ _ _ (@ZT _ _ _ _ _ _ _ _ _ _ _ _ _ _ _ _ _ _ _ _ _ _ _ _ _ _ q6 q7 (by rfl) (by decide)))))))))) (by rfl) (by intro _;rfl)) _ _ _ _ _ _ _ _ _ _ _ _ _ _ _ _ (by rfl) (by rfl) (by rfl) (by kd_p1) (by kd_p1) (by kcj_m) (by kcj_m) (by kcf_m) (by kcf_m) (by rfl) (by rfl) (by rfl) (by rfl) (by rfl) (by rfl) (by exact fun _ _=>rfl) (by rfl) (by rfl)))
theorem zd6(F:FA K mg "_law_lowest" (top 19) ["_law_x","_law_y","_law_z"] f fd)(q0:aU P w K mg base k "_law_divisor" kJ):aU P w K mg base (k+1) "_law_lowest" kK:=F.ok (own':=[]) (N:=["_law_x","_law_y","_law_z","_law_share","_law_last"]) (by kpf_c) rfl rfl fun _ _ _ _ _ _ C L nd=>(@aO _ _ _ _ _ _ _ _ _ _ (by kst_p) (@aO _ _ _ _ _ _ _ _ _ _ (@qI _ _ _ _ _ _ _ _ 4 nd (@EF _ _ _ _ _ _ _ (@DF.val _ _ _ _ (@k7 _ _ _ _ _ _ _ _ _ _ _ _ _ _ _ C.calm (LC.of (k:=1) (NY:=["_law_number","_law_x","_law_y","_law_z","_law_share","_law_last"]) (N:=["_law_x","_law_y","_law_z","_law_share","_law_last"]) (sc0:=(aZ (top 19))) rfl rfl (by decide +kernel)) rfl (by walk_at "E") (fun _ _ _ _ nd2=>⟨(by walk_at "G"),(@XY _ _ _ _ (by walk_at "E")),(by walk_at "E")⟩) (by intro _;rfl))) (by walk_at "E") (by intro _ _;rfl)) (by rfl) (by kcj_m) (by rfl) (by kcf_m)) (@aO _ _ _ _ _ _ _ _ _ _ (@gJ _ _ _ _ _ _ _ _ _ _ _ _ (@fJ _ _ _ _ _ _ _ _ _ (@oB _) (by walk_at "E") (@gZ _ _ _ _ _) (by first|exact dA _ (by decide) (by decide)|rfl)) (@dG _ _ _ _ _ _ _ (by kst_p)) (@iR _ _ _ _)) (by kst_p2))))
theorem zd7(F:FA K mg "_law_led" (top 27) ["_law_rows","_law_place"] f fd)(q2:mg "sum"=none)(q1:mg "range"=none)(q0:aU P w K mg base k "_law_lowest" kK):aU P w K mg base (k+1) "_law_led" iX:=F.ok (own':=[]) (N:=["_law_rows","_law_place","_law_found","_law_row"]) (by kpf_c) rfl rfl fun _ _ _ _ _ _ C L nd=>(@aO _ _ _ _ _ _ _ _ _ _ (by walk_at "s5") (@aO _ _ _ _ _ _ _ _ _ _ (@l7 _ _ _ _ _ _ _ _ _ _ _ _ L C.calm (by walk_at "E") (by walk_at "G") (@dG _ _ _ _ _ _ _ (@xS _ _ _ _ _ _ _ _ 2 _ _ _ (@ZC _ _ _ _ _ _ _ C.calm q2 (@eM _ _ _ _ _ _ (@DF.val _ _ _ _ (@k7 _ _ _ _ _ _ _ _ _ _ _ _ _ _ _ C.calm (LC.of (k:=1) (NY:=["_law_k","_law_rows","_law_place","_law_found","_law_row"]) (N:=["_law_rows","_law_place","_law_found","_law_row"]) (sc0:=(aZ (top 27))) rfl rfl (by decide +kernel)) rfl (by walk_at "E") (fun _ _ _ _ nd2=>⟨(by walk_at "G"),(@k6 _ _),(by walk_at "E")⟩) (by intro _;rfl))) (@gG _ _) (by rfl)) (by rfl) (by rfl) (by rfl)) (by rfl) (by rfl) (by kd_p1) (by decide) (by decide) (by rfl) (by rfl) (by rfl) (by rfl) (by rfl) (by rfl))) (by rfl) (by intro _;rfl)) (@k8 _ _ _ _ _ _ _ _ 2 (by rfl) (by rfl) (by kst_p2))))
theorem zd8(F:FA K mg "_law_floor" (top 28) ["_law_rows","_law_fractions"] f fd)(q0:aU P w K mg base k "_law_led" iX):aU P w K mg base (k+1) "_law_floor" kM:=F.ok (own':=[]) (N:=["_law_rows","_law_fractions","_law_some"]) (by kpf_c) rfl rfl fun _ _ _ _ _ _ C L nd=>(@aO _ _ _ _ _ _ _ _ _ _ (@qI _ _ _ _ _ _ _ _ 2 nd (@EV _ _ _ _ _ _ _ (by walk_at "E") (@DF.val _ _ _ _ (@k7 _ _ _ _ _ _ _ _ _ _ _ _ _ _ _ C.calm (LC.of (k:=2) (NY:=["_law_top","_law_bottom","_law_rows","_law_fractions","_law_some"]) (N:=["_law_rows","_law_fractions","_law_some"]) (sc0:=(aZ (top 28))) rfl rfl (by decide +kernel)) rfl (by walk_at "E") (fun _ _ _ _ nd2=>⟨(by walk_at "G"),(@k6 _ _),(by walk_at "E")⟩) (by intro _;rfl)))) (by rfl) (by kcj_m) (by rfl) (by kcf_m)) (@dG _ _ _ _ _ _ _ (@qG _ _ _ _ _ _ _ _ (@DF.val _ _ _ _ (@k7 _ _ _ _ _ _ _ _ _ _ _ _ _ _ _ C.calm (LC.of (k:=1) (NY:=["_law_place","_law_rows","_law_fractions","_law_some"]) (N:=["_law_rows","_law_fractions","_law_some"]) (sc0:=(aZ (top 28))) rfl rfl (by decide +kernel)) rfl (by walk_at "E") (fun _ _ _ _ nd2=>⟨(by walk_at "G"),(@k6 _ _),(by walk_at "E")⟩) (by intro _;rfl))))))
theorem zd9(F:FA K mg "_law_cross" (top 29) ["_law_one","_law_other"] f fd)(q0:aU P w K mg base k "_law_lowest" kK):aU P w K mg base (k+1) "_law_cross" rW:=F.ok (own':=[]) (N:=["_law_one","_law_other","_law_x","_law_y","_law_z"]) (by kpf_c) rfl rfl fun _ _ _ _ _ _ C L nd=>(@aO _ _ _ _ _ _ _ _ _ _ (by kst_p) (@aO _ _ _ _ _ _ _ _ _ _ (by kst_p) (@aO _ _ _ _ _ _ _ _ _ _ (by kst_p) (@aO _ _ _ _ _ _ _ _ _ _ (by walk_at "I3") (by kst_p2)))))
theorem zea(F:FA K mg "_law_whole" (top 15) ["_law_found"] f fd)(q0:mg "isinstance"=none)(q2:mg "int"=none)(q1:mg "bool"=none):aU P w K mg base (k+1) "_law_whole" iI:=F.ok (own':=[]) (N:=["_law_found"]) (by kpf_c) rfl rfl fun _ _ _ _ _ _ C L nd=>(@dG _ _ _ _ _ _ _ (@qG _ _ _ _ _ _ _ _ (@xI _ _ _ _ _ _ _ _ (@qR _ _ _ _ _ _ _ q0 (@eM _ _ _ _ _ _ (by walk_at "E") (@eM _ _ _ _ _ _ (@pX _ _ _ _ _ q2 E3 (by rfl) (by decide) (by decide)) (@gG _ _) (by rfl)) (by rfl)) (by rfl) (by rfl) (by rfl)) (@EC _ _ _ _ _ _ (@XG _ _ _ _ _ (@qR _ _ _ _ _ _ _ q0 (@eM _ _ _ _ _ _ (by walk_at "E") (@eM _ _ _ _ _ _ (@pX _ _ _ _ _ q1 YZ (by rfl) (by decide) (by decide)) (@gG _ _) (by rfl)) (by rfl)) (by rfl) (by rfl) (by rfl)))))))
theorem zeb(F:FA K mg "_law_walked" (top 30) ["_law_floor_here","_law_plan"] f fd)(q4:mg "list"=none)(q0:mg "isinstance"=none)(q3:mg "tuple"=none)(q5:mg "len"=none)(q6:mg "int"=none)(q1:aU P w K mg base k "_law_whole" iI)(q2:aU P w K mg base k "_law_cross" rW):aU P w K mg base (k+1) "_law_walked" pI:=F.ok (own':=[]) (N:=["_law_floor_here","_law_plan","_law_places","_law_lines","_law_deed","_law_some","_law_number","_law_found"]) (by kpf_c) rfl rfl fun _ _ _ _ _ _ C L nd=>(@aO _ _ _ _ _ _ _ _ _ _ (by walk_at "s5") (@aO _ _ _ _ _ _ _ _ _ _ (by walk_at "s5") (@aO _ _ _ _ _ _ _ _ _ _ (@l7 _ _ _ _ _ _ _ _ _ _ _ _ L C.calm (by walk_at "E") (by walk_at "G") (@aO _ _ _ _ _ _ _ _ _ _ (@gJ _ _ _ _ _ _ _ _ _ _ _ _ (@DW.dt _ _ _ _ (@j0 _ _ _ _ _ _ _ _ (@n6 _ _ _ _ _ (@pZ _ _ _ _ (@qR _ _ _ _ _ _ _ q0 (@eM _ _ _ _ _ _ (by walk_at "E") (@eM _ _ _ _ _ _ (@pX _ _ _ _ _ q3 E4 (by rfl) (by decide) (by decide)) (@gG _ _) (by rfl)) (by rfl)) (by rfl) (by rfl) (by rfl)) (by intro _;rfl))) (by walk_at "E"))) (by kst_p2) (@iR _ _ _ _)) (@zap _ _ _ _ _ _ _ _ 2 3 5 _ _ _ _ _ _ _ _ _ _ nd (by walk_at "E") (@zbj _ _ _ _ _ _ _ _ _ 6 _ _ _ _ _ _ _ _ _ L C.calm (by walk_at "E") (by walk_at "G") (@DW.dt _ _ _ _ (@j0 _ _ _ _ _ _ _ _ (by walk_at "E") (@xG _ _ _ _ _ (@n6 _ _ _ _ _ (@YX _ _ _ _ _ _ _ _ _ _ _ _ _ (@xZ _) (@oB _) (@gZ _ _ _ _ _) (by walk_at "E") (by walk_at "E") (by with_unfolding_all rfl)))))) (@zao _ _ _ _ _ _ _ _ _ 7 _ _ _ _ nd (by walk_at "E") (@zan _ _ _ _ _ _ _ _ (@aO _ _ _ _ _ _ _ _ _ _ (@gJ _ _ _ _ _ _ _ _ _ _ _ _ (@fJ _ _ _ _ _ _ _ _ _ (@t7 _) (by walk_at "E") (@nY _ _ _ _) (by first|exact dA _ (by decide) (by decide)|rfl)) (by kst_p2) (@iR _ _ _ _)) (@dG _ _ _ _ _ _ _ (@zal _ _ _ _ _ _ _ _ _ _ _ 3 2 _ _ _ _ _ _ (by walk_at "E") (by walk_at "E") (by rfl) (by rfl) (by rfl) (by rfl) (by kd_p1) (by kd_p1) (by decide) (by decide) (by decide) (by decide) (by exact fun _ _=>rfl) (by rfl) (by rfl) (by rfl) (by rfl) (by rfl) (by rfl) (by rfl) (by rfl))))) (by rfl) (by rfl) (by kcj_m) (by rfl) (by kcf_m)) (by rfl) (by intro _;rfl)) (by rfl) (by rfl) (by rfl) (by rfl) (by kcj_m) (by kd_p1) (by kd_p1) (by decide) (by decide) (by decide) (by decide) (by exact fun _ _=>rfl) (by rfl) (by rfl) (by rfl) (by kcf_m))) (by rfl) (by intro _;rfl)) (@k8 _ _ _ _ _ _ _ _ 3 (by rfl) (by rfl) (@k8 _ _ _ _ _ _ _ _ 2 (by rfl) (by rfl) (by kst_p2))))))
theorem zec(F:FA K mg "_law_stands" (top 31) ["_law_found","_law_floor_here","_law_place"] f fd)(q1:mg "isinstance"=none)(q3:mg "tuple"=none)(q5:mg "len"=none)(q4:mg "list"=none)(q2:aU P w K mg base k "_law_whole" iI)(q0:aU P w K mg base k "_law_walked" pI):aU P w K mg base (k+1) "_law_stands" jM:=F.ok (own':=[]) (N:=["_law_found","_law_floor_here","_law_place","_law_places"]) (by kpf_c) rfl rfl fun _ _ _ _ _ _ C L nd=>(@aO _ _ _ _ _ _ _ _ _ _ (@gJ _ _ _ _ _ _ _ _ _ _ _ _ (@DW.dt _ _ _ _ (@j0 _ _ _ _ _ _ _ _ (@n6 _ _ _ _ _ (@pZ _ _ _ _ (@qR _ _ _ _ _ _ _ q1 (@eM _ _ _ _ _ _ (by walk_at "E") (@eM _ _ _ _ _ _ (@pX _ _ _ _ _ q3 E4 (by rfl) (by decide) (by decide)) (@gG _ _) (by rfl)) (by rfl)) (by rfl) (by rfl) (by rfl)) (by intro _;rfl))) (@j0 _ _ _ _ _ _ _ _ (by walk_at "E") (@j0 _ _ _ _ _ _ _ _ (@n6 _ _ _ _ _ (@pZ _ _ _ _ (@qR _ _ _ _ _ _ _ q1 (@eM _ _ _ _ _ _ (by walk_at "E") (@eM _ _ _ _ _ _ (@pX _ _ _ _ _ q4 bt_list (by rfl) (by decide) (by decide)) (@gG _ _) (by rfl)) (by rfl)) (by rfl) (by rfl) (by rfl)) (by intro _;rfl))) (by walk_at "E"))))) (by kst_p2) (@iR _ _ _ _)) (@aO _ _ _ _ _ _ _ _ _ _ (by kst_p) (@dG _ _ _ _ _ _ _ (@qG _ _ _ _ _ _ _ _ (@xI _ _ _ _ _ _ _ _ (@E2 _ _ _ _ _ _ _ _ _ (@x0 _) (by walk_at "E") (@nY _ _ _ _) (by first|exact dA _ (by decide) (by decide)|rfl)) (@xI _ _ _ _ _ _ _ _ (@YW _ _ _ _ _ _ _ _ _ _ _ _ _ (@xZ _) (@oB _) (@gZ _ _ _ _ _) (by walk_at "E") (by walk_at "E") (by with_unfolding_all rfl)) (by walk_at "E")))))))
abbrev iZ:Stmt:=top 32
theorem QU:cI ["_law_script","_law_names","_law_turn","_law_listed","_law_fractions","_law_values","_law_rows","_law_many","_law_tree_here","_law_due","_law_handed","_law_found","_law_floor_here","_law_place"] ["_law_script"] (aZ iZ):=by kpf_c
theorem zed(F:bV K "law" "law" iZ f fd)(q11:mg "range"=none)(q12:mg "dict"=none)(q13:mg "list"=none)(q14:mg "zip"=none)(q4:aU P w K mg base k "_law_words" pA)(q7:aU P w K mg base k "_law_cell" fV)(q1:aU P w K mg base k "_law_digits" dU)(q0:aU P w K mg base k "_law_fraction" pE)(q2:aU P w K mg base k "_law_change" pG)(q8:aU P w K mg base k "_law_tree" pB)(q5:aU P w K mg base k "_law_worth" rV)(q9:aU P w K mg base k "sum_plan" mW)(q6:aU P w K mg base k "_law_floor" kM)(q3:aU P w K mg base k "_law_stands" jM)(q10:aU P w K mg base k "_law_led" iX):cO P w K mg base (bT P w) (k+1) f fd ["_law_script"] (qC K mg vP):=by
 refine ZX (own':=[]) F QU rfl rfl fun X E hX C L=>?_
 obtain⟨cdv,A,outer,s,H,rfl⟩:=hX
 have nd:=QU.nd
 exact(@aO _ _ _ _ _ _ _ _ _ _ (by kst_p) (@aO _ _ _ _ _ _ _ _ _ _ (by kst_p) (@aO _ _ _ _ _ _ _ _ _ _ (by kst_p) (@aO _ _ _ _ _ _ _ _ _ _ (@X7 _ _ _ _ _ _ _ _ _ _ _ _ _ _ _ _ _ _ _ _ 4 C.calm nd (LC.of (k:=1) (NY:=["_law_k","_law_script","_law_names","_law_turn","_law_listed","_law_fractions","_law_values","_law_rows","_law_many","_law_tree_here","_law_due","_law_handed","_law_found","_law_floor_here","_law_place"]) (N:=["_law_script","_law_names","_law_turn","_law_listed","_law_fractions","_law_values","_law_rows","_law_many","_law_tree_here","_law_due","_law_handed","_law_found","_law_floor_here","_law_place"]) (sc0:=(aZ iZ)) rfl rfl (by decide +kernel)) rfl (by walk_at "E") (fun _ _ _ _ nd2=>⟨(by walk_at "G"),(@k6 _ _),(by walk_at "E")⟩) (by rfl) (by rfl) (by rfl) (by rfl) (by intro _;rfl)) (@aO _ _ _ _ _ _ _ _ _ _ (by kst_p) (@aO _ _ _ _ _ _ _ _ _ _ (@qI _ _ _ _ _ _ _ _ 6 nd (@EG _ _ _ _ _ _ _ _ _ _ C q2 (@eM _ _ _ _ _ _ (@DF.val _ _ _ _ (@k7 _ _ _ _ _ _ _ _ _ _ _ _ _ _ _ C.calm (LC.of (k:=1) (NY:=["_law_k","_law_script","_law_names","_law_turn","_law_listed","_law_fractions","_law_values","_law_rows","_law_many","_law_tree_here","_law_due","_law_handed","_law_found","_law_floor_here","_law_place"]) (N:=["_law_script","_law_names","_law_turn","_law_listed","_law_fractions","_law_values","_law_rows","_law_many","_law_tree_here","_law_due","_law_handed","_law_found","_law_floor_here","_law_place"]) (sc0:=(aZ iZ)) rfl rfl (by decide +kernel)) rfl (by walk_at "E") (fun _ _ _ _ nd2=>⟨(by walk_at "G"),(@k6 _ _),(by walk_at "E")⟩) (by intro _;rfl))) (@gG _ _) (by rfl)) (by rfl) (by decide) (by rfl) (by rfl)) (by rfl) (by kcj_m) (by rfl) (by kcf_m)) (@aO _ _ _ _ _ _ _ _ _ _ (@l7 _ _ _ _ _ _ _ _ _ _ _ _ L C.calm (by walk_at "E") (by walk_at "G") (@aO _ _ _ _ _ _ _ _ _ _ (by kst_p) (@aO _ _ _ _ _ _ _ _ _ _ (by kst_p) (@dG _ _ _ _ _ _ _ (@gJ _ _ _ _ _ _ _ _ _ _ _ _ (@fJ _ _ _ _ _ _ _ _ _ (@x0 _) (by walk_at "E") (@nY _ _ _ _) (by first|exact dA _ (by decide) (by decide)|rfl)) (@aO _ _ _ _ _ _ _ _ _ _ (by kst_p) (@aO _ _ _ _ _ _ _ _ _ _ (by kst_p) (@aO _ _ _ _ _ _ _ _ _ _ (by kst_p) (@aO _ _ _ _ _ _ _ _ _ _ (by walk_at "I3") (@aO _ _ _ _ _ _ _ _ _ _ (by kst_p) (@dG _ _ _ _ _ _ _ (by walk_at "I3"))))))) (@iR _ _ _ _))))) (by rfl) (by intro _;rfl)) (by kst_p2))))))))
set_option maxHeartbeats 4000000 in
theorem all_mk{l:PySem.W.OpenLaw}{w:World}{K:xFg}{h:Heap}{mg:Str->Option Value}{fa f20:Addr}(X:K.In h)(G:h.Ns mainGlobals mg)(hfa:mg "law"=some (.ref fa))
  {od20 an20:Option Addr} {sl20:Array (Option Value)} {oc20 kV20 dc20 pm20 cd20 ct20:Value}
  (d0:FD K "_law_mixed" (top 16))
  (d1:FD K "_law_digits" (top 17))
  (d2:FD K "_law_words" (top 20))
  (d3:FD K "_law_change" (top 26))
  (d4:FD K "_law_cell" (top 14))
  (d5:FD K "_law_divisor" (top 18))
  (d6:FD K "_law_low" (top 23))
  (d7:FD K "_law_fraction" (top 25))
  (d8:FD K "_law_leaf" (top 21))
  (d9:FD K "_law_tree" (top 22))
  (d10:FD K "_law_worth" (top 24))
  (d11:FD K "parts_of" (top 8))
  (d12:FD K "sum_plan" (top 11))
  (d13:FD K "_law_lowest" (top 19))
  (d14:FD K "_law_led" (top 27))
  (d15:FD K "_law_floor" (top 28))
  (d16:FD K "_law_cross" (top 29))
  (d17:FD K "_law_whole" (top 15))
  (d18:FD K "_law_walked" (top 30))
  (d19:FD K "_law_stands" (top 31))
  (a20:PySem.W.nsIn K mainGlobals "law"=some (some (.ref f20))) (l20:K.lookup f20=some ⟨oc20,od20,.func (PySem.W.fnOf "law" "law" (i9 iZ) (fE iZ) (aZ iZ) .none kV20 dc20 pm20 an20 cd20 ct20),sl20⟩) (c20:PySem.W.codeIn K cd20 "law"=true) (k20:PySem.W.keepIn K (.ref f20)=true)
  {CS:Addr} (sA:PySem.W.nsIn K mainGlobals "Sketch"=some (some (.ref CS))) (sB:PySem.W.plainGet K CS Str.empty=true) (sC:PySem.W.hasDictIn K CS=true) (sD:PySem.W.plainOver K CS=true) (sE:PySem.W.findIn K (.ref CS) "__setattr__"=some (some (.builtin "object.__setattr__"))) (sF:PySem.W.makesIn K CS=true) (sG:PySem.W.keepIn K (.ref CS)=true)
  (sn0:PySem.W.findIn K (.ref CS) "lines"=some none)
  (sn1:PySem.W.findIn K (.ref CS) "drawn"=some none)
  (sn2:PySem.W.findIn K (.ref CS) "plan"=some none)
  (sn3:PySem.W.findIn K (.ref CS) "pegs"=some none)
  (sn4:PySem.W.findIn K (.ref CS) "east"=some none)
  (sn5:PySem.W.findIn K (.ref CS) "north"=some none)
  (sn6:PySem.W.findIn K (.ref CS) "corner"=some none)
  (sn7:PySem.W.findIn K (.ref CS) "top"=some none)
  (sm0:Sk.MD K CS "__init__" "Sketch.__init__" (aN Sk.sCls 0))
  (sm1:Sk.MD K CS "line" "Sketch.line" (aN Sk.sCls 1))
  (sm2:Sk.MD K CS "peg" "Sketch.peg" (aN Sk.sCls 2))
  (sm3:Sk.MD K CS "base" "Sketch.base" (aN Sk.sCls 3))
  (sm4:Sk.MD K CS "upright" "Sketch.upright" (aN Sk.sCls 4))
  (sm5:Sk.MD K CS "far" "Sketch.far" (aN Sk.sCls 5))
  (sm6:Sk.MD K CS "level" "Sketch.level" (aN Sk.sCls 6))
  (sm7:Sk.MD K CS "unit" "Sketch.unit" (aN Sk.sCls 7))
  (sm8:Sk.MD K CS "high" "Sketch.high" (aN Sk.sCls 8))
  (sm9:Sk.MD K CS "heading" "Sketch.heading" (aN Sk.sCls 9))
  (sm10:Sk.MD K CS "falling" "Sketch.falling" (aN Sk.sCls 10))
  (sm11:Sk.MD K CS "slid" "Sketch.slid" (aN Sk.sCls 11))
  (sm13:Sk.MD K CS "turned" "Sketch.turned" (aN Sk.sCls 13))
  (sm12:Sk.MD K CS "raised" "Sketch.raised" (aN Sk.sCls 12))
  (sm15:Sk.MD K CS "added" "Sketch.added" (aN Sk.sCls 15))
  (sm16:Sk.MD K CS "less" "Sketch.less" (aN Sk.sCls 16))
  (sm17:Sk.MD K CS "product" "Sketch.product" (aN Sk.sCls 17))
  (sm18:Sk.MD K CS "quotient" "Sketch.quotient" (aN Sk.sCls 18))
  (sm19:Sk.MD K CS "slope" "Sketch.slope" (aN Sk.sCls 19))
  (sm20:Sk.MD K CS "doubled" "Sketch.doubled" (aN Sk.sCls 20))
  (sm21:Sk.MD K CS "whole" "Sketch.whole" (aN Sk.sCls 21))
  (d99:FD K "drawn_by" Sk.sDrawn)
  (xd_NoName:XD K "NoName")
  (z_range:PySem.W.nsIn K mainGlobals "range"=some none)
  (z_len:PySem.W.nsIn K mainGlobals "len"=some none)
  (z_abs:PySem.W.nsIn K mainGlobals "abs"=some none)
  (z_dict:PySem.W.nsIn K mainGlobals "dict"=some none)
  (z_enumerate:PySem.W.nsIn K mainGlobals "enumerate"=some none)
  (z_sum:PySem.W.nsIn K mainGlobals "sum"=some none)
  (z_isinstance:PySem.W.nsIn K mainGlobals "isinstance"=some none)
  (z_int:PySem.W.nsIn K mainGlobals "int"=some none)
  (z_bool:PySem.W.nsIn K mainGlobals "bool"=some none)
  (z_list:PySem.W.nsIn K mainGlobals "list"=some none)
  (z_tuple:PySem.W.nsIn K mainGlobals "tuple"=some none)
  (z_zip:PySem.W.nsIn K mainGlobals "zip"=some none)
  {a_SIGNS:Addr} {t0_SIGNS t1_SIGNS t2_SIGNS t3_SIGNS:Tok} {n_SIGNS:Nat} {sl_SIGNS:Array (Option Value)} (q_SIGNS:PySem.W.nsIn K mainGlobals "SIGNS"=some (some (.ref a_SIGNS))) (lq_SIGNS:K.lookup a_SIGNS=some ⟨.type "tuple",none,.seq #[.str "+" t0_SIGNS,.str "-" t1_SIGNS,.str "*" t2_SIGNS,.str "/" t3_SIGNS] n_SIGNS,sl_SIGNS⟩)
  {a_FRAME:Addr} {t0_FRAME t1_FRAME t2_FRAME t3_FRAME:Tok} {n_FRAME:Nat} {sl_FRAME:Array (Option Value)} (q_FRAME:PySem.W.nsIn K mainGlobals "FRAME"=some (some (.ref a_FRAME))) (lq_FRAME:K.lookup a_FRAME=some ⟨.type "tuple",none,.seq #[.int 0 t0_FRAME,.int 1 t1_FRAME,.int 2 t2_FRAME,.int 3 t3_FRAME] n_FRAME,sl_FRAME⟩)
  (hlaw:∀ns:List Int,ns.length<=63->vP [.lst (ns.map .int)]=.ok (.bl true))
  : ∃fd:FuncData,(∀(s:Shared) (v:Value),BindsTo s fd ⟨[v],[]⟩ [("_law_script",v)])/\∀base:Heap,K.In base->base.Ns mainGlobals mg->cO l.prog w K mg base (bT l.prog w) 68 fa fd ["_law_script"] (uA K):=by
 have e:=hfa.symm.trans (xb0 X G a20)
 cases e
 obtain⟨f0,v0,F0⟩:=d0.go X G ["_law_cell_here","_law_k"] (by walk_at "b2")
 obtain⟨f1,v1,F1⟩:=d1.go X G ["_law_cell_here","_law_many"] (by walk_at "b2")
 obtain⟨f2,v2,F2⟩:=d2.go X G ["_law_cell_here","_law_many"] (by walk_at "b2")
 obtain⟨f3,v3,F3⟩:=d3.go X G ["_law_cells"] (by walk_at "b1")
 obtain⟨f4,v4,F4⟩:=d4.go X G ["_law_script","_law_k"] (by walk_at "b2")
 obtain⟨f5,v5,F5⟩:=d5.go X G ["_law_one","_law_other"] (by walk_at "b2")
 obtain⟨f6,v6,F6⟩:=d6.go X G ["_law_top","_law_bottom"] (by walk_at "b2")
 obtain⟨f7,v7,F7⟩:=d7.go X G ["_law_cell_here","_law_k"] (by walk_at "b2")
 obtain⟨f8,v8,F8⟩:=d8.go X G ["_law_digits_here","_law_names"] (by walk_at "b2")
 obtain⟨f9,v9,F9⟩:=d9.go X G ["_law_cells","_law_names"] (by walk_at "b2")
 obtain⟨f10,v10,F10⟩:=d10.go X G ["_law_tree_here","_law_values"] (by walk_at "b2")
 obtain⟨f11,v11,F11⟩:=d11.go X G ["expression"] (by walk_at "b1")
 obtain⟨f12,v12,F12⟩:=d12.go X G ["expression","names"] (by walk_at "b2")
 obtain⟨f13,v13,F13⟩:=d13.go X G ["_law_x","_law_y","_law_z"] (by walk_at "b3")
 obtain⟨f14,v14,F14⟩:=d14.go X G ["_law_rows","_law_place"] (by walk_at "b2")
 obtain⟨f15,v15,F15⟩:=d15.go X G ["_law_rows","_law_fractions"] (by walk_at "b2")
 obtain⟨f16,v16,F16⟩:=d16.go X G ["_law_one","_law_other"] (by walk_at "b2")
 obtain⟨f17,v17,F17⟩:=d17.go X G ["_law_found"] (by walk_at "b1")
 obtain⟨f18,v18,F18⟩:=d18.go X G ["_law_floor_here","_law_plan"] (by walk_at "b2")
 obtain⟨f19,v19,F19⟩:=d19.go X G ["_law_found","_law_floor_here","_law_place"] (by walk_at "b3")
 have F20:=wP (st:=iZ) l20 c20 k20
 have m20:=xb0 X G a20
 obtain⟨C_NoName,c_NoName,y_NoName,x_NoName⟩:=xd_NoName.go X G
 have n_range:=xbb X G z_range
 have n_len:=xbb X G z_len
 have n_abs:=xbb X G z_abs
 have n_dict:=xbb X G z_dict
 have n_enumerate:=xbb X G z_enumerate
 have n_sum:=xbb X G z_sum
 have n_isinstance:=xbb X G z_isinstance
 have n_int:=xbb X G z_int
 have n_bool:=xbb X G z_bool
 have n_list:=xbb X G z_list
 have n_tuple:=xbb X G z_tuple
 have n_zip:=xbb X G z_zip
 refine⟨PySem.W.fnOf "law" "law" (i9 iZ) (fE iZ) (aZ iZ) .none kV20 dc20 pm20 an20 cd20 ct20,fun s v=>.of_eq rfl,fun base _ _=>?_⟩
 have k_SIGNS_is:∃u v,mg "SIGNS"=some u/\aJ v u/\∀G,aS K mg G kI v:=⟨_,.ref a_SIGNS,xb0 X G q_SIGNS,rfl,fun _=>zah (l:=[("+",t0_SIGNS),("-",t1_SIGNS),("*",t2_SIGNS),("/",t3_SIGNS)]) lq_SIGNS rfl (show 4<=100 by decide)⟩
 have k_FRAME_is:∃u v,mg "FRAME"=some u/\aJ v u/\∀G,aS K mg G jL v:=⟨_,.ref a_FRAME,xb0 X G q_FRAME,rfl,fun _=>zai (l:=[(0,t0_FRAME),(1,t1_FRAME),(2,t2_FRAME),(3,t3_FRAME)]) lq_FRAME rfl (show 4<=100 by decide)⟩
 obtain⟨f99,v99,F99⟩:=d99.go X G ["sign","sketch","one","other"] (by walk_at "b4")
 have GS:=Sk.skg (P:=l.prog) (w:=w) (base:=base) (xb0 X G sA) ⟨⟨⟨sB,sC,sD,sE⟩,sn0,sn1,sn2,sn3⟩,sn4,sn5,sn6,sn7⟩ sF sG sm0 sm1 sm2 sm3 sm4 sm5 sm6 sm7 sm8 sm9 sm10 sm11 sm13 sm12 sm15 sm16 sm17 sm18 sm19 sm20 sm21 F99 n_abs n_range
 have G0:aU l.prog w K mg base 1 "_law_mixed" o9:=zdT (k:=0) F0
 have G1:=zdU (k:=1) F1 n_range G0
 have G2:=zdV (k:=2) F2 n_range G1
 have G3:=zdW (k:=2) F3 G1
 have G4:aU l.prog w K mg base 1 "_law_cell" fV:=zdX (k:=0) F4 n_len
 have G5:aU l.prog w K mg base 1 "_law_divisor" kJ:=zdY (k:=0) F5 n_abs
 have G6:=zdZ (k:=1) F6 G5
 have G7:=zd0 (k:=2) F7 G1 G6
 have G8:aU l.prog w K mg base 1 "_law_leaf" kL:=zd1 (k:=0) F8 n_len
 have G9:=zd2 (k:=2) F9 n_len G1 (G8.mono (by decide:1<=2))
 have G10:=zd3 (k:=2) F10 G6
 have G11:aU l.prog w K mg base 1 "parts_of" iH:=zd4 (k:=0) F11 n_len k_SIGNS_is
 have G12:=zd5 (k:=7) F12 c_NoName y_NoName x_NoName (GS.mono (by decide:7<=7)) n_dict n_enumerate n_len k_FRAME_is k_SIGNS_is (G11.mono (by decide:1<=7))
 have G13:=zd6 (k:=1) F13 G5
 have G14:=zd7 (k:=2) F14 n_sum n_range G13
 have G15:=zd8 (k:=3) F15 G14
 have G16:=zd9 (k:=2) F16 G13
 have G17:aU l.prog w K mg base 1 "_law_whole" iI:=zea (k:=0) F17 n_isinstance n_int n_bool
 have G18:=zeb (k:=3) F18 n_list n_isinstance n_tuple n_len n_int (G17.mono (by decide:1<=3)) G16
 have G19:=zec (k:=4) F19 n_isinstance n_tuple n_len n_list (G17.mono (by decide:1<=4)) G18
 exact ZY (zed (P:=l.prog) (w:=w) (base:=base) (k:=67) F20 n_range n_dict n_list n_zip (G2.mono (by decide:3<=67)) (G4.mono (by decide:1<=67)) (G1.mono (by decide:2<=67)) (G7.mono (by decide:3<=67)) (G3.mono (by decide:3<=67)) (G9.mono (by decide:3<=67)) G10 (G12.mono (by decide:8<=67)) (G15.mono (by decide:4<=67)) (G19.mono (by decide:5<=67)) (G14.mono (by decide:3<=67))) hlaw
end Kx
structure PySem.W.Fast:Prop where
 (tw10078461383639960753 tw10242471743411206895 tw10355760671726910895 tw1038565717498318613 tw10516254203863661385 tw10594131388074846649 tw10685092623252483257 tw10691528695808102462 tw10743328758984105600 tw10780092894623633894 tw10839938497316039365 tw10881954160657578469 tw10982225638764831117 tw11000925455051325700 tw11067502456028661860 tw111098025495058829 tw11130554891017389261 tw11179248933689327295 tw11310777706976873926 tw11350552457753882692 tw1139498691404903823 tw11395173747101672098 tw11743273356645575175 tw11845289323342771862 tw11883738273475016338 tw11935235796990132379 tw11992714088938986174 tw12030797831537690794 tw1206111454462358835 tw12080016064877655896 tw12087024297595131701 tw12131138817808591991 tw12135991473484175577 tw12320474577598725430 tw12383298513572446476 tw12394516911981374751 tw12456696257977300677 tw12575907881213168414 tw12579726286132574432 tw12650991543567059499
  tw12731931228472256087 tw12744804124102740669 tw12799062288434069475 tw1286699909665388540 tw12882140411713267818 tw12976053681739535460 tw13010287447763478930 tw13044352505855051667 tw13061971509683609154 tw13338216512751699925 tw1336089891571152139 tw13587600284972731919 tw13641702690845700165 tw13678770665933209639 tw13688176636353703113 tw13693566905134908661 tw13763267945749999734 tw13792031598322609389 tw13817197422111815011 tw14135203700476980706 tw14197217335621382734 tw14248469156473417366 tw14251889760601253814 tw14301576554161706286 tw14321077096743153600 tw14336744033832506018 tw1436150130754247798 tw14509281312029744589 tw14524723852095672743 tw14634719741591686158 tw1481526116800918325 tw14859297232433158102 tw14920700087730610262 tw14966556163193680472 tw14994171235060756382 tw15008477347802357329 tw15122593060778461772 tw15134884201251906074 tw1521191797570076097 tw15229031228170399270
  tw15278438099271814482 tw15286349683897186839 tw15412571342902290996 tw15428951796938016805 tw15486117371104421067 tw15507689307608371337 tw15650401623557494373 tw15662858354693980767 tw15671043745618232696 tw15777921632991374226 tw15897019831027810575 tw15938842971976596098 tw15959042676628035549 tw16029320417593823244 tw1606440914823509151 tw16151029605848980312 tw1627128788357738201 tw16328826991864722176 tw16555237526279869041 tw16636593576847870887 tw1666067728875577704 tw16681373771241648843 tw16831454049427808134 tw1683545544634203190 tw16851347221033272113 tw17008336536982509750 tw1709843077431354682 tw17116947466222087914 tw17252928283715939757 tw17334765663524386975 tw17458596367561310494 tw17469967473936912805 tw17597637378419462272 tw1760853870046091859 tw17704644134636284721 tw17794197990653296564 tw17897095793700574999 tw17936504871927622241 tw17945707407372971412 tw18133190142507418468
  tw18167194023962488859 tw18168385707361840510 tw1830728146759045766 tw18307526621605474598 tw1859731255950957467 tw1904043001226768274 tw1904680773547836924 tw1938616906851698171 tw2199457226796849531 tw2203654970988102824 tw2210343542300778278 tw2320727032520162190 tw2614992874713614071 tw2654801340886416482 tw2713543356415564333 tw2714633860772035767 tw2728395845094403853 tw2766697635321824470 tw2772366552617885222 tw2793317960896032846 tw2916203964503879224 tw3021096287119601204 tw3135235895651687026 tw3178516051097372913 tw3209719733589511825 tw332182237650464287 tw3423912872706489574 tw3509567178717540585 tw3559923046986647416 tw3582032254480883156 tw3629441453509602900 tw3645530649979599922 tw3709779896207067491 tw3782206702085893084 tw3980320426125618517 tw4049028792683840707 tw4075069502760218901 tw4152859620603405507 tw4207578850671151377 tw4301839945370612770
  tw4314631889061539990 tw434122881418934230 tw4379089069719621817 tw441541302864278983 tw4448863601165393231 tw4562824794344748295 tw4689806062480283987 tw4718495459056691704 tw4859249581392439806 tw4987459372342752905 tw5037345026063583363 tw5143901588262086987 tw5250477557929611158 tw531918771544194971 tw5556584603539633055 tw5641038642140503480 tw5690617205571982696 tw5783627425321849578 tw5806087737810247015 tw5818625492908952793 tw5849734788139527848 tw588147891906229916 tw5978072941093316218 tw600770651001021415 tw6048621844284735516 tw6133129221520474454 tw6238446456728702945 tw629996206948933271 tw630567332960662632 tw6345090708216837977 tw6488790180693985283 tw6518570648780791859 tw658240640354713205 tw6583855185514537983 tw6808406170161473806 tw6842224199619647185 tw6857088662902603354 tw6883255898590083567 tw6921688074120602678 tw6962849520055144928
  tw6995565454668054320 tw7010339908649910755 tw7051766774464354405 tw707385578210763154 tw7143229234850992257 tw7256373640731665883 tw7407110404900132015 tw7431512095920108955 tw7542445303179047535 tw7558279781094106919 tw7632554548342141390 tw7682943482453474754 tw7864094416897428021 tw7908815130491438681 tw793116712404241879 tw7935781991791425899 tw8003516497792090879 tw802993328421810695 tw813116155968950390 tw8157880089974904046 tw8297686244320500107 tw8337882269516539402 tw8353976164615251964 tw8377708164687718081 tw8396220713143341647 tw8480689081285956177 tw8498250113799214883 tw8591905551998071659 tw8656243073165100101 tw86908558494978202 tw8712807308313083327 tw8719730011590175754 tw878203347970242309 tw8797234175574868311 tw8806055910693614759 tw897412134986653935 tw9176161795248337708 tw925280550253434280 tw9287471449391555060 tw9349565139419173310
  tw9374224597305961291 tw946611139415566780 tw9703506544995513261 tw9746988935731598181 tw9763205981798377924 tw9803885150419043624 tw9952817629749353329 tw9953687404048188381 tw9963255493618691804 tw9982877050143173705:True)
open PySem.W PyProof.Rows
local macro_rules | `(tactic| walk_at "FD")=>`(tactic| (refine' DL.FD.mk' ?a ?l ?c ?k;(case a=>k_is);(case l=>k_is);(case c=>k_is);(case k=>k_is)))
local macro_rules | `(tactic| walk_at "MD")=>`(tactic| (refine' Sk.MD.mk' ?a ?i ?l ?c ?k;(case a=>k_is);(case i=>k_is);(case l=>k_is);(case c=>k_is);(case k=>k_is)))
local macro_rules | `(tactic| walk_at "NR")=>`(tactic| first|(refine' DL.NR.ff ?h ?a ?t;(case h=>decide);(case a=>k_is);(case t=>kit_is))|(refine' DL.NR.tt ?h ?a ?t ?u;(case h=>decide);(case a=>k_is);(case t=>kit_is);(case u=>kts_exm))|(refine' DL.NR.no ?a;(case a=>k_is)))
local macro_rules | `(tactic| walk_at "XD")=>`(tactic| (refine' DL.XD.mk' ?e ?y ?g ?i ?b ?o ?a ?s ?t ?v ?r0 ?r1 ?r2 ?r3 ?r4 ?r5 ?r6 ?r7 ?r8 ?r9 ?r10 ?r11 ?r12 ?r13 ?r14 ?r15;(case e=>k_is);(case y=>k_exc);(case g|i|b|o|a|s|t=>k_is);(case v=>kit_is);(case r0|r1|r2|r3|r4|r5|r6|r7|r8|r9|r10|r11|r12|r13|r14|r15=>walk_at "NR")))
set_option maxRecDepth 100000 in
set_option maxHeartbeats 0 in
theorem PySem.Challenge.cw_chalkline_k59_sums_drawn_holds : PySem.Challenge.rw_chalkline_k59_sums_drawn.Holds := by
 w_on;o_law;k_head;(case hw=>w_witness2)
 k_fill
 refine DL.walkD (l:=PySem.Challenge.rw_chalkline_k59_sums_drawn) 68 ⟨rfl,by decide,by decide⟩ rfl rfl (fun w h Y=>PySem.W.kIn_of Y) ?F
 case F=>
  intro w mg fa h KX G hmg
  refine' Kx.all_mk KX G hmg ?d0 ?d1 ?d2 ?d3 ?d4 ?d5 ?d6 ?d7 ?d8 ?d9 ?d10 ?d11 ?d12 ?d13 ?d14 ?d15 ?d16 ?d17 ?d18 ?d19 ?a20 ?l20 ?c20 ?k20 ?sA ?sB ?sC ?sD ?sE ?sF ?sG ?sn0 ?sn1 ?sn2 ?sn3 ?sn4 ?sn5 ?sn6 ?sn7 ?sm0 ?sm1 ?sm2 ?sm3 ?sm4 ?sm5 ?sm6 ?sm7 ?sm8 ?sm9 ?sm10 ?sm11 ?sm13 ?sm12 ?sm15 ?sm16 ?sm17 ?sm18 ?sm19 ?sm20 ?sm21 ?d99 ?xd_NoName ?z_range ?z_len ?z_abs ?z_dict ?z_enumerate ?z_sum ?z_isinstance ?z_int ?z_bool ?z_list ?z_tuple ?z_zip ?q_SIGNS ?lq_SIGNS ?q_FRAME ?lq_FRAME ?hlaw
  (case d0|d1|d2|d3|d4|d5|d6|d7|d8|d9|d10|d11|d12|d13|d14|d15|d16|d17|d18|d19=>walk_at "FD")
  (case a20|l20|c20|k20|sA|sB|sC|sD|sE|sF|sG|sn0|sn1|sn2|sn3|sn4|sn5|sn6|sn7=>k_is)
  (case sm0|sm1|sm2|sm3|sm4|sm5|sm6|sm7|sm8|sm9|sm10|sm11|sm13|sm12|sm15|sm16|sm17|sm18|sm19|sm20|sm21=>walk_at "MD")
  (case d99=>walk_at "FD")
  (case xd_NoName=>walk_at "XD")
  (case z_range|z_len|z_abs|z_dict|z_enumerate|z_sum|z_isinstance|z_int|z_bool|z_list|z_tuple|z_zip|q_SIGNS|lq_SIGNS|q_FRAME|lq_FRAME=>k_is)
  (case hlaw=>exact Lk59.law_ok)
end