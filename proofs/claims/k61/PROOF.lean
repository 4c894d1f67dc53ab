import PyProof.Rows.All
import Wide.All
import OpenK.AllK
import Wide.FinOn
import Lean
import PyProof.EqAt
import PyProof.EqKinds
import PyProof.TupleCall
import PyProof.NeKinds
import KE.KTryMore
import PyProof.NsDelKeeps
import PySem.SetTable
import PyProof.StrLawsChain
import PyProof.StrBlockL
import KE.KIntText
import PyProof.DictTable
import PyProof.SliceStr2
import PyProof.MeetsStr
import PyProof.StrWalks
import PyProof.TupleKey
import PyProof.SetKind
import PyProof.Rows.SetFrom
import PyProof.ZipIter
import PyProof.Rows.ZipGen
import PyProof.LayNew
import PyProof.ExcInit
import PyProof.ExcClass3
import PyProof.EnumFor
import PyProof.EnumMake
import PyProof.EnumStmt
import PyProof.Rows.StrNews
import KE.KDictSum
import KE.KSortTup
import PyProof.DictWalks
import PyProof.DictRoadsH
import PyProof.DictKeyH
import PyProof.AutoSeq1
import KE.KDictOf
import PyProof.AttrMissSeq
import PyProof.Draws
import PyProof.AutoIntG2
import PyProof.Rows.BitMore
import PySem.Challenge.RW_chalkline_k61_names_that_lack
set_option Elab.async false
set_option linter.all false
set_option compiler.extract_closed false
set_option maxRecDepth 100000
set_option maxHeartbeats 1000000
section
open PySem PyProof.Rows
abbrev xFg:=PySem.W.Frag
abbrev xaa:=@Option.bind_eq_some_iff
abbrev xab:=@wpAny_bind
abbrev xad:=@Heap.get?_push_of_some
abbrev xae:=@List.getElem?_set_ne
abbrev xaf:=@List.getElem?_eq_some_iff
abbrev xag:=@Nat.le_refl
abbrev xah:=@decide_eq_true
abbrev xai:=@List.length_map
abbrev xaj:=@List.size_toArray
abbrev xak:=@if_neg
abbrev xal:=@if_pos
abbrev xam:=@Heap.lt_size
abbrev xan:=@Nat.lt_of_lt_of_le
abbrev xao:=@List.length_cons
abbrev xap:=@Bool.and_eq_true
abbrev xaq:=@absurd
abbrev xar:=@wpAny_pure
abbrev xas:=@List.mem_cons_of_mem
abbrev xat:=@List.getElem?_set_self
abbrev xau:=@of_decide_eq_true
abbrev xav:=@Heap.get?_push_size
abbrev xaw:=@Option.some.inj
abbrev xax:=@decide_eq_false
abbrev xay:=@Ne.symm
abbrev xaz:=@Nat.le_trans
abbrev xa0:=@List.getElem?_eq_getElem
abbrev xa1:=@List.mem_cons
abbrev xa2:=@List.length_append
abbrev xa3:=@PySem.W.mg_of
abbrev xa4:=@Bool.false_ne_true
abbrev xa5:=@List.map_cons
abbrev xa6:=@Nat.ne_of_lt
abbrev xa7:=@List.mem_cons_self
abbrev xa8:=@PySem.W.mg_none_of
abbrev xa9:=@List.map_append
abbrev xba:=@Option.bind_some
abbrev xbb:=@List.mem_append_right
abbrev xbc:=@Nat.zero_le
abbrev xbd:=@List.getElem?_map
abbrev xbe:=@List.mem_append
abbrev xbf:=@Nat.lt_of_le_of_lt
abbrev xbg:=@List.mem_singleton
abbrev xbh:=@List.all_eq_true
abbrev xbi:=@List.not_mem_nil
abbrev xbj:=@Heap.get?_update_other
abbrev xbk:=@Int.le_refl
abbrev xbl:=@List.getElem?_cons_zero
abbrev xbm:=@List.reverse_cons
abbrev xbn:=@List.append_nil
abbrev xbo:=@List.length_nil
abbrev xbp:=@Option.map_eq_some_iff
abbrev xbq:=@Nat.lt_irrefl
abbrev xbr:=@Array.getElem?_eq_some_iff
abbrev xbs:=@List.set_cons_succ
abbrev xbt:=@List.set_cons_zero
abbrev xbu:=@List.getElem?_append_left
abbrev xbv:=@Option.isSome_iff_exists
abbrev xbw:=@List.getElem?_cons_succ
abbrev xbx:=@List.lookup_cons
abbrev xby:=@List.mem_map
abbrev xbz:=@List.nodup_cons
abbrev xb0:=@Array.length_toList
abbrev xb1:=@List.getElem?_replicate
abbrev xb2:=@List.find?_cons
abbrev xb3:=@Bool.not_eq_true'
abbrev xb4:=@List.length_take
abbrev xb5:=@List.getElem_mem
abbrev xb6:=@List.getElem?_append_right
abbrev xb7:=@List.any_cons
abbrev xb8:=@List.filterMap_cons
abbrev xb9:=@List.drop_eq_getElem_cons
abbrev xca:=@Option.map_some
abbrev xcb:=@Nat.le_of_lt
abbrev xcc:=@List.map_nil
abbrev xcd:=@Int.toNat_natCast
abbrev xcf:=@Option.isSome_map
abbrev xcg:=@Nat.lt_succ_self
abbrev xch:=@List.cons_append
abbrev xci:=@List.length_replicate
abbrev xcj:=@List.eq_nil_or_concat
abbrev xck:=@List.concat_eq_append
abbrev xcl:=@List.mem_filter
abbrev xcm:=@Nat.ne_of_gt
abbrev xcn:=@Nat.blt_eq
abbrev xco:=@Nat.zero_add
abbrev xcp:=@Nat.add_comm
abbrev xcq:=@List.nil_append
abbrev xcr:=@List.dropLast_concat
abbrev xcs:=@List.getElem?_range
abbrev xct:=@List.length_pos_iff
abbrev xcu:=@Heap.size_push
abbrev xcv:=@Nat.le_succ
end
open PySem
section
namespace L2
open PySem.Spec PyProof.Rows
abbrev Key:=Sum Int Str
def mM:Key->Value->Bool
 |.inl k,v=>Value.isInt k v
 |.inr x,v=>Value.isStrOf x v
def N6(w:World):Key->Int
 |.inl k=>hashInt k
 |.inr x=>hashStr w x
theorem jL:∀{k:Key} {v:Value},mM k v=true->(∃i t,k=Sum.inl i/\v=Value.int i t)\/(∃x t,k=Sum.inr x/\v=Value.str x t)
 |.inl i,v,h=>by
  obtain⟨t,e⟩:=Value.isInt_shape (k:=i) (v:=v) h
  exact .inl ⟨i,t,rfl,e⟩
 |.inr x,v,h=>by
  obtain⟨t,e⟩:=Value.isStrOf_shape (x:=x) (v:=v) h
  exact .inr ⟨x,t,rfl,e⟩
theorem N7(i:Int)(t:Tok):mM (.inl i) (.int i t)=true:=by simp[mM,Value.isInt]
theorem N8(x:Str)(t:Tok):mM (.inr x) (.str x t)=true:=by simp[mM,Value.isStrOf]
theorem N9(a b:Int):decide ((Sum.inl a:Key)=Sum.inl b)=(a==b):=by
 by_cases e:a=b
 ·subst e;simp
 ·have h:¬(Sum.inl a:Key)=Sum.inl b:=fun q=>e (Sum.inl.inj q)
  rw[xax h]
  exact(beq_eq_false_iff_ne.mpr e).symm
theorem OA(a b:Str):decide ((Sum.inr a:Key)=Sum.inr b)=decide (a=b):=by
 by_cases e:a=b
 ·subst e;simp
 ·have h:¬(Sum.inr a:Key)=Sum.inr b:=fun q=>e (Sum.inr.inj q)
  rw[xax h,xax e]
theorem OB(a:Int)(b:Str):decide ((Sum.inl a:Key)=Sum.inr b)=false:=xax (fun q=>nomatch q)
theorem OC(a:Str)(b:Int):decide ((Sum.inr a:Key)=Sum.inl b)=false:=xax (fun q=>nomatch q)
def fC(prog:Program)(w:World):PySem.KeyKind prog w Key where
 is:=mM
 hash:=N6 w
 inj:=fun v a b ha hb=>by
  rcases jL ha with⟨i,t,rfl,rfl⟩|⟨x,t,rfl,rfl⟩
  ·rcases jL hb with⟨j,u,rfl,e⟩|⟨y,u,rfl,e⟩
   ·injection e with e1 _;rw[e1]
   ·exact nomatch e
  ·rcases jL hb with⟨j,u,rfl,e⟩|⟨y,u,rfl,e⟩
   ·exact nomatch e
   ·injection e with e1 _;rw[e1]
 byValue:=fun k v h=>by
  rcases jL h with⟨i,t,rfl,rfl⟩|⟨x,t,rfl,rfl⟩<;>rfl
 pyHash:=fun hv h=>by
  rcases jL hv with⟨i,t,rfl,rfl⟩|⟨x,t,rfl,rfl⟩
  ·exact wpAny_pyHash_int h
  ·exact wpAny_pyHash_str h
 eqBool:=fun hu hv h=>by
  rcases jL hu with⟨i,t,rfl,rfl⟩|⟨x,t,rfl,rfl⟩
  ·rcases jL hv with⟨j,u,rfl,rfl⟩|⟨y,u,rfl,rfl⟩
   ·rw[N9] at h;exact wpAny_eqBool_int h
   ·rw[OB] at h;exact SeqAt.EqAt.int_str i t y u _ _ _ _ h
  ·rcases jL hv with⟨j,u,rfl,rfl⟩|⟨y,u,rfl,rfl⟩
   ·rw[OC] at h;exact SeqAt.EqAt.str_int x t j u _ _ _ _ h
   ·rw[OA] at h;exact wpAny_eqBool_str h
 «strs»:=fun k x t v h=>by
  rcases jL h with⟨i,u,rfl,e⟩|⟨y,u,rfl,e⟩
  ·exact nomatch e
  ·injection e with e1 _
   subst e1
   cases v<;>rfl
theorem OD(prog:Program)(w:World)(i:Int)(t:Tok):(fC prog w).is (.inl i) (.int i t)=true:=N7 i t
theorem OE(prog:Program)(w:World)(x:Str)(t:Tok):(fC prog w).is (.inr x) (.str x t)=true:=N8 x t
end L2
namespace L2
open PySem.Spec PyProof.Rows
inductive V where
 |non|bl (b:Bool)|int (i:Int)|str (x:Str)|byt (b:Array UInt8)|flt (b:UInt64)|ref (a:Addr)|ty (n:String)
 deriving DecidableEq
def aM:V->Value->Prop
 |.non,u=>u=Value.none
 |.bl b,u=>u=Value.bool b
 |.int i,u=>∃t,u=Value.int i t
 |.str x,u=>∃t,u=Value.str x t
 |.byt b,u=>∃t,u=Value.bytes b t
 |.flt b,u=>∃t,u=Value.float b t
 |.ref a,u=>u=Value.ref a
 |.ty n,u=>u=Value.type n
abbrev aP:List V->List Value->Prop:=Paired aM
theorem aP.length{xs:List V}{us:List Value}(r:aP xs us):xs.length=us.length:=Paired.length r
theorem aP.get:∀{xs:List V} {us:List Value} {i:Nat} {x:V},aP xs us->xs[i]? = some x->∃u,us[i]? = some u/\aM x u
 |_,_,_,_,.nil,e=>by simp at e
 |_,_,0,_,.cons r _,e=>by simp at e;subst e;exact⟨_,rfl,r⟩
 |_,_,i+1,x,.cons _ t,e=>by
  obtain⟨u,h1,h2⟩:=aP.get (i:=i) (x:=x) t (by simpa using e)
  exact⟨u,by simpa using h1,h2⟩
theorem aP.append:∀{xs ys:List V} {us ws:List Value},aP xs us->aP ys ws->aP (xs++ys) (us++ws)
 |_,_,_,_,.nil,s=>s
 |_,_,_,_,.cons r t,s=>.cons r (aP.append t s)
theorem aP.take:∀{xs:List V} {us:List Value} (n:Nat),aP xs us->aP (xs.take n) (us.take n)
 |_,_,0,_=>.nil
 |_,_,_+1,.nil=>.nil
 |_,_,n+1,.cons r t=>.cons r (aP.take n t)
theorem aP.drop:∀{xs:List V} {us:List Value} (n:Nat),aP xs us->aP (xs.drop n) (us.drop n)
 |_,_,0,r=>r
 |_,_,_+1,.nil=>.nil
 |_,_,n+1,.cons _ t=>aP.drop n t
def eL:Option V->Option Value->Prop
 |some v,some u=>aM v u
 |none,none=>True
 |_,_=>False
def KV{κ:Type}:List (κ×V)->List (κ×Value)->Prop:=Paired fun (p:κ×V) (q:κ×Value)=>p.1=q.1/\aM p.2 q.2
def kV:Key->V
 |.inl i=>.int i
 |.inr x=>.str x
inductive HO where
 |lst (xs:List V)
 |tup (xs:List V)
 |dK (kvs:List (Key×V))|dT (kvs:List (List Key×V))
 |set (S:Int->Bool) (n:Nat)
 |ins (C dx:Addr) (fs:List (Str×V))
 |own (x:Addr)
 |xd (fs:List (Str×V))
 |met (f x:Addr)
 |rng (lo hi:Int)
 |frz (o:Obj) (u:HO)
 |tbl (ps:Array Value)
 |ext (φ:Heap->Prop)
abbrev Hp:=Addr->Option HO
def aG(H:Hp)(a:Addr)(o:HO):Hp:=fun b=>if b=a then some o else H b
theorem aU{H:Hp}{a:Addr}{o:HO}:aG H a o a=some o:=by unfold aG;rw[xal rfl]
theorem aH{H:Hp}{a b:Addr}{o:HO}(h:b≠a):aG H a o b=H b:=by unfold aG;rw[xak h]
theorem iR{H:Hp}{a b:Addr}{o u:HO}(h:H a=some o)(h':H b=some u)(d:o≠u):a≠b:=by
 intro e;subst e;rw[h] at h';exact d (xaw h')
theorem bC{H:Hp}{a b:Addr}{o:HO}(h:H a=some o)(h':H b=none):a≠b:=by
 intro e;subst e;rw[h] at h';cases h'
def kF(h:Heap)(a:Addr)(items:Array Value):Prop:=∃o,h.get? a=some o/\o.cls=.type "tuple"/\(∃n,o.data=.seq items n)/\o.dict=none
theorem kF.tup{h:Heap}{a:Addr}{items:Array Value}(x:kF h a items):IsTup h a items:=by
 obtain⟨o,e,c,d,_⟩:=x;exact⟨o,e,c,d⟩
theorem kF.new(h:Heap)(items:Array Value):kF (h.push { cls:=.type "tuple",data:=.seq items }) h.objs.size items:=⟨_,xav h rfl,rfl,⟨0,rfl⟩,rfl⟩
section
variable(P:Program)(w:World)
def cW(H:Hp)(h:Heap)(a:Addr):HO->Prop
 |.lst xs=>xs.length<=sizeLine/\∃(its:List Value) (n:Nat),aP xs its/\h.get? a=some { cls:=.type "list",data:=.seq its.toArray n }
 |.tup xs=>xs.length<=sizeLine/\∃its:List Value,aP xs its/\kF h a its.toArray
 |.dK kvs=>kvs.length<=sizeLine/\(a==sysModules)=false/\∃vs,KV kvs vs/\h.DictOf (fC P w) a vs
 |.dT kvs=>kvs.length<=sizeLine/\(a==sysModules)=false/\∃xs:List (List Key×Addr×Value),
   Paired (fun (p:List Key×V) (q:List Key×Addr×Value)=>p.1=q.1/\H q.2.1=some (.tup (p.1.map kV))/\aM p.2 q.2.2) kvs xs/\
   ∃o es ep,h.get? a=some o/\o.ExactDict/\o.data=.dict es ep/\es.toList=xs.map (entryOfKey (tupleKind (fC P w)))/\(xs.map (·.1)).Nodup
 |.set S n=>h.SetOf (intKind P w) a S n
 |.ins C dx fs=>H dx=some (.own a)/\fs.length<=1000/\dx≠a/\h.get? a=some (PySem.W.instObj C dx)/\
   ∃mA,h.Ns1 dx mA/\(∀f,eL (fs.lookup f) (mA f))/\PySem.Within mA (fs.map (·.1))
 |.own _=>∃o,h.get? a=some o
 |.xd fs=>∃mA,h.Ns1 a mA/\∀f,eL (fs.lookup f) (mA f)
 |.rng lo hi=>∃t u v,h.get? a=some { cls:=.type "range",data:=.fields #[.int lo t,.int hi u,.int 1 v] }
 |.frz o u=>h.get? a=some o/\cW H h a u
 |.tbl ps=>h.get? a=some { cls:=.none,data:=.fields ps }
 |.met f x=>h.get? a=some (PySem.W.methodObj (.ref f) (.ref x))
 |.ext φ=>φ h/\(∃o,h.get? a=some o)/\∀h1 h2:Heap,φ h1->(∀o,h1.get? a=some o->h2.get? a=some o)->φ h2
def bY(H:Hp)(h:Heap):Prop:=∀a o,H a=some o->cW P w H h a o
end
section
variable{P:Program}{w:World}{H H':Hp}{h h':Heap}{a:Addr}{o:HO}
theorem cW.lt(x:cW P w H h a o):a<h.objs.size:=by
 cases o with
 |lst xs=>obtain⟨_,_,_,_,e⟩:=x;exact xam e
 |tup xs=>obtain⟨_,_,_,p⟩:=x;exact p.tup.lt
 |dK kvs=>obtain⟨_,_,_,_,o,_,_,e,_⟩:=x;exact xam e
 |dT kvs=>obtain⟨_,_,_,_,o,_,_,e,_⟩:=x;exact xam e
 |set S n=>obtain⟨o,_,_,_,e,_⟩:=x;exact xam e
 |ins C dx fs=>obtain⟨_,_,_,e,_⟩:=x;exact xam e
 |own y=>obtain⟨_,e⟩:=x;exact xam e
 |xd fs=>obtain⟨_,⟨_,_,_,e,_⟩,_⟩:=x;exact xam e
 |rng lo hi=>obtain⟨_,_,_,e⟩:=x;exact xam e
 |frz ob u=>obtain⟨e,_⟩:=x;exact xam e
 |tbl ps=>exact xam (show h.get? a=some _ from x)
 |met f y=>exact xam (show h.get? a=some _ from x)
 |ext φ=>obtain⟨_,⟨_,e⟩,_⟩:=x;exact xam e
theorem Paired.mapP{α β:Type}{F G:α->β->Prop}:∀{l₁:List α} {l₂:List β},Paired F l₁ l₂->(∀a b,F a b->G a b)->Paired G l₁ l₂
 |_,_,.nil,_=>.nil
 |_,_,.cons r t,f=>.cons (f _ _ r) (Paired.mapP t f)
theorem cW.stay(x:cW P w H h a o)(k:∀b u,(b=a\/H b=some (.own a))->h.get? b=some u->h'.get? b=some u)
  (ho:∀b,H b=some (.own a)->H' b=some (.own a)) (ht:∀b xs,H b=some (.tup xs)->H' b=some (.tup xs)):cW P w H' h' a o:=by
 induction o with
 |lst xs=>obtain⟨z,its,n,r,e⟩:=x;exact⟨z,its,n,r,k _ _ (.inl rfl) e⟩
 |tup xs=>obtain⟨z,its,r,ob,e,c⟩:=x;exact⟨z,its,r,ob,k _ _ (.inl rfl) e,c⟩
 |dK kvs=>obtain⟨z,y,vs,r,ob,es,ep,e,c⟩:=x;exact⟨z,y,vs,r,ob,es,ep,k _ _ (.inl rfl) e,c⟩
 |dT kvs=>
  obtain⟨z,y,xs,r,ob,es,ep,e,c⟩:=x
  exact⟨z,y,xs,Paired.mapP r fun p q z=>⟨z.1,ht _ _ z.2.1,z.2.2⟩,ob,es,ep,k _ _ (.inl rfl) e,c⟩
 |set S n=>obtain⟨ob,es,ep,t,e,c⟩:=x;exact⟨ob,es,ep,t,k _ _ (.inl rfl) e,c⟩
 |ins C dx fs=>
  obtain⟨d,z,ne,e,mA,⟨od,es,ep,e2,c⟩,r⟩:=x
  exact⟨ho _ d,z,ne,k _ _ (.inl rfl) e,mA,⟨od,es,ep,k _ _ (.inr d) e2,c⟩,r⟩
 |own y=>obtain⟨ob,e⟩:=x;exact⟨ob,k _ _ (.inl rfl) e⟩
 |xd fs=>obtain⟨mA,⟨od,es,ep,e,c⟩,r⟩:=x;exact⟨mA,⟨od,es,ep,k _ _ (.inl rfl) e,c⟩,r⟩
 |rng lo hi=>obtain⟨t,u,v,e⟩:=x;exact⟨t,u,v,k _ _ (.inl rfl) e⟩
 |frz ob u ih=>obtain⟨e,q⟩:=x;exact⟨k _ _ (.inl rfl) e,ih q⟩
 |tbl ps=>
  have e:h.get? a=some { cls:=.none,data:=.fields ps }:=x
  show h'.get? a=some { cls:=.none,data:=.fields ps }
  exact k a _ (.inl rfl) e
 |met f y=>
  have e:h.get? a=some (PySem.W.methodObj (.ref f) (.ref y)):=x
  show h'.get? a=some (PySem.W.methodObj (.ref f) (.ref y))
  exact k a _ (.inl rfl) e
 |ext φ=>obtain⟨p,⟨o,e⟩,st⟩:=x;exact⟨st _ _ p fun o q=>k _ _ (.inl rfl) q,⟨o,k _ _ (.inl rfl) e⟩,st⟩
theorem bY.lt(x:bY P w H h)(e:H a=some o):a<h.objs.size:=(x a o e).lt
theorem bY.fresh(x:bY P w H h)(e:h.objs.size<=a):H a=none:=by
 cases q:H a with
 |none=>rfl
 |some u=>exact xaq (xan (x.lt q) e) (xbq _)
theorem bY.kept(x:bY P w H h)(k:∀b u,h.get? b=some u->h'.get? b=some u):bY P w H h':=fun a o e=>
 (x a o e).stay (fun b u _ q=>k b u q) (fun _ q=>q) fun _ _ q=>q
theorem bY.laid(x:bY P w H h)(k:∀b u,h.get? b=some u->h'.get? b=some u)(hp:h.objs.size<=a)(new:cW P w (aG H a o) h' a o):bY P w (aG H a o) h':=fun b u e=>by
 have hn:=x.fresh hp
 by_cases hb:b=a
 ·subst hb;rw[aU] at e;cases e;exact new
 ·rw[aH hb] at e
  exact(x b u e).stay (fun c v _ q=>k c v q) (fun c q=>by rw[aH (bC q hn)];exact q) fun c xs q=>by rw[aH (bC q hn)];exact q
end
def Rd(H:Hp)(a:Addr)(u:HO):Prop:=H a=some u\/∃o,H a=some (.frz o u)
theorem Rd.ok{P:Program}{w:World}{H:Hp}{h:Heap}{a:Addr}{u:HO}(r:Rd H a u)(x:bY P w H h):cW P w H h a u:=by
 rcases r with r|⟨o,r⟩
 ·exact x a u r
 ·obtain⟨_,q⟩:=x a _ r
  exact q
def o5:Option HO->Prop
 |some (.lst _)=>True
 |some (.dK _)=>True
 |some (.dT _)=>True
 |some (.set _ _)=>True
 |some (.ins _ _ _)=>True
 |some (.ext _)=>True
 |_=>False
section
variable{P:Program}{w:World}{H:Hp}{h h':Heap}{x e:Addr}{o':HO}
theorem bY.write(ok:bY P w H h)(mu:o5 (H x))(he:e=x\/H e=some (.own x))(k:∀b u,b≠e->h.get? b=some u->h'.get? b=some u)(heo:∃u,h'.get? e=some u)
  (new:cW P w (aG H x o') h' x o'):bY P w (aG H x o') h':=fun b u q=>by
 have nown:∀c y,H c=some (.own y)->c≠x:=fun c y r z=>by subst z;rw[r] at mu;exact mu
 have ntup:∀c xs,H c=some (.tup xs)->c≠x:=fun c xs r z=>by subst z;rw[r] at mu;exact mu
 by_cases hb:b=x
 ·subst hb;rw[aU] at q;cases q;exact new
 ·rw[aH hb] at q
  by_cases hbe:b=e
  ·have q':H b=some (.own x):=by
    rcases he with z|z
    ·exact xaq (hbe.trans z) hb
    ·rw[hbe];exact z
   rw[q] at q';cases q'
   obtain⟨v,hv⟩:=heo
   exact⟨v,by rw[hbe];exact hv⟩
  ·refine(ok b u q).stay (fun c v hc r=>k c v ?_ r) (fun c r=>by rw[aH (nown c b r)];exact r) fun c xs r=>by rw[aH (ntup c xs r)];exact r
   rcases hc with rfl|hc
   ·exact hbe
   ·rintro rfl
    rcases he with z|z
    ·exact nown c b hc z
    ·rw[hc] at z;cases z;exact hb rfl
end
structure Un(fs ex:List Addr)(H H':Hp)(h h':Heap):Prop where
 keep:∀b o,h.get? b=some o->H b=none->b∉fs->b∉ex->h'.get? b=some o
 slot:∀b o,h.get? b=some o->H b=none->b∈fs->b∉ex->∃sl,h'.get? b=some { o with slots:=sl }
 free:∀b o,h.get? b=some o->H b=none->b∉ex->H' b=none
 there:∀b o,h.get? b=some o->b∉ex->∃o',h'.get? b=some o'
 tups:∀b xs,H b=some (.tup xs)->H' b=some (.tup xs)
 frzs:∀b o u,H b=some (.frz o u)->H' b=some (.frz o u)
 tbls:∀b ps,H b=some (.tbl ps)->∃more,H' b=some (.tbl (ps++more))
section
variable{fs fs' ex ex':List Addr}{H H1 H2:Hp}{h h1 h2 h':Heap}{a x e:Addr}{o:HO}
theorem Un.any(u:Un fs ex H H1 h h1){b:Addr}{ob:Obj}(q:h.get? b=some ob)(n:H b=none)(hx:b∉ex):∃sl,h1.get? b=some { ob with slots:=sl }:=by
 by_cases hb:b∈fs
 ·exact u.slot b ob q n hb hx
 ·exact⟨ob.slots,u.keep b ob q n hb hx⟩
theorem Un.kept(k:∀b u,h.get? b=some u->h'.get? b=some u):Un fs ex H H h h':=
 ⟨fun b ob q _ _ _=>k b ob q,fun b ob q _ _ _=>⟨ob.slots,k b ob q⟩,fun _ _ _ n _=>n,fun b ob q _=>⟨ob,k b ob q⟩,fun _ _ q=>q,fun _ _ _ q=>q,fun _ ps q=>⟨#[],by rw[q];simp⟩⟩
theorem Un.refl:Un fs ex H H h h:=Un.kept fun _ _ q=>q
theorem Un.laid(k:∀b u,h.get? b=some u->h'.get? b=some u)(hp:h.objs.size<=a)(hn:H a=none):Un fs ex H (aG H a o) h h' where
 keep:=fun b u q _ _ _=>k b u q
 slot:=fun b u q _ _ _=>⟨u.slots,k b u q⟩
 free:=fun b u q n _=>by rw[aH (xa6 (xan (xam q) hp))];exact n
 there:=fun b u q _=>⟨u,k b u q⟩
 tups:=fun b xs q=>by rw[aH (bC q hn)];exact q
 frzs:=fun b u xs q=>by rw[aH (bC q hn)];exact q
 tbls:=fun b ps q=>⟨#[],by rw[aH (bC q hn),q];simp⟩
theorem Un.write(mu:o5 (H x))(he:e=x\/H e=some (.own x))(k:∀b u,b≠e->h.get? b=some u->h'.get? b=some u)(heo:∃u,h'.get? e=some u):Un fs ex H (aG H x o) h h':=by
 have hx:∀b,H b=none->b≠x:=fun b n z=>by subst z;rw[n] at mu;exact mu
 have hb:∀b,H b=none->b≠e:=fun b n z=>by
  subst z
  rcases he with r|r
  ·exact hx b n r
  ·rw[n] at r;cases r
 have hm:∀b u,H b=some u->¬o5 (some u)->b≠x:=fun b u q nm z=>by subst z;rw[q] at mu;exact nm mu
 refine⟨fun b u q n _ _=>k b u (hb b n) q,fun b u q n _ _=>⟨u.slots,k b u (hb b n) q⟩,fun b u q n _=>by rw[aH (hx b n)];exact n,fun b u q _=>?_,
  fun b xs q=>by rw[aH (hm b _ q fun z=>z)];exact q,fun b u xs q=>by rw[aH (hm b _ q fun z=>z)];exact q,fun b ps q=>⟨#[],by rw[aH (hm b _ q fun z=>z),q];simp⟩⟩
 by_cases hbe:b=e
 ·subst hbe;exact heo
 ·exact⟨u,k b u hbe q⟩
end
def trk(h:Heap)(H:Hp):List Addr:=(List.range h.objs.size).filter fun a=>(H a).isSome
def jM(h:Heap)(H:Hp):Heap:=PySem.W.hideAll h (trk h H)
theorem OF(h:Heap)(H:Hp):(jM h H).objs.size=h.objs.size:=PySem.W.hideAll_size _ _
theorem OG{h:Heap}{H:Hp}{b:Addr}{o:Obj}(e:h.get? b=some o)(n:H b=none):(jM h H).get? b=some o:=
 PySem.W.hideAll_get _ e fun hm=>by
  have q:(H b).isSome=true:=(xcl.mp hm).2
  rw[n] at q;simp at q
theorem OH{h:Heap}{H:Hp}{b:Addr}{o:Obj}(e:(jM h H).get? b=some o):h.get? b=some o/\H b=none:=by
 have e':h.get? b=some o:=PySem.W.of_hideAll (trk h H) e
 refine⟨e',?_⟩
 cases q:H b with
 |none=>rfl
 |some x=>
  have hm:b∈trk h H:=xcl.mpr ⟨List.mem_range.mpr (xam e'),by simp[q]⟩
  have z:(jM h H).get? b=none:=PySem.W.hideAll_none (trk h H) hm
  rw[z] at e;cases e
def OI(g h:Heap)(L:Addr):List (Addr×Obj):=(List.range h.objs.size).filterMap fun a=>if a=L\/(g.get? a).isSome=true then none else (h.get? a).map fun o=>(a,o)
def aN(g h:Heap)(L d:Addr):List (Addr×Obj):=(OI g h L).filter fun p=>decide (p.1≠d)
end L2
namespace L2
open PySem.Spec PyProof.Rows
structure Mod(K:xFg)(mg:Str->Option Value)(base:Heap):Prop where
 kin:K.In base
 glob:base.Ns mainGlobals mg
 blt:∃mb,base.Ns builtinsNs mb/\∀x:Str,x≠"__name__"->mb x=bootBuiltins x
 nolimit:base.NoLimit
structure Cx where
 prog:Program
 w:World
 K:xFg
 mg:Str->Option Value
 base:Heap
 A:Around
 N:List Str
 s₀:Shared
 H₀:Hp
 env:Env
 outer:List Env
 stack:List Env
 ex:List Addr
 fn:Str->Bool
 calm:Bool
 pn:List (Addr×Obj)
 xe:Value->Shared->Prop
def bV(l:List Env):List Addr:=l.filterMap (·.frame)
abbrev Cx.fs(X:Cx):List Addr:=bV X.outer
def cB(sc:Scope)(x:Str):Prop:=sc.names.lookup x=some .local\/sc.names.lookup x=some .cell\/sc.names.lookup x=some .free
def eM(sc:Scope)(x:Str):Prop:=sc.names.lookup x=some .local\/sc.names.lookup x=some .cell
def zQ(env:Env)(h:Heap)(m:Str->Option Value)(x:Str)(u:Value):Prop:=
 (env.kindOf x=some .local/\m x=some u)\/((env.kindOf x=some .cell\/env.kindOf x=some .free)/\∃c,env.cells.lookup x=some c/\h.IsCell c (some u))
structure Cx.Ok(X:Cx):Prop where
 mod:Mod X.K X.mg X.base
 kind:X.env.scope.kind=.function
 glob:X.env.globals=mainGlobals
 blt:X.env.builtins=builtinsNs
 above:X.s₀.heap.objs.size<=X.env.locals
 inj:∀x y c,X.env.cells.lookup x=some c->X.env.cells.lookup y=some c->x=y
 has:∀x,(X.env.kindOf x=some .cell\/X.env.kindOf x=some .free)->∃c,X.env.cells.lookup x=some c
 cab:∀x c,X.fn x=true->X.env.cells.lookup x=some c->X.s₀.heap.objs.size<=c
 hd:X.calm=true->X.A.handled=none
 frames:X.A.frames=some X.stack
 stk:X.stack=X.outer\/(X.stack=X.env::X.outer/\X.env.frame=some X.env.locals)
 exf:∀b∈X.ex,b≠X.env.locals/\∀x c,X.env.cells.lookup x=some c->c≠b
 bs:∀b o,X.base.get? b=some o->X.s₀.heap.get? b=some o/\X.H₀ b=none
 bsz:X.base.objs.size<=X.s₀.heap.objs.size
 noex:∀b o,X.base.get? b=some o->b∉X.ex
 exfs:∀b∈X.ex,b∉X.fs
 funs:X.s₀.heap.FunFrames X.base X.outer
 frf:∀b∈X.fs,X.H₀ b=none
structure aD(X:Cx)(pins:List (Addr×Obj))(σ:List (Option V))(H:Hp)(s:Shared):Prop where
 ok:X.Ok
 os:s.os=X.s₀.os
 bare:AllBare s.gens
 base:Un X.fs X.ex X.H₀ H X.s₀.heap s.heap
 loc:∃m,s.heap.Ns X.env.locals m/\∀(i:Nat) (x:Str) (v:V),X.N[i]? = some x->σ[i]? = some (some v)->cB X.env.scope x->∃u,aM v u/\zQ X.env s.heap m x u
 cell:∀x c,X.env.cells.lookup x=some c->∃v,s.heap.IsCell c v
 free:H X.env.locals=none
 freeC:∀x c,X.env.cells.lookup x=some c->H c=none
 pin:∀p∈X.pn++pins,s.heap.get? p.1=some p.2/\H p.1=none/\p.1≠X.env.locals/\p.1∉X.fs/\∀v,p.2.data≠.cell v
 hok:bY X.prog X.w H s.heap
 len:σ.length=X.N.length
section
variable{X:Cx}{pins:List (Addr×Obj)}{σ:List (Option V)}{H H':Hp}{s:Shared}{h':Heap}
theorem Cx.Ok.nofr(ok:X.Ok){b:Addr}{o:Obj}(e:X.base.get? b=some o):b∉X.fs:=fun hb=>by
 have:=(ok.funs.mem hb).1
 rw[e] at this;cases this
theorem aD.bs(I:aD X pins σ H s):∀b o,X.base.get? b=some o->s.heap.get? b=some o/\H b=none:=fun b o e=>
 ⟨I.base.keep b o (I.ok.bs b o e).1 (I.ok.bs b o e).2 (I.ok.nofr e) (I.ok.noex b o e),I.base.free b o (I.ok.bs b o e).1 (I.ok.bs b o e).2 (I.ok.noex b o e)⟩
theorem aD.bk(I:aD X pins σ H s):∀b o,X.base.get? b=some o->s.heap.get? b=some o:=fun b o e=>(I.bs b o e).1
theorem aD.mod(I:aD X pins σ H s):Mod X.K X.mg X.base:=I.ok.mod
theorem aD.kIn(I:aD X pins σ H s):X.K.In s.heap:=I.ok.mod.kin.keeps I.bk
theorem aD.fr(I:aD X pins σ H s):∃m,Fr X.base X.env.locals s.heap m:=
 let⟨m,hn,_⟩:=I.loc
 ⟨m,hn,I.bk,xaz I.ok.bsz I.ok.above⟩
theorem aD.lt(I:aD X pins σ H s):X.env.locals<s.heap.objs.size:=let⟨_,hn,_⟩:=I.loc;hn.lt
theorem aD.sz(I:aD X pins σ H s):X.s₀.heap.objs.size<=s.heap.objs.size:=xaz I.ok.above (xcb I.lt)
theorem aD.nofs(I:aD X pins σ H s){a:Addr}(h:s.heap.objs.size<=a):a∉X.fs:=fun hb=>by
 obtain⟨_,o,ho,_⟩:=I.ok.funs.mem hb
 exact xaq (xan (xam ho) (xaz I.sz h)) (xbq _)
theorem aD.cne(I:aD X pins σ H s):∀x c,X.env.cells.lookup x=some c->c≠X.env.locals:=fun x c e z=>by
 obtain⟨v,o,ho,hd⟩:=I.cell x c e
 obtain⟨m,⟨o',es,ep,ho',hd',_⟩,_⟩:=I.loc
 rw[z,ho'] at ho;cases ho;rw[hd'] at hd;cases hd
theorem aD.funs(I:aD X pins σ H s):s.heap.FunFrames X.base X.outer:=by
 have all:∀(l:List Env),(∀b∈bV l,b∈X.fs)->X.s₀.heap.FunFrames X.base l->s.heap.FunFrames X.base l:=by
  intro l
  induction l with
  |nil=>intro _ _;trivial
  |cons env r ih=>
   intro hs hl
   obtain⟨hk,⟨L,o,hf,hn,ho,hd⟩,hr⟩:=hl
   have hL:L∈X.fs:=hs L (by unfold bV;rw[xb8,hf];exact xa7)
   obtain⟨sl,e⟩:=I.base.slot L o ho (I.ok.frf L hL) hL fun z=>I.ok.exfs L z hL
   exact⟨hk,⟨L,_,hf,hn,e,hd⟩,ih (fun b hb=>hs b (by unfold bV;rw[xb8,hf];exact xas _ hb)) hr⟩
 exact all X.outer (fun _ hb=>hb) I.ok.funs
theorem aD.stack(I:aD X pins σ H s):s.heap.FunFrames X.base X.stack:=by
 rcases I.ok.stk with e|⟨e,hf⟩
 ·rw[e];exact I.funs
 ·rw[e]
  obtain⟨m,hn,_⟩:=I.loc
  refine .cons (by rw[I.ok.kind];decide) hf hn ?_ I.funs
  exact Heap.get?_none_of_le (xaz I.ok.bsz I.ok.above)
theorem aD.stkSub(I:aD X pins σ H s):∀b∈bV X.stack,b∈X.env.locals::X.fs:=fun b hb=>by
 rcases I.ok.stk with e|⟨e,hf⟩
 ·rw[e] at hb;exact xas _ hb
 ·rw[e] at hb
  unfold bV at hb
  rw[xb8,hf] at hb
  exact hb
theorem aD.stkFree(I:aD X pins σ H s):∀b∈bV X.stack,H b=none:=fun b hb=>by
 rcases xa1.mp (I.stkSub b hb) with e|hb
 ·rw[e];exact I.free
 ·obtain⟨_,o,ho,_⟩:=I.ok.funs.mem hb
  exact I.base.free b o ho (I.ok.frf b hb) fun z=>I.ok.exfs b z hb
theorem aD.step{g':Array GenState}{t':Nat}{d':Drawn}{ch:List Addr}(I:aD X pins σ H s)
  (hch:∀b∈ch,(b∈X.ex\/X.s₀.heap.objs.size<=b)/\b≠X.env.locals/\(∀x c,X.env.cells.lookup x=some c->c≠b)/\∀p∈X.pn++pins,p.1≠b)
  (keep:∀b o,b≠X.env.locals->b∉X.fs->b∉ch->s.heap.get? b=some o->H b=none->h'.get? b=some o)
  (slot:∀b o,b≠X.env.locals->b∈X.fs->b∉ch->s.heap.get? b=some o->H b=none->∃sl,h'.get? b=some { o with slots:=sl }) (free:∀b o,b∉ch->s.heap.get? b=some o->H b=none->H' b=none)
  (there:∀b o,b∉ch->s.heap.get? b=some o->∃o',h'.get? b=some o')
  (tups:∀b xs,H b=some (.tup xs)->H' b=some (.tup xs)) (frzs:∀b o u,H b=some (.frz o u)->H' b=some (.frz o u)) (tbls:∀b ps,H b=some (.tbl ps)->∃more,H' b=some (.tbl (ps++more)))
  (ns:∀m,s.heap.Ns X.env.locals m->h'.Ns X.env.locals m) (hok:bY X.prog X.w H' h') (hg:AllBare g') :
  aD X pins σ H' { s with heap:=h',gens:=g',drawn:=d',toks:=t' }:=by
 have neL:∀b o,X.s₀.heap.get? b=some o->b≠X.env.locals:=fun b o e=>xa6 (xan (xam e) I.ok.above)
 have neC:∀b o,X.s₀.heap.get? b=some o->b∉X.ex->b∉ch:=fun b o e hx hb=>by
  rcases(hch b hb).1 with z|z
  ·exact hx z
  ·exact xaq (xan (xam e) z) (xbq _)
 have cellK:∀x c,X.env.cells.lookup x=some c->∀v,s.heap.IsCell c v->h'.IsCell c v:=fun x c e v ⟨o,ho,hd⟩=>by
  have nch:c∉ch:=fun z=>(hch c z).2.2.1 x c e rfl
  by_cases hc:c∈X.fs
  ·obtain⟨sl,q⟩:=slot c o (I.cne x c e) hc nch ho (I.freeC x c e)
   exact⟨_,q,hd⟩
  ·exact⟨o,keep c o (I.cne x c e) hc nch ho (I.freeC x c e),hd⟩
 refine⟨I.ok,I.os,hg,⟨fun b o e n hb hx=>?_,fun b o e n hb hx=>?_,fun b o e n hx=>?_,fun b o e hx=>?_,fun b xs e=>tups b xs (I.base.tups b xs e),fun b o xs e=>frzs b o xs (I.base.frzs b o xs e),fun b ps e=>?_⟩,?_,fun x c e=>?_,?_,fun x c e=>?_,fun p hp=>?_,hok,I.len⟩
 ·exact keep b o (neL b o e) hb (neC b o e hx) (I.base.keep b o e n hb hx) (I.base.free b o e n hx)
 ·obtain⟨sl,e1⟩:=I.base.slot b o e n hb hx
  obtain⟨sl',e2⟩:=slot b _ (neL b o e) hb (neC b o e hx) e1 (I.base.free b o e n hx)
  exact⟨sl',e2⟩
 ·obtain⟨o',e1⟩:=I.base.there b o e hx
  exact free b o' (neC b o e hx) e1 (I.base.free b o e n hx)
 ·obtain⟨o',e1⟩:=I.base.there b o e hx
  exact there b o' (neC b o e hx) e1
 ·obtain⟨m1,e1⟩:=I.base.tbls b ps e
  obtain⟨m2,e2⟩:=tbls b _ e1
  exact⟨m1++m2,by rw[e2,Array.append_assoc]⟩
 ·obtain⟨m,hn,hl⟩:=I.loc
  refine⟨m,ns m hn,fun i x v e1 e2 e3=>?_⟩
  obtain⟨u,r,l⟩:=hl i x v e1 e2 e3
  refine⟨u,r,?_⟩
  rcases l with l|⟨k,c,e,z⟩
  ·exact .inl l
  ·exact .inr ⟨k,c,e,cellK x c e _ z⟩
 ·obtain⟨v,z⟩:=I.cell x c e
  exact⟨v,cellK x c e v z⟩
 ·obtain⟨m,⟨o,_,_,ho,_⟩,_⟩:=I.loc
  exact free _ o (fun z=>(hch _ z).2.1 rfl) ho I.free
 ·obtain⟨v,o,ho,hd⟩:=I.cell x c e
  exact free c o (fun z=>(hch c z).2.2.1 x c e rfl) ho (I.freeC x c e)
 ·obtain⟨e,n,ne,nf,d⟩:=I.pin p hp
  have nch:p.1∉ch:=fun z=>(hch p.1 z).2.2.2 p hp rfl
  exact⟨keep p.1 p.2 ne nf nch e n,free p.1 p.2 nch e n,ne,nf,d⟩
theorem aD.un{t':Nat}(I:aD X pins σ H s)(u:Un X.fs [] H H' s.heap h')(hok:bY X.prog X.w H' h'):aD X pins σ H' { s with heap:=h',toks:=t' }:=by
 obtain⟨m,⟨o,es,ep,ho,r⟩,_⟩:=id I.loc
 obtain⟨sl,hL⟩:=u.any ho I.free (by simp)
 exact I.step (g':=s.gens) (d':=s.drawn) (ch:=[]) (fun _ z=>nomatch z) (fun b o _ hb _ e n=>u.keep b o e n hb (by simp)) (fun b o _ hb _ e n=>u.slot b o e n hb (by simp)) (fun b o _ e n=>u.free b o e n (by simp)) (fun b o _ e=>u.there b o e (by simp)) u.tups u.frzs u.tbls (fun m' hm=>by
  obtain⟨o',es',ep',ho',r'⟩:=hm
  rw[ho] at ho';cases ho'
  exact⟨_,es',ep',hL,r'⟩) hok I.bare
theorem aD.call{g':Array GenState}{t':Nat}{d':Drawn}{ch:List Addr}(I:aD X pins σ H s)(u:Un (bV X.stack) ch H H' s.heap h')(hok:bY X.prog X.w H' h')(hg:AllBare g')
  (hch:∀b∈ch,(b∈X.ex\/X.s₀.heap.objs.size<=b)/\b≠X.env.locals/\(∀x c,X.env.cells.lookup x=some c->c≠b)/\∀p∈X.pn++pins,p.1≠b) :
  aD X pins σ H' { s with heap:=h',gens:=g',drawn:=d',toks:=t' }:=by
 obtain⟨m,⟨o,es,ep,ho,r⟩,_⟩:=id I.loc
 obtain⟨sl,hL⟩:=u.any ho I.free fun z=>(hch _ z).2.1 rfl
 exact I.step (ch:=ch) hch (fun b o hL hb hc e n=>u.keep b o e n (fun z=>(xa1.mp (I.stkSub b z)).elim hL hb) hc) (fun b o _ _ hc e n=>u.any e n hc) (fun b o hc e n=>u.free b o e n hc) (fun b o hc e=>u.there b o e hc) u.tups u.frzs u.tbls (fun m' hm=>by
  obtain⟨o',es',ep',ho',r'⟩:=hm
  rw[ho] at ho';cases ho'
  exact⟨_,es',ep',hL,r'⟩) hok hg
theorem aD.turned{t':Nat}{it:Addr}(I:aD X pins σ H s)(k:∀b o,b≠it->s.heap.get? b=some o->h'.get? b=some o)(hn:H it=none)(hL:it≠X.env.locals)
  (h1:it∈X.ex\/X.s₀.heap.objs.size<=it) (h2:∀x c,X.env.cells.lookup x=some c->c≠it) (h3:∀p∈X.pn++pins,p.1≠it):aD X pins σ H { s with heap:=h',toks:=t' }:=by
 have nit:∀b u,H b=some u->b≠it:=fun b u e z=>by rw[z,hn] at e;cases e
 refine I.step (g':=s.gens) (d':=s.drawn) (ch:=[it]) (fun b hb=>?_) (fun b o _ _ hc e _=>k b o (fun z=>hc (by simp[z])) e) (fun b o _ _ hc e _=>⟨o.slots,k b o (fun z=>hc (by simp[z])) e⟩) (fun _ _ _ _ n=>n)
  (fun b o hc e=>⟨o,k b o (fun z=>hc (by simp[z])) e⟩) (fun _ _ e=>e) (fun _ _ _ e=>e) (fun b ps e=>⟨#[],by rw[e];simp⟩) (fun m hm=>?_) (fun b u e=>?_) I.bare
 ·have e:b=it:=by simpa using hb
  subst e
  exact⟨h1,hL,h2,h3⟩
 ·obtain⟨o,es,ep,ho,r⟩:=hm
  exact⟨o,es,ep,k _ o (xay hL) ho,r⟩
 ·refine(I.hok b u e).stay (fun c v hc q=>k c v ?_ q) (fun _ q=>q) fun _ _ q=>q
  rcases hc with z|z
  ·rw[z];exact nit b u e
  ·exact nit c _ z
theorem aD.tok(I:aD X pins σ H s)(t:Nat):aD X pins σ H { s with toks:=t }:=I.un (h':=s.heap) (t':=t) Un.refl I.hok
theorem aD.kept{t':Nat}(I:aD X pins σ H s)(k:∀b u,s.heap.get? b=some u->h'.get? b=some u):aD X pins σ H { s with heap:=h',toks:=t' }:=I.un (Un.kept k) (I.hok.kept k)
theorem aD.laid{a:Addr}{o:HO}{t':Nat}(I:aD X pins σ H s)(k:∀b u,s.heap.get? b=some u->h'.get? b=some u)(hp:s.heap.objs.size<=a)(new:cW X.prog X.w (aG H a o) h' a o) :
  aD X pins σ (aG H a o) { s with heap:=h',toks:=t' }:=I.un (Un.laid k hp (I.hok.fresh hp)) (I.hok.laid k hp new)
theorem aD.write{x e:Addr}{o:HO}{t':Nat}(I:aD X pins σ H s)(mu:o5 (H x))(he:e=x\/H e=some (.own x))(k:∀b u,b≠e->s.heap.get? b=some u->h'.get? b=some u)(heo:∃u,h'.get? e=some u)
  (new:cW X.prog X.w (aG H x o) h' x o):aD X pins σ (aG H x o) { s with heap:=h',toks:=t' }:=I.un (Un.write mu he k heo) (I.hok.write mu he k heo new)
theorem aD.weak{σ':List (Option V)}(I:aD X pins σ H s)(hl:σ'.length=σ.length)(w:∀(i:Nat) v,σ'[i]? = some (some v)->σ[i]? = some (some v)):aD X pins σ' H s:=
 ⟨I.ok,I.os,I.bare,I.base,let⟨m,hn,hl'⟩:=I.loc;⟨m,hn,fun i x v e1 e2 e3=>hl' i x v e1 (w i v e2) e3⟩,I.cell,I.free,I.freeC,I.pin,I.hok,hl.trans I.len⟩
theorem aD.pins_of{pins':List (Addr×Obj)}(I:aD X pins σ H s)(h:∀p∈pins',s.heap.get? p.1=some p.2/\H p.1=none/\p.1≠X.env.locals/\p.1∉X.fs/\∀v,p.2.data≠.cell v):aD X pins' σ H s:=
 ⟨I.ok,I.os,I.bare,I.base,I.loc,I.cell,I.free,I.freeC,fun p hp=>(xbe.mp hp).elim (fun z=>I.pin p (List.mem_append_left _ z)) (h p),I.hok,I.len⟩
theorem uO{N:List Str}(hN:N.Nodup){i j:Nat}{x:Str}(a:N[i]? = some x)(b:N[j]? = some x):i=j:=by
 obtain⟨h1,e1⟩:=xaf.mp a
 obtain⟨h2,e2⟩:=xaf.mp b
 exact(List.getElem_inj hN).mp (e1.trans e2.symm)
theorem OJ{M:Model}{A:Around}{E:Value->Shared->Prop}{i:Nat}{x:Str}{v:V}{u:Value}{Q:Unit->Shared->Prop}(I:aD X pins σ H s)(hN:X.N.Nodup)(hi:X.N[i]? = some x)(hx:eM X.env.scope x)(r:aM v u)
  (h:∀s',aD X pins (σ.set i (some v)) H s'->(∃a,Heap.SameBut a s.heap s'.heap/\(a=X.env.locals\/X.env.cells.lookup x=some a))->Q () s') (hf:X.fn x=true\/X.env.scope.names.lookup x=some .local:=by first|exact .inl rfl|exact .inr rfl|assumption):wpAny M A (storeName X.env x u) Q E s:=by
 obtain⟨m,hn,hl⟩:=id I.loc
 have hcls:(X.env.scope.kind==.class||(X.env.scope.kind==.module&&X.env.locals != X.env.globals))=false:=by rw[I.ok.kind];rfl
 have hiσ:i<σ.length:=by rw[I.len];exact(xaf.mp hi).1
 have cne:=I.cne
 have tracked:∀{a:Addr} {h':Heap},(∃o,s.heap.get? a=some o/\H a=none)->Heap.SameBut a s.heap h'->bY X.prog X.w H h':=fun {a h'} ha hs b ob e=>by
  obtain⟨_,_,hfree⟩:=ha
  refine(I.hok b ob e).stay (fun c w' hc q=>(hs.2 c ?_).trans q) (fun _ q=>q) fun _ _ q=>q
  rintro rfl
  rcases hc with rfl|hc
  ·rw[hfree] at e;cases e
  ·rw[hfree] at hc;cases hc
 rcases hx with hk|hk
 ·refine wpAny_storeName_local hk hn (fun h' hn' hs=>?_) hcls
  obtain⟨oL,_,_,hoL,_⟩:=id hn
  refine h _ ⟨I.ok,I.os,I.bare,⟨fun b o e n hb hx=>?_,fun b o e n hb hx=>?_,I.base.free,fun b o e hx=>?_,I.base.tups,I.base.frzs,I.base.tbls⟩,⟨_,hn',fun j y v' e1 e2 e3=>?_⟩,fun y c e=>?_,I.free,I.freeC,fun p hp=>?_,tracked ⟨oL,hoL,I.free⟩ hs,by simpa using I.len⟩ ⟨_,hs,.inl rfl⟩
  ·exact(hs.2 b (xa6 (xan (xam e) I.ok.above))).trans (I.base.keep b o e n hb hx)
  ·obtain⟨sl,e1⟩:=I.base.slot b o e n hb hx
   exact⟨sl,(hs.2 b (xa6 (xan (xam e) I.ok.above))).trans e1⟩
  ·obtain⟨o',e1⟩:=I.base.there b o e hx
   exact⟨o',(hs.2 b (xa6 (xan (xam e) I.ok.above))).trans e1⟩
  ·by_cases hj:j=i
   ·subst hj
    rw[hi] at e1;cases e1
    rw[xat hiσ] at e2
    cases e2
    exact⟨u,r,.inl ⟨hk,by simp⟩⟩
   ·rw[xae (xay hj)] at e2
    obtain⟨u',r',q⟩:=hl j y v' e1 e2 e3
    refine⟨u',r',?_⟩
    rcases q with⟨k,e⟩|⟨k,c,e,z⟩
    ·refine .inl ⟨k,?_⟩
     have:y≠x:=fun e=>hj (uO hN e1 (e▸hi))
     simp[this,e]
    ·exact .inr ⟨k,c,e,z.sameBut hs (cne y c e)⟩
  ·obtain⟨w',z⟩:=I.cell y c e
   exact⟨w',z.sameBut hs (cne y c e)⟩
  ·obtain⟨e,n,ne,nf,d⟩:=I.pin p hp
   exact⟨(hs.2 p.1 ne).trans e,n,ne,nf,d⟩
 ·have hfn:X.fn x=true:=by
   rcases hf with z|z
   ·exact z
   ·rw[z] at hk;cases hk
  obtain⟨c,hc⟩:=I.ok.has x (.inl hk)
  obtain⟨w',z⟩:=I.cell x c hc
  refine wpAny_storeName_cell I.ok.kind hk hc z (fun h' hc' hs=>?_)
  obtain⟨oc,hoc,hocd⟩:=id z
  refine h { s with heap:=h' } ⟨I.ok,I.os,I.bare,⟨fun b o e n hb hx=>?_,fun b o e n hb hx=>?_,I.base.free,fun b o e hx=>?_,I.base.tups,I.base.frzs,I.base.tbls⟩,⟨m,hn.sameBut hs (xay (cne x c hc)),fun j y v' e1 e2 e3=>?_⟩,fun y c' e=>?_,I.free,I.freeC,fun p hp=>?_,tracked ⟨oc,hoc,I.freeC x c hc⟩ hs,by simpa using I.len⟩ ⟨c,hs,.inr hc⟩
  ·exact(hs.2 b (xa6 (xan (xam e) (I.ok.cab x c hfn hc)))).trans (I.base.keep b o e n hb hx)
  ·obtain⟨sl,e1⟩:=I.base.slot b o e n hb hx
   exact⟨sl,(hs.2 b (xa6 (xan (xam e) (I.ok.cab x c hfn hc)))).trans e1⟩
  ·obtain⟨o',e1⟩:=I.base.there b o e hx
   exact⟨o',(hs.2 b (xa6 (xan (xam e) (I.ok.cab x c hfn hc)))).trans e1⟩
  ·by_cases hj:j=i
   ·subst hj
    rw[hi] at e1;cases e1
    rw[xat hiσ] at e2
    cases e2
    exact⟨u,r,.inr ⟨.inl hk,c,hc,hc'⟩⟩
   ·rw[xae (xay hj)] at e2
    obtain⟨u',r',q⟩:=hl j y v' e1 e2 e3
    refine⟨u',r',?_⟩
    rcases q with q|⟨k,c',e,z'⟩
    ·exact .inl q
    ·refine .inr ⟨k,c',e,z'.sameBut hs ?_⟩
     rintro rfl
     exact hj (uO hN e1 (I.ok.inj _ _ _ e hc▸hi))
  ·by_cases hcc:c'=c
   ·subst hcc;exact⟨_,hc'⟩
   ·obtain⟨w2,z2⟩:=I.cell y c' e
    exact⟨w2,z2.sameBut hs hcc⟩
  ·obtain⟨e,n,ne,nf,d⟩:=I.pin p hp
   refine⟨(hs.2 p.1 ?_).trans e,n,ne,nf,d⟩
   intro q
   rw[q,hoc] at e
   have q':oc=p.2:=xaw e
   exact d w' (by rw[<- q'];exact hocd)
theorem uP{M:Model}{A:Around}{E:Value->Shared->Prop}{i:Nat}{x:Str}{v:V}{u:Value}{Q:Unit->Shared->Prop}(I:aD X pins σ H s)(hN:X.N.Nodup)(hi:X.N[i]? = some x)(hx:eM X.env.scope x)(r:aM v u)
  (h:∀s',aD X pins (σ.set i (some v)) H s'->Q () s') (hf:X.fn x=true\/X.env.scope.names.lookup x=some .local:=by first|exact .inl rfl|exact .inr rfl|assumption):wpAny M A (storeName X.env x u) Q E s:=
 OJ I hN hi hx r (fun s' I' _=>h s' I') hf
theorem aD.call'{s':Shared}{ch:List Addr}(I:aD X pins σ H s)(ho:s'.os=s.os)(u:Un (bV X.stack) ch H H' s.heap s'.heap)(hok:bY X.prog X.w H' s'.heap)(hg:AllBare s'.gens)
  (hch:∀b∈ch,(b∈X.ex\/X.s₀.heap.objs.size<=b)/\b≠X.env.locals/\(∀x c,X.env.cells.lookup x=some c->c≠b)/\∀p∈X.pn++pins,p.1≠b):aD X pins σ H' s':=by
 obtain⟨h',g',d',t',o'⟩:=s'
 have e:o'=s.os:=ho
 subst e
 exact I.call (g':=g') (t':=t') (d':=d') u hok hg hch
end
abbrev XK:=Value->Option Addr->Hp->Prop
abbrev St:=List (Option V)
abbrev VK:=V->Hp->Prop
abbrev TE:=St->Hp->VK->Prop
abbrev TT:=St->Hp->(Bool->Hp->Prop)->Prop
abbrev TA:=St->Hp->(List V->Hp->Prop)->Prop
structure fM where
 nx:St->Hp->Prop
 rt:VK
 bk:St->Hp->Prop:=fun _ _=>False
 ct:St->Hp->Prop:=fun _ _=>False
abbrev TS:=fM->St->Hp->Prop
def EP(X:Cx)(pins:List (Addr×Obj))(σ:St)(Q:VK)(u:Value)(s':Shared):Prop:=∃v H',aD X pins σ H' s'/\aM v u/\Q v H'
def TP(X:Cx)(pins:List (Addr×Obj))(σ:St)(Q:Bool->Hp->Prop)(b:Bool)(s':Shared):Prop:=∃H',aD X pins σ H' s'/\Q b H'
def AP(X:Cx)(pins:List (Addr×Obj))(σ:St)(Q:List V->Hp->Prop)(us:List Value)(s':Shared):Prop:=∃vs H',aD X pins σ H' s'/\aP vs us/\Q vs H'
def SP(X:Cx)(pins:List (Addr×Obj))(D:fM)(f:Flow)(s':Shared):Prop:=
 match f with
 |.next=>∃σ' H',aD X pins σ' H' s'/\D.nx σ' H'
 |.brk=>∃σ' H',aD X pins σ' H' s'/\D.bk σ' H'
 |.cont=>∃σ' H',aD X pins σ' H' s'/\D.ct σ' H'
 |.ret u=>∃v σ' H',aD X pins σ' H' s'/\aM v u/\D.rt v H'
def PE(X:Cx)(e:Expr)(t:TE):Prop:=
 ∀(pins:List (Addr×Obj)) (s:Shared) (σ:St) (H:Hp) (Q:VK),aD X pins σ H s->t σ H Q->wpAny (model X.prog X.w) X.A (eval e X.env) (EP X pins σ Q) X.xe s
def PT(X:Cx)(e:Expr)(t:TT):Prop:=
 ∀(pins:List (Addr×Obj)) (s:Shared) (σ:St) (H:Hp) (Q:Bool->Hp->Prop),aD X pins σ H s->t σ H Q->wpAny (model X.prog X.w) X.A (isTrue e X.env (eval e X.env)) (TP X pins σ Q) X.xe s
def PW(X:Cx)(e:Expr)(t:TT):Prop:=
 ∀(whole:Sem Value) (pins:List (Addr×Obj)) (s:Shared) (σ:St) (H:Hp) (Q:Bool->Hp->Prop),aD X pins σ H s->t σ H Q->wpAny (model X.prog X.w) X.A (isTrue e X.env whole) (TP X pins σ Q) X.xe s
def PA(X:Cx)(es:List Expr)(t:TA):Prop:=
 ∀(pos:Pos) (pins:List (Addr×Obj)) (s:Shared) (σ:St) (H:Hp) (Q:List V->Hp->Prop),aD X pins σ H s->t σ H Q->wpAny (model X.prog X.w) X.A (spliced (backTo pos (starEach es X.env))) (AP X pins σ Q) X.xe s
def PS(X:Cx)(st:Stmt)(t:TS):Prop:=
 ∀(pins:List (Addr×Obj)) (s:Shared) (σ:St) (H:Hp) (D:fM),aD X pins σ H s->t D σ H->wpAny (model X.prog X.w) X.A (exec st X.env) (SP X pins D) X.xe s
def bQ(X:Cx)(st:List Stmt)(t:TS):Prop:=
 ∀(pins:List (Addr×Obj)) (s:Shared) (σ:St) (H:Hp) (D:fM),aD X pins σ H s->t D σ H->wpAny (model X.prog X.w) X.A (execs st X.env) (SP X pins D) X.xe s
theorem aJ{α:Type}{t:Sem α}{Q Q':α->Shared->Prop}{M:Model}{A:Around}{E:Value->Shared->Prop}{s:Shared}(h:wpAny M A t Q E s)(hQ:∀a s,Q a s->Q' a s):wpAny M A t Q' E s:=wpAny_mono h hQ fun _ _ x=>x
end L2
namespace L2
open PySem.Spec PyProof.Rows
section
variable{X:Cx}
theorem bin{a b:Expr}{ta tb:TE}(ha:PE X a ta)(hb:PE X b tb){pins:List (Addr×Obj)}{s:Shared}{σ:St}{H:Hp}{R:V->V->Hp->Prop}(I:aD X pins σ H s)(h:ta σ H fun x H1=>tb σ H1 fun y H2=>R x y H2)
  {α:Type} {Q:α->Shared->Prop} {f:Value->Value->Sem α}
  (hf:∀v u s2 x y H2,aD X pins σ H2 s2->aM x v->aM y u->R x y H2->wpAny (model X.prog X.w) X.A (f v u) Q X.xe s2) :
  wpAny (model X.prog X.w) X.A (eval a X.env) (fun v s₁=>wpAny (model X.prog X.w) X.A (eval b X.env) (fun u s₂=>wpAny (model X.prog X.w) X.A (f v u) Q X.xe s₂) X.xe s₁) X.xe s:=by
 refine aJ (ha pins s σ H _ I h) fun v s1 ⟨x,H1,I1,r1,q1⟩=>?_
 refine aJ (hb pins s1 σ H1 _ I1 q1) fun u s2 ⟨y,H2,I2,r2,q2⟩=>?_
 exact hf v u s2 x y H2 I2 r1 r2 q2
def zS(i:Nat):TE:=fun σ H Q=>∃v,σ[i]? = some (some v)/\Q v H
def tC(v:V):TE:=fun _ H Q=>Q v H
theorem OK{i:Nat}{x:Str}{pos:Pos}(hN:X.N[i]? = some x)(hv:cB X.env.scope x)(hd:(x==("__debug__":Str))=false:=by decide)(hcd:(x==("__classdict__":Str))=false:=by decide):PE X (.Name x pos) (zS i):=by
 intro pins s σ H Q I h
 obtain⟨v,e,h⟩:=h
 obtain⟨m,hn,hl⟩:=I.loc
 obtain⟨u,r,l⟩:=hl i x v hN e hv
 have fin:EP X pins σ Q u s:=⟨v,H,I,r,h⟩
 rcases l with⟨hk,hm⟩|⟨hk,c,hc,hcell⟩
 ·exact wpAny_Name (wpAny_loadName_local I.ok.kind hk hn hm fin) hd
 ·rcases hk with hk|hk
  ·exact wpAny_Name (wpAny_loadName_cell I.ok.kind hk hc hcell fin) hd
  ·exact wpAny_Name (wpAny_loadName_free I.ok.kind hk hc hcell fin hcd) hd
theorem gG{i j pos}:PE X (.Constant (.int i) j pos) (tC (.int i)):=fun _ _ _ H _ I h=>wpAny_Constant_int ⟨.int i,H,I.tok _,⟨_,rfl⟩,h⟩
theorem OL{b j pos}:PE X (.Constant (.bool b) j pos) (tC (.bl b)):=fun _ _ _ H _ I h=>Constant_bool ⟨.bl b,H,I,rfl,h⟩
theorem zT{j pos}:PE X (.Constant .none j pos) (tC .non):=fun _ _ _ H _ I h=>Constant_none ⟨.non,H,I,rfl,h⟩
theorem uQ{x j pos}:PE X (.Constant (.str x) j pos) (tC (.str x)):=fun _ _ _ H _ I h=>Calls.Constant_str ⟨.str x,H,I.tok _,⟨_,rfl⟩,h⟩
def Gl(X:Cx)(x:Str):Prop:=X.env.kindOf x=some .globalImplicit
theorem mP{E:Value->Shared->Prop}{pins:List (Addr×Obj)}{s:Shared}{σ:St}{H:Hp}{x:Str}{u:Value}{pos:Pos}{Q:Value->Shared->Prop}(I:aD X pins σ H s)(hg:Gl X x)(hm:X.mg x=some u)(h:Q u s)
  (hd:(x==("__debug__":Str))=false:=by decide):wpAny (model X.prog X.w) X.A (eval (.Name x pos) X.env) Q E s:=
 Calls.Name_function_global I.ok.kind hg (Calls.loadGlobal_global (by rw[I.ok.glob];exact I.mod.glob.keeps I.bk) hm h) hd
theorem k8{E:Value->Shared->Prop}{pins:List (Addr×Obj)}{s:Shared}{σ:St}{H:Hp}{x:Str}{u:Value}{pos:Pos}{Q:Value->Shared->Prop}(I:aD X pins σ H s)(hg:Gl X x)(hm:X.mg x=none)(hv:bootBuiltins x=some u)(h:Q u s)
  (hn:x≠"__name__":=by decide) (hd:(x==("__debug__":Str))=false:=by decide):wpAny (model X.prog X.w) X.A (eval (.Name x pos) X.env) Q E s:=by
 obtain⟨mb,h1,h2⟩:=I.mod.blt
 exact Calls.Name_function_global I.ok.kind hg (Calls.loadGlobal_builtin (by rw[I.ok.glob];exact I.mod.glob.keeps I.bk) hm (by rw[I.ok.blt];exact h1.keeps I.bk) ((h2 x hn).trans hv) h) hd
theorem OM{x:Str}{v:V}{u:Value}{pos:Pos}(hg:Gl X x)(hm:X.mg x=some u)(r:aM v u)(hd:(x==("__debug__":Str))=false:=by decide):PE X (.Name x pos) (tC v):=
 fun _ _ _ H _ I h=>mP I hg hm ⟨v,H,I,r,h⟩ hd
theorem ON{x:Str}{v:V}{u:Value}{pos:Pos}(hg:Gl X x)(hm:X.mg x=none)(hv:bootBuiltins x=some u)(r:aM v u)(hn:x≠"__name__":=by decide)(hd:(x==("__debug__":Str))=false:=by decide):PE X (.Name x pos) (tC v):=
 fun _ _ _ H _ I h=>k8 I hg hm hv ⟨v,H,I,r,h⟩ hn hd
def uR(ta tb:TE)(k:Int->Int->Hp->Prop):St->Hp->Prop:=fun σ H=>ta σ H fun x H1=>tb σ H1 fun y H2=>∃i j,x=.int i/\y=.int j/\k i j H2
def OP(ta tb:TE):TE:=fun σ H Q=>uR ta tb (fun i j H2=>Q (.int (i-j)) H2) σ H
variable{a b:Expr}{ta tb:TE}{pos:Pos}
theorem OQ(ha:PE X a ta)(hb:PE X b tb):PE X (.BinOp a .Sub b pos) (OP ta tb):=by
 intro pins s σ H Q I h
 refine wpAny_BinOp (bin ha hb I h fun v u s2 x y H2 I2 rx ry q=>?_)
 obtain⟨i,j,rfl,rfl,q⟩:=q
 obtain⟨t,rfl⟩:=rx
 obtain⟨t',rfl⟩:=ry
 exact sub_int ⟨.int _,H2,I2.tok _,⟨_,rfl⟩,q⟩
def PC(X:Cx)(op:CmpOp)(a b:Expr)(t:TE):Prop:=
 ∀(pins:List (Addr×Obj)) (s:Shared) (σ:St) (H:Hp) (Q:VK),aD X pins σ H s->t σ H Q->
  wpAny (model X.prog X.w) X.A (eval a X.env) (fun v s₁=>wpAny (model X.prog X.w) X.A (eval b X.env) (fun u s₂=>wpAny (model X.prog X.w) X.A (compareOp op v u) (EP X pins σ Q) X.xe s₂) X.xe s₁) X.xe s
theorem c5(b:Expr){op:CmpOp}(h:op≠.In)(h2:op≠.NotIn):behindInMarks op b=false:=by
 have e1:(op==CmpOp.In)=false:=by cases op<;>first|rfl|exact xaq rfl h
 have e2:(op==CmpOp.NotIn)=false:=by cases op<;>first|rfl|exact xaq rfl h2
 cases b<;>simp[behindInMarks,e1,e2]
def rC(p:Int->Int->Bool)(ta tb:TE):TE:=fun σ H Q=>uR ta tb (fun i j H2=>Q (.bl (p i j)) H2) σ H
abbrev tGt:TE->TE->TE:=rC fun i j=>decide (j<i)
abbrev OS:TE->TE->TE:=rC fun i j=>decide (i=j)
theorem zU{op:CmpOp}{p:Int->Int->Bool}(ha:PE X a ta)(hb:PE X b tb)
  (rule:∀(i j:Int) (t u:Tok) (Q:Value->Shared->Prop) (s:Shared),Q (.bool (p i j)) s->wpAny (model X.prog X.w) X.A (compareOp op (.int i t) (.int j u)) Q X.xe s):PC X op a b (rC p ta tb):=by
 intro pins s σ H Q I h
 refine bin ha hb I h fun v u s2 x y H2 I2 rx ry q=>?_
 obtain⟨i,j,rfl,rfl,q⟩:=q
 obtain⟨t,rfl⟩:=rx
 obtain⟨t',rfl⟩:=ry
 exact rule i j t t' _ s2 ⟨.bl _,H2,I2,rfl,q⟩
theorem OT(ha:PE X a ta)(hb:PE X b tb):PC X .Gt a b (tGt ta tb):=zU ha hb fun _ _ _ _ _ _ h=>gt_int h
theorem OU(ha:PE X a ta)(hb:PE X b tb):PC X .Eq a b (OS ta tb):=zU ha hb fun _ _ _ _ _ _ h=>eq_int (by rw[Bool.beq_eq_decide_eq];exact h)
def tB(t:TE):TT:=fun σ H Q=>t σ H fun x H1=>∃c,x=.bl c/\Q c H1
theorem uS{op:CmpOp}{t:TE}(h:PC X op a b t)(h1:behindInMarks op b=false:=by first|exact c5 _ (by decide) (by decide)|rfl):PT X (.Compare a [op] [b] pos) (tB t):=by
 intro pins s σ H Q I hw
 refine wpAny_isTrue_Compare1 (aJ (h pins s σ H _ I hw) fun v s1 h1=>aJ h1 fun u s2 h2=>aJ h2 fun c s3 ⟨x,H1,I1,r1,q1⟩=>?_) h1
 obtain⟨d,rfl,q⟩:=q1
 cases r1
 exact wpAny_truthy_bool ⟨H1,I1,q⟩
theorem OV{e:Expr}{t:TE}(h:PE X e t)(he:∀whole,isTrue e X.env whole=(do let v<-whole;standAt e.pos;holding [v] (truthy v)):=by intro _;rfl):PT X e (tB t):=by
 intro pins s σ H Q I hw
 refine isTrue_plain (aJ (h pins s σ H _ I hw) fun v s1 ⟨x,H1,I1,r1,q1⟩=>?_) (he _)
 obtain⟨d,rfl,q⟩:=q1
 cases r1
 exact wpAny_truthy_bool ⟨H1,I1,q⟩
variable{tA tB':TT}{aN:List Expr}
def OX(t u:TT):TT:=fun σ H Q=>t σ H fun c H1=>if c=true then u σ H1 Q else Q false H1
def tOr(t u:TT):TT:=fun σ H Q=>t σ H fun c H1=>if c=true then Q true H1 else u σ H1 Q
def OZ(t:TT):TT:=fun σ H Q=>t σ H fun c H1=>Q (!c) H1
theorem O0(ha:PT X a tA):PW X (.BoolOp .And [a] pos) tA:=by
 intro wh pins s σ H Q I h
 refine isTrue_and (aJ (ha pins s σ H Q I h) fun c s1 e=>?_)
 cases c with
 |true=>exact isTrue_and_nil e
 |false=>exact e
theorem O1(ha:PT X a tA):PW X (.BoolOp .Or [a] pos) tA:=by
 intro wh pins s σ H Q I h
 refine isTrue_or (aJ (ha pins s σ H Q I h) fun c s1 e=>?_)
 cases c with
 |false=>exact isTrue_or_nil e
 |true=>exact e
theorem O2(ha:PT X a tA)(hb:PW X (.BoolOp .And (b::aN) pos) tB'):PW X (.BoolOp .And (a::b::aN) pos) (OX tA tB'):=by
 intro wh pins s σ H Q I h
 refine isTrue_and (aJ (ha pins s σ H _ I h) fun c s1 ⟨H1,I1,q1⟩=>?_)
 cases c with
 |true=>exact hb wh pins s1 σ H1 Q I1 q1
 |false=>exact⟨H1,I1,q1⟩
theorem O3(ha:PT X a tA)(hb:PW X (.BoolOp .Or (b::aN) pos) tB'):PW X (.BoolOp .Or (a::b::aN) pos) (tOr tA tB'):=by
 intro wh pins s σ H Q I h
 refine isTrue_or (aJ (ha pins s σ H _ I h) fun c s1 ⟨H1,I1,q1⟩=>?_)
 cases c with
 |true=>exact⟨H1,I1,q1⟩
 |false=>exact hb wh pins s1 σ H1 Q I1 q1
theorem O4(ha:PT X a tA):PT X (.UnaryOp .Not a pos) (OZ tA):=by
 intro pins s σ H Q I h
 exact isTrue_not (ha pins s σ H (fun c H1=>Q (!c) H1) I h)
def O5(ta tb:TE):TE:=fun σ H Q=>ta σ H fun x H1=>∃c,x=.bl c/\if c=true then tb σ H1 Q else Q (.bl false) H1
def O6(ta:TE):TE:=fun σ H Q=>ta σ H fun x H1=>∃c,x=.bl c/\Q (.bl (!c)) H1
theorem O7{op}{t:TE}(h:PE X a t):PE X (.BoolOp op [a] pos) t:=fun pins s σ H Q I hw=>BoolOp_one (h pins s σ H Q I hw)
theorem O8(ha:PE X a ta)(hb:PE X (.BoolOp .And (b::aN) pos) tb):PE X (.BoolOp .And (a::b::aN) pos) (O5 ta tb):=by
 intro pins s σ H Q I h
 refine BoolOp_and (aJ (ha pins s σ H _ I h) fun v s1 ⟨x,H1,I1,r1,q1⟩=>?_)
 obtain⟨c,rfl,q1⟩:=q1
 cases r1
 refine wpAny_truthy_bool ?_
 cases c with
 |true=>exact hb pins s1 σ H1 Q I1 q1
 |false=>exact⟨.bl false,H1,I1,rfl,q1⟩
theorem O9(ha:PE X a ta):PE X (.UnaryOp .Not a pos) (O6 ta):=by
 intro pins s σ H Q I h
 refine UnaryOp_ (aJ (ha pins s σ H _ I h) fun v s1 ⟨x,H1,I1,r1,q1⟩=>?_)
 obtain⟨c,rfl,q1⟩:=q1
 cases r1
 exact not_of (wpAny_truthy_bool ⟨.bl (!c),H1,I1,rfl,q1⟩)
def tIf(t:TT)(ta tb:TE):TE:=fun σ H Q=>t σ H fun c H1=>if c=true then ta σ H1 Q else tb σ H1 Q
theorem PD{c:Expr}(hc:PT X c tA)(ha:PE X a ta)(hb:PE X b tb):PE X (.IfExp c a b pos) (tIf tA ta tb):=by
 intro pins s σ H Q I h
 refine wpAny_IfExp (aJ (hc pins s σ H _ I h) fun d s1 ⟨H1,I1,q1⟩=>?_)
 cases d with
 |true=>exact ha pins s1 σ H1 Q I1 q1
 |false=>exact hb pins s1 σ H1 Q I1 q1
end
end L2
namespace L2
open PySem.Spec PyProof.Rows
def aY(K:xFg)(H:Hp)(a:Addr)(xs:List V):Prop:=
 Rd H a (.lst xs)\/
  ∃(o:Obj) (its:Array Value) (n:Nat),K.lookup a=some o/\o.cls=.type "list"/\o.dict=none/\o.data=.seq its n/\its.size<=sizeLine/\aP xs its.toList
def bG(K:xFg)(H:Hp)(a:Addr)(xs:List V):Prop:=
 Rd H a (.tup xs)\/
  ∃(o:Obj) (its:Array Value) (n:Nat),K.lookup a=some o/\o.cls=.type "tuple"/\o.data=.seq its n/\its.size<=sizeLine/\aP xs its.toList/\o.dict=none
def PF:Value->Option V
 |.none=>some .non
 |.bool b=>some (.bl b)
 |.int i _=>some (.int i)
 |.str x _=>some (.str x)
 |.bytes b _=>some (.byt b)
 |.float b _=>some (.flt b)
 |.ref a=>some (.ref a)
 |.type n=>some (.ty n)
 |_=>none
theorem aM.abs{x:V}{u:Value}(r:aM x u):PF u=some x:=by
 cases x with
 |non=>cases r;rfl
 |bl _=>cases r;rfl
 |int _=>obtain⟨t,rfl⟩:=r;rfl
 |str _=>obtain⟨t,rfl⟩:=r;rfl
 |byt _=>obtain⟨t,rfl⟩:=r;rfl
 |flt _=>obtain⟨t,rfl⟩:=r;rfl
 |ref _=>cases r;rfl
 |ty _=>cases r;rfl
theorem aM.inj{x y:V}{u:Value}(r:aM x u)(q:aM y u):x=y:=xaw (r.abs.symm.trans q.abs)
theorem aP.inj:∀{xs ys:List V} {us:List Value},aP xs us->aP ys us->xs=ys
 |_,_,_,.nil,.nil=>rfl
 |_,_,_,.cons r t,.cons r' t'=>by rw[r.inj r',aP.inj t t']
section
variable{X:Cx}{pins:List (Addr×Obj)}{σ:St}{H:Hp}{s:Shared}{a:Addr}{xs ys:List V}
theorem aY.of{K:xFg}(h:H a=some (.lst xs)):aY K H a xs:=.inl (.inl h)
theorem bG.of{K:xFg}(h:H a=some (.tup xs)):bG K H a xs:=.inl (.inl h)
theorem aD.list(I:aD X pins σ H s)(h:aY X.K H a xs):∃its:List Value,aP xs its/\PlainL s.heap a its.toArray/\xs.length<=sizeLine:=by
 rcases h with h|⟨o,its,n,hk,hc,hd,hs,hz,r⟩
 ·obtain⟨z,its,n,r,e⟩:=h.ok I.hok
  exact⟨its,r,⟨_,n,e,rfl,rfl,rfl⟩,z⟩
 ·refine⟨its.toList,r,⟨o,n,I.kIn a o hk,hc,hd,by simpa using hs⟩,?_⟩
  have e:=r.length
  simp only[xb0] at e
  omega
theorem aD.tupN(I:aD X pins σ H s)(h:bG X.K H a xs):∃its:List Value,aP xs its/\kF s.heap a its.toArray/\xs.length<=sizeLine:=by
 rcases h with h|⟨o,its,n,hk,hc,hs,hz,r,hd⟩
 ·obtain⟨z,its,r,p⟩:=h.ok I.hok
  exact⟨its,r,p,z⟩
 ·refine⟨its.toList,r,⟨o,I.kIn a o hk,hc,⟨n,by simpa using hs⟩,hd⟩,?_⟩
  have e:=r.length
  simp only[xb0] at e
  omega
theorem aD.tuple(I:aD X pins σ H s)(h:bG X.K H a xs):∃its:List Value,aP xs its/\IsTup s.heap a its.toArray/\xs.length<=sizeLine:=by
 obtain⟨its,r,p,z⟩:=I.tupN h
 exact⟨its,r,p.tup,z⟩
theorem aD.list_inj(I:aD X pins σ H s)(h:aY X.K H a xs)(h':aY X.K H a ys):xs=ys:=by
 obtain⟨its,r,⟨o,n,e,_,_,d⟩,_⟩:=I.list h
 obtain⟨its',r',⟨o',n',e',_,_,d'⟩,_⟩:=I.list h'
 rw[e] at e';cases e'
 rw[d] at d'
 injection d' with d1 _
 have:its=its':=by simpa using congrArg Array.toList d1
 subst this
 exact r.inj r'
theorem aD.tuple_inj(I:aD X pins σ H s)(h:bG X.K H a xs)(h':bG X.K H a ys):xs=ys:=by
 obtain⟨its,r,⟨o,e,_,n,d⟩,_⟩:=I.tuple h
 obtain⟨its',r',⟨o',e',_,n',d'⟩,_⟩:=I.tuple h'
 rw[e] at e';cases e'
 rw[d] at d'
 injection d' with d1 _
 have:its=its':=by simpa using congrArg Array.toList d1
 subst this
 exact r.inj r'
end
abbrev Cx.wish(X:Cx)(E:Value->Shared->Prop):Cx:={ X with xe:=E }
abbrev Cx.nox(X:Cx):Cx:=X.wish fun _ _=>False
theorem Cx.Ok.wish{X:Cx}(ok:X.Ok)(E:Value->Shared->Prop):(X.wish E).Ok:=
 ⟨ok.mod,ok.kind,ok.glob,ok.blt,ok.above,ok.inj,ok.has,ok.cab,ok.hd,ok.frames,ok.stk,ok.exf,ok.bs,ok.bsz,ok.noex,ok.exfs,ok.funs,ok.frf⟩
theorem Cx.Ok.unwish{X:Cx}{E:Value->Shared->Prop}(ok:(X.wish E).Ok):X.Ok:=
 ⟨ok.mod,ok.kind,ok.glob,ok.blt,ok.above,ok.inj,ok.has,ok.cab,ok.hd,ok.frames,ok.stk,ok.exf,ok.bs,ok.bsz,ok.noex,ok.exfs,ok.funs,ok.frf⟩
section
variable{X:Cx}{pins:List (Addr×Obj)}{σ:St}{H:Hp}{s:Shared}{E:Value->Shared->Prop}
theorem aD.wish(I:aD X pins σ H s)(E:Value->Shared->Prop):aD (X.wish E) pins σ H s:=⟨I.ok.wish E,I.os,I.bare,I.base,I.loc,I.cell,I.free,I.freeC,I.pin,I.hok,I.len⟩
theorem aD.unwish(I:aD (X.wish E) pins σ H s):aD X pins σ H s:=⟨I.ok.unwish,I.os,I.bare,I.base,I.loc,I.cell,I.free,I.freeC,I.pin,I.hok,I.len⟩
end
section
variable{X:Cx}{st:Stmt}{aN:List Stmt}{t u:TS}{e:Expr}{te:TE}{pos:Pos}
def PH:TS:=fun D σ H=>D.nx σ H
def PJ(t u:TS):TS:=fun D σ H=>t { D with nx:=u D } σ H
theorem mQ:bQ X [] PH:=fun _ _ σ H _ I h=>wpAny_execs_nil ⟨σ,H,I,h⟩
theorem cP(h1:PS X st t)(h2:bQ X aN u):bQ X (st::aN) (PJ t u):=by
 intro pins s σ H D I h
 refine wpAny_execs_cons (aJ (h1 pins s σ H { D with nx:=u D } I h) fun f s1 q=>?_)
 cases f with
 |next=>
  obtain⟨σ',H',I',q⟩:=q
  exact h2 pins s1 σ' H' D I' q
 |ret v=>exact q
 |brk=>exact q
 |cont=>exact q
theorem iT(h1:PS X st t):bQ X [st] t:=by
 intro pins s σ H D I h
 refine wpAny_execs_cons (aJ (h1 pins s σ H D I h) fun f s1 q=>?_)
 cases f with
 |next=>exact wpAny_execs_nil q
 |ret v=>exact q
 |brk=>exact q
 |cont=>exact q
theorem aD.quiet{pins:List (Addr×Obj)}{σ:St}{H:Hp}{s:Shared}(I:aD X pins σ H s):interactive X.env=false:=by simp[interactive,I.ok.kind]
def PL(te:TE):TS:=fun D σ H=>te σ H fun _ H1=>D.nx σ H1
theorem jN(he:PE X e te)(hs:swapsWith e none pos.line X.env=pure false:=by rfl):PS X (.Expr e pos) (PL te):=by
 intro pins s σ H D I h
 exact wpAny_Expr_any (aJ (he pins s σ H _ I h) fun v s1 ⟨x,H1,I1,r1,q1⟩=>⟨σ,H1,I1,q1⟩) I.quiet hs
def PM(te:TE):TS:=fun D σ H=>te σ H D.rt
theorem mR(he:PE X e te):PS X (.Return (some e) pos) (PM te):=by
 intro pins s σ H D I h
 exact wpAny_Return_some (aJ (he pins s σ H _ I h) fun v s1 ⟨x,H1,I1,r1,q1⟩=>⟨x,σ,H1,I1,r1,q1⟩)
def PN(c:TT)(t u:TS):TS:=fun D σ H=>c σ H fun b H1=>if b=true then t D σ H1 else u D σ H1
theorem k9{c:Expr}{a b:List Stmt}{tc:TT}(hc:PT X c tc)(ha:bQ X a t)(hb:bQ X b u):PS X (.If c a b pos) (PN tc t u):=by
 intro pins s σ H D I h
 refine wpAny_If (aJ (hc pins s σ H _ I h) fun d s1 ⟨H1,I1,q1⟩=>?_)
 cases d with
 |true=>exact ha pins s1 σ H1 D I1 q1
 |false=>exact hb pins s1 σ H1 D I1 q1
end
abbrev TG:=V->St->Hp->(St->Hp->Prop)->Prop
abbrev iU:=List V->St->Hp->(St->Hp->Prop)->Prop
def PG(X:Cx)(target:Expr)(t:TG):Prop:=
 ∀(pins:List (Addr×Obj)) (s:Shared) (σ:St) (H:Hp) (v:V) (u:Value) (Q:St->Hp->Prop),aD X pins σ H s->aM v u->t v σ H Q->
  wpAny (model X.prog X.w) X.A (assign target X.env u) (fun _ s'=>∃σ' H',aD X pins σ' H' s'/\Q σ' H') X.xe s
def mS(X:Cx)(ts:List Expr)(t:iU):Prop:=
 ∀(pins:List (Addr×Obj)) (s:Shared) (σ:St) (H:Hp) (vs:List V) (us:List Value) (Q:St->Hp->Prop),aD X pins σ H s->aP vs us->t vs σ H Q->
  wpAny (model X.prog X.w) X.A (assignInOrder ((assignEach ts X.env).map (·.2)) us) (fun _ s'=>∃σ' H',aD X pins σ' H' s'/\Q σ' H') X.xe s
abbrev TSet:=V->V->V->Hp->(Hp->Prop)->Prop
section
variable{X:Cx}{pos:Pos}
def o6(i:Nat):TG:=fun v σ H Q=>Q (σ.set i (some v)) H
theorem uT{i:Nat}{x:Str}(hN:X.N.Nodup)(hi:X.N[i]? = some x)(hx:eM X.env.scope x)(hf:X.fn x=true\/X.env.scope.names.lookup x=some .local:=by first|exact .inl rfl|exact .inr rfl|assumption):PG X (.Name x pos) (o6 i):=by
 intro pins s σ H v u Q I r h
 exact wpAny_assign_Name (uP I hN hi hx r (fun s' I'=>⟨_,H,I',h⟩) hf)
def zV:iU:=fun vs σ H Q=>vs=[]/\Q σ H
def zW(t:TG)(u:iU):iU:=fun vs σ H Q=>∃v r,vs=v::r/\t v σ H fun σ' H'=>u r σ' H' Q
theorem PP:mS X [] zV:=by
 intro pins s σ H vs us Q I r h
 obtain⟨e,h⟩:=h
 subst e
 cases r
 exact assignInOrder_nil ⟨σ,H,I,h⟩
theorem PQ{e:Expr}{es:List Expr}{t:TG}{u:iU}(h1:PG X e t)(h2:mS X es u)
  (hs:(assignEach (e::es) X.env).map (·.2)=assign e X.env::(assignEach es X.env).map (·.2):=by rfl):mS X (e::es) (zW t u):=by
 intro pins s σ H vs us Q I r h
 obtain⟨v,vr,e1,h⟩:=h
 subst e1
 cases r with
 |cons r rr=>
  rw[hs]
  refine assignInOrder_cons (aJ (h1 pins s σ H _ _ _ I r h) fun _ s1 ⟨σ1,H1,I1,q1⟩=>?_)
  exact h2 pins s1 σ1 H1 _ _ Q I1 rr q1
def PR(K:xFg)(n:Nat)(t:iU):TG:=fun v σ H Q=>∃a xs,v=.ref a/\bG K H a xs/\xs.length=n/\t xs σ H Q
theorem PU{es:List Expr}{k:Nat}{t:iU}{n:Nat}(hc:X.calm=true)(h:mS X es t)
  (hn:(assignEach es X.env).length=n:=by rfl) (hst:(assignEach es X.env).findIdx? (·.1)=none:=by rfl):PG X (.Tuple es k pos) (PR X.K n t):=by
 intro pins s σ H v u Q I r hw
 obtain⟨a,xs,e1,hq,hl,hw⟩:=hw
 subst e1
 cases r
 obtain⟨its,rv,ht,hz⟩:=I.tuple hq
 refine assign_Tuple_tuple (I.ok.hd hc) ht (by simp[hn,<- hl,rv.length]) hst fun h' hx=>?_
 have I1:aD X pins σ H { s with heap:=h' }:=I.kept (t':=s.toks) fun b o e=>hx b o (xa6 (xam e)) e
 exact h pins _ σ H xs _ Q I1 (by simpa using rv) hw
def gSub(to ti:TE)(t:TSet):TG:=fun v σ H Q=>to σ H fun o H1=>ti σ H1 fun i H2=>t o i v H2 fun H3=>Q σ H3
def uU(te:TE)(g:TG):TS:=fun D σ H=>te σ H fun x H1=>g x σ H1 D.nx
theorem gH{i:Nat}{x:Str}{e:Expr}{te:TE}{pos':Pos}(hN:X.N.Nodup)(hi:X.N[i]? = some x)(hx:eM X.env.scope x)(he:PE X e te)(hs:swapsWith e (some (.Name x pos')) pos.line X.env=pure false:=by rfl)(hf:X.fn x=true\/X.env.scope.names.lookup x=some .local:=by first|exact .inl rfl|exact .inr rfl|assumption) :
  PS X (.Assign [.Name x pos'] e pos) (uU te (o6 i)):=by
 intro pins s σ H D I h
 refine wpAny_Assign_Name (aJ (he pins s σ H _ I h) fun v s1 ⟨y,H1,I1,r1,q1⟩=>?_) hs
 exact uP I1 hN hi hx r1 (fun s2 I2=>⟨_,H1,I2,q1⟩) hf
end
section
variable{X:Cx}{pos:Pos}
def PX(c:TT)(tb:TS):TS:=fun D σ H=>∃W:Nat->St->Hp->Prop,(∃m,W m σ H)/\∀m σ H,W m σ H->
 c σ H fun b H1=>if b=true then ∃N:St->Hp->Prop,(∀σ' H',N σ' H'->∃m',m'<m/\W m' σ' H')/\tb { D with nx:=N,ct:=N,bk:=D.nx } σ H1 else D.nx σ H1
theorem PY{c:Expr}{body:List Stmt}{tc:TT}{tb:TS}(hp:PassesOwn (model X.prog X.w) X.A X.env X.xe)(hc:PT X c tc)(hb:bQ X body tb):PS X (.While c body [] pos) (PX tc tb):=by
 intro pins s σ H D I h
 obtain⟨W,⟨m0,w0⟩,turn⟩:=h
 refine wpAny_While (codeAny_whileLoop (fun n s'=>∃σ' H',aD X pins σ' H' s'/\W n σ' H') ?_ m0 ⟨σ,H,I,w0⟩)
 rintro n s1 ⟨σ1,H1,I1,w1⟩
 refine wpAny_passesOwn hp (aJ (hc pins s1 σ1 H1 _ I1 (turn n σ1 H1 w1)) fun b s2 ⟨H2,I2,q2⟩=>?_)
 cases b with
 |true=>
  obtain⟨N,hN,q2⟩:=q2
  rw[xal rfl]
  refine wpAny_passesOwn hp (aJ (hb pins s2 σ1 H2 _ I2 q2) fun f s3 q3=>?_)
  cases f with
  |next=>
   obtain⟨σ3,H3,I3,n3⟩:=q3
   obtain⟨m',hm,w3⟩:=hN σ3 H3 n3
   exact⟨m',hm,σ3,H3,I3,w3⟩
  |cont=>
   obtain⟨σ3,H3,I3,n3⟩:=q3
   obtain⟨m',hm,w3⟩:=hN σ3 H3 n3
   exact⟨m',hm,σ3,H3,I3,w3⟩
  |brk=>exact q3
  |ret v=>exact q3
 |false=>
  rw[xak xa4]
  exact wpAny_execs_nil ⟨σ1,H2,I2,q2⟩
end
structure It where
 go:Nat->Hp->Prop
 yld:Nat->Hp->V->Hp->Prop
 stop:Nat->Hp->Prop
def fU(X:Cx)(pins:List (Addr×Obj))(H:Hp)(b:Addr):Prop:=
 H b=none/\b≠X.env.locals/\b∉X.fs/\(b∈X.ex\/X.s₀.heap.objs.size<=b)/\(∀x c,X.env.cells.lookup x=some c->c≠b)/\∀p∈X.pn++pins,p.1≠b
theorem aD.fpOk{X:Cx}{pins:List (Addr×Obj)}{σ:St}{H H':Hp}{s:Shared}{b:Addr}(I:aD X pins σ H s)(hb:s.heap.objs.size<=b)(hn:H' b=none):fU X pins H' b:=by
 refine⟨hn,xcm (xan I.lt hb),I.nofs hb,.inr (xaz I.sz hb),fun x c e z=>?_,fun p hp z=>?_⟩
 ·obtain⟨v,q⟩:=I.cell x c e
  exact xaq (xan q.lt (by rw[z];exact hb)) (xbq _)
 ·exact xaq (xan (xam (I.pin p hp).1) (by rw[z];exact hb)) (xbq _)
structure kG(P:Program)(w:World)(K:xFg)(tg:Expr)(J:It)(fp:List Addr)(it:Addr)(tn:Nat->Heap->Prop):Prop where
 mem:it∈fp
 obj:∀i h,tn i h->∀b∈fp,∃o,h.get? b=some o/\∀v,o.data≠.cell v
 keep:∀i h h',tn i h->(∀b∈fp,∀o,h.get? b=some o->h'.get? b=some o)->tn i h'
 item:∀(X:Cx),X.prog=P->X.w=w->X.K=K->X.calm=true->∀(i:Nat) (pins:List (Addr×Obj)) (s:Shared) (σ:St) (H:Hp) (E:Value->Shared->Prop),aD X pins σ H s->(∀b∈fp,fU X pins H b)->tn i s.heap->J.go i H->
  wpAny (model P w) X.A (pyNext (.ref it)) (fun r s1=>∃u,r=some u/\
   wpAny (model P w) X.A (letOwnedTupleGo tg (.ref it) u) (fun _ s2=>∃x H',aD X pins σ H' s2/\aM x u/\J.yld i H x H'/\tn (i+1) s2.heap/\∀b∈fp,H' b=none) E s1) E s
 done:∀(X:Cx),X.prog=P->X.w=w->X.K=K->X.calm=true->∀(i:Nat) (pins:List (Addr×Obj)) (s:Shared) (σ:St) (H:Hp) (E:Value->Shared->Prop),aD X pins σ H s->(∀b∈fp,fU X pins H b)->tn i s.heap->J.stop i H->
  wpAny (model P w) X.A (pyNext (.ref it)) (fun r s1=>r=none/\aD X pins σ H s1) E s
 self:∀(A:Around) (i:Nat) (s:Shared) (Q:Value->Shared->Prop) (E:Value->Shared->Prop),tn i s.heap->Q (.ref it) s->wpAny (model P w) A (pyIter (.ref it)) Q E s
abbrev TI:=St->Hp->(It->Hp->Prop)->Prop
def PIE(X:Cx)(pins:List (Addr×Obj))(σ:St)(tg:Expr)(R:It->Hp->Prop)(itv:Value)(s2:Shared):Prop:=
 ∃(it:Addr) (fp:List Addr) (tn:Nat->Heap->Prop) (J:It) (H':Hp),itv=.ref it/\aD X pins σ H' s2/\kG X.prog X.w X.K tg J fp it tn/\tn 0 s2.heap/\(∀b∈fp,fU X pins H' b)/\R J H'
def PI(X:Cx)(tg iter:Expr)(wi:TI):Prop:=
 ∀(pins:List (Addr×Obj)) (s:Shared) (σ:St) (H:Hp) (R:It->Hp->Prop),aD X pins σ H s->wi σ H R->
  wpAny (model X.prog X.w) X.A (eval iter X.env) (fun v s1=>wpAny (model X.prog X.w) X.A (pyIter v) (PIE X pins σ tg R) X.xe s1) X.xe s
theorem o7{M:Model}{A:Around}{E:Value->Shared->Prop}{s:Shared}{tg:Expr}{it:Addr}{u:Value}{o:Obj}{n:String}{vs:Array Value}{Q:Unit->Shared->Prop}(ho:s.heap.get? it=some o)(hc:o.cls=.type n)(hd:o.data=.fields vs)
  (hn:["enumerate","zip","dict_itemiterator","dict_reverseitemiterator","odict_iterator","itertools.zip_longest","itertools.pairwise"].contains n=false) (hQ:Q () s):wpAny M A (letOwnedTupleGo tg (.ref it) u) Q E s:=by
 unfold letOwnedTupleGo
 cases tg<;>first
  |exact xar hQ
  |(cases u<;>first
    |exact xar hQ
    | (refine xab (wpAny_load ho ?_)
       rw[hc,hd]
       show wpAny M A (if (["enumerate","zip","dict_itemiterator","dict_reverseitemiterator","odict_iterator","itertools.zip_longest","itertools.pairwise"].contains n&&vs[0]? == some (rawInt _))=true then _ else _) Q E s
       rw[xak (by intro h;rw[hn,Bool.false_and] at h;cases h)]
       exact xar hQ))
def mT(K:xFg)(a:Addr):It:=
 ⟨fun i H=>∃xs x,aY K H a xs/\xs[i]? = some x,fun i H x H'=>H'=H/\∀xs,aY K H a xs->xs[i]? = some x,fun i H=>∃xs,aY K H a xs/\xs.length<=i⟩
def mU(K:xFg)(a:Addr):It:=
 ⟨fun i H=>∃xs x,bG K H a xs/\xs[i]? = some x,fun i H x H'=>H'=H/\∀xs,bG K H a xs->xs[i]? = some x,fun i H=>∃xs,bG K H a xs/\xs.length<=i⟩
def o8(lo:Int)(n:Nat):It:=⟨fun i _=>i<n,fun i H x H'=>H'=H/\x=.int (lo+i),fun i _=>n<=i⟩
theorem PZ{P:Program}{w:World}{K:xFg}{tg:Expr}(a it:Addr):kG P w K tg (mT K a) [it] it (fun i h=>h.IsListIter it a i) where
 mem:=by simp
 obj:=fun i h st b hb=>by
  have e:b=it:=by simpa using hb
  subst e
  obtain⟨o,e,c,d⟩:=st
  exact⟨o,e,fun v z=>by rw[d] at z;cases z⟩
 keep:=fun i h h' st k=>st.at fun o e=>k it (by simp) o e
 item:=by
  intro X hP hw hK hc i pins s σ H E I hf st hg
  subst hP hw hK
  obtain⟨xs,x,hq,hx⟩:=hg
  obtain⟨its,rv,p,hz⟩:=I.list hq
  obtain⟨u,hu,ru⟩:=rv.get hx
  obtain⟨f0,f1,f2,f3,f4,f5⟩:=hf it (by simp)
  refine wpAny_pyNext_list_item st p.isList (x:=u) (by simpa using hu) fun h' st' sb=>?_
  have I1:aD X pins σ H { s with heap:=h' }:=I.turned (t':=s.toks) (fun b o hb e=>(sb.2 b hb).trans e) f0 f1 f3 f4 f5
  obtain⟨o,e,c,d⟩:=id st'
  exact⟨u,rfl,o7 (s:={ s with heap:=h' }) e c d (by decide) ⟨x,H,I1,ru,⟨rfl,fun ys hy=>by rw[I.list_inj hy hq];exact hx⟩,st',fun b hb=>(hf b hb).1⟩⟩
 done:=by
  intro X hP hw hK hc i pins s σ H E I hf st hg
  subst hP hw hK
  obtain⟨xs,hq,hx⟩:=hg
  obtain⟨its,rv,p,hz⟩:=I.list hq
  obtain⟨f0,f1,f2,f3,f4,f5⟩:=hf it (by simp)
  have hl:=rv.length
  exact wpAny_pyNext_list_end (I.ok.hd hc) st p.isList (by simp;omega) fun h' eb=>⟨rfl,I.turned (t':=s.toks) (fun b o hb e=>eb b o hb e) f0 f1 f3 f4 f5⟩
 self:=fun _ _ _ _ _ st h=>wpAny_pyIter_listiter st h
theorem P0{P:Program}{w:World}{K:xFg}{tg:Expr}(a it:Addr):kG P w K tg (mU K a) [it] it (fun i h=>h.IsTupleIter it a i) where
 mem:=by simp
 obj:=fun i h st b hb=>by
  have e:b=it:=by simpa using hb
  subst e
  obtain⟨o,e,c,d⟩:=st
  exact⟨o,e,fun v z=>by rw[d] at z;cases z⟩
 keep:=fun i h h' st k=>st.at fun o e=>k it (by simp) o e
 item:=by
  intro X hP hw hK hc i pins s σ H E I hf st hg
  subst hP hw hK
  obtain⟨xs,x,hq,hx⟩:=hg
  obtain⟨its,rv,p,hz⟩:=I.tuple hq
  obtain⟨u,hu,ru⟩:=rv.get hx
  obtain⟨f0,f1,f2,f3,f4,f5⟩:=hf it (by simp)
  refine wpAny_pyNext_tuple_item st (show s.heap.IsTuple a its.toArray from p) (x:=u) (by simpa using hu) fun h' st' sb=>?_
  have I1:aD X pins σ H { s with heap:=h' }:=I.turned (t':=s.toks) (fun b o hb e=>(sb.2 b hb).trans e) f0 f1 f3 f4 f5
  obtain⟨o,e,c,d⟩:=id st'
  exact⟨u,rfl,o7 (s:={ s with heap:=h' }) e c d (by decide) ⟨x,H,I1,ru,⟨rfl,fun ys hy=>by rw[I.tuple_inj hy hq];exact hx⟩,st',fun b hb=>(hf b hb).1⟩⟩
 done:=by
  intro X hP hw hK hc i pins s σ H E I hf st hg
  subst hP hw hK
  obtain⟨xs,hq,hx⟩:=hg
  obtain⟨its,rv,p,hz⟩:=I.tuple hq
  obtain⟨f0,f1,f2,f3,f4,f5⟩:=hf it (by simp)
  have hl:=rv.length
  exact wpAny_pyNext_tuple_end (I.ok.hd hc) st (show s.heap.IsTuple a its.toArray from p) (by simp;omega) fun h' eb=>⟨rfl,I.turned (t':=s.toks) (fun b o hb e=>eb b o hb e) f0 f1 f3 f4 f5⟩
 self:=fun _ _ _ _ _ st h=>wpAny_pyIter_tupleiter st h
theorem P1{P:Program}{w:World}{K:xFg}{tg:Expr}(it:Addr)(lo:Int)(n:Nat):kG P w K tg (o8 lo n) [it] it (fun i h=>IsRangeIter h it (lo+(i:Nat)*1) ((n:Int)-(i:Nat)) 1) where
 mem:=by simp
 obj:=fun i h st b hb=>by
  have e:b=it:=by simpa using hb
  subst e
  exact⟨_,st,fun v z=>by
   have z':Data.fields _=Data.cell v:=z
   cases z'⟩
 keep:=fun i h h' st k=>k it (by simp) _ st
 item:=by
  intro X hP hw hK hc i pins s σ H E I hf st hg
  subst hP hw hK
  obtain⟨f0,f1,f2,f3,f4,f5⟩:=hf it (by simp)
  have W:=Walks.range (prog:=X.prog) (w:=X.w) (I.ok.hd hc) it lo 1 n
  refine W.item i s _ _ hg st fun v h' tk hv st' kk=>?_
  obtain⟨t,rfl⟩:=hv
  have I1:aD X pins σ H { s with heap:=h',toks:=tk }:=I.turned (fun b o hb e=>kk b o (by simpa using hb) e) f0 f1 f3 f4 f5
  refine⟨_,rfl,o7 (s:={ s with heap:=h',toks:=tk }) (n:="range_iterator") st' rfl rfl (by decide) ⟨.int (lo+i),H,I1,⟨t,?_⟩,⟨rfl,rfl⟩,st',fun b hb=>(hf b hb).1⟩⟩
  rw[Int.mul_one]
 done:=by
  intro X hP hw hK hc i pins s σ H E I hf st hg
  subst hP hw hK
  obtain⟨f0,f1,f2,f3,f4,f5⟩:=hf it (by simp)
  exact wpAny_pyNext_range_end (I.ok.hd hc) st (by have:n<=i:=hg;omega) fun h' eb=>⟨rfl,I.turned (t':=s.toks) (fun b o hb e=>eb b o hb e) f0 f1 f3 f4 f5⟩
 self:=fun _ _ _ _ _ st h=>wpAny_pyIter_rangeiter st h
end L2
namespace L2
open PySem.Spec PyProof.Rows
section
variable{X:Cx}{tg:Expr}
def zY(K:xFg)(tl:TE):TI:=fun σ H R=>tl σ H fun x H1=>∃a,x=.ref a/\(∃xs,aY K H1 a xs)/\R (mT K a) H1
def zZ(K:xFg)(tl:TE):TI:=fun σ H R=>tl σ H fun x H1=>∃a,x=.ref a/\(∃xs,bG K H1 a xs)/\R (mU K a) H1
theorem P2{l:Expr}{tl:TE}(hl:PE X l tl):PI X tg l (zY X.K tl):=by
 intro pins s σ H R I h
 refine aJ (hl pins s σ H _ I h) fun v s1 ⟨x,H1,I1,r1,q1⟩=>?_
 obtain⟨a,e,⟨xs,hq⟩,q⟩:=q1
 subst e
 cases r1
 obtain⟨its,rv,p,hz⟩:=I1.list hq
 refine wpAny_pyIter_list p.isList ?_
 refine⟨s1.heap.objs.size,[s1.heap.objs.size],_,_,H1,rfl,I1.kept (t':=s1.toks) fun b o e=>xad _ e,PZ a _,⟨_,xav _ rfl,rfl,rfl⟩,fun b hb=>?_,q⟩
 have e:b=s1.heap.objs.size:=by simpa using hb
 subst e
 exact I1.fpOk (xag _) (I1.hok.fresh (xag _))
theorem P3{l:Expr}{tl:TE}(hl:PE X l tl):PI X tg l (zZ X.K tl):=by
 intro pins s σ H R I h
 refine aJ (hl pins s σ H _ I h) fun v s1 ⟨x,H1,I1,r1,q1⟩=>?_
 obtain⟨a,e,⟨xs,hq⟩,q⟩:=q1
 subst e
 cases r1
 obtain⟨its,rv,p,hz⟩:=I1.tuple hq
 refine wpAny_pyIter_tuple (show s1.heap.IsTuple a its.toArray from p) ?_
 refine⟨s1.heap.objs.size,[s1.heap.objs.size],_,_,H1,rfl,I1.kept (t':=s1.toks) fun b o e=>xad _ e,P0 a _,⟨_,xav _ rfl,rfl,rfl⟩,fun b hb=>?_,q⟩
 have e:b=s1.heap.objs.size:=by simpa using hb
 subst e
 exact I1.fpOk (xag _) (I1.hok.fresh (xag _))
theorem AA{pins:List (Addr×Obj)}{σ:St}{H:Hp}{s:Shared}{R:It->Hp->Prop}{E:Value->Shared->Prop}{lo hi:Int}{t u v:Tok}{tk:Nat}(I:aD X pins σ H s)(h1:-(2^62)<=lo)(h2:lo<2^62)(h3:-(2^62)<=hi)(h4:hi<2^62)
  (q:R (o8 lo (hi-lo).toNat) H):wpAny (model X.prog X.w) X.A (pyIter (.ref s.heap.objs.size)) (PIE X pins σ tg R) E { s with heap:=s.heap.push { cls:=.type "range",data:=.fields #[.int lo t,.int hi u,.int 1 v] },toks:=tk }:=by
 refine wpAny_pyIter_range (IsRange.new ..) (small_one h1 h2 h3 h4) ?_
 have I1:aD X pins σ H { s with heap:=s.heap.push { cls:=.type "range",data:=.fields #[.int lo t,.int hi u,.int 1 v] },toks:=tk }:=I.kept fun b o e=>xad _ e
 refine⟨(s.heap.push { cls:=.type "range",data:=.fields #[.int lo t,.int hi u,.int 1 v] }).objs.size,[(s.heap.push { cls:=.type "range",data:=.fields #[.int lo t,.int hi u,.int 1 v] }).objs.size],_,_,H,rfl,
  I1.kept (t':=tk) fun b o e=>xad _ e,P1 _ lo (hi-lo).toNat,?_,fun b hb=>?_,q⟩
 ·have e1:lo+((0:Nat):Int)*1=lo:=by simp
  have e2:(((hi-lo).toNat:Nat):Int)-((0:Nat):Int)=Builtin.Range.rangeSize lo hi 1:=by rw[rangeSize_one];split<;>omega
  show IsRangeIter _ _ (lo+((0:Nat):Int)*1) ((((hi-lo).toNat:Nat):Int)-((0:Nat):Int)) 1
  rw[e1,e2]
  exact xav _ rfl
 ·have e:b=(s.heap.push { cls:=.type "range",data:=.fields #[.int lo t,.int hi u,.int 1 v] }).objs.size:=by simpa using hb
  subst e
  exact I1.fpOk (xag _) (I1.hok.fresh (xag _))
def P4(ta:TA):TI:=fun σ H R=>ta σ H fun vs H1=>∃j:Int,vs=[.int j]/\-(2^62)<=j/\j<2^62/\R (o8 0 j.toNat) H1
def P5(ta:TA):TI:=fun σ H R=>ta σ H fun vs H1=>∃i j:Int,vs=[.int i,.int j]/\(-(2^62)<=i/\i<2^62/\-(2^62)<=j/\j<2^62)/\R (o8 i (j-i).toNat) H1
theorem P6{a:Expr}{ta:TA}{p pos:Pos}(hg:Gl X "range")(hm:X.mg "range"=none)(ha:PA X [a] ta)(hs:starEach [a] X.env=[(false,eval a X.env)]:=by rfl):PI X tg (.Call (.Name "range" p) [a] [] pos) (P4 ta):=by
 intro pins s σ H R I h
 refine Call_ (k8 I hg hm boot_range (PyProof.Rows.callWith_type1 (aJ (ha pos pins s σ H _ I h) fun us s1 ⟨vs,H1,I1,r1,q1⟩=>?_) hs rfl))
 obtain⟨j,e,q1,q2,q⟩:=q1
 subst e
 cases r1 with
 |cons r rr=>
  cases rr
  obtain⟨t,rfl⟩:=r
  exact call_range_1 (AA I1 (by omega) (by omega) q1 q2 (by simpa using q))
theorem P7{a b:Expr}{ta:TA}{p pos:Pos}(hg:Gl X "range")(hm:X.mg "range"=none)(ha:PA X [a,b] ta)(hs:starEach [a,b] X.env=[(false,eval a X.env),(false,eval b X.env)]:=by rfl)(hs2:starEach [b] X.env=[(false,eval b X.env)]:=by rfl) :
  PI X tg (.Call (.Name "range" p) [a,b] [] pos) (P5 ta):=by
 intro pins s σ H R I h
 refine Call_ (k8 I hg hm boot_range (PyProof.Rows.callWith_type1 (aJ (ha pos pins s σ H _ I h) fun us s1 ⟨vs,H1,I1,r1,q1⟩=>?_) (by rw[hs,hs2]) (by rw[hs2];rfl)))
 obtain⟨i,j,e,⟨q1,q2,q3,q4⟩,q⟩:=q1
 subst e
 cases r1 with
 |cons r rr=>
  cases rr with
  |cons r' rr=>
   cases rr
   obtain⟨t,rfl⟩:=r
   obtain⟨t',rfl⟩:=r'
   exact call_range_2 (AA I1 q1 q2 q3 q4 q)
def P8(wi:TI)(g:TG)(tb:TS):TS:=fun D σ H=>wi σ H fun J H1=>∃W:Nat->Nat->St->Hp->Prop,(∃m,W 0 m σ H1)/\∀i m σ H,W i m σ H->
 (J.stop i H/\D.nx σ H)\/(J.go i H/\∃N:St->Hp->Prop,(∀σ' H',N σ' H'->∃m',m'<m/\W (i+1) m' σ' H')/\∀x H',J.yld i H x H'->g x σ H' fun σ2 H2=>tb { D with nx:=N,ct:=N,bk:=D.nx } σ2 H2)
def o9(fp:List Addr)(h:Heap):List (Addr×Obj):=fp.filterMap fun b=>(h.get? b).map fun o=>(b,o)
theorem rD{fp:List Addr}{h:Heap}{b:Addr}{o:Obj}(hb:b∈fp)(e:h.get? b=some o):(b,o)∈o9 fp h:=List.mem_filterMap.mpr ⟨b,hb,by rw[e];rfl⟩
theorem P9{fp:List Addr}{h:Heap}{p:Addr×Obj}(hp:p∈o9 fp h):p.1∈fp/\h.get? p.1=some p.2:=by
 obtain⟨b,hb,e⟩:=List.mem_filterMap.mp hp
 cases q:h.get? b with
 |none=>rw[q] at e;cases e
 |some o=>
  rw[q] at e
  have e':(b,o)=p:=xaw e
  subst e'
  exact⟨hb,q⟩
theorem aD.pinned{pins:List (Addr×Obj)}{σ:St}{H:Hp}{s:Shared}{fp:List Addr}(I:aD X pins σ H s)(hf:∀b∈fp,fU X pins H b)(ho:∀b∈fp,∃o,s.heap.get? b=some o/\∀v,o.data≠.cell v):aD X (pins++o9 fp s.heap) σ H s:=
 I.pins_of fun p hp=>(xbe.mp hp).elim (fun z=>I.pin p (xbb _ z)) fun z=>by
  obtain⟨hb,e⟩:=P9 z
  obtain⟨f0,f1,f2,_⟩:=hf p.1 hb
  obtain⟨o,e',d⟩:=ho p.1 hb
  rw[e] at e';cases e'
  exact⟨e,f0,f1,f2,d⟩
theorem aD.unpinned{pins pl:List (Addr×Obj)}{σ:St}{H:Hp}{s:Shared}(I:aD X (pins++pl) σ H s):aD X pins σ H s:=I.pins_of fun p hp=>I.pin p (xbb _ (List.mem_append_left _ hp))
theorem uV{iter:Expr}{body:List Stmt}{wi:TI}{g:TG}{tb:TS}{pos:Pos}(hp:PassesOwn (model X.prog X.w) X.A X.env X.xe)(hc:X.calm=true)(hi:PI X tg iter wi)(hg:PG X tg g)(hb:bQ X body tb)
  (hs:∀x,foldedSetIterable iter X.env x=pure x:=by intro _;rfl):PS X (.For tg iter body [] pos) (P8 wi g tb):=by
 intro pins s σ H D I h
 refine wpAny_For (aJ (hi pins s σ H _ I h) fun v s1 h1=>aJ h1 fun itv s2 h2=>?_) hs
 obtain⟨it,fp,tn,J,H2,e,I2,T,st2,f2,W,⟨m0,w0⟩,turn⟩:=h2
 subst e
 have stat:∀{H':Hp},(∀b∈fp,H' b=none)->∀b∈fp,fU X pins H' b:=fun hn b hb=>⟨hn b hb,(f2 b hb).2⟩
 refine codeAny_forLoop_any (fun n s'=>∃i σ' H',aD X pins σ' H' s'/\tn i s'.heap/\(∀b∈fp,H' b=none)/\W i n σ' H') ?_ m0 ⟨0,σ,H2,I2,st2,fun b hb=>(f2 b hb).1,w0⟩
 rintro n s3 ⟨i,σ3,H3,I3,st3,fr3,w3⟩
 rcases turn i n σ3 H3 w3 with⟨stop,qn⟩|⟨go,N,hN,step⟩
 ·refine wpAny_passesOwn hp (aJ (T.done X rfl rfl rfl hc i pins s3 σ3 H3 X.xe I3 (stat fr3) st3 stop) fun r s4 ⟨hr,I4⟩=>?_)
  subst hr
  exact wpAny_execs_nil ⟨σ3,H3,I4,qn⟩
 ·refine wpAny_passesOwn hp (aJ (T.item X rfl rfl rfl hc i pins s3 σ3 H3 X.xe I3 (stat fr3) st3 go) fun r s4 ⟨u,hr,h4⟩=>?_)
  subst hr
  refine wpAny_passesOwn hp (aJ h4 fun _ s5 ⟨x,H5,I5,r5,y5,st5,fr5⟩=>?_)
  have I5':=I5.pinned (stat fr5) (T.obj _ _ st5)
  refine wpAny_passesOwn hp (aJ (hg _ s5 σ3 H5 x u _ I5' r5 (step x H5 y5)) fun _ s6 ⟨σ6,H6,I6,q6⟩=>?_)
  refine wpAny_passesOwn hp (aJ (hb _ s6 σ6 H6 _ I6 q6) fun f s7 q7=>?_)
  have again:∀{σ7:St} {H7:Hp},aD X (pins++o9 fp s5.heap) σ7 H7 s7->N σ7 H7->∃m,m<n/\∃i σ' H',aD X pins σ' H' s7/\tn i s7.heap/\(∀b∈fp,H' b=none)/\W i m σ' H':=fun {σ7 H7} I7 n7=>by
   obtain⟨m',hm,w7⟩:=hN σ7 H7 n7
   refine⟨m',hm,i+1,σ7,H7,I7.unpinned,T.keep _ _ _ st5 fun b hb o e=>(I7.pin (b,o) (xbb _ (xbb _ (rD hb e)))).1,fun b hb=>?_,w7⟩
   obtain⟨o,e,d⟩:=T.obj _ _ st5 b hb
   exact(I7.pin (b,o) (xbb _ (xbb _ (rD hb e)))).2.1
  cases f with
  |next=>obtain⟨σ7,H7,I7,n7⟩:=q7;exact again I7 n7
  |cont=>obtain⟨σ7,H7,I7,n7⟩:=q7;exact again I7 n7
  |brk=>obtain⟨σ7,H7,I7,q7⟩:=q7;exact⟨σ7,H7,I7.unpinned,q7⟩
  |ret v=>obtain⟨x7,σ7,H7,I7,r7,q7⟩:=q7;exact⟨x7,σ7,H7,I7.unpinned,r7,q7⟩
end
end L2
namespace L2
open PySem.Spec PyProof.Rows
abbrev R2:=V->V->Hp->VK->Prop
def bD(X:Cx)(f:Value->Value->Sem Value)(r:R2):Prop:=
 ∀(pins:List (Addr×Obj)) (s:Shared) (σ:St) (H:Hp) (x y:V) (v u:Value) (Q:VK),aD X pins σ H s->aM x v->aM y u->r x y H Q->
  wpAny (model X.prog X.w) X.A (f v u) (EP X pins σ Q) X.xe s
def uW(X:Cx)(f:Value->Sem Value)(r:V->Hp->VK->Prop):Prop:=
 ∀(pins:List (Addr×Obj)) (s:Shared) (σ:St) (H:Hp) (x:V) (v:Value) (Q:VK),aD X pins σ H s->aM x v->r x H Q->
  wpAny (model X.prog X.w) X.A (f v) (EP X pins σ Q) X.xe s
def dL(X:Cx)(f:Value)(r:List V->Hp->VK->Prop):Prop:=
 ∀(pins:List (Addr×Obj)) (s:Shared) (σ:St) (H:Hp) (xs:List V) (us:List Value) (Q:VK),aD X pins σ H s->aP xs us->r xs H Q->
  wpAny (model X.prog X.w) X.A (call f us) (EP X pins σ Q) X.xe s
def mV(r:R2)(ta tb:TE):TE:=fun σ H Q=>ta σ H fun x H1=>tb σ H1 fun y H2=>r x y H2 Q
def tUn(r:V->Hp->VK->Prop)(ta:TE):TE:=fun σ H Q=>ta σ H fun x H1=>r x H1 Q
def rI(C:Int->Int->Prop)(g:Int->Int->V):R2:=fun x y H Q=>∃i j,x=.int i/\y=.int j/\C i j/\Q (g i j) H
def iV(g:Int->Int->V):R2:=fun x y H Q=>∃i j,x=.int i/\y=.int j/\Q (g i j) H
def rU(g:Int->V):V->Hp->VK->Prop:=fun x H Q=>∃i,x=.int i/\Q (g i) H
section
variable{X:Cx}{a b c:Expr}{ta tb tc:TE}{pos:Pos}
theorem rE(ha:PE X a ta)(hb:PE X b tb){pins:List (Addr×Obj)}{s:Shared}{σ:St}{H:Hp}{R:V->V->Hp->Prop}(I:aD X pins σ H s)
  (h:ta σ H fun x H1=>tb σ H1 fun y H2=>R x y H2) {Q:Value->Shared->Prop} {f:Value->Value->Sem Value}
  (hf:∀v u s2 x y H2,aD X pins σ H2 s2->aM x v->aM y u->R x y H2->wpAny (model X.prog X.w) X.A (f v u) Q X.xe s2) :
  wpAny (model X.prog X.w) X.A (eval a X.env) (fun v s₁=>wpAny (model X.prog X.w) X.A (eval b X.env) (fun u s₂=>wpAny (model X.prog X.w) X.A (f v u) Q X.xe s₂) X.xe s₁) X.xe s:=by
 refine aJ (ha pins s σ H _ I h) fun v s1 ⟨x,H1,I1,r1,q1⟩=>?_
 refine aJ (hb pins s1 σ H1 _ I1 q1) fun u s2 ⟨y,H2,I2,r2,q2⟩=>?_
 exact hf v u s2 x y H2 I2 r1 r2 q2
theorem uX{op:Operator}{r:R2}(ho:bD X (binaryOp op) r)(ha:PE X a ta)(hb:PE X b tb):PE X (.BinOp a op b pos) (mV r ta tb):=by
 intro pins s σ H Q I h
 exact wpAny_BinOp (rE ha hb I h fun v u s2 x y H2 I2 rx ry q=>ho pins s2 σ H2 x y v u Q I2 rx ry q)
theorem QB{op:UnaryOp}{r:V->Hp->VK->Prop}(ho:uW X (unaryOp op) r)(ha:PE X a ta):PE X (.UnaryOp op a pos) (tUn r ta):=by
 intro pins s σ H Q I h
 exact UnaryOp_ (aJ (ha pins s σ H _ I h) fun v s1 ⟨x,H1,I1,r1,q1⟩=>ho pins s1 σ H1 x v Q I1 r1 q1)
theorem lA{f:Value->Value->Sem Value}{C:Int->Int->Prop}{g:Int->Int->Int}
  (rule:∀(i j:Int) (t u:Tok) (s:Shared) (Q:Value->Shared->Prop) (E:Value->Shared->Prop),C i j->Q (.int (g i j) s.toks) { s with toks:=s.toks+1 }->wpAny (model X.prog X.w) X.A (f (.int i t) (.int j u)) Q E s) :
  bD X f (rI C fun i j=>.int (g i j)):=by
 intro pins s σ H x y v u Q I rx ry h
 obtain⟨i,j,rfl,rfl,hc,q⟩:=h
 obtain⟨t,rfl⟩:=rx
 obtain⟨t',rfl⟩:=ry
 exact rule i j t t' s _ _ hc ⟨.int (g i j),H,I.tok _,⟨_,rfl⟩,q⟩
theorem AB{f:Value->Value->Sem Value}{g:Int->Int->Int}
  (rule:∀(i j:Int) (t u:Tok) (s:Shared) (Q:Value->Shared->Prop) (E:Value->Shared->Prop),Q (.int (g i j) s.toks) { s with toks:=s.toks+1 }->wpAny (model X.prog X.w) X.A (f (.int i t) (.int j u)) Q E s) :
  bD X f (iV fun i j=>.int (g i j)):=by
 intro pins s σ H x y v u Q I rx ry h
 obtain⟨i,j,rfl,rfl,q⟩:=h
 obtain⟨t,rfl⟩:=rx
 obtain⟨t',rfl⟩:=ry
 exact rule i j t t' s _ _ ⟨.int (g i j),H,I.tok _,⟨_,rfl⟩,q⟩
theorem rF{f:Value->Value->Sem Value}{g:Int->Int->Bool}
  (rule:∀(i j:Int) (t u:Tok) (s:Shared) (Q:Value->Shared->Prop) (E:Value->Shared->Prop),Q (.bool (g i j)) s->wpAny (model X.prog X.w) X.A (f (.int i t) (.int j u)) Q E s) :
  bD X f (iV fun i j=>.bl (g i j)):=by
 intro pins s σ H x y v u Q I rx ry h
 obtain⟨i,j,rfl,rfl,q⟩:=h
 obtain⟨t,rfl⟩:=rx
 obtain⟨t',rfl⟩:=ry
 exact rule i j t t' s _ _ ⟨.bl (g i j),H,I,rfl,q⟩
def QC(i j:Int):Prop:=0<=j/\j<=1000000/\i.natAbs<2^64
theorem QD(k:Nat):(0:Int)<=2^k:=by
 rw[two_pow_cast]
 exact Int.natCast_nonneg _
theorem QE:bD X (binaryOp .Add) (iV fun i j=>.int (i+j)):=AB fun _ _ _ _ _ _ _ q=>add_int q
theorem QF:bD X (binaryOp .Mod) (rI (fun _ j=>j≠0) fun i j=>.int (i.fmod j)):=lA fun _ _ _ _ _ _ _ hc q=>mod_int' hc q
theorem QG:bD X (binaryOp .Pow) (rI QC fun i j=>.int (i^j.toNat)):=lA fun _ _ _ _ _ _ _ hc q=>pow_int_small hc.1 hc.2.1 hc.2.2 q
theorem QH:bD X (binaryOp .RShift) (rI (fun _ j=>0<=j) fun i j=>.int (i/2^j.toNat)):=lA fun i j _ _ _ _ _ hc q=>
 rshift_int hc (by rw[Int.fdiv_eq_ediv_of_nonneg i (QD _)];exact q)
theorem QI:bD X (binaryOp .BitAnd) (iV fun i j=>.int (Builtin.bitAnd i j)):=AB fun _ _ _ _ _ _ _ q=>and_int q
theorem unI{f:Value->Sem Value}{g:Int->Int}
  (rule:∀(i:Int) (t:Tok) (s:Shared) (Q:Value->Shared->Prop) (E:Value->Shared->Prop),Q (.int (g i) s.toks) { s with toks:=s.toks+1 }->wpAny (model X.prog X.w) X.A (f (.int i t)) Q E s) :
  uW X f (rU fun i=>.int (g i)):=by
 intro pins s σ H x v Q I rx h
 obtain⟨i,rfl,q⟩:=h
 obtain⟨t,rfl⟩:=rx
 exact rule i t s _ _ ⟨.int (g i),H,I.tok _,⟨_,rfl⟩,q⟩
theorem QK:uW X (unaryOp .USub) (rU fun i=>.int (-i)):=unI fun _ _ _ _ _ q=>neg_int q
end
section
variable{X:Cx}{a b c:Expr}{ta tb tc:TE}{pos:Pos}
theorem pA{pins:List (Addr×Obj)}{σ:St}{H:Hp}{s:Shared}{Q:VK}{k k':Bool}(I:aD X pins σ H s)(q:Q (.bl k) H)(e:k=k'):EP X pins σ Q (.bool k') s:=by
 subst e
 exact⟨.bl k,H,I,rfl,q⟩
theorem QL:bD X (compareOp .Lt) (iV fun i j=>.bl (decide (i<j))):=rF fun _ _ _ _ _ _ _ q=>lt_int q
theorem QM:bD X (compareOp .LtE) (iV fun i j=>.bl (decide (i<=j))):=rF fun _ _ _ _ _ _ _ q=>le_int q
theorem QN:bD X (compareOp .Gt) (iV fun i j=>.bl (decide (j<i))):=rF fun _ _ _ _ _ _ _ q=>gt_int q
theorem QO:bD X (compareOp .GtE) (iV fun i j=>.bl (decide (j<=i))):=rF fun _ _ _ _ _ _ _ q=>ge_int q
theorem QP:bD X (compareOp .In) (fun x y H Q=>∃i j,x=.str i/\y=.str j/\Q (.bl (!(Builtin.Str.occurrences j i 0 j.length 1).isEmpty)) H):=by
 intro pins s σ H x y v u Q I rx ry h
 obtain⟨i,j,rfl,rfl,q⟩:=h
 obtain⟨t,rfl⟩:=rx
 obtain⟨t',rfl⟩:=ry
 exact in_str (pA I q rfl)
theorem QQ:bD X (compareOp .Is) (fun x y H Q=>y=.non/\Q (.bl (decide (x=.non))) H):=by
 intro pins s σ H x y v u Q I rx ry h
 obtain⟨rfl,q⟩:=h
 cases ry
 refine is_none_gen (pA I q ?_)
 cases x<;>first
  |(cases rx;rfl)
  |(obtain⟨t,rfl⟩:=rx;rfl)
theorem QR:bD X (compareOp .IsNot) (fun x y H Q=>y=.non/\Q (.bl (!decide (x=.non))) H):=by
 intro pins s σ H x y v u Q I rx ry h
 obtain⟨rfl,q⟩:=h
 cases ry
 refine isnot_none_gen (pA I q ?_)
 cases x<;>first
  |(cases rx;rfl)
  |(obtain⟨t,rfl⟩:=rx;rfl)
theorem bD.or{f:Value->Value->Sem Value}{r r':R2}(h:bD X f r)(h':bD X f r'):bD X f (fun x y H Q=>r x y H Q\/r' x y H Q):=by
 intro pins s σ H x y v u Q I rx ry q
 rcases q with q|q
 ·exact h pins s σ H x y v u Q I rx ry q
 ·exact h' pins s σ H x y v u Q I rx ry q
theorem QS{op:CmpOp}{r:R2}(ho:bD X (compareOp op) r)(ha:PE X a ta)(hb:PE X b tb)(hm:behindInMarks op b=false):PE X (.Compare a [op] [b] pos) (mV r ta tb):=by
 intro pins s σ H Q I h
 exact wpAny_Compare1 (rE ha hb I h fun v u s2 x y H2 I2 rx ry q=>ho pins s2 σ H2 x y v u Q I2 rx ry q) hm
def uY(t:TE):TT:=fun σ H Q=>t σ H fun x H'=>∃k,x=.bl k/\Q k H'
theorem QT{op:CmpOp}{r:R2}(ho:bD X (compareOp op) r)(ha:PE X a ta)(hb:PE X b tb)(hm:behindInMarks op b=false):PT X (.Compare a [op] [b] pos) (uY (mV r ta tb)):=by
 intro pins s σ H Q I h
 refine wpAny_isTrue_Compare1 (aJ (ha pins s σ H _ I h) fun v s1 ⟨x,H1,I1,r1,q1⟩=>aJ (hb pins s1 σ H1 _ I1 q1) fun u s2 ⟨y,H2,I2,r2,q2⟩=>
  aJ (ho pins s2 σ H2 x y v u _ I2 r1 r2 q2) fun c s3 ⟨z,H3,I3,r3,k,e,q3⟩=>?_) hm
 subst e
 cases r3
 exact wpAny_truthy_bool ⟨H3,I3,q3⟩
def uZ(r r':R2)(ta tb tc:TE):TE:=fun σ H Q=>ta σ H fun x H1=>tb σ H1 fun y H2=>r x y H2 fun z H3=>∃k,z=.bl k/\
 (if k=true then tc σ H3 fun w' H4=>r' y w' H4 Q else Q (.bl false) H3)
theorem QU{op op':CmpOp}{r r':R2}(ho:bD X (compareOp op) r)(ho':bD X (compareOp op') r')(ha:PE X a ta)(hb:PE X b tb)(hc:PE X c tc)
  (hm:lastMarks [op,op'] [b,c]=false:=by with_unfolding_all rfl):PE X (.Compare a [op,op'] [b,c] pos) (uZ r r' ta tb tc):=by
 intro pins s σ H Q I h
 refine Compare_chain (aJ (ha pins s σ H _ I h) fun v s1 ⟨x,H1,I1,r1,q1⟩=>chain_link (aJ (hb pins s1 σ H1 _ I1 q1) fun u s2 ⟨y,H2,I2,r2,q2⟩=>
  aJ (ho pins s2 σ H2 x y v u _ I2 r1 r2 q2) fun d s3 ⟨z,H3,I3,r3,k,e,q3⟩=>?_)) hm
 subst e
 cases r3
 refine wpAny_truthy_bool ?_
 cases k with
 |false=>exact ite_ff ⟨.bl false,H3,I3,rfl,q3⟩
 |true=>exact ite_tt (chain_last (aJ (hc pins s3 σ H3 _ I3 q3) fun w' s4 ⟨z',H4,I4,r4,q4⟩=>ho' pins s4 σ H4 y z' u w' Q I4 r2 r4 q4))
theorem QV{op op':CmpOp}{r r':R2}(ho:bD X (compareOp op) r)(ho':bD X (compareOp op') r')(ha:PE X a ta)(hb:PE X b tb)(hc:PE X c tc)
  (hm:lastMarks [op,op'] [b,c]=false:=by with_unfolding_all rfl):PT X (.Compare a [op,op'] [b,c] pos) (uY (uZ r r' ta tb tc)):=by
 intro pins s σ H Q I h
 refine isTrue_chain (aJ (ha pins s σ H _ I h) fun v s1 ⟨x,H1,I1,r1,q1⟩=>test_link (aJ (hb pins s1 σ H1 _ I1 q1) fun u s2 ⟨y,H2,I2,r2,q2⟩=>
  aJ (ho pins s2 σ H2 x y v u _ I2 r1 r2 q2) fun d s3 ⟨z,H3,I3,r3,k,e,q3⟩=>?_)) hm
 subst e
 cases r3
 refine wpAny_truthy_bool ?_
 cases k with
 |false=>
  obtain⟨k',e',q'⟩:=q3
  cases e'
  exact ite_ff ⟨H3,I3,q'⟩
 |true=>
  refine ite_tt (test_last (aJ (hc pins s3 σ H3 _ I3 q3) fun w' s4 ⟨z',H4,I4,r4,q4⟩=>aJ (ho' pins s4 σ H4 y z' u w' _ I4 r2 r4 q4) fun d' s5 ⟨z2,H5,I5,r5,k2,e2,q5⟩=>?_))
  subst e2
  cases r5
  exact wpAny_truthy_bool ⟨H5,I5,q5⟩
theorem rG:(sizeLine:Nat)<2^63:=by rw[sizeLine_eq];decide
theorem QW:bD X (binaryOp .Add) (fun x y H Q=>∃i j,x=.str i/\y=.str j/\i.length+j.length<=sizeLine/\Q (.str (i++j)) H):=by
 intro pins s σ H x y v u Q I rx ry h
 obtain⟨i,j,rfl,rfl,hz,q⟩:=h
 obtain⟨t,rfl⟩:=rx
 obtain⟨t',rfl⟩:=ry
 exact add_str (fun t' tk=>⟨.str (i++j),H,I.tok _,⟨_,rfl⟩,q⟩) hz
def AC(b:Expr):Prop:=∀o i,subscripted b false o i=operate [o,i] (getItem o i)
theorem QX(ha:PE X a ta)(hb:PE X b tb)(hs:AC b) :
  PE X (.Subscript a b pos) (mV (fun x y H Q=>∃z i c,x=.str z/\y=.int i/\0<=i/\i<2^63/\i<z.length/\z.cps[i.toNat]? = some c/\Q (.str ⟨#[c]⟩) H) ta tb):=by
 intro pins s σ H Q I h
 refine Subscript_ (rE ha hb I h fun v u s2 x y H2 I2 rx ry q=>?_)
 obtain⟨z,i,c,rfl,rfl,h0,h63,h1,hc,q⟩:=q
 obtain⟨t,rfl⟩:=rx
 obtain⟨t',rfl⟩:=ry
 have e:seqIndex? i z.length=some i.toNat:=PySem.StrLaws.seqIndex_nonneg h0 h1
 exact tail_any (typeIs_str s2 z t) slot_str_getitem.lookup (getItem_str (c:=c) (by
  have e1:decide (i < -(2^63:Int))=false:=xax (by omega)
  have e2:decide (i ≥ 2^63)=false:=xax (by omega)
  rw[e1,e2]<;>rfl) (by rw[e];exact hc) ⟨.str ⟨#[c]⟩,H2,I2.tok _,⟨_,rfl⟩,q⟩) (hs _ _)
theorem kH{x:V}{us:List Value}(r:aP [x] us):∃u,us=[u]/\aM x u:=by
 cases r with
 |cons r1 r2=>cases r2;exact⟨_,rfl,r1⟩
theorem rH{x y:V}{us:List Value}(r:aP [x,y] us):∃u w',us=[u,w']/\aM x u/\aM y w':=by
 cases r with
 |cons r1 r2=>
  cases r2 with
  |cons r3 r4=>cases r4;exact⟨_,_,rfl,r1,r3⟩
theorem QY:dL X (.builtin "abs") (fun xs H Q=>∃i,xs=[.int i]/\Q (.int (if i<0 then -i else i)) H):=by
 intro pins s σ H xs us Q I r h
 obtain⟨i,rfl,q⟩:=h
 obtain⟨u,rfl,t,rfl⟩:=kH r
 exact call_abs_int fun u tk=>⟨.int (if i<0 then -i else i),H,I.tok _,⟨_,rfl⟩,q⟩
theorem QZ(hc:X.calm=true):dL X (.builtin "max") (fun xs H Q=>∃i j,xs=[.int i,.int j]/\Q (.int (if j>i then j else i)) H):=by
 intro pins s σ H xs us Q I r h
 obtain⟨i,j,rfl,q⟩:=h
 obtain⟨u,w',rfl,⟨t,rfl⟩,⟨t',rfl⟩⟩:=rH r
 refine max_two_ints (I.ok.hd hc) fun h' tk k=>⟨_,H,I.kept k,?_,q⟩
 by_cases hj:j>i
 ·rw[xal hj,xal hj];exact⟨_,rfl⟩
 ·rw[xak hj,xak hj];exact⟨_,rfl⟩
theorem Q0(hc:X.calm=true):dL X (.builtin "min") (fun xs H Q=>∃i j,xs=[.int i,.int j]/\Q (.int (if j<i then j else i)) H):=by
 intro pins s σ H xs us Q I r h
 obtain⟨i,j,rfl,q⟩:=h
 obtain⟨u,w',rfl,⟨t,rfl⟩,⟨t',rfl⟩⟩:=rH r
 refine min_two_ints (I.ok.hd hc) fun h' tk k=>⟨_,H,I.kept k,?_,q⟩
 by_cases hj:j<i
 ·rw[xal hj,xal hj];exact⟨_,rfl⟩
 ·rw[xak hj,xak hj];exact⟨_,rfl⟩
theorem Q1:dL X (.type "int") (fun xs H Q=>(∃i,xs=[.int i]/\Q (.int i) H)\/∃k,xs=[.bl k]/\Q (.int (if k then 1 else 0)) H):=by
 intro pins s σ H xs us Q I r h
 rcases h with⟨i,rfl,q⟩|⟨k,rfl,q⟩
 ·obtain⟨u,rfl,t,rfl⟩:=kH r
  exact call_int_int ⟨.int i,H,I,⟨_,rfl⟩,q⟩
 ·obtain⟨u,rfl,r1⟩:=kH r
  cases r1
  exact call_int_bool ⟨.int (if k then 1 else 0),H,I.tok _,⟨_,rfl⟩,q⟩
theorem Q2:dL X (.type "str") (fun xs H Q=>∃i,xs=[.int i]/\i.natAbs.log2<1920/\Q (.str (toString i)) H):=by
 intro pins s σ H xs us Q I r h
 obtain⟨i,rfl,hz,q⟩:=h
 obtain⟨u,rfl,t,rfl⟩:=kH r
 exact PySem.P.str_of_int hz ⟨.str _,H,I.tok _,⟨_,rfl⟩,q⟩
end
end L2
namespace L2
open PySem.Spec PyProof.Rows
structure lB(h:Heap)(x dx C:Addr)(mA:Str->Option Value):Prop where
 obj:h.get? x=some (PySem.W.instObj C dx)
 ns:h.Ns1 dx mA
 ne:dx≠x
theorem Q3{h:Heap}{dx:Addr}{mA:Str->Option Value}(n:h.Ns1 dx mA):∃od,h.get? dx=some od/\∀name,PySem.W.lookIn name od=some (mA name):=by
 obtain⟨o,es,ep,ho,hd,hk,_,hm⟩:=n
 refine⟨o,ho,fun name=>?_⟩
 have e:=hm name
 unfold nsFind findBy at e
 rw[<- Array.find?_toList] at e
 unfold PySem.W.lookIn
 rw[hd]
 dsimp only
 split
 ·rename_i y q
  rw[q] at e
  exact congrArg some e
 ·rename_i q
  rw[q] at e
  have a:es.toList.any (·.refKey)=false:=by
   rw[List.any_eq_false]
   intro y hy
   obtain⟨z,t,hkey⟩:=hk y (Array.mem_toList_iff.mp hy)
   simp[DictEntry.refKey,hkey]
  have a':¬es.toList.any (·.refKey)=true:=by rw[a];exact xa4
  rw[xak a']
  exact congrArg some e
theorem lB.look{h:Heap}{x dx C:Addr}{mA:Str->Option Value}(I:lB h x dx C mA):∃od,PySem.W.InstAt h x (PySem.W.instObj C dx) C (some od)/\∀name,PySem.W.lookIn name od=some (mA name):=
 let⟨od,ho,hl⟩:=Q3 I.ns
 ⟨od,⟨I.obj,rfl,rfl,ho⟩,hl⟩
section
variable{prog:Program}{w:World}{A:Around}{E:Value->Shared->Prop}{s:Shared}{K:xFg}{x dx C f:Addr}{mA:Str->Option Value}{name:Str}{v:Value}
theorem Q4{expr:Bool}{Q:Value->Shared->Prop}(X:K.In s.heap)(I:lB s.heap x dx C mA)(hg:PySem.W.plainGet K C name=true)(hh:PySem.W.hasDictIn K C=true)
  (ha:PySem.W.findIn K (.ref C) name=some none) (hv:mA name=some v) (hv':PySem.W.handedIn v=true) (h:Q v { s with toks:=s.toks+1 }) :
  wpAny (model prog w) A (getAttr (.ref x) name expr) Q E s:=by
 obtain⟨od,J,hl⟩:=I.look
 exact PySem.W.get_value X J (PySem.W.plainGet_of hg).1 (PySem.W.findObj_own hh ha rfl (by rw[hl,hv])) hv' h
theorem Q5{pl:Sem Bool}{Q:Value×List Value->Shared->Prop}(X:K.In s.heap)(I:lB s.heap x dx C mA)(hg:PySem.W.plainGet K C name=true)
  (hf:PySem.W.findIn K (.ref C) name=some (some (.ref f))) (ht:PySem.W.isFn K (.ref f)=true) (hv:mA name=none) (h:Q (.ref f,[.ref x]) s) :
  wpAny (model prog w) A (getMethod (.ref x) name pl) Q E s:=by
 obtain⟨od,J,hl⟩:=I.look
 exact PySem.W.method_fn X J (PySem.W.plainGet_of hg).1 (PySem.W.plainGet_of hg).2 hf (beq_iff_eq.mp ht) (by show (PySem.W.lookIn name od).map (·.isSome)=some false;rw[hl,hv];rfl) h
theorem Q6{ns:List Str}{Q:Unit->Shared->Prop}(X:K.In s.heap)(I:lB s.heap x dx C mA)
  (hs:PySem.W.findIn K (.ref C) "__setattr__"=some (some (.builtin "object.__setattr__"))) (hp:PySem.W.plainOver K C=true) (ht:PySem.W.takerIn K C name=some none) (hh:PySem.W.hasDictIn K C=true)
  (hw:PySem.Within mA ns) (hsz:ns.length<=sizeLine)
  (h:∀h',lB h' x dx C (fun y=>if y=name then some v else mA y)->Heap.SameBut dx s.heap h'->Q () { s with heap:=h',toks:=s.toks+2 }) :
  wpAny (model prog w) A (setAttr (.ref x) name v) Q E s:=by
 obtain⟨od,J,hl⟩:=I.look
 refine PySem.W.set_plain X J hs (PySem.W.osa_open (s:={ s with toks:=s.toks+1 }) (r:=none) X J hp ht fun b=>?_)
 obtain⟨cd,hc,hd'⟩:=PySem.W.any_some hh
 have hx:s.heap.get? x=some ⟨.ref C,some dx,.plain,#[]⟩:=I.obj
 refine xab (xar (xab (xab (wpAny_loadPart hx (xab (PySem.W.Looks.here (s:={ s with toks:=s.toks+1 }) (PySem.W.looks_clsIn X hc) ?_))))))
 rw[hd']
 refine xar (a:=some dx) (xab (xar (xab ?_)))
 refine wpAny_nsSet1 (s:={ s with toks:=s.toks+1 }) I.ns fun h' hn2 hs2=>?_
 obtain⟨oD,esD,epD,hoD,hdD,hcD⟩:=hn2.count (PySem.Within.cons name v hw)
 refine xab (wpAny_lookBehind hoD (by rw[hdD];exact pastItsLine_dict (xaz hcD (by rw[xao];omega))) ?_)
 exact xar (h _ ⟨(hs2.2 _ (xay I.ne)).trans I.obj,hn2,I.ne⟩ hs2)
theorem Q7{R:Result->Shared->Prop}{vs:List Value}{kw:List (Str×Value)}(X:K.In s.heap)(hm:PySem.W.makesIn K C=true)
  (hi:PySem.W.findIn K (.ref C) "__init__"=some (some (.ref f))) (hf:PySem.W.typeIn K (.ref f)=some (.type "function"))
  (h : codeAny (model prog w) (A.under (.builtin "type.__call__" ⟨.ref C :: vs, kw⟩)) (.call (.ref f) ⟨.ref (s.heap.objs.size + 1) :: vs, kw⟩) (PySem.W.InitBack (s.heap.objs.size + 1) R)
   { s with heap:=(s.heap.push PySem.W.emptyDict).push (PySem.W.instObj C s.heap.objs.size) }) :
  codeAny (model prog w) A (.call (.ref C) ⟨vs,kw⟩) R s:=by
 obtain⟨hh,g,d,t,os⟩:=s
 exact PySem.W.make_core (PySem.W.makes_of X hm) (PySem.W.looks_findIn X hi) (fun self=>PySem.W.bind_fn X self hf) (.inl rfl) h
end
def cC(f:Str)(v:V):List (Str×V)->List (Str×V)
 |[]=>[(f,v)]
 |(g,x)::r=>if g=f then (g,v)::r else (g,x)::cC f v r
theorem AD(f g:Str)(v:V):∀fs:List (Str×V),(cC f v fs).lookup g=if g=f then some v else fs.lookup g
 |[]=>by
  show List.lookup g [(f,v)]=_
  by_cases h:g=f
  ·have hb:(g==f)=true:=beq_iff_eq.mpr h
   simp only[List.lookup,hb,xal h]
  ·have hb:(g==f)=false:=beq_eq_false_iff_ne.mpr h
   simp only[List.lookup,hb,xak h]
 |(k,x)::r=>by
  have ih:=AD f g v r
  rw[show cC f v ((k,x)::r)=(if k=f then (k,v)::r else (k,x)::cC f v r) from rfl]
  by_cases hk:k=f
  ·rw[xal hk]
   by_cases h:g=k
   ·have hb:(g==k)=true:=beq_iff_eq.mpr h
    simp only[List.lookup,hb,xal (h.trans hk)]
   ·have hb:(g==k)=false:=beq_eq_false_iff_ne.mpr h
    simp only[List.lookup,hb,xak (fun e:g=f=>h (e.trans hk.symm))]
  ·rw[xak hk]
   by_cases h:g=k
   ·have hb:(g==k)=true:=beq_iff_eq.mpr h
    simp only[List.lookup,hb,xak (fun e:g=f=>hk (h.symm.trans e))]
   ·have hb:(g==k)=false:=beq_eq_false_iff_ne.mpr h
    simp only[List.lookup,hb]
    exact ih
theorem u4(f:Str)(v:V):∀fs:List (Str×V),f∈(cC f v fs).map (·.1)/\∀g,g∈fs.map (·.1)->g∈(cC f v fs).map (·.1)
 |[]=>⟨by simp[cC],fun g h=>by simp at h⟩
 |(k,x)::r=>by
  obtain⟨i1,i2⟩:=u4 f v r
  rw[show cC f v ((k,x)::r)=(if k=f then (k,v)::r else (k,x)::cC f v r) from rfl]
  by_cases hk:k=f
  ·rw[xal hk]
   subst hk
   exact⟨by simp,fun g h=>by simpa using h⟩
  ·rw[xak hk]
   refine⟨?_,fun g h=>?_⟩
   ·rw[xa5]
    exact xas _ i1
   ·rw[xa5] at h ⊢
    rcases xa1.mp h with e|e
    ·exact xa1.mpr (.inl e)
    ·exact xas _ (i2 g e)
theorem AE(f:Str)(v:V):∀fs:List (Str×V),(cC f v fs).length<=fs.length+1
 |[]=>by simp[cC]
 |(k,x)::r=>by
  have ih:=AE f v r
  rw[show cC f v ((k,x)::r)=(if k=f then (k,v)::r else (k,x)::cC f v r) from rfl]
  by_cases hk:k=f
  ·rw[xal hk,xao,xao];omega
  ·rw[xak hk,xao,xao];omega
theorem eL.some_of{v:V}{o:Option Value}(r:eL (some v) o):∃u,o=some u/\aM v u:=by
 cases o with
 |none=>exact(show False from r).elim
 |some u=>exact⟨u,rfl,r⟩
theorem eL.none_of{o:Option Value}(r:eL none o):o=none:=by
 cases o with
 |none=>rfl
 |some u=>exact(show False from r).elim
theorem Q8{v:V}{u:Value}(r:aM v u):PySem.W.handedIn u=true:=by
 cases v with
 |non=>cases (show u=Value.none from r);rfl
 |bl b=>cases (show u=Value.bool b from r);rfl
 |int i=>obtain⟨t,e⟩:=(show ∃t,u=Value.int i t from r);cases e;rfl
 |str x=>obtain⟨t,e⟩:=(show ∃t,u=Value.str x t from r);cases e;rfl
 |byt b=>obtain⟨t,e⟩:=(show ∃t,u=Value.bytes b t from r);cases e;rfl
 |flt b=>obtain⟨t,e⟩:=(show ∃t,u=Value.float b t from r);cases e;rfl
 |ref a=>cases (show u=Value.ref a from r);rfl
 |ty n=>cases (show u=Value.type n from r);rfl
section
variable{P:Program}{w:World}{H H':Hp}{h h':Heap}{a C dx:Addr}{fs fs':List (Str×V)}
theorem u5(hok:bY P w H h)(e:H a=some (.ins C dx fs)):∃mA,lB h a dx C mA/\(∀f,eL (fs.lookup f) (mA f))/\PySem.Within mA (fs.map (·.1))/\fs.length<=1000/\H dx=some (.own a):=by
 obtain⟨d,z,ne,ob,mA,n,r,q⟩:=(show cW P w H h a (.ins C dx fs) from hok a _ e)
 exact⟨mA,⟨ob,n,ne⟩,r,q,z,d⟩
end
structure eN(K:xFg)(C:Addr):Prop where
 pg:PySem.W.plainGet K C Str.empty=true
 hd:PySem.W.hasDictIn K C=true
 po:PySem.W.plainOver K C=true
 sa:PySem.W.findIn K (.ref C) "__setattr__"=some (some (.builtin "object.__setattr__"))
theorem eN.get{K:xFg}{C:Addr}(c:eN K C)(f:Str):PySem.W.plainGet K C f=true:=c.pg
def eO(K:xFg)(C:Addr)(f:Str):Prop:=PySem.W.findIn K (.ref C) f=some none
theorem eO.taker{K:xFg}{C:Addr}{f:Str}(n:eO K C f):PySem.W.takerIn K C f=some none:=by
 unfold PySem.W.takerIn
 rw[show PySem.W.findIn K (.ref C) f=some none from n]
 rfl
structure cO(K:xFg)(C:Addr)(m:Str)(f:Addr):Prop where
 at_:PySem.W.findIn K (.ref C) m=some (some (.ref f))
 fn:PySem.W.isFn K (.ref f)=true
 kp:PySem.W.keepIn K (.ref f)=true
section
variable{X:Cx}{pins:List (Addr×Obj)}{σ:St}{H:Hp}{s:Shared}{a C dx:Addr}{fs:List (Str×V)}{f:Str}{v:V}{A:Around}{E:Value->Shared->Prop}
theorem AF{b:Bool}{Q:Value->Shared->Prop}(I:aD X pins σ H s)(e:H a=some (.ins C dx fs))(c:eN X.K C)(n:eO X.K C f)(l:fs.lookup f=some v)
  (h:∀u s',aD X pins σ H s'->aM v u->Q u s'):wpAny (model X.prog X.w) A (getAttr (.ref a) f b) Q E s:=by
 obtain⟨mA,O,r,_,_,_⟩:=u5 I.hok e
 obtain⟨u,hu,ru⟩:=eL.some_of (v:=v) (o:=mA f) (by rw[<- l];exact r f)
 exact Q4 I.kIn O (c.get f) c.hd n hu (Q8 ru) (h u _ (I.tok _) ru)
theorem u6{m:Str}{g:Addr}{pl:Sem Bool}{Q:Value×List Value->Shared->Prop}(I:aD X pins σ H s)(e:H a=some (.ins C dx fs))(c:eN X.K C)(k:cO X.K C m g)(l:fs.lookup m=none)
  (h:Q (.ref g,[.ref a]) s):wpAny (model X.prog X.w) A (getMethod (.ref a) m pl) Q E s:=by
 obtain⟨mA,O,r,_,_,_⟩:=u5 I.hok e
 have hn:mA m=none:=eL.none_of (by rw[<- l];exact r m)
 exact Q5 I.kIn O (c.get m) k.at_ k.fn hn h
theorem AG{y:V}{u:Value}{Q:Unit->Shared->Prop}(I:aD X pins σ H s)(e:H a=some (.ins C dx fs))(c:eN X.K C)(n:eO X.K C f)(hl:fs.length<1000)(ry:aM y u)
  (h:∀s',aD X pins σ (aG H a (.ins C dx (cC f y fs))) s'->Q () s'):wpAny (model X.prog X.w) A (setAttr (.ref a) f u) Q E s:=by
 obtain⟨mA,O,r,wi,_,ho⟩:=u5 I.hok e
 have hz:(fs.map (·.1)).length<=sizeLine:=by rw[xai,sizeLine_eq];omega
 refine Q6 I.kIn O c.sa c.po n.taker c.hd wi hz fun h' O' sb=>h _ ?_
 have hd:∃o,h'.get? dx=some o:=let⟨o,_,_,e',_⟩:=O'.ns;⟨o,e'⟩
 refine I.write (x:=a) (e:=dx) (by rw[e];exact True.intro) (.inr ho) (fun b q hb z=>(sb.2 b hb).trans z) hd ?_
 refine⟨by rw[aH O.ne];exact ho,?_,O.ne,O'.obj,_,O'.ns,fun g=>?_,fun g hg=>?_⟩
 ·have:=AE f y fs;omega
 ·show eL ((cC f y fs).lookup g) (if g=f then some u else mA g)
  rw[AD]
  by_cases q:g=f
  ·rw[xal q,xal q];exact ry
  ·rw[xak q,xak q];exact r g
 ·by_cases q:g=f
  ·rw[q];exact(u4 f y fs).1
  ·refine(u4 f y fs).2 g (wi g fun z=>hg ?_)
   show (if g=f then some u else mA g)=none
   rw[xak q];exact z
theorem aD.made(I:aD X pins σ H s):aD X pins σ (aG (aG H s.heap.objs.size (.own (s.heap.objs.size+1))) (s.heap.objs.size+1) (.ins C s.heap.objs.size []))
  { s with heap:=(s.heap.push PySem.W.emptyDict).push (PySem.W.instObj C s.heap.objs.size) }:=by
 have e1:(s.heap.push PySem.W.emptyDict).get? s.heap.objs.size=some PySem.W.emptyDict:=xav s.heap rfl
 have e2:((s.heap.push PySem.W.emptyDict).push (PySem.W.instObj C s.heap.objs.size)).get? (s.heap.objs.size+1)=some (PySem.W.instObj C s.heap.objs.size):=by
  have:=xav (s.heap.push PySem.W.emptyDict) (o:=PySem.W.instObj C s.heap.objs.size) rfl
  rwa [xcu] at this
 have e3:(s.heap.push PySem.W.emptyDict).Ns s.heap.objs.size (fun _=>none):=⟨PySem.W.emptyDict,#[],_,e1,rfl,(fun e he=>xaq he (by simp)),fun _=>rfl⟩
 have I1:=I.laid (a:=s.heap.objs.size) (o:=.own (s.heap.objs.size+1)) (h':=s.heap.push PySem.W.emptyDict) (t':=s.toks) (fun b u q=>xad _ q) (xag _) ⟨_,e1⟩
 refine I1.laid (a:=s.heap.objs.size+1) (o:=.ins C s.heap.objs.size []) (t':=s.toks) (fun b u q=>xad _ q) (Nat.le_of_eq (xcu _ _)) ?_
 have ne:s.heap.objs.size≠s.heap.objs.size+1:=xa6 (xcg _)
 refine⟨by rw[aH ne,aU],xbc _,ne,e2,fun _=>none,(Heap.Ns1.of_empty e3).at fun o q=>xad _ q,fun _=>True.intro,fun y hy=>xaq rfl hy⟩
theorem Q9{prog:Program}{w:World}{env:Env}{e:Expr}{f:Str}{pos:Pos}{s:Shared}{Q:Value->Shared->Prop}(hb:attributeBase e f env (eval e env)=eval e env)
  (h:wpAny (model prog w) A (eval e env) (fun o s₁=>wpAny (model prog w) A (getAttr o f true) Q E s₁) E s):wpAny (model prog w) A (eval (.Attribute e f pos) env) Q E s:=
 Attribute_any_ h (by rw[arm_eval_Attribute,hb])
end
def RA(K:xFg)(ta:TE)(f:Str):TE:=fun σ H Q=>ta σ H fun x H1=>∃a C dx fs v,x=.ref a/\H1 a=some (.ins C dx fs)/\eN K C/\eO K C f/\fs.lookup f=some v/\Q v H1
def RB(K:xFg)(ta tv:TE)(f:Str):TS:=fun D σ H=>tv σ H fun y H1=>ta σ H1 fun x H2=>∃a C dx fs,x=.ref a/\H2 a=some (.ins C dx fs)/\eN K C/\eO K C f/\fs.length<1000/\
 D.nx σ (aG H2 a (.ins C dx (cC f y fs)))
def AH(X:Cx)(op:Operator)(rd:V->V->Hp->VK->Prop):Prop:=
 ∀(pins:List (Addr×Obj)) (s:Shared) (σ:St) (H:Hp) (x y:V) (u v:Value) (Q:VK),aD X pins σ H s->aM x u->aM y v->rd x y H Q->wpAny (model X.prog X.w) X.A (inplaceOp op u v) (EP X pins σ Q) X.xe s
def RC(K:xFg)(ta tv:TE)(rd:V->V->Hp->VK->Prop)(f:Str):TS:=fun D σ H=>ta σ H fun x H1=>∃a C dx fs v,x=.ref a/\H1 a=some (.ins C dx fs)/\eN K C/\eO K C f/\fs.lookup f=some v/\
 tv σ H1 fun y H2=>rd v y H2 fun z H3=>∃dx' fs',H3 a=some (.ins C dx' fs')/\fs'.length<1000/\D.nx σ (aG H3 a (.ins C dx' (cC f z fs')))
section
variable{X:Cx}{o e value:Expr}{f:Str}{pos pos' tpos:Pos}{ta tv:TE}
theorem gJ(he:PE X e ta)(hb:attributeBase e f X.env (eval e X.env)=eval e X.env):PE X (.Attribute e f pos) (RA X.K ta f):=by
 intro pins s σ H Q I h
 refine Q9 hb (aJ (he pins s σ H _ I h) fun u s1 ⟨x,H1,I1,rx,a,C,dx,fs,v,ex,ea,c,n,l,q⟩=>?_)
 subst ex
 obtain rfl:u=Value.ref a:=rx
 exact AF I1 ea c n l fun u' s2 I2 ru=>⟨v,H1,I2,ru,q⟩
theorem kI(ha:PE X o ta)(hv:PE X value tv)(hs:swapsWith value (some (.Attribute o f pos')) pos.line X.env=pure false):PS X (.Assign [.Attribute o f pos'] value pos) (RB X.K ta tv f):=by
 intro pins s σ H D I h
 refine plainObj_wpAny_Assign_Attribute (aJ (hv pins s σ H _ I h) fun u s1 ⟨y,H1,I1,ry,q⟩=>aJ (ha pins s1 σ H1 _ I1 q) fun ov s2 ⟨x,H2,I2,rx,a,C,dx,fs,ex,ea,c,n,l,q2⟩=>?_) hs
 subst ex
 obtain rfl:ov=Value.ref a:=rx
 exact AG I2 ea c n l ry fun s3 I3=>⟨σ,_,I3,q2⟩
theorem AI{op:Operator}{rd:V->V->Hp->VK->Prop}(ha:PE X o ta)(hv:PE X value tv)(hop:AH X op rd):PS X (.AugAssign (.Attribute o f tpos) op value pos) (RC X.K ta tv rd f):=by
 intro pins s σ H D I h
 refine wpAny_AugAssign_AttributeAny (aJ (ha pins s σ H _ I h) fun ov s1 ⟨x,H1,I1,rx,a,C,dx,fs,v,ex,ea,c,n,l,q⟩=>?_)
 subst ex
 obtain rfl:ov=Value.ref a:=rx
 refine AF I1 ea c n l fun u s2 I2 ru=>aJ (hv pins s2 σ H1 _ I2 q) fun w3 s3 ⟨y,H2,I3,ry,q3⟩=>aJ (hop pins s3 σ H2 v y u w3 _ I3 ru ry q3) fun w4 s4 ⟨z,H3,I4,rz,dx',fs',ea',l',q4⟩=>?_
 exact AG I4 ea' c n l' rz fun s5 I5=>⟨σ,_,I5,q4⟩
def RD:V->V->Hp->VK->Prop:=fun x y H Q=>∃i j,x=.int i/\y=.int j/\Q (.int (i+j)) H
theorem AJ:AH X .Add RD:=by
 rintro pins s σ H x y u v Q I rx ry ⟨i,j,rfl,rfl,q⟩
 obtain⟨t,rfl⟩:=(show ∃t,u=Value.int i t from rx)
 obtain⟨t',rfl⟩:=(show ∃t',v=Value.int j t' from ry)
 exact PyProof.Rows.iadd_int ⟨.int (i+j),H,I.tok _,⟨_,rfl⟩,q⟩
theorem zb3{pl:Sem Bool}{m:Str}{apos:Pos}{args:List Expr}{pins:List (Addr×Obj)}{s:Shared}{σ:St}{H:Hp}{Q:Value->Shared->Prop}{te:TE}(he:PE X e te)(I:aD X pins σ H s)
  (h : te σ H fun x H1 => ∃ a C dx fs g, x = .ref a /\ H1 a = some (.ins C dx fs) /\ eN X.K C /\ cO X.K C m g /\ fs.lookup m = none /\
   ∀s1,aD X pins σ H1 s1->wpAny (model X.prog X.w) X.A (callWith pos (.ref g) [.ref a] (backTo pos (starEach args X.env)) (backToKw pos (keywordEach [] X.env))) Q X.xe s1)
  (ht : eval (.Call (.Attribute e m apos) args [] pos) X.env = (do
   let ov<-eval e X.env
   standAt apos.atName
   let (f,first)<-holding [ov] (getMethod ov m pl)
   callWith pos f first (backTo pos (starEach args X.env)) (backToKw pos (keywordEach [] X.env)))) :
  wpAny (model X.prog X.w) X.A (eval (.Call (.Attribute e m apos) args [] pos) X.env) Q X.xe s:=by
 refine PySem.W.methodCall_KW (pl:=pl) (aJ (he pins s σ H _ I h) fun u s1 ⟨x,H1,I1,rx,a,C,dx,fs,g,ex,ea,c,k,l,q⟩=>?_) ht
 subst ex
 obtain rfl:u=Value.ref a:=rx
 exact u6 I1 ea c k l (q s1 I1)
end
end L2
namespace L2
open PySem.Spec PyProof.Rows
structure bZ(k:Nat)(A:Around):Prop where
 hd:A.handled=none
 dp:A.depth+3*k+5<recursionLimit
 un:A.units+16*k+200<cLine
theorem bZ.mono{j k:Nat}{A:Around}(r:bZ k A)(h:j<=k):bZ j A:=⟨r.hd,by have:=r.dp;omega,by have:=r.un;omega⟩
theorem bZ.deeper{k:Nat}{A:Around}(r:bZ (k+1) A)(env:Env):bZ k (A.deeper env):=
 ⟨r.hd,by have:=r.dp;show A.depth+1+3*k+5<_;omega,by have:=r.un;show A.units+3+16*k+200<_;omega⟩
theorem RE{A:Around}{C:Addr}{us:List Value}{kw:List (Str×Value)}:(A.under (.builtin "type.__call__" ⟨.ref C::us,kw⟩)).depth=A.depth+1:=by
 first|rfl|simp[Around.under,Code.weight,Code.isCreation,Code.isGuard,Code.isCaller,Code.frames,Code.isFrame,guardIds]
theorem RF{A:Around}{C:Addr}{us:List Value}{kw:List (Str×Value)}:(A.under (.builtin "type.__call__" ⟨.ref C::us,kw⟩)).units=A.units+1:=by
 first|rfl|simp[Around.under,Code.cUnits,Code.frames,Code.isFrame]
theorem bZ.make{k:Nat}{A:Around}(r:bZ (k+1) A)(C:Addr)(us:List Value)(kw:List (Str×Value)):bZ k (A.under (.builtin "type.__call__" ⟨.ref C::us,kw⟩)):=
 ⟨r.hd,by have:=r.dp;rw[RE];omega,by have:=r.un;rw[RF];omega⟩
theorem bZ.depth{k:Nat}{A:Around}(r:bZ k A):A.depth<recursionLimit:=by have:=r.dp;omega
theorem bZ.units{k:Nat}{A:Around}(r:bZ k A):A.units+64<cLine:=by have:=r.un;omega
def u7:TA:=fun _ H Q=>Q [] H
def AK(ta:TE)(tr:TA):TA:=fun σ H Q=>ta σ H fun x H1=>tr σ H1 fun xs H2=>Q (x::xs) H2
section
variable{X:Cx}{e:Expr}{es:List Expr}{te:TE}{t:TA}{pos:Pos}
theorem dM:PA X [] u7:=fun _ _ _ _ H Q I h=>Calls.spliced_nil ⟨[],H,I,.nil,h⟩
theorem cL(ha:PE X e te)(hr:PA X es t)(hs:starEach (e::es) X.env=(false,eval e X.env)::starEach es X.env:=by rfl):PA X (e::es) (AK te t):=by
 intro pos pins s σ H Q I h
 rw[hs]
 show wpAny _ _ (spliced ((false,eval e X.env)::backTo pos (starEach es X.env))) _ _ s
 refine Calls.spliced_cons (aJ (ha pins s σ H _ I h) fun u s1 ⟨x,H1,I1,r1,q1⟩=>?_)
 exact aJ (hr pos pins s1 σ H1 _ I1 q1) fun us s2 ⟨xs,H2,I2,r2,q2⟩=>⟨x::xs,H2,I2,.cons r1 r2,q2⟩
def RG(t:TA):TE:=fun σ H Q=>t σ H fun xs H1=>xs.length<=sizeLine/\∀p,H1 p=none->Q (.ref p) (aG H1 p (.tup xs))
def RH(t:TA):TE:=fun σ H Q=>t σ H fun xs H1=>xs.length<=sizeLine/\∀p,H1 p=none->Q (.ref p) (aG H1 p (.lst xs))
theorem mW{x1}(h:PA X es t):PE X (.Tuple es x1 pos) (RG t):=by
 intro pins s σ H Q I hq
 refine wpAny_Tuple_spliced (aJ (h pos pins s σ H _ I hq) fun us s1 ⟨xs,H1,I1,r,z,q⟩=>⟨by rw[<- r.length];exact z,?_⟩)
 have hf:H1 s1.heap.objs.size=none:=I1.hok.fresh (xag _)
 refine⟨.ref s1.heap.objs.size,aG H1 s1.heap.objs.size (.tup xs),I1.laid (t':=s1.toks) (fun b u e=>xad _ e) (xag _) ?_,rfl,q _ hf⟩
 exact⟨z,us,r,⟨_,xav _ rfl,rfl,⟨_,rfl⟩,rfl⟩⟩
theorem u8(h:PA X es t):PE X (.List es pos) (RH t):=by
 intro pins s σ H Q I hq
 refine wpAny_List_spliced (aJ (h pos pins s σ H _ I hq) fun us s1 ⟨xs,H1,I1,r,z,q⟩=>⟨by rw[<- r.length];exact z,?_⟩)
 have hf:H1 s1.heap.objs.size=none:=I1.hok.fresh (xag _)
 refine⟨.ref s1.heap.objs.size,aG H1 s1.heap.objs.size (.lst xs),I1.laid (t':=s1.toks) (fun b u e=>xad _ e) (xag _) ?_,rfl,q _ hf⟩
 exact⟨z,us,0,r,xav _ rfl⟩
end
abbrev Sp:=List V->Hp->VK->XK->Prop
abbrev dC:=List Env->Hp->Shared->XK->Value->Shared->Prop
structure lC(P:Program)(w:World)(K:xFg)(mg:Str->Option Value)(base:Heap)(A:Around)(outer:List Env)(s:Shared)(H:Hp):Prop where
 frames:A.frames=some outer
 mod:Mod K mg base
 bs:∀b o,base.get? b=some o->s.heap.get? b=some o/\H b=none
 bsz:base.objs.size<=s.heap.objs.size
 funs:s.heap.FunFrames base outer
 frf:∀b∈bV outer,H b=none
 hok:bY P w H s.heap
 bare:AllBare s.gens
def CE(outer:List Env)(P:Program)(w:World)(H:Hp)(s:Shared)(Q:VK)(u:Value)(s':Shared):Prop:=
 ∃v H',s'.os=s.os/\AllBare s'.gens/\Un (bV outer) [] H H' s.heap s'.heap/\bY P w H' s'.heap/\aM v u/\Q v H'
def CR(CX:dC)(outer:List Env)(P:Program)(w:World)(H:Hp)(s:Shared)(Q:VK)(E:XK)(r:Result)(s':Shared):Prop:=
 match r with
 |.ok (.ret u)=>CE outer P w H s Q u s'
 |.ok _=>False
 |.error e=>CX outer H s E e s'
structure cF(P:Program)(w:World)(K:xFg)(mg:Str->Option Value)(base:Heap)(CX:dC)(k:Nat)(f:Addr)(fd:FuncData)(ps:List Str)(sp:Sp):Prop where
 len:∀vs H Q E,sp vs H Q E->vs.length=ps.length
 run:∀(A:Around) (outer:List Env) (s:Shared) (H:Hp) (args:Args) (us:List Value) (vs:List V) (Q:VK) (E:XK),bZ k A->lC P w K mg base A outer s H->BindsTo s fd args (ps.zip us)->aP vs us->sp vs H Q E->
  codeAny (model P w) A (.call (.ref f) args) (CR CX outer P w H s Q E) s
theorem cF.mono{P:Program}{w:World}{K:xFg}{mg:Str->Option Value}{base:Heap}{CX:dC}{j k:Nat}{f:Addr}{fd:FuncData}{ps:List Str}{sp:Sp}(F:cF P w K mg base CX j f fd ps sp)(h:j<=k) :
  cF P w K mg base CX k f fd ps sp:=⟨F.len,fun A outer s H args us vs Q E hr=>F.run A outer s H args us vs Q E (hr.mono h)⟩
theorem cF.imp{P:Program}{w:World}{K:xFg}{mg:Str->Option Value}{base:Heap}{CX:dC}{k:Nat}{f:Addr}{fd:FuncData}{ps:List Str}{sp sp':Sp}(F:cF P w K mg base CX k f fd ps sp)
  (h:∀vs H Q E,sp' vs H Q E->sp vs H Q E):cF P w K mg base CX k f fd ps sp':=
 ⟨fun vs H Q E q=>F.len vs H Q E (h _ _ _ _ q),fun A outer s H args us vs Q E hr he hb hv hs=>F.run A outer s H args us vs Q E hr he hb hv (h _ _ _ _ hs)⟩
theorem lC.make{P:Program}{w:World}{K:xFg}{mg:Str->Option Value}{base:Heap}{A:Around}{outer:List Env}{s:Shared}{H:Hp}(e:lC P w K mg base A outer s H)(C:Addr)(us:List Value)(kw:List (Str×Value)) :
  lC P w K mg base (A.under (.builtin "type.__call__" ⟨.ref C::us,kw⟩)) outer s H:=⟨by first|exact e.frames|(simpa [Around.under,Code.envs,Code.isFrame,pushEnvs] using e.frames),e.mod,e.bs,e.bsz,e.funs,e.frf,e.hok,e.bare⟩
section
variable{X:Cx}{pins:List (Addr×Obj)}{σ:St}{H:Hp}{s s':Shared}
theorem aD.env0(I:aD X pins σ H s):lC X.prog X.w X.K X.mg X.base X.A X.stack s H:=
 ⟨I.ok.frames,I.ok.mod,I.bs,xaz I.ok.bsz I.sz,I.stack,I.stkFree,I.hok,I.bare⟩
theorem aD.after{Q:VK}{u:Value}(I:aD X pins σ H s)(h:CE X.stack X.prog X.w H s Q u s'):EP X pins σ Q u s':=by
 obtain⟨v,H',os,bare,un,hok,r,q⟩:=h
 obtain⟨hh,g,d,t,os'⟩:=s'
 obtain rfl:os'=s.os:=os
 exact⟨v,H',I.call (h':=hh) (g':=g) (d':=d) (t':=t) (ch:=[]) un hok bare (fun b z=>xaq z (by simp)),r,q⟩
end
def RI(sp:Sp)(dvs:List V)(E:XK)(t:TA):TE:=fun σ H Q=>t σ H fun vs H1=>sp (vs++dvs) H1 Q E
def AL(C:Addr)(m:Str)(sp:Sp)(dvs:List V)(E:XK)(ta:TE)(t:TA):TE:=fun σ H Q=>ta σ H fun x H1=>∃a dx fs,x=.ref a/\H1 a=some (.ins C dx fs)/\fs.lookup m=none/\
 t σ H1 fun vs H2=>sp (x::(vs++dvs)) H2 Q E
def RJ(C:Addr)(sp:Sp)(dvs:List V)(E:XK)(t:TA):TE:=fun σ H Q=>t σ H fun vs H1=>∀x dx,H1 x=none->H1 dx=none->dx≠x->
 sp (.ref x::(vs++dvs)) (aG (aG H1 dx (.own x)) x (.ins C dx [])) (fun v H2=>v=.non/\Q (.ref x) H2) E
def bR(K:xFg)(fd:FuncData)(ps:List Str)(ds:List Value):Prop:=
 ∀(s:Shared) (us:List Value),K.In s.heap->(us++ds).length=ps.length->BindsTo s fd ⟨us,[]⟩ (ps.zip (us++ds))
theorem bR.all{K:xFg}{fd:FuncData}{ps:List Str}(h:∀us:List Value,us.length=ps.length->bindArgs fd ⟨us,[]⟩=pure (ps.zip us)):bR K fd ps []:=fun s us _ hl=>by
 rw[xbn] at hl ⊢
 exact .of_eq (h us hl)
def jO(CX:dC)(X:Cx)(E:XK):Prop:=∀(pins:List (Addr×Obj)) (σ:St) (H:Hp) (s:Shared) (e:Value) (s':Shared),aD X pins σ H s->CX X.stack H s E e s'->X.xe e s'
section
variable{X:Cx}{CX:dC}{k:Nat}{f C:Addr}{fd:FuncData}{ps:List Str}{sp:Sp}{dvs:List V}{ds:List Value}{E:XK}{x m:Str}{p pos apos:Pos}{e o:Expr}{es:List Expr}{ta:TE}{t:TA}
theorem u9{pins:List (Addr×Obj)}{σ:St}{H:Hp}{s:Shared}{Q:VK}{us:List Value}{vs:List V}(F:cF X.prog X.w X.K X.mg X.base CX k f fd ps sp)(hr:bZ k X.A)(hb:bR X.K fd ps ds)(hd:aP dvs ds)(hx:jO CX X E)
  (I:aD X pins σ H s) (r:aP vs us) (h:sp (vs++dvs) H Q E):wpAny (model X.prog X.w) X.A (call (.ref f) us) (EP X pins σ Q) X.xe s:=by
 have r2:aP (vs++dvs) (us++ds):=r.append hd
 have hl:(us++ds).length=ps.length:=by rw[<- r2.length];exact F.len _ _ _ _ h
 refine wpAny_call (codeAny_mono (F.run X.A X.stack s H ⟨us,[]⟩ (us++ds) (vs++dvs) Q E hr I.env0 (hb s us I.kIn hl) r2 h) fun r s' hq=>?_)
 cases r with
 |error e=>exact hx pins σ H s e s' I hq
 |ok fl=>
  cases fl with
  |ret u=>exact I.after hq
  |next=>exact False.elim hq
  |brk=>exact False.elim hq
  |cont=>exact False.elim hq
theorem vA(F:cF X.prog X.w X.K X.mg X.base CX k f fd ps sp)(hr:bZ k X.A)(hg:Gl X x)(hm:X.mg x=some (.ref f))(hk:PySem.W.keepIn X.K (.ref f)=true)(hb:bR X.K fd ps ds)(hd:aP dvs ds)(hx:jO CX X E)
  (ha:PA X (e::es) t) (hdb:(x==("__debug__":Str))=false:=by decide) (he:starEach (e::es) X.env=(false,eval e X.env)::starEach es X.env:=by rfl) (hpl:(backTo pos (starEach es X.env)).any (·.1)=false:=by rfl) :
  PE X (.Call (.Name x p) (e::es) [] pos) (RI sp dvs E t):=by
 intro pins s σ H Q I h
 refine wpAny_Call_Name_kw (mP I hg hm ?_ hdb)
 refine PySem.W.callWith_K (h₀:=X.base) I.ok.mod.kin hk (aJ (ha pos pins s σ H _ I h) fun us s1 ⟨vs,H1,I1,r,q⟩=>⟨I1.kIn,?_⟩) he hpl
 exact u9 F hr hb hd hx I1 r q
theorem vB{pl:Sem Bool}(he:PE X o ta)(c:eN X.K C)(hm:cO X.K C m f)(F:cF X.prog X.w X.K X.mg X.base CX k f fd ps sp)(hr:bZ k X.A)(hb:bR X.K fd ps ds)(hd:aP dvs ds)(hx:jO CX X E)(ha:PA X (e::es) t)
  (hst:starEach (e::es) X.env=(false,eval e X.env)::starEach es X.env:=by rfl) (hpl:(backTo pos (starEach es X.env)).any (·.1)=false:=by rfl)
  (ht : eval (.Call (.Attribute o m apos) (e :: es) [] pos) X.env = (do
   let ov<-eval o X.env
   standAt apos.atName
   let (f,first)<-holding [ov] (getMethod ov m pl)
   callWith pos f first (backTo pos (starEach (e::es) X.env)) (backToKw pos (keywordEach [] X.env))):=by rfl) :
  PE X (.Call (.Attribute o m apos) (e::es) [] pos) (AL C m sp dvs E ta t):=by
 intro pins s σ H Q I h
 refine PySem.W.methodCall_KW (pl:=pl) (aJ (he pins s σ H _ I h) fun u s1 ⟨x,H1,I1,rx,a,dx,fs,ex,ea,l,q⟩=>?_) ht
 subst ex
 obtain rfl:u=Value.ref a:=rx
 refine u6 I1 ea c hm l ?_
 refine PySem.W.callWith_K (first:=[.ref a]) (h₀:=X.base) I.ok.mod.kin hm.kp (aJ (ha pos pins s1 σ H1 _ I1 q) fun us s2 ⟨vs,H2,I2,r,q2⟩=>⟨I2.kIn,?_⟩) hst hpl
 exact u9 (us:=.ref a::us) (vs:=.ref a::vs) F hr hb hd hx I2 (.cons rfl r) q2
theorem RK{pl:Sem Bool}(he:PE X o ta)(c:eN X.K C)(hm:cO X.K C m f)(F:cF X.prog X.w X.K X.mg X.base CX k f fd ps sp)(hr:bZ k X.A)(hb:bR X.K fd ps ds)(hd:aP dvs ds)(hx:jO CX X E)
  (ht : eval (.Call (.Attribute o m apos) [] [] pos) X.env = (do
   let ov<-eval o X.env
   standAt apos.atName
   let (f,first)<-holding [ov] (getMethod ov m pl)
   callWith pos f first (backTo pos (starEach [] X.env)) (backToKw pos (keywordEach [] X.env))):=by rfl) :
  PE X (.Call (.Attribute o m apos) [] [] pos) (AL C m sp dvs E ta u7):=by
 intro pins s σ H Q I h
 refine PySem.W.methodCall_KW (pl:=pl) (aJ (he pins s σ H _ I h) fun u s1 ⟨x,H1,I1,rx,a,dx,fs,ex,ea,l,q⟩=>?_) ht
 subst ex
 obtain rfl:u=Value.ref a:=rx
 refine u6 I1 ea c hm l ?_
 exact PySem.W.callWith_K0 (first:=[.ref a]) I1.kIn hm.kp (u9 (us:=[.ref a]) (vs:=[.ref a]) F hr hb hd hx I1 (.cons rfl .nil) q)
structure Mk(K:xFg)(C f:Addr):Prop where
 makes:PySem.W.makesIn K C=true
 init:PySem.W.findIn K (.ref C) "__init__"=some (some (.ref f))
 fn:PySem.W.isFn K (.ref f)=true
 kp:PySem.W.keepIn K (.ref C)=true
theorem RL{pins:List (Addr×Obj)}{σ:St}{H:Hp}{s:Shared}{Q:VK}{us:List Value}{vs:List V}(M:Mk X.K C f)(F:cF X.prog X.w X.K X.mg X.base CX k f fd ps sp)(hr:bZ (k+1) X.A)(hb:bR X.K fd ps ds)(hd:aP dvs ds)
  (hx:jO CX X E) (I:aD X pins σ H s) (r:aP vs us)
  (h:∀x dx,H x=none->H dx=none->dx≠x->sp (.ref x::(vs++dvs)) (aG (aG H dx (.own x)) x (.ins C dx [])) (fun v H2=>v=.non/\Q (.ref x) H2) E) :
  wpAny (model X.prog X.w) X.A (call (.ref C) us) (EP X pins σ Q) X.xe s:=by
 have hq:=h (s.heap.objs.size+1) s.heap.objs.size (I.hok.fresh (xcv _)) (I.hok.fresh (xag _)) (xa6 (xcg _))
 have I2:=aD.made (C:=C) I
 have r2:aP (V.ref (s.heap.objs.size+1)::(vs++dvs)) (Value.ref (s.heap.objs.size+1)::(us++ds)):=.cons rfl (r.append hd)
 have hl:(Value.ref (s.heap.objs.size+1)::us++ds).length=ps.length:=by
  have e:=r2.length
  rw[F.len _ _ _ _ hq] at e
  exact e.symm
 refine wpAny_call (Q7 (f:=f) I.kIn M.makes M.init (beq_iff_eq.mp M.fn) (codeAny_mono (F.run _ X.stack _ _ ⟨Value.ref (s.heap.objs.size+1)::us,[]⟩ (Value.ref (s.heap.objs.size+1)::(us++ds)) _ _ E (hr.make C us [])
  (I2.env0.make C us []) (hb _ (Value.ref (s.heap.objs.size+1)::us) I2.kIn hl) r2 hq) fun r s' hq'=>?_))
 cases r with
 |error e=>exact hx pins σ _ _ e s' I2 hq'
 |ok fl=>
  cases fl with
  |ret u=>
   obtain⟨v,H',I3,rv,ev,q3⟩:=I2.after hq'
   subst ev
   exact⟨rv,⟨V.ref (s.heap.objs.size+1),H',I3,rfl,q3⟩⟩
  |next=>exact False.elim hq'
  |brk=>exact False.elim hq'
  |cont=>exact False.elim hq'
theorem RM(M:Mk X.K C f)(F:cF X.prog X.w X.K X.mg X.base CX k f fd ps sp)(hr:bZ (k+1) X.A)(hg:Gl X x)(hm:X.mg x=some (.ref C))(hb:bR X.K fd ps ds)(hd:aP dvs ds)(hx:jO CX X E)
  (ha:PA X (e::es) t) (hdb:(x==("__debug__":Str))=false:=by decide) (he:starEach (e::es) X.env=(false,eval e X.env)::starEach es X.env:=by rfl) (hpl:(backTo pos (starEach es X.env)).any (·.1)=false:=by rfl) :
  PE X (.Call (.Name x p) (e::es) [] pos) (RJ C sp dvs E t):=by
 intro pins s σ H Q I h
 refine wpAny_Call_Name_kw (mP I hg hm ?_ hdb)
 refine PySem.W.callWith_K (h₀:=X.base) I.ok.mod.kin M.kp (aJ (ha pos pins s σ H _ I h) fun us s1 ⟨vs,H1,I1,r,q⟩=>⟨I1.kIn,?_⟩) he hpl
 exact RL M F hr hb hd hx I1 r q
end
def PK(X:Cx)(kws:List Keyword)(t:TA):Prop:=
 ∀(pos:Pos) (pins:List (Addr×Obj)) (s:Shared) (σ:St) (H:Hp) (Q:List V->Hp->Prop),aD X pins σ H s->t σ H Q->wpAny (model X.prog X.w) X.A (evalAll ((backToKw pos (keywordEach kws X.env)).map (·.2))) (AP X pins σ Q) X.xe s
section
variable{X:Cx}{CX:dC}{k:Nat}{f C:Addr}{fd:FuncData}{ps ks:List Str}{sp:Sp}{E:XK}{x m:Str}{p pos apos kpos:Pos}{e o:Expr}{es:List Expr}{kws:List Keyword}{te ta:TE}{t tk:TA}{nm:Option Str}
theorem RN:PK X [] u7:=fun _ _ _ _ H Q I h=>wpAny_evalAll_nil ⟨[],H,I,.nil,h⟩
theorem RO(ha:PE X e te)(hr:PK X kws t):PK X (⟨nm,e,kpos⟩::kws) (AK te t):=by
 intro pos pins s σ H Q I h
 show wpAny _ _ (evalAll ((do let v<-eval e X.env;standAt pos;pure v)::(backToKw pos (keywordEach kws X.env)).map (·.2))) _ _ s
 refine wpAny_evalAll_cons (xab (aJ (ha pins s σ H _ I h) fun u s1 ⟨x,H1,I1,r1,q1⟩=>xab (wpAny_standAt (xar ?_))))
 exact aJ (hr pos pins s1 σ H1 _ I1 q1) fun us s2 ⟨xs,H2,I2,r2,q2⟩=>⟨x::xs,H2,I2,.cons r1 r2,q2⟩
variable{g:List Value->List Value->List Value}{gV:List V->List V->List V}
end
structure cD(N P:List Str)(sc:Scope):Prop where
 kind:sc.kind=.function
 co:sc.isCoroutine=false
 gen:sc.isGenerator=false
 nd:N.Nodup
 pre:N.take P.length=P
 par:∀x∈P,sc.names.lookup x=some .local\/sc.names.lookup x=some .cell
 nofree:∀y∈sc.names,y.2≠.free
theorem AM{kindOf:Str->Option NameKind}{x:Str}:∀{binds:List (Str×Value)} {m:Str->Option Value},(∀v,(x,v)∉binds)->bindL kindOf binds m x=m x
 |[],_,_=>rfl
 |(n,v)::r,m,h=>by
  unfold bindL
  rw[AM fun w hw=>h w (xas _ hw)]
  split
  ·have:x≠n:=by rintro rfl;exact h v xa7
   simp[this]
  ·rfl
theorem AN{kindOf:Str->Option NameKind}{x:Str}:∀{binds:List (Str×Value)} {m:Str->Option Value},(∀v,(x,v)∉binds)->bindC kindOf binds m x=m x
 |[],_,_=>rfl
 |(n,v)::r,m,h=>by
  unfold bindC
  rw[AN fun w hw=>h w (xas _ hw)]
  split
  ·rfl
  ·have:x≠n:=by rintro rfl;exact h v xa7
   simp[this]
theorem AO{kindOf:Str->Option NameKind}{x:Str}{v:Value}:∀{P:List Str} {vs:List Value} {i:Nat} {m:Str->Option Value},P.Nodup->P[i]? = some x->vs[i]? = some v->kindOf x=some .local->
  bindL kindOf (P.zip vs) m x=some v
 |[],_,_,_,_,h,_,_=>by simp at h
 |_::_,[],_,_,_,_,h,_=>by simp at h
 |p::P,w::vs,0,m,nd,h1,h2,hk=>by
  simp at h1 h2;subst h1;subst h2
  show bindL kindOf ((p,w)::P.zip vs) m p=_
  unfold bindL
  rw[AM fun v hv=>(xbz.mp nd).1 (List.of_mem_zip hv).1,xal hk]
  simp
 |p::P,w::vs,i+1,m,nd,h1,h2,hk=>by
  show bindL kindOf ((p,w)::P.zip vs) m x=_
  unfold bindL
  exact AO (i:=i) (xbz.mp nd).2 (by simpa using h1) (by simpa using h2) hk
theorem AQ{kindOf:Str->Option NameKind}{x:Str}{v:Value}:∀{P:List Str} {vs:List Value} {i:Nat} {m:Str->Option Value},P.Nodup->P[i]? = some x->vs[i]? = some v->kindOf x≠some .local->
  bindC kindOf (P.zip vs) m x=some v
 |[],_,_,_,_,h,_,_=>by simp at h
 |_::_,[],_,_,_,_,h,_=>by simp at h
 |p::P,w::vs,0,m,nd,h1,h2,hk=>by
  simp at h1 h2;subst h1;subst h2
  show bindC kindOf ((p,w)::P.zip vs) m p=_
  unfold bindC
  rw[AN fun v hv=>(xbz.mp nd).1 (List.of_mem_zip hv).1,xak hk]
  simp
 |p::P,w::vs,i+1,m,nd,h1,h2,hk=>by
  show bindC kindOf ((p,w)::P.zip vs) m x=_
  unfold bindC
  exact AQ (i:=i) (xbz.mp nd).2 (by simpa using h1) (by simpa using h2) hk
def start(N:List Str)(vs:List V):St:=vs.map some++List.replicate (N.length-vs.length) none
def cZ(CX:dC)(P:Program)(w:World)(K:xFg)(mg:Str->Option Value)(base:Heap)(N:List Str)(qual:Str)(scope:Scope)(f:Addr)(cd:Value)(A:Around)(outer:List Env)(s:Shared)(H:Hp)(E:XK):Cx where
 prog:=P
 w:=w
 K:=K
 mg:=mg
 base:=base
 A:=A.deeper (envOfC qual scope s.heap.objs.size f cd)
 N:=N
 s₀:=s
 H₀:=H
 env:=envOfC qual scope s.heap.objs.size f cd
 outer:=outer
 stack:=envOfC qual scope s.heap.objs.size f cd::outer
 ex:=[]
 calm:=true
 fn:=fun _=>true
 pn:=[]
 xe:=fun e s'=>wpAny (model P w) (A.deeper (envOfC qual scope s.heap.objs.size f cd)) (leaving (envOfC qual scope s.heap.objs.size f cd) e) (fun _ s''=>CX outer H s E e s'') (fun e' s''=>CX outer H s E e' s'') s'
theorem AR{sc:Scope}{n:Nat}{x:Str}(h:sc.names.lookup x=some .cell):∃c,(cellsFrom n sc.names []).lookup x=some c:=by
 have q:=PySem.W.cellsFrom_some sc.names n [] (.inl h)
 exact xbv.mp q
theorem RP{CX:dC}{P:Program}{w:World}{K:xFg}{mg:Str->Option Value}{base:Heap}{N ps:List Str}{qual:Str}{scope:Scope}{f:Addr}{cd:Value}{A:Around}{outer:List Env}{s s1:Shared}{H:Hp}{E:XK}{us:List Value}{vs:List V}
  (S:cD N ps scope) (hd:A.handled=none) (e0:lC P w K mg base A outer s H) (hl:vs.length=ps.length) (r:aP vs us)
  (x:InCallC s s.heap.objs.size (bindL (envOfC qual scope s.heap.objs.size f cd).kindOf (ps.zip us) fun _=>none) (cellsFrom (s.heap.objs.size+1) scope.names []) (bindC (envOfC qual scope s.heap.objs.size f cd).kindOf (ps.zip us) fun _=>none) s1) :
  aD (cZ CX P w K mg base N qual scope f cd A outer s H E) [] (start N vs) H s1:=by
 have hpl:ps.length<=N.length:=by have:=congrArg List.length S.pre;rw[xb4] at this;omega
 obtain⟨h1,tk,rfl,hk⟩:=x.done
 have noA:∀b:Addr,b∉(cZ CX P w K mg base N qual scope f cd A outer s H E).ex:=fun b z=>xaq (show b∈([]:List Addr) from z) (by simp)
 refine⟨⟨e0.mod,S.kind,rfl,rfl,xag _,fun y z c h1 h2=>?_,fun y hy=>?_,fun y c _ h=>?_,fun _=>hd,Around.frames_deeper e0.frames,.inr ⟨rfl,rfl⟩,fun b z=>xaq z (noA b),e0.bs,e0.bsz,fun b _ _=>noA b,fun b z=>xaq z (noA b),e0.funs,e0.frf⟩,
  rfl,e0.bare,Un.kept hk,⟨_,x.toInCall.ns,fun i y v h1 h2 h3=>?_⟩,fun y c h=>⟨_,x.cell y c h⟩,e0.hok.fresh (xag _),fun y c h=>?_,fun p hp=>xaq (show p∈([]:List (Addr×Obj)) from hp) (by simp),e0.hok.kept hk,?_⟩
 ·exact name_of_addr x.apart (PySem.mem_of_lookup h1) (PySem.mem_of_lookup h2)
 ·have hy:scope.names.lookup y=some .cell\/scope.names.lookup y=some .free:=hy
  rcases hy with hy|hy
  ·exact AR hy
  ·exact xaq rfl (S.nofree _ (PySem.mem_of_lookup hy))
 ·exact xcb (x.above y c (PySem.mem_of_lookup h))
 ·have hi:i<vs.length:=by
   unfold start at h2
   by_cases hi:i<vs.length
   ·exact hi
   ·rw[xb6 (by simpa using hi)] at h2
    rw[xb1] at h2
    split at h2<;>cases h2
  have ha:vs[i]? = some v:=by
   unfold start at h2
   rw[xbu (by simpa using hi),xbd] at h2
   cases e:vs[i]? with
   |none=>rw[e] at h2;cases h2
   |some a=>rw[e] at h2;cases h2;rfl
  obtain⟨u,hu,rv⟩:=r.get ha
  have hp:ps[i]? = some y:=by
   rw[<- S.pre,List.getElem?_take_of_lt (by omega)];exact h1
  have ndP:ps.Nodup:=by rw[<- S.pre];exact S.nd.sublist (List.take_sublist _ _)
  refine⟨u,rv,?_⟩
  rcases S.par y (List.mem_of_getElem? hp) with k|k
  ·exact .inl ⟨k,AO ndP hp hu k⟩
  ·obtain⟨c,e⟩:=AR (n:=s.heap.objs.size+1) k
   refine .inr ⟨.inl k,c,e,?_⟩
   have q:=x.cell y c e
   rw[AQ ndP hp hu (by show scope.names.lookup y≠_;rw[k];decide)] at q
   exact q
 ·exact e0.hok.fresh (xcb (x.above y c (PySem.mem_of_lookup h)))
 ·unfold start
  show _=N.length
  rw[xa2,xai,xci]
  omega
theorem RQ{CX:dC}{P:Program}{w:World}{K:xFg}{mg:Str->Option Value}{base:Heap}{k:Nat}{f:Addr}{name qual:Str}{params:Arguments}{body:List Stmt}{scope:Scope}{dV kV doc pm cdv ct oc:Value}{an od:Option Addr}
  {osl:Array (Option Value)} {N ps:List Str} {sp:Sp} (lk:K.lookup f=some ⟨oc,od,.func (PySem.W.fnOf name qual params body scope dV kV doc pm an cdv ct),osl⟩) (hcd:PySem.W.codeIn K cdv qual=true) (S:cD N ps scope)
  (len:∀vs H Q E,sp vs H Q E->vs.length=ps.length)
  (hbody : ∀ (A : Around) (outer : List Env) (s : Shared) (H : Hp) (vs : List V) (Q : VK) (E : XK), bZ k (A.deeper (envOfC qual scope s.heap.objs.size f cdv)) -> sp vs H Q E ->
   ∃t,bQ (cZ CX P w K mg base N qual scope f cdv A outer s H E) body t/\t { nx:=fun _ H'=>Q .non H',rt:=Q } (start N vs) H) :
  cF P w K mg base CX (k+1) f (PySem.W.fnOf name qual params body scope dV kV doc pm an cdv ct) ps sp:=by
 refine⟨len,fun A outer s H args us vs Q E hr e0 hb r hsp=>?_⟩
 have hl:=len _ _ _ _ hsp
 have KX:K.In s.heap:=e0.mod.kin.keeps fun b o e=>(e0.bs b o e).1
 have lim:s.heap.NoLimit:=e0.mod.nolimit.keeps fun b o e=>(e0.bs b o e).1
 have hkind:∀y∈ps.zip us,scope.names.lookup y.1=some .local\/(scope.names.lookup y.1=some .cell/\((cellsFrom (s.heap.objs.size+1) scope.names []).lookup y.1).isSome=true):=fun⟨n,v⟩ hy=>by
  rcases S.par n (List.of_mem_zip hy).1 with q|q
  ·exact .inl q
  ·exact .inr ⟨q,PySem.W.cellsFrom_some _ _ _ (.inl q)⟩
 refine codeAny_call_function hr.depth (KX _ _ lk) rfl S.co S.gen rfl (PySem.W.codeRec_of KX hcd) (hb _ _ _ _ ?_)
 refine wpAny_newFunctionEnv_cells S.kind hkind fun env he s1 x=>?_
 subst he
 refine⟨lim.keeps x.toInCall.keep,codeAny_func ?_⟩
 obtain⟨t,ht,hq⟩:=hbody A outer s H vs Q E (hr.deeper _) hsp
 have I:aD (cZ CX P w K mg base N qual scope f cdv A outer s H E) [] (start N vs) H s1:=RP S hr.hd e0 hl r x
 refine wpAny_mono (ht [] s1 (start N vs) H _ I hq) (fun fl s' hs=>?_) fun e s' hs=>hs
 have fin:∀{σ':St} {H':Hp} {v:V} {u:Value},aD (cZ CX P w K mg base N qual scope f cdv A outer s H E) [] σ' H' s'->aM v u->Q v H'->CE outer P w H s Q u s':=
  fun {σ' H' v u} J rv q=>⟨v,H',J.os,J.bare,J.base,J.hok,rv,q⟩
 cases fl with
 |ret u=>
  obtain⟨v,σ',H',J,rv,q⟩:=hs
  exact fin J rv q
 |next=>
  obtain⟨σ',H',J,q⟩:=hs
  exact fin (v:=V.non) (u:=Value.none) J rfl q
 |brk=>
  obtain⟨_,_,_,q⟩:=hs
  exact False.elim q
 |cont=>
  obtain⟨_,_,_,q⟩:=hs
  exact False.elim q
end L2
namespace L2
open PySem.Spec PyProof.Rows
section
variable{X:Cx}{x:Str}{p pos:Pos}{e:Expr}{es:List Expr}{t:TA}{id T:String}{r:List V->Hp->VK->Prop}
def tCB(r:List V->Hp->VK->Prop)(t:TA):TE:=fun σ H Q=>t σ H fun vs H1=>r vs H1 Q
theorem AT(hc:dL X (.builtin id) r)(hg:Gl X x)(hm:X.mg x=none)(hv:bootBuiltins x=some (.builtin id))(ha:PA X (e::es) t)(hn:x≠"__name__":=by decide)(hdb:(x==("__debug__":Str))=false:=by decide)
  (he:starEach (e::es) X.env=(false,eval e X.env)::starEach es X.env:=by rfl) (hpl:(backTo pos (starEach es X.env)).any (·.1)=false:=by rfl):PE X (.Call (.Name x p) (e::es) [] pos) (tCB r t):=by
 intro pins s σ H Q I h
 refine wpAny_Call_Name_kw (k8 I hg hm hv ?_ hn hdb)
 exact PyProof.Rows.callWith_builtin1 (aJ (ha pos pins s σ H _ I h) fun us s1 ⟨vs,H1,I1,r1,q1⟩=>hc pins s1 σ H1 vs us Q I1 r1 q1) he hpl
theorem AU(hc:dL X (.type T) r)(hg:Gl X x)(hm:X.mg x=none)(hv:bootBuiltins x=some (.type T))(ha:PA X (e::es) t)(hn:x≠"__name__":=by decide)(hdb:(x==("__debug__":Str))=false:=by decide)
  (he:starEach (e::es) X.env=(false,eval e X.env)::starEach es X.env:=by rfl) (hpl:(backTo pos (starEach es X.env)).any (·.1)=false:=by rfl):PE X (.Call (.Name x p) (e::es) [] pos) (tCB r t):=by
 intro pins s σ H Q I h
 refine wpAny_Call_Name_kw (k8 I hg hm hv ?_ hn hdb)
 exact PyProof.Rows.callWith_type1 (aJ (ha pos pins s σ H _ I h) fun us s1 ⟨vs,H1,I1,r1,q1⟩=>hc pins s1 σ H1 vs us Q I1 r1 q1) he hpl
end
end L2
namespace HT
open PyProof.Rows
section
variable{prog:Program}{w:World}{A:Around}{E:Value->Shared->Prop}{s:Shared}
theorem cat_tup{t b:Addr}{vs ws:List Value}{Q:Value->Shared->Prop}(ht:IsTup s.heap t vs.toArray)(hb:IsTup s.heap b ws.toArray)(hv:vs≠[])
  (h1:ws=[]->Q (.ref t) s) (h2:ws≠[]->Q (.ref s.heap.objs.size) { s with heap:=s.heap.push { cls:=.type "tuple",data:=.seq (vs++ws).toArray } })
  (hsz:vs.length+ws.length<=sizeLine):wpAny (model prog w) A (binaryOp .Add (.ref t) (.ref b)) Q E s:=by
 obtain⟨⟨cls,dd,data,sl⟩,ho,hc,n,hd⟩:=id ht
 obtain⟨⟨cls2,dd2,data2,sl2⟩,ho2,hc2,n2,hd2⟩:=id hb
 simp only at hc hd hc2 hd2
 subst hc hd hc2 hd2
 have e:vs.toArray++ws.toArray=(vs++ws).toArray:=by simp
 by_cases hw:ws=[]
 ·exact concat_meets ⟨_,ho,rfl⟩ ⟨_,ho2,rfl⟩ noFill_tuple_add seq_tuple_add PySem.F.slot_tuple_add PySem.F.entry_tuple_add (PySem.F.args_tuple_add_2 _ _)
   (tuple_addW1 t b vs.toArray ws.toArray n n2 dd dd2 sl sl2 (by simpa using hv) (by simp[hw])) ⟨ho,ho2,h1 hw⟩
 ·refine concat_meets ⟨_,ho,rfl⟩ ⟨_,ho2,rfl⟩ noFill_tuple_add seq_tuple_add PySem.F.slot_tuple_add PySem.F.entry_tuple_add (PySem.F.args_tuple_add_2 _ _)
   (tuple_addW2 t b vs.toArray ws.toArray n n2 dd dd2 sl sl2 (by simpa using hv) (by simpa using hw) (by rw[xaj,xaj];exact hsz)) ⟨ho,ho2,?_⟩
  rw[e]
  exact h2 hw
def sIx(n d:Nat):Option Int->Nat
 |none=>d
 |some v=>if v<0 then (v+(n:Int)).toNat else min v.toNat n
theorem sIx_none(n d:Nat):sIx n d none=d:=rfl
theorem sIx_nat(n d k:Nat):sIx n d (some (k:Int))=min k n:=by
 show (if (k:Int)<0 then ((k:Int)+(n:Int)).toNat else min (k:Int).toNat n)=min k n
 rw[xak (by omega),xcd]
theorem RS(n d:Nat)(hd:d<=n)(o:Option Int):sIx n d o<=n:=by
 cases o with
 |none=>exact hd
 |some v=>
  show (if v<0 then (v+(n:Int)).toNat else min v.toNat n)<=n
  by_cases hv:v<0
  ·rw[xal hv];omega
  ·rw[xak hv];exact Nat.min_le_right _ _
theorem AV(v:Int)(n d:Nat):(if v<0 then max (v+(n:Int)) 0 else min v (n:Int))=((sIx n d (some v):Nat):Int):=by
 show (if v<0 then max (v+(n:Int)) 0 else min v (n:Int))=(((if v<0 then (v+(n:Int)).toNat else min v.toNat n):Nat):Int)
 by_cases hv:v<0
 ·simp only[xal hv];omega
 ·simp only[xak hv];omega
theorem RT(lo hi:Option Int)(n:Nat):Builtin.Slice.sliceAdjust lo hi 1 (n:Int)=(((sIx n 0 lo:Nat):Int),((sIx n n hi:Nat):Int)):=by
 have h1:¬((1:Int)<0):=by omega
 unfold Builtin.Slice.sliceAdjust
 simp only[h1,if_false]
 refine Prod.ext ?_ ?_
 ·cases lo with
  |none=>rfl
  |some v=>exact AV v n 0
 ·cases hi with
  |none=>rfl
  |some v=>exact AV v n n
theorem RU(i j:Nat):Builtin.Slice.slicePlaces (i:Int) (j:Int) 1=j-i:=by
 unfold Builtin.Slice.slicePlaces
 have h1:(1:Int)>0:=by omega
 simp only[h1,if_true,Int.ediv_one]
 split<;>omega
theorem AW{v:Value}{o:Option Int}{Q:Option Int->Shared->Prop}(p:IsPart v o)(h:Q o s):wpAny (model prog w) A (Builtin.Slice.slicePartIndex v) Q E s:=by
 cases p with
 |none=>exact slicePart_none h
 |int i t=>exact slicePart_int h
theorem RV{sl:Addr}{vl vu:Value}{lo hi:Option Int}{n:Nat}{Q:Int×Int×Nat->Shared->Prop}(hs:s.heap.IsSliceOf sl vl vu .none)(pl:IsPart vl lo)(pu:IsPart vu hi)
  (h:Q (((sIx n 0 lo:Nat):Int),1,sIx n n hi-sIx n 0 lo) s):wpAny (model prog w) A (Builtin.Slice.sliceApplied (.ref sl) (pure (n:Int))) Q E s:=by
 obtain⟨os,hos,hcs,hds⟩:=id hs
 unfold Builtin.Slice.sliceApplied Builtin.Slice.sliceFields
 refine xab (xab (wpAny_field hos hds (x:=vl) rfl (xab (wpAny_field hos hds (x:=vu) rfl (xab (wpAny_field hos hds (x:=.none) rfl (xar ?_)))))))
 refine xab (slicePart_none ?_)
 show wpAny _ _ (if ((1:Int)==0)=true then _ else _) _ _ s
 rw[xak (by decide)]
 refine xab (AW pl (xab (AW pu (xab (xar ?_)))))
 show wpAny _ _ (match Builtin.Slice.sliceAdjust lo hi 1 (n:Int) with|(lo,hi)=>pure (lo,(1:Int),Builtin.Slice.slicePlaces lo hi 1)) _ _ s
 rw[RT lo hi n]
 show wpAny _ _ (pure (((sIx n 0 lo:Nat):Int),(1:Int),Builtin.Slice.slicePlaces ((sIx n 0 lo:Nat):Int) ((sIx n n hi:Nat):Int) 1)) _ _ s
 rw[RU]
 exact xar h
theorem RX(xs:Array Value)(i k:Nat):((List.range k).filterMap fun (m:Nat)=>xs[((i:Int)+(m:Int)*1).toNat]?).toArray=((xs.toList.drop i).take k).toArray:=by
 have e:(fun (m:Nat)=>xs[((i:Int)+(m:Int)*1).toNat]?)=fun m=>xs[i+m]?:=by
  funext m
  have:((i:Int)+(m:Int)*1).toNat=i+m:=by omega
  rw[this]
 rw[e]
 have:=pick_run xs i k
 rw[List.filterMap_map] at this
 have e2:((fun x=>xs[x]?) ∘ fun x=>i+x)=fun m=>xs[i+m]?:=rfl
 rw[e2] at this
 rw[this]
theorem getItem_tuple_cut{t sl:Addr}{items:Array Value}{vl vu:Value}{lo hi:Option Int}{Q:Value->Shared->Prop}(ht:IsTup s.heap t items)(hs:s.heap.IsSliceOf sl vl vu .none)(pl:IsPart vl lo)(pu:IsPart vu hi)
  (hw:¬(sIx items.size 0 lo=0/\sIx items.size items.size hi=items.size))
  (h:Q (.ref s.heap.objs.size) { s with heap:=s.heap.push { cls:=.type "tuple",data:=.seq ((items.toList.drop (sIx items.size 0 lo)).take (sIx items.size items.size hi-sIx items.size 0 lo)).toArray } })
  (hsz:items.size<=sizeLine):wpAny (model prog w) A (getItem (.ref t) (.ref sl)) Q E s:=by
 have htake:sizeOk (.seq ((items.toList.drop (sIx items.size 0 lo)).take (sIx items.size items.size hi-sIx items.size 0 lo)).toArray):=by
  show ((items.toList.drop (sIx items.size 0 lo)).take (sIx items.size items.size hi-sIx items.size 0 lo)).toArray.size<=sizeLine
  rw[xaj,xb4,List.length_drop,xb0]
  omega
 have hj:sIx items.size items.size hi<=items.size:=RS _ _ (xag _) hi
 obtain⟨os,hos,hcs,hds⟩:=id hs
 have hTs:s.TypeIs (.ref sl) "slice":=⟨os,hos,hcs⟩
 unfold getItem
 try with_reducible refine wpAny_holding ?_
 first|refine xab (xar ?_)|skip
 refine xab (wpAny_sequenceKey ht.typeIs (by decide) ?_)
 refine xab (wpAny_callSpecial?_slot (name:=Str.ofString "__getitem__") ht.typeIs PyProof.Rows.slot_tuple_getitem
  (wpAny_call_entry PyProof.Rows.slot_tuple_getitem ht.typeIs entry_tuple_getitem ?_ (args_tuple_getitem _ _)))
 show wpAny _ _ (Builtin.Tuple.tupleItemsOf (.ref t) >>= _) _ _ s
 refine xab (tupleItemsOf_ ht ?_)
 refine xab (wpAny_typeOf hTs ?_)
 rw[xal (by decide)]
 refine xab (RV hs pl pu ?_)
 have hno:¬((((sIx items.size 0 lo:Nat):Int)==0&&(1:Int)==1&&(sIx items.size items.size hi-sIx items.size 0 lo)==items.size)=true):=by
  intro q
  rw[xap,xap] at q
  have q1:((sIx items.size 0 lo:Nat):Int)=0:=eq_of_beq q.1.1
  have q2:sIx items.size items.size hi-sIx items.size 0 lo=items.size:=eq_of_beq q.2
  exact hw ⟨by omega,by omega⟩
 show wpAny _ _ (if (((sIx items.size 0 lo:Nat):Int)==0&&(1:Int)==1&&(sIx items.size items.size hi-sIx items.size 0 lo)==items.size)=true then _ else _) _ _ s
 rw[xak hno,RX]
 first
  |exact xab (m:=Builtin.Tuple.tupleExact _) (wpAny_newObj_type (xar ⟨_,rfl,xar h⟩) htake)
  |exact xab (m:=Builtin.Tuple.tupleExact _) (wpAny_newObj_type (xab (xar (xar ⟨_,rfl,xar h⟩))) htake)
  |exact xab (xab (m:=Builtin.Tuple.tupleExact _) (wpAny_newObj_type (xar (xar ⟨_,rfl,xar h⟩)) htake))
  |exact xab (xab (m:=Builtin.Tuple.tupleExact _) (wpAny_newObj_type (xar ⟨_,rfl,xar h⟩) htake))
end
end HT
namespace L2
open PySem.Spec PyProof.Rows
abbrev TO:=St->Hp->(Option Int->Hp->Prop)->Prop
def PO(X:Cx)(e:Option Expr)(t:TO):Prop:=
 ∀(pins:List (Addr×Obj)) (s:Shared) (σ:St) (H:Hp) (Q:Option Int->Hp->Prop),aD X pins σ H s->t σ H Q->
  wpAny (model X.prog X.w) X.A (evalPart e X.env) (fun u s'=>∃o H',aD X pins σ H' s'/\IsPart u o/\Q o H') X.xe s
def RY:TO:=fun _ H Q=>Q none H
def RZ(t:TE):TO:=fun σ H Q=>t σ H fun x H1=>∃i,x=.int i/\Q (some i) H1
section
variable{X:Cx}{e:Expr}{te:TE}{lo hi:Option Expr}{tl th:TO}{pos p2:Pos}
theorem R0:PO X none RY:=by
 intro pins s σ H Q I h
 rw[evalPart_none]
 exact xar ⟨none,H,I,.none,h⟩
theorem R3(h:PE X e te):PO X (some e) (RZ te):=by
 intro pins s σ H Q I hw
 rw[evalPart_some]
 refine aJ (h pins s σ H _ I hw) fun u s1 ⟨x,H1,I1,r1,q1⟩=>?_
 obtain⟨i,rfl,q⟩:=q1
 obtain⟨t,rfl⟩:=r1
 exact⟨some i,H1,I1,.int i t,q⟩
def lD(X:Cx)(r:V->Option Int->Option Int->Hp->VK->Prop):Prop:=
 ∀(pins:List (Addr×Obj)) (s:Shared) (σ:St) (H:Hp) (x:V) (v vl vu:Value) (lo hi:Option Int) (sl:Addr) (Q:VK),aD X pins σ H s->aM x v->s.heap.IsSliceOf sl vl vu .none->IsPart vl lo->IsPart vu hi->r x lo hi H Q->
  ∃T id,typeLookup (.type T) "__getitem__"=pure (some (.builtin id))/\s.TypeIs v T/\wpAny (model X.prog X.w) X.A (getItem v (.ref sl)) (EP X pins σ Q) X.xe s
theorem lD.or{r r':V->Option Int->Option Int->Hp->VK->Prop}(h:lD X r)(h':lD X r'):lD X (fun x lo hi H Q=>r x lo hi H Q\/r' x lo hi H Q):=by
 intro pins s σ H x v vl vu lo hi sl Q I rx hs pl pu q
 rcases q with q|q
 ·exact h pins s σ H x v vl vu lo hi sl Q I rx hs pl pu q
 ·exact h' pins s σ H x v vl vu lo hi sl Q I rx hs pl pu q
def tSl(r:V->Option Int->Option Int->Hp->VK->Prop)(te:TE)(tl th:TO):TE:=fun σ H Q=>te σ H fun x H1=>tl σ H1 fun l H2=>th σ H2 fun u H3=>r x l u H3 Q
theorem R5{r:V->Option Int->Option Int->Hp->VK->Prop}(hr:lD X r)(he:PE X e te)(hl:PO X lo tl)(hu:PO X hi th):PE X (.Subscript e (.Slice lo hi none p2) pos) (tSl r te tl th):=by
 intro pins s σ H Q I h
 refine Subscript_ (aJ (he pins s σ H _ I h) fun v s1 ⟨x,H1,I1,r1,q1⟩=>?_)
 refine wpAny_Slice (aJ (hl pins s1 σ H1 _ I1 q1) fun vl s2 ⟨l,H2,I2,pl,q2⟩=>aJ (hu pins s2 σ H2 _ I2 q2) fun vu s3 ⟨u,H3,I3,pu,q3⟩=>?_)
 rw[evalPart_none]
 refine xar ?_
 have I4:aD X pins σ H3 { s3 with heap:=s3.heap.push { cls:=.type "slice",data:=.fields #[vl,vu,.none] } }:=I3.kept (t':=s3.toks) fun b ob q=>xad _ q
 obtain⟨T,id,hT,ht,hg⟩:=hr pins { s3 with heap:=s3.heap.push { cls:=.type "slice",data:=.fields #[vl,vu,.none] } } σ H3 x v vl vu l u s3.heap.objs.size Q I4 r1 (Heap.IsSliceOf.new ..) pl pu q3
 show wpAny (model X.prog X.w) X.A (subscriptTail e (.Slice lo hi none p2) v (.ref s3.heap.objs.size)) (EP X pins σ Q) X.xe { s3 with heap:=s3.heap.push { cls:=.type "slice",data:=.fields #[vl,vu,.none] } }
 exact tail_any (ops:=[.ref s3.heap.objs.size,v]) ht hT hg (by with_unfolding_all rfl)
def iW(xs:List V)(lo hi:Option Int):List V:=(xs.drop (HT.sIx xs.length 0 lo)).take (HT.sIx xs.length xs.length hi-HT.sIx xs.length 0 lo)
theorem AX(xs:List V)(lo hi:Option Int):(iW xs lo hi).length<=xs.length:=by
 unfold iW
 rw[xb4,List.length_drop]
 omega
def R6(K:xFg):V->Option Int->Option Int->Hp->VK->Prop:=fun x lo hi H Q=>∃a xs,x=.ref a/\bG K H a xs/\
 ¬(HT.sIx xs.length 0 lo=0/\HT.sIx xs.length xs.length hi=xs.length)/\∀p,H p=none->Q (.ref p) (aG H p (.tup (iW xs lo hi)))
theorem R7:lD X (R6 X.K):=by
 intro pins s σ H x v vl vu lo hi sl Q I rx hs pl pu h
 obtain⟨a,xs,rfl,hx,hw,q⟩:=h
 cases rx
 obtain⟨its,r,ht,hz⟩:=I.tuple hx
 have hlen:its.toArray.size=xs.length:=by rw[xaj];exact r.length.symm
 refine⟨"tuple",_,PyProof.Rows.slot_tuple_getitem.lookup,ht.typeIs,?_⟩
 refine HT.getItem_tuple_cut ht hs pl pu (by rw[hlen];exact hw) ?_ (by rw[hlen];exact hz)
 rw[hlen]
 refine⟨.ref s.heap.objs.size,_,I.laid (t':=s.toks) (o:=.tup (iW xs lo hi)) (fun b ob q=>xad _ q) (xag _) ?_,rfl,q _ (I.hok.fresh (xag _))⟩
 exact⟨xaz (AX xs lo hi) hz,_,(r.drop (HT.sIx xs.length 0 lo)).take (HT.sIx xs.length xs.length hi-HT.sIx xs.length 0 lo),kF.new _ _⟩
def AY(K:xFg):R2:=fun x y H Q=>∃a b xs ys,x=.ref a/\y=.ref b/\bG K H a xs/\bG K H b ys/\xs≠[]/\xs.length+ys.length<=sizeLine/\
 (ys=[]->Q (.ref a) H)/\(ys≠[]->∀p,H p=none->Q (.ref p) (aG H p (.tup (xs++ys))))
theorem aP.nil_iff{xs:List V}{us:List Value}(r:aP xs us):us=[]↔xs=[]:=by
 cases r with
 |nil=>simp
 |cons _ _=>simp
theorem R8:bD X (binaryOp .Add) (AY X.K):=by
 intro pins s σ H x y v u Q I rx ry h
 obtain⟨a,b,xs,ys,rfl,rfl,ha,hb,hx,hz,q1,q2⟩:=h
 cases rx
 cases ry
 obtain⟨its,r1,p1,_⟩:=I.tuple ha
 obtain⟨its2,r2,p2,_⟩:=I.tuple hb
 refine HT.cat_tup p1 p2 (fun z=>hx (r1.nil_iff.mp z)) (fun z=>⟨.ref a,H,I,rfl,q1 (r2.nil_iff.mp z)⟩) (fun z=>?_) (by rw[<- r1.length,<- r2.length];exact hz)
 refine⟨.ref s.heap.objs.size,_,I.laid (t':=s.toks) (o:=.tup (xs++ys)) (fun b ob q=>xad _ q) (xag _) ?_,rfl,q2 (fun w=>z (r2.nil_iff.mpr w)) _ (I.hok.fresh (xag _))⟩
 exact⟨by rw[xa2];exact hz,_,r1.append r2,kF.new _ _⟩
end
end L2
namespace L2
open PySem.Spec PyProof.Rows
def jP(n:Nat)(i:Int):Option Nat:=if 0<=i then (if i<n then some i.toNat else none) else if -(n:Int)<=i then some (i+n).toNat else none
def eP{α:Type}(xs:List α)(i:Int):Option α:=(jP xs.length i).bind fun j=>xs[j]?
theorem R9{n:Nat}{i:Int}{j:Nat}(h:jP n i=some j):seqIndex? i n=some j/\j<n/\-(n:Int)<=i/\i<n:=by
 unfold jP at h
 by_cases h0:0<=i
 ·rw[xal h0] at h
  by_cases h1:i<n
  ·rw[xal h1] at h
   have e:i.toNat=j:=xaw h
   exact⟨by rw[seqIndex_of h0 h1,e],by omega,by omega,h1⟩
  ·rw[xak h1] at h;cases h
 ·rw[xak h0] at h
  by_cases h1:-(n:Int)<=i
  ·rw[xal h1] at h
   have e:(i+n).toNat=j:=xaw h
   exact⟨by rw[seqIndex_neg (by omega) h1,e],by omega,h1,by omega⟩
  ·rw[xak h1] at h;cases h
theorem AZ{α:Type}{xs:List α}{i:Int}{v:α}(h:eP xs i=some v):∃j,seqIndex? i xs.length=some j/\xs[j]? = some v/\j<xs.length/\-(xs.length:Int)<=i/\i<xs.length:=by
 unfold eP at h
 cases e:jP xs.length i with
 |none=>rw[e] at h;cases h
 |some j=>
  rw[e] at h
  obtain⟨h1,h2,h3,h4⟩:=R9 e
  exact⟨j,h1,h,h2,h3,h4⟩
theorem SA{α:Type}{xs:List α}{j:Nat}{v:α}(h:xs[j]? = some v):eP xs (j:Int)=some v:=by
 have hj:j<xs.length:=(xaf.mp h).1
 have e:jP xs.length (j:Int)=some j:=by
  unfold jP
  rw[xal (by omega),xal (by omega)];simp
 unfold eP;rw[e];exact h
def pB(b:Expr):Prop:=∀o i,subscripted b false o i=operate [o,i] (getItem o i)
def lE(X:Cx)(r:R2):Prop:=
 ∀(value slice:Expr) (pins:List (Addr×Obj)) (s:Shared) (σ:St) (H:Hp) (x y:V) (v u:Value) (Q:VK),aD X pins σ H s->aM x v->aM y u->r x y H Q->
  subscripted slice false v u=operate [v,u] (getItem v u)->wpAny (model X.prog X.w) X.A (subscriptTail value slice v u) (EP X pins σ Q) X.xe s
def vC(X:Cx)(id:String)(r:V->List V->Hp->VK->Prop):Prop:=
 ∀(pins:List (Addr×Obj)) (s:Shared) (σ:St) (H:Hp) (x:V) (xs:List V) (v:Value) (us:List Value) (Q:VK),aD X pins σ H s->aM x v->aP xs us->r x xs H Q->
  wpAny (model X.prog X.w) X.A (call (.builtin id) (v::us)) (EP X pins σ Q) X.xe s
section
variable{X:Cx}{a b:Expr}{ta tb:TE}{pos:Pos}
theorem lE.or{r r':R2}(h:lE X r)(h':lE X r'):lE X (fun x y H Q=>r x y H Q\/r' x y H Q):=by
 intro value slice pins s σ H x y v u Q I rx ry q hs
 rcases q with q|q
 ·exact h value slice pins s σ H x y v u Q I rx ry q hs
 ·exact h' value slice pins s σ H x y v u Q I rx ry q hs
theorem kJ{r:R2}(hr:lE X r)(ha:PE X a ta)(hb:PE X b tb)(hs:pB b):PE X (.Subscript a b pos) (mV r ta tb):=by
 intro pins s σ H Q I h
 exact Subscript_ (rE ha hb I h fun v u s2 x y H2 I2 rx ry q=>hr a b pins s2 σ H2 x y v u Q I2 rx ry q (hs _ _))
def A0(K:xFg):R2:=fun x y H Q=>∃p xs i v,x=.ref p/\y=.int i/\aY K H p xs/\eP xs i=some v/\Q v H
def A1(K:xFg):R2:=fun x y H Q=>∃p xs i v,x=.ref p/\y=.int i/\bG K H p xs/\eP xs i=some v/\Q v H
def rIxS:R2:=fun x y H Q=>∃z i c,x=.str z/\y=.int i/\z.length<=sizeLine/\eP z.cps.toList i=some c/\Q (.str ⟨#[c]⟩) H
theorem A4:lE X (A0 X.K):=by
 intro value slice pins s σ H x y v u Q I rx ry h hs
 obtain⟨p,xs,i,z,rfl,rfl,hq,he,q⟩:=h
 cases rx
 obtain⟨t,rfl⟩:=ry
 obtain⟨its,r,pl,hz⟩:=I.list hq
 obtain⟨j,h1,h2,h3,h4,h5⟩:=AZ he
 obtain⟨w,ew,rw'⟩:=r.get h2
 have hl:=r.length
 have hn:=rG
 have fin:EP X pins σ Q w s:=⟨z,H,I,rw',q⟩
 by_cases h0:0<=i
 ·have hj:i.toNat=j:=by
   rw[seqIndex_of h0 h5] at h1
   exact xaw h1
  exact item_listR pl.isList h0 (by omega) (by rw[hj];simpa using ew) fin hs
 ·have hj:(i+(its.toArray.size:Int)).toNat=j:=by
   rw[seqIndex_neg (by omega) h4] at h1
   rw[xaj,<- hl]
   exact xaw h1
  exact subscriptTail_builtinR (x:=w) pl.isList.typeIs slot_list_getitem.lookup
   (wpAny_getItem_list_neg (Q:=fun r s'=>r=w/\EP X pins σ Q r s') pl.isList (by omega) (by rw[xaj]<;>omega) (by omega) (by rw[hj];simpa using ew) ⟨rfl,fin⟩) hs
theorem lF:lE X (A1 X.K):=by
 intro value slice pins s σ H x y v u Q I rx ry h hs
 obtain⟨p,xs,i,z,rfl,rfl,hq,he,q⟩:=h
 cases rx
 obtain⟨t,rfl⟩:=ry
 obtain⟨its,r,pl,hz⟩:=I.tuple hq
 obtain⟨j,h1,h2,h3,h4,h5⟩:=AZ he
 obtain⟨w,ew,rw'⟩:=r.get h2
 have hl:=r.length
 have hn:=rG
 have fin:EP X pins σ Q w s:=⟨z,H,I,rw',q⟩
 exact subscriptTail_builtinR (x:=w) pl.typeIs slot_tuple_getitem.lookup
  (getItem_tuple (j:=j) (Q:=fun r s'=>r=w/\EP X pins σ Q r s') pl (by omega) (by omega) (by rw[xaj,<- hl];exact h1) (by simpa using ew) ⟨rfl,fin⟩) hs
theorem SB(lo hi:Option Int)(n:Nat):(sliceBounds lo hi none n).1=((HT.sIx n 0 lo:Nat):Int)/\(sliceBounds lo hi none n).2.1=((HT.sIx n n hi:Nat):Int)/\(sliceBounds lo hi none n).2.2=1:=by
 refine⟨?_,?_,rfl⟩
 ·cases lo with
  |none=>simp[sliceBounds,HT.sIx]
  |some i=>
   simp only[sliceBounds,HT.sIx,Option.getD_none,show (1:Int)>0 by decide,if_true]
   by_cases h:i<0
   ·simp only[h,if_true]<;>omega
   ·simp only[h,if_false]<;>omega
 ·cases hi with
  |none=>simp[sliceBounds,HT.sIx]
  |some i=>
   simp only[sliceBounds,HT.sIx,Option.getD_none,show (1:Int)>0 by decide,if_true]
   by_cases h:i<0
   ·simp only[h,if_true]<;>omega
   ·simp only[h,if_false]<;>omega
theorem SC(its:List Value)(lo hi:Option Int):slicePick its.toArray lo hi none=((its.drop (HT.sIx its.length 0 lo)).take (HT.sIx its.length its.length hi-HT.sIx its.length 0 lo)).toArray:=by
 obtain⟨h1,h2,h3⟩:=SB lo hi its.toArray.size
 unfold slicePick
 rw[h1,h2,h3]
 simp only[sliceRange_one,pick_run,xaj]<;>rfl
def SD(K:xFg):V->Option Int->Option Int->Hp->VK->Prop:=fun x lo hi H Q=>∃a xs,x=.ref a/\aY K H a xs/\∀p,H p=none->Q (.ref p) (aG H p (.lst (iW xs lo hi)))
theorem SE:lD X (SD X.K):=by
 intro pins s σ H x v vl vu lo hi sl Q I rx hs pl pu h
 obtain⟨a,xs,rfl,hx,q⟩:=h
 cases rx
 obtain⟨its,r,ht,hz⟩:=I.list hx
 have hlen:=r.length
 refine⟨"list",_,slot_list_getitem.lookup,ht.isList.typeIs,?_⟩
 refine wpAny_getItem_list_slice ht.isList hs pl pu .none (by simp) ?_ (by rw[xaj]<;>omega)
 rw[SC,<- hlen]
 refine⟨.ref s.heap.objs.size,_,I.laid (t':=s.toks) (o:=.lst (iW xs lo hi)) (fun b ob q=>xad _ q) (xag _) ?_,rfl,q _ (I.hok.fresh (xag _))⟩
 exact⟨xaz (AX xs lo hi) hz,_,0,(r.drop (HT.sIx xs.length 0 lo)).take (HT.sIx xs.length xs.length hi-HT.sIx xs.length 0 lo),xav _ rfl⟩
def lG:V->Bool
 |.non=>true
 |.bl _=>true
 |.int _=>true
 |.str _=>true
 |_=>false
def pC:V->V->Bool
 |.non,.non=>true
 |.bl a,.bl b=>a==b
 |.bl a,.int b=>(if a then 1 else 0)==b
 |.int a,.bl b=>a==(if b then 1 else 0)
 |.int a,.int b=>a==b
 |.str a,.str b=>a==b
 |_,_=>false
theorem SF{A:Around}{s:Shared}{y x:V}{u v:Value}(ry:aM y u)(rx:aM x v)(fy:lG y=true)(fx:lG x=true):SeqAt.EqAt A s u v (pC y x):=by
 cases y with
 |non=>
  cases ry
  cases x with
  |non=>cases rx;exact SeqAt.EqAt.same _
  |bl b=>cases rx;exact SeqAt.EqAt.none_bool b
  |int b=>obtain⟨t,rfl⟩:=rx;exact SeqAt.EqAt.none_int b t
  |str b=>obtain⟨t,rfl⟩:=rx;exact SeqAt.EqAt.none_str b t
  |_=>exact xaq (show false=true from fx) xa4
 |bl a=>
  cases ry
  cases x with
  |non=>cases rx;exact SeqAt.EqAt.bool_none a
  |bl b=>cases rx;exact SeqAt.EqAt.bool_bool a b
  |int b=>obtain⟨t,rfl⟩:=rx;exact SeqAt.EqAt.bool_int a b t
  |str b=>obtain⟨t,rfl⟩:=rx;exact SeqAt.EqAt.bool_str a b t
  |_=>exact xaq (show false=true from fx) xa4
 |int a=>
  obtain⟨t',rfl⟩:=ry
  cases x with
  |non=>cases rx;exact SeqAt.EqAt.int_none a t'
  |bl b=>cases rx;exact SeqAt.EqAt.int_bool a t' b
  |int b=>obtain⟨t,rfl⟩:=rx;exact SeqAt.EqAt.int_int a t' b t
  |str b=>obtain⟨t,rfl⟩:=rx;exact SeqAt.EqAt.int_str a t' b t
  |_=>exact xaq (show false=true from fx) xa4
 |str a=>
  obtain⟨t',rfl⟩:=ry
  cases x with
  |non=>cases rx;exact SeqAt.EqAt.str_none a t'
  |bl b=>cases rx;exact SeqAt.EqAt.str_bool a t' b
  |int b=>obtain⟨t,rfl⟩:=rx;exact SeqAt.EqAt.str_int a t' b t
  |str b=>obtain⟨t,rfl⟩:=rx;exact SeqAt.EqAt.str_str a t' b t
  |_=>exact xaq (show false=true from fx) xa4
 |_=>exact xaq (show false=true from fy) xa4
theorem SG:bD X (compareOp .NotIn) (fun x y H Q=>∃i j,x=.str i/\y=.str j/\Q (.bl (!(!(Builtin.Str.occurrences j i 0 j.length 1).isEmpty))) H):=by
 intro pins s σ H x y v u Q I rx ry h
 obtain⟨i,j,rfl,rfl,q⟩:=h
 obtain⟨t,rfl⟩:=rx
 obtain⟨t',rfl⟩:=ry
 exact notIn_str ⟨.bl _,H,I,rfl,q⟩
theorem SH:dL X (.builtin "len") (fun xs H Q=>∃p ys,xs=[.ref p]/\(aY X.K H p ys\/bG X.K H p ys)/\Q (.int ys.length) H):=by
 intro pins s σ H xs us Q I r h
 obtain⟨p,ys,rfl,hq,q⟩:=h
 obtain⟨u,rfl,rx⟩:=kH r
 cases rx
 have hn:=rG
 rcases hq with hq|hq
 ·obtain⟨its,r',pl,hz⟩:=I.list hq
  have hlen:=r'.length
  exact Calls.call_len_list pl.isList (by simp only[xaj]<;>omega) ⟨.int ys.length,H,I.tok _,⟨s.toks+1,by rw[xaj,hlen]⟩,q⟩
 ·obtain⟨its,r',pl,hz⟩:=I.tuple hq
  have hlen:=r'.length
  exact len_tuple pl (by simp only[xaj]<;>omega) ⟨.int ys.length,H,I.tok _,⟨s.toks+1,by rw[xaj,hlen]⟩,q⟩
theorem SI:dL X (.builtin "len") (fun xs H Q=>∃z,xs=[.str z]/\z.length<=sizeLine/\Q (.int z.length) H):=by
 intro pins s σ H xs us Q I r h
 obtain⟨z,rfl,hz,q⟩:=h
 obtain⟨u,rfl,t,rfl⟩:=kH r
 have hn:=rG
 exact len_str (by omega) ⟨.int z.length,H,I.tok _,⟨_,rfl⟩,q⟩
theorem dL.or{f:Value}{r r':List V->Hp->VK->Prop}(h:dL X f r)(h':dL X f r'):dL X f (fun xs H Q=>r xs H Q\/r' xs H Q):=by
 intro pins s σ H xs us Q I rs q
 rcases q with q|q
 ·exact h pins s σ H xs us Q I rs q
 ·exact h' pins s σ H xs us Q I rs q
theorem SJ:dL X (.type "list") (fun xs H Q=>∃p ys,xs=[.ref p]/\(aY X.K H p ys\/bG X.K H p ys)/\∀l,H l=none->Q (.ref l) (aG H l (.lst ys))):=by
 intro pins s σ H xs us Q I r h
 obtain⟨p,ys,rfl,hq,q⟩:=h
 obtain⟨u,rfl,rx⟩:=kH r
 cases rx
 have fin:∀(its:List Value),aP ys its->ys.length<=sizeLine->∀(h':Heap) (c':Nat),(∀b o',s.heap.get? b=some o'->h'.get? b=some o')->
   h'.get? s.heap.objs.size=some { cls:=.type "list",dict:=none,data:=.seq its.toArray c',slots:=#[] }->EP X pins σ Q (.ref s.heap.objs.size) { s with heap:=h' }:=fun its r' hz h' c' kp e=>
  ⟨.ref s.heap.objs.size,_,I.laid (t':=s.toks) kp (xag _) (show cW X.prog X.w _ h' _ (.lst ys) from ⟨hz,its,c',r',e⟩),rfl,q _ (I.hok.fresh (xag _))⟩
 rcases hq with hq|hq
 ·obtain⟨its,r',pl,hz⟩:=I.list hq
  have hlen:=r'.length
  obtain⟨o,ho,hc,n,hd⟩:=pl.isList
  exact call_list_seq p (.inl rfl) ho hc hd (fun h' c' kp e=>fin its r' hz h' c' kp e) (by simp only[xaj]<;>omega)
 ·obtain⟨its,r',pl,hz⟩:=I.tuple hq
  have hlen:=r'.length
  obtain⟨o,ho,hc,n,hd⟩:=pl
  exact call_list_seq p (.inr rfl) ho hc hd (fun h' c' kp e=>fin its r' hz h' c' kp e) (by simp only[xaj]<;>omega)
def vD(K:xFg)(T:String)(x:V)(H:Hp):Prop:=match x with
 |.str _=>T="str"
 |.int _=>T="int"
 |.ref p=>(T="list"/\∃xs,aY K H p xs)\/(T="tuple"/\∃xs,bG K H p xs)\/
   (T="dict"/\((∃kvs,H p=some (.dK kvs))\/∃kvs,H p=some (.dT kvs)))\/(T="set"/\∃S n,H p=some (.set S n))
 |_=>False
theorem A5{pins:List (Addr×Obj)}{σ:St}{H:Hp}{s:Shared}{T:String}{x:V}{v:Value}(I:aD X pins σ H s)(r:aM x v)(ty:vD X.K T x H) :
  s.TypeIs v T/\∀a,v=.ref a->∃ob,s.heap.get? a=some ob/\ob.dict=none:=by
 cases x with
 |str z=>
  obtain⟨t,rfl⟩:=r
  cases (show T="str" from ty)
  exact⟨typeIs_str s z t,fun _ e=>nomatch e⟩
 |int i=>
  obtain⟨t,rfl⟩:=r
  cases (show T="int" from ty)
  exact⟨typeIs_int s i t,fun _ e=>nomatch e⟩
 |ref p=>
  cases r
  rcases ty with⟨rfl,xs,hq⟩|⟨rfl,xs,hq⟩|⟨rfl,hk⟩|⟨rfl,S,n,hk⟩
  ·obtain⟨its,_,pl,_⟩:=I.list hq
   refine⟨pl.isList.typeIs,fun a e=>?_⟩
   cases e
   obtain⟨o,n,e,c,hd,_⟩:=pl
   exact⟨o,e,hd⟩
  ·obtain⟨its,_,⟨o,e1,hc,_,hd⟩,_⟩:=I.tupN hq
   refine⟨⟨o,e1,hc⟩,fun a e=>?_⟩
   cases e
   exact⟨o,e1,hd⟩
  ·have z:∃o,s.heap.get? p=some o/\o.ExactDict:=by
    rcases hk with⟨kvs,hk⟩|⟨kvs,hk⟩
    ·obtain⟨_,_,_,_,o,_,_,e,ex,_⟩:=I.hok p _ hk
     exact⟨o,e,ex⟩
    ·obtain⟨_,_,_,_,o,_,_,e,ex,_⟩:=I.hok p _ hk
     exact⟨o,e,ex⟩
   obtain⟨o,e,ex⟩:=z
   refine⟨⟨o,e,ex.1⟩,fun a e2=>?_⟩
   cases e2
   exact⟨o,e,ex.2.1⟩
  ·obtain⟨o,_,_,_,e,ex,_⟩:=I.hok p _ hk
   refine⟨⟨o,e,ex.1⟩,fun a e2=>?_⟩
   cases e2
   exact⟨o,e,ex.2.1⟩
 |_=>exact False.elim ty
def SL(K:xFg)(T:String)(r:V->List V->Hp->VK->Prop)(to:TE):TE:=fun σ H Q=>to σ H fun x H1=>vD K T x H1/\r x [] H1 Q
def tBM(K:xFg)(T:String)(r:V->List V->Hp->VK->Prop)(to:TE)(t:TA):TE:=fun σ H Q=>to σ H fun x H1=>vD K T x H1/\t σ H1 fun xs H2=>r x xs H2 Q
variable{o e:Expr}{es:List Expr}{to:TE}{t:TA}{name:Str}{apos cpos:Pos}{T id:String}{r:V->List V->Hp->VK->Prop}
theorem mY(pa:PlainAttrs T)(slot:Slot T name id)(hty:typeOf (.builtin id)=pure (.type "method_descriptor"))(hm:vC X id r)(ho:PE X o to)
  (hbase:attributeBase o name X.env (eval o X.env)=eval o X.env:=by rfl) (hline:(apos.endLine==cpos.line)=true:=by rfl):PE X (.Call (.Attribute o name apos) [] [] cpos) (SL X.K T r to):=by
 intro pins s σ H Q I h
 refine wpAny_Call_method0_late hbase hline (aJ (ho pins s σ H _ I h) fun v s1 ⟨x,H1,I1,r1,ty,q1⟩=>?_)
 obtain⟨h1,h2⟩:=A5 I1 r1 ty
 exact⟨T,id,pa,slot,hty,h1,h2,Calls.callWith_builtin rfl (PySem.evalArgs_none (hm pins s1 σ H1 x [] v [] Q I1 r1 .nil q1))⟩
theorem jQ(pa:PlainAttrs T)(slot:Slot T name id)(hty:typeOf (.builtin id)=pure (.type "method_descriptor"))(hm:vC X id r)(ho:PE X o to)(ha:PA X (e::es) t)
  (hbase:attributeBase o name X.env (eval o X.env)=eval o X.env:=by rfl)
  (hfew : ((backTo cpos (starEach (e :: es) X.env)).all (fun x => !x.1) && (backToKw cpos (keywordEach [] X.env)).all (fun x => x.1.isSome)
   && decide ((e::es).length+([]:List Keyword).length+(if ([]:List Keyword).isEmpty then 0 else 1)<30))=true:=by rfl)
  (hline:(apos.endLine==cpos.line)=true:=by rfl) (hs:starEach (e::es) X.env=(false,eval e X.env)::starEach es X.env:=by rfl) (hplain:(backTo cpos (starEach es X.env)).any (·.1)=false:=by rfl) :
  PE X (.Call (.Attribute o name apos) (e::es) [] cpos) (tBM X.K T r to t):=by
 intro pins s σ H Q I h
 refine wpAny_Call_method_late hbase hfew hline rfl (aJ (ho pins s σ H _ I h) fun v s1 ⟨x,H1,I1,r1,ty,q1⟩=>?_)
 obtain⟨h1,h2⟩:=A5 I1 r1 ty
 refine⟨T,id,pa,slot,hty,h1,h2,?_⟩
 have hA:=ha cpos pins s1 σ H1 _ I1 q1
 rw[hs] at hA ⊢
 refine Calls.callWith_builtin (by show (false||(backTo cpos (starEach es X.env)).any (·.1))=false;rw[hplain]<;>rfl) (Calls.evalArgs_plain ?_)
 exact aJ hA fun us s2 ⟨vs,H2,I2,r2,q2⟩=>hm pins s2 σ H2 x vs v us Q I2 r1 r2 q2
end
end L2
namespace L2
open PySem.Spec PyProof.Rows
def pE(X:Cx)(id:String)(r:V->List V->Hp->VK->Prop):Prop:=
 ∀(pins:List (Addr×Obj)) (s:Shared) (σ:St) (H:Hp) (x:V) (xs:List V) (v:Value) (us:List Value) (Q:VK),aD X pins σ H s->aM x v->aP xs us->r x xs H Q->
  wpAny (model X.prog X.w) X.A (call (.builtin id) (v::us)) (EP X pins σ Q) X.xe s
theorem aP.one:∀{x:V} {us:List Value},aP [x] us->∃u,us=[u]/\aM x u
 |_,_,.cons r .nil=>⟨_,rfl,r⟩
theorem aP.zero:∀{us:List Value},aP [] us->us=[]
 |_,.nil=>rfl
theorem aP.dropLast{xs:List V}{us:List Value}(h:aP xs us):aP xs.dropLast us.dropLast:=by
 induction h with
 |nil=>exact .nil
 |cons r t ih=>
  cases t with
  |nil=>exact .nil
  |cons q t'=>exact .cons r ih
theorem SN{α:Type}(l:List α):l.eraseIdx (l.length-1)=l.dropLast:=by
 induction l with
 |nil=>rfl
 |cons a r ih=>
  cases r with
  |nil=>rfl
  |cons b r=>
   have e:(a::b::r).length-1=((b::r).length-1)+1:=by
    have h1:(a::b::r).length=r.length+2:=rfl
    have h2:(b::r).length=r.length+1:=rfl
    omega
   rw[e,List.eraseIdx_cons_succ,ih]
   all_goals rfl
section
variable{X:Cx}{pins:List (Addr×Obj)}{σ:St}{H:Hp}{s:Shared}{l b:Addr}{xs ys zs:List V}
theorem aD.lset{its its':List Value}{n:Nat}{f:Array Value->Array Value}{t':Nat}(I:aD X pins σ H s)(hH:H l=some (.lst xs))
  (e:s.heap.get? l=some { cls:=.type "list",data:=.seq its.toArray n }) (hf:f its.toArray=its'.toArray) (hv:aP ys its') (hz:ys.length<=sizeLine) :
  aD X pins σ (aG H l (.lst ys)) { s with heap:=s.heap.update l (Obj.mapSeq f),toks:=t' }:=by
 have q:=PySem.IsL.update e f
 rw[hf] at q
 refine I.write (x:=l) (e:=l) (by rw[hH];exact trivial) (.inl rfl) (fun b' u hb hu=>(xbj s.heap (Obj.mapSeq f) (xay hb)).trans hu) ⟨_,q⟩ ?_
 exact⟨hz,its',_,hv,q⟩
theorem aD.lnew{its:List Value}{t':Nat}(I:aD X pins σ H s)(hv:aP ys its)(hz:ys.length<=sizeLine) :
  aD X pins σ (aG H s.heap.objs.size (.lst ys)) { s with heap:=s.heap.push { cls:=.type "list",data:=.seq its.toArray },toks:=t' }:=
 I.laid (fun _ _ q=>xad _ q) (xag _) ⟨hz,its,0,hv,xav _ rfl⟩
theorem aD.fresh(I:aD X pins σ H s):H s.heap.objs.size=none:=I.hok.fresh (xag _)
theorem aD.lstM(I:aD X pins σ H s)(hH:H l=some (.lst xs)):xs.length<=sizeLine/\∃(its:List Value) (n:Nat),aP xs its/\xs.length=its.length/\s.heap.get? l=some { cls:=.type "list",data:=.seq its.toArray n }:=by
 obtain⟨z,its,n,r,e⟩:=I.hok l _ hH
 exact⟨z,its,n,r,r.length,e⟩
theorem SQ{n:Nat}(h:n<=sizeLine):Builtin.List.listTooLong n=false:=by
 unfold Builtin.List.listTooLong
 exact xax (by omega)
end
section
variable{X:Cx}
def vE:V->List V->Hp->VK->Prop:=fun x vs H Q=>∃l xs y,x=.ref l/\vs=[y]/\H l=some (.lst xs)/\xs.length<sizeLine/\Q .non (aG H l (.lst (xs++[y])))
theorem lH:pE X "list.append" vE:=by
 intro pins s σ H x vs v us Q I rx rv h
 obtain⟨l,xs,y,rfl,rfl,hH,hz,q⟩:=h
 cases rx
 obtain⟨u,rfl,ru⟩:=rv.one
 obtain⟨z,its,n,r,hl,e⟩:=I.lstM hH
 refine call_meets F.slot_list_append ⟨_,e,rfl⟩ F.entry_list_append (F.args_list_append_2 _ _) (PySem.list_append l its.toArray n u (by rw[xaj];omega)) ⟨e,?_⟩
 refine⟨.non,_,I.lset (its':=its++[u]) hH e (by simp) (r.append (.cons ru .nil)) ?_,rfl,q⟩
 rw[xa2,List.length_singleton]
 omega
def SR:V->List V->Hp->VK->Prop:=fun x vs H Q=>∃l xs y,x=.ref l/\vs=[]/\H l=some (.lst xs)/\xs[xs.length-1]? = some y/\Q y (aG H l (.lst xs.dropLast))
theorem rJ:pE X "list.pop" SR:=by
 intro pins s σ H x vs v us Q I rx rv h
 obtain⟨l,xs,y,rfl,rfl,hH,hy,q⟩:=h
 cases rx
 have hus:=rv.zero
 subst hus
 obtain⟨z,its,n,r,hl,e⟩:=I.lstM hH
 obtain⟨u,hu,ru⟩:=r.get hy
 have hy':its.toArray[its.toArray.size-1]? = some u:=by
  show its.toArray[its.length-1]? = some u
  rw[<- Array.getElem?_toList,<- hl]
  exact hu
 refine call_meets F.slot_list_pop ⟨_,e,rfl⟩ F.entry_list_pop (F.args_list_pop_1 _) (MeetsSeq.list_pop_last l its.toArray n u hy' (by rw[xaj];omega)) ⟨e,?_⟩
 refine⟨y,_,I.lset (its':=its.dropLast) hH e ?_ r.dropLast ?_,ru,q⟩
 ·show its.toArray.eraseIdxIfInBounds (its.toArray.size-1)=its.dropLast.toArray
  rw[xaj,List.eraseIdxIfInBounds_toArray,SN]
 ·rw[List.length_dropLast]
  omega
end
end L2
namespace Att
open PySem.W PySem.Calls PyProof.Rows
theorem SS{P:Params}{h:Heap}:∀(ns:List Int) (vs:List Value),WellAll P h vs (ns.map WData.int)->IntsAre vs ns:=by
 intro ns
 induction ns with
 |nil=>
  intro vs w
  rw[xcc] at w
  cases w
  exact .nil
 |cons n ns ih=>
  intro vs w
  rw[xa5] at w
  cases w with
  |cons a b=>
   cases a
   exact .cons _ _ (ih _ b)
theorem SU{l:OpenLaw}{n:Nat}(hn:l.most=some n){P:Params}{h:Heap}{args:List WData}{vals:List Value}
  (hpre:l.row.toRowW.claim.pre args=true) (hwl:WellAll P h vals args) :
  ∃a vs ns,vals=[Value.ref a]/\args=[WData.list (ns.map WData.int)]/\h.get? a=some { cls:=.type "list",data:=.seq vs.toArray }/\IntsAre vs ns/\ns.length<=n:=by
 have hsh:WShape.hasAll [] args [.list .int]=true:=(pre_splitW hpre).1
 have hc:l.pre.holds [] { args:=args }=true:=(pre_splitW hpre).2
 obtain⟨d,r,rfl,h1,h2⟩:=hasAllW_cons hsh
 obtain rfl:=hasAllW_nil h2
 obtain⟨xs,rfl,h3⟩:=hasW_list h1
 obtain⟨ns,rfl⟩:=items_int h3
 have hlen:ns.length<=n:=by
  unfold OpenLaw.pre at hc
  have h4:(WTm.not (.lt (.lit (.int (n:Int))) (.len (.arg 0)))).holds [] { args:=[.list (ns.map .int)] }=true:=by
   have h4:=(holds_andW hc).1
   rw[hn] at h4
   exact h4
  have h5:=condW_of h4 (w_not (w_lt w_lit (w_len_list (w_arg rfl))))
  rw[xai] at h5
  refine Nat.le_of_not_lt fun q=>?_
  have q':(n:Int)<((ns.length:Nat):Int):=by omega
  first
   |(rw[xah q'] at h5;exact xaq h5 (by decide))
   |(simp at h5;omega)
 cases hwl with
 |cons w1 w2=>
  cases w2
  cases w1 with
  |list ho hall=>exact⟨_,_,ns,rfl,rfl,ho,SS ns _ hall,hlen⟩
theorem SV(l:OpenLaw)(args:List WData):l.row.toRowW.claim.post args (.bool true) args=true:=
 postW_of (r:=l.row.toRowW) (X:=(true==true))
  (show WShape.has [] (.bool true) .bool=true by first|rfl|decide|simp[WShape.has,WShape.arms,WShape.armsAll])
  (show (WTm.eq .res (.lit (.bool true))).value [] { args:=args,res:=some (.bool true),after:=args }=some (.bool (true==true)) from w_eq_bool (w_res rfl) w_lit) rfl
theorem attach_call{l:OpenLaw}{n:Nat}{q:Program}{loose:List Str}{XP:(Str->Option Value)->Heap->Prop}{YP:World->Heap->Prop}{d:DefRec}
  (hn:l.most=some n) (hdf:d.params.defaults=[])
  (call : ∀ (w : World) (s₀ s₁ : Shared) (mg mb : Str -> Option Value) (fa : Addr) (o : Obj) (pm cd doc : Value) (a : Addr) (vs : List Value) (ns : List Int),
   Ground q loose [] XP w s₀ mg mb s₁.heap->YP w s₁.heap->
   s₁.heap.get? fa=some o->o.data=.func (docDef d.name d.params d.body d.scope pm cd doc)->s₁.heap.CodeRec cd d.name->mg d.name=some (.ref fa)->
   s₁.heap.get? a=some { cls:=.type "list",data:=.seq vs.toArray }->IntsAre vs ns->ns.length<=n->s₁.gens=#[]->
   codeAny (model l.prog w) callerA (.call (.ref fa) ⟨[.ref a],[]⟩) (fun r s'=>r=.ok (.ret (.bool true))/\OldK s₁.heap s'.heap/\s'.os=s₁.os/\AllBare s'.gens) s₁) :
  WalkO q loose XP YP l.row.toRowW d [] (fun f vs=>PySem.call f vs):=by
 intro w s₀ s₁ mg mb G Y fa o pm cd doc dV kV ho hd hcd hD hmg hg args vals as hpre hlay hrd hwl hlo
 obtain rfl:dV=.none:=Dflts.none hD hdf
 obtain rfl:kV=.none:=Dflts.noKw hD
 obtain⟨a,vs,ns,rfl,rfl,hobj,hints,hlen⟩:=SU hn hpre hwl
 refine enter_call (codeAny_mono (call w s₀ s₁ mg mb fa o pm cd doc a vs ns G Y ho (fd_plain hd) hcd hmg hobj hints hlen hg) fun r s' hq=>?_)
 obtain⟨rfl,h2,h3,h4⟩:=hq
 exact⟨.inl ⟨.bool true,.bool true,[],rfl,fun _=>rfl,.bool true,SV l _,fun _=>⟨List.Pairwise.nil,fun _ hm=>(nomatch hm)⟩⟩,h2,h3,h4⟩
end Att
namespace L2
open PySem.Spec PyProof.Rows
theorem A6:∀{vs:List Value} {ns:List Int},IntsAre vs ns->aP (ns.map V.int) vs
 |_,_,.nil=>.nil
 |_,_,.cons n t h=>.cons ⟨t,rfl⟩ (A6 h)
def vF(H:Hp):Prop:=∀b,H b=none\/∃o xs,H b=some (.frz o (.lst xs))
theorem SW{P:Program}{w:World}{K:xFg}{mg mb:Str->Option Value}{CX:dC}{k:Nat}{fa a:Addr}{fd:FuncData}{x:Str}{sp:Sp}{s₁:Shared}{vs:List Value}{ns:List Int}
  (KX:K.In s₁.heap) (hns:s₁.heap.Ns mainGlobals mg) (hb:s₁.heap.Ns builtinsNs mb) (hbb:∀x:Str,x≠"__name__"->mb x=bootBuiltins x) (hlim:s₁.heap.NoLimit) (hg:s₁.gens=#[])
  (ha:s₁.heap.get? a=some { cls:=.type "list",data:=.seq vs.toArray }) (hi:IntsAre vs ns) (hl:ns.length<=sizeLine) (hr:bZ k callerA)
  (F:∀base:Heap,K.In base->base.Ns mainGlobals mg->cF P w K mg base CX k fa fd [x] sp) (hbind:∀(s:Shared) (u:Value),BindsTo s fd ⟨[u],[]⟩ [(x,u)])
  (hsp:∀H:Hp,vF H->aY K H a (ns.map V.int)->sp [.ref a] H (fun v _=>v=.bl true) fun _ _ _=>False)
  (hCX:∀H e s',CX [] H s₁ (fun _ _ _=>False) e s'->False) :
  codeAny (model P w) callerA (.call (.ref fa) ⟨[.ref a],[]⟩) (fun r s'=>r=.ok (.ret (.bool true))/\OldK s₁.heap s'.heap/\s'.os=s₁.os/\AllBare s'.gens) s₁:=by
 have rv:=A6 hi
 have lenV:=hi.length
 have core:∀H:Hp,vF H->aY K H a (ns.map V.int)->bY P w H s₁.heap->(∀b,H b≠none->b=a)->(H a≠none->K.lookup a=none)->
   codeAny (model P w) callerA (.call (.ref fa) ⟨[.ref a],[]⟩) (fun r s'=>r=.ok (.ret (.bool true))/\OldK s₁.heap s'.heap/\s'.os=s₁.os/\AllBare s'.gens) s₁:=by
  intro H hO hS hok hA hK
  have base_of:∀{b:Addr} {o:Obj},s₁.heap.get? b=some o->H b=none->(jM s₁.heap H).get? b=some o:=fun e n=>OG e n
  have noA:∀{b:Addr} {o:Obj} {es:Array DictEntry} {ep:Nat},s₁.heap.get? b=some o->o.data=.dict es ep->H b=none:=fun {b o es ep} e d=>by
   cases q:H b with
   |none=>rfl
   |some u=>
    have e':b=a:=hA b (by rw[q];simp)
    subst e'
    rw[ha] at e;cases e
    have d':Data.seq vs.toArray _=Data.dict es ep:=d
    cases d'
  have nsK:∀{b:Addr} {m:Str->Option Value},s₁.heap.Ns b m->(jM s₁.heap H).Ns b m:=fun {b m} ⟨o,es,ep,e,d,r⟩=>⟨o,es,ep,base_of e (noA e d),d,r⟩
  have hKb:K.In (jM s₁.heap H):=fun b o e=>base_of (KX b o e) (by
   cases q:H b with
   |none=>rfl
   |some u=>
    have e':b=a:=hA b (by rw[q];simp)
    subst e'
    rw[hK (by rw[q];simp)] at e;cases e)
  have hM:Mod K mg (jM s₁.heap H):=⟨hKb,nsK hns,⟨mb,nsK hb,hbb⟩,let⟨mc,h1,h2⟩:=hlim;⟨mc,nsK h1,h2⟩⟩
  have e0:lC P w K mg (jM s₁.heap H) callerA [] s₁ H:=⟨rfl,hM,fun b o e=>OH e,Nat.le_of_eq (OF _ _),trivial,fun b hb=>xaq (show b∈([]:List Addr) from hb) (by simp),hok,.of_eq hg⟩
  refine codeAny_mono ((F _ hKb (nsK hns)).run callerA [] s₁ H ⟨[.ref a],[]⟩ [.ref a] [.ref a] _ _ hr e0 (hbind s₁ (.ref a)) (.cons rfl .nil) (hsp H hO hS)) fun r s' h=>?_
  cases r with
  |error e=>exact(hCX H e s' h).elim
  |ok fl=>
   cases fl with
   |next=>exact False.elim h
   |brk=>exact False.elim h
   |cont=>exact False.elim h
   |ret u=>
    obtain⟨v,H',os,bare,un,hok',r',q⟩:=h
    have q':v=.bl true:=q
    subst q'
    obtain rfl:u=Value.bool true:=r'
    refine⟨rfl,OldK.of_keep fun b o e=>?_,os,bare⟩
    cases q:H b with
    |none=>exact un.keep b o e q (by intro z;exact xaq (show b∈([]:List Addr) from z) (by simp)) (by simp)
    |some u=>
     rcases hO b with z|⟨ob,xs,z⟩
     ·rw[q] at z;cases z
     ·have z2:=un.frzs b ob _ z
      obtain⟨e1,_⟩:=hok b _ z
      obtain⟨e2,_⟩:=hok' b _ z2
      rw[e] at e1;cases e1
      exact e2
 cases hk:K.lookup a with
 |some o=>
  have e:=KX a o hk
  rw[ha] at e
  cases e
  refine core (fun _=>none) (fun _=>.inl rfl) (.inr ⟨_,vs.toArray,_,hk,rfl,rfl,rfl,by rw[xaj,lenV];exact hl,by simpa using rv⟩) (fun b u z=>by have z':(none:Option HO)=some u:=z;cases z') (fun b z=>xaq rfl z) fun z=>xaq rfl z
 |none=>
  refine core (fun b=>if b=a then some (.frz { cls:=.type "list",data:=.seq vs.toArray } (.lst (ns.map V.int))) else none) (fun b=>?_) (.inl (.inr ⟨{ cls:=.type "list",data:=.seq vs.toArray },xal rfl⟩)) (fun b u z=>?_) (fun b z=>?_) fun _=>hk
  ·by_cases hb:b=a
   ·exact .inr ⟨_,_,xal hb⟩
   ·exact .inl (xak hb)
  ·by_cases hb:b=a
   ·have z':=(xal hb).symm.trans z
    cases z'
    subst hb
    exact⟨ha,by rw[xai];exact hl,vs,_,rv,ha⟩
   ·have z':=(xak hb).symm.trans z
    cases z'
  ·by_cases hb:b=a
   ·exact hb
   ·exact xaq (xak hb) z
end L2
namespace L2
open PySem.Spec PyProof.Rows
theorem walk_of{l:PySem.W.OpenLaw}{n k:Nat}{q:Program}{loose:List Str}{XP:(Str->Option Value)->Heap->Prop}{YP:World->Heap->Prop}{d:DefRec}{K:Params->xFg}{CX:World->dC}{sp:World->Sp}{x:Str}
  (hn:l.most=some n) (hn2:n<=sizeLine) (hdf:d.params.defaults=[]) (hr:bZ k callerA)
  (hY:∀(w:World) (h:Heap),YP w h->(K w.params).In h)
  (F : ∀ (w : World) (mg : Str -> Option Value) (fa : Addr) (h : Heap), (K w.params).In h -> h.Ns mainGlobals mg -> mg d.name = some (.ref fa) ->
   ∃fd:FuncData,(∀(s:Shared) (u:Value),BindsTo s fd ⟨[u],[]⟩ [(x,u)])/\
    ∀base:Heap,(K w.params).In base->base.Ns mainGlobals mg->cF l.prog w (K w.params) mg base (CX w) k fa fd [x] (sp w))
  (hsp:∀(w:World) (H:Hp) (a:Addr) (ns:List Int),ns.length<=n->vF H->aY (K w.params) H a (ns.map V.int)->sp w [.ref a] H (fun v _=>v=.bl true) fun _ _ _=>False)
  (hCX:∀(w:World) (H:Hp) (s:Shared) (e:Value) (s':Shared),CX w [] H s (fun _ _ _=>False) e s'->False) :
  PySem.W.WalkO q loose XP YP l.row.toRowW d [] (fun f vs=>PySem.call f vs):=by
 refine Att.attach_call hn hdf fun w s₀ s₁ mg mb fa o pm cd doc a vs ns G Y ho hd hcd hmg hobj hints hlen hg=>?_
 have KX:=hY w _ Y
 obtain⟨fd,hb,hF⟩:=F w mg fa _ KX G.T.g hmg
 exact SW KX G.T.g G.T.b G.T.builtins G.T.nolimit hg hobj hints (xaz hlen hn2) hr hF hb (fun H hO hS=>hsp w H a ns hlen hO hS) fun H e s'=>hCX w H s₁ e s'
end L2
namespace L2
open PySem.Spec PyProof.Rows
def aO(s:Stmt)(j:Nat):Stmt:=match s with
 |.ClassDef _ _ _ body _ _ _ _ _ _ _=>body.getD j (.Pass ⟨0,0,0,0⟩)
 |_=>.Pass ⟨0,0,0,0⟩
def iX(s:Stmt):Arguments:=match s with
 |.FunctionDef _ a _ _ _ _ _ _ _ _=>a
 |_=>{ posonlyargs:=[],args:=[],vararg:=none,kwonlyargs:=[],kw_defaults:=[],kwarg:=none,defaults:=[] }
def dZ(s:Stmt):List Stmt:=match s with
 |.FunctionDef _ _ b _ _ _ _ _ _ _=>b
 |_=>[]
def bB(s:Stmt):Scope:=match s with
 |.FunctionDef _ _ _ _ _ _ sc _ _ _=>sc
 |_=>{ kind:=.function,names:=[],isGenerator:=false,isCoroutine:=false }
abbrev E0:XK:=fun _ _ _=>False
structure bT(K:xFg)(x qual:Str)(st:Stmt)(f:Addr)(fd:FuncData):Prop where
 ex:∃(oc:Value) (od:Option Addr) (kV doc pm:Value) (an:Option Addr) (cdv ct:Value) (osl:Array (Option Value)),
  fd=PySem.W.fnOf x qual (iX st) (dZ st) (bB st) .none kV doc pm an cdv ct/\K.lookup f=some ⟨oc,od,.func fd,osl⟩/\PySem.W.codeIn K cdv qual=true
 kp:PySem.W.keepIn K (.ref f)=true
section
variable{P:Program}{w:World}{K:xFg}{mg:Str->Option Value}{base:Heap}
theorem bT.binds{x qual:Str}{st:Stmt}{f:Addr}{fd:FuncData}{ps:List Str}(F:bT K x qual st f fd)
  (h:∀(kV doc pm:Value) (an:Option Addr) (cdv ct:Value) (us:List Value),us.length=ps.length->bindArgs (PySem.W.fnOf x qual (iX st) (dZ st) (bB st) .none kV doc pm an cdv ct) ⟨us,[]⟩=pure (ps.zip us)):bR K fd ps []:=by
 obtain⟨oc,od,kV,doc,pm,an,cdv,ct,osl,rfl,lk,hcd⟩:=F.ex
 exact .all (h kV doc pm an cdv ct)
theorem vG{x qual:Str}{st:Stmt}{f:Addr}{oc:Value}{od an:Option Addr}{osl:Array (Option Value)}{kV doc pm cdv ct:Value}(l:K.lookup f=some ⟨oc,od,.func (PySem.W.fnOf x qual (iX st) (dZ st) (bB st) .none kV doc pm an cdv ct),osl⟩)
  (c:PySem.W.codeIn K cdv qual=true) (k:PySem.W.keepIn K (.ref f)=true):bT K x qual st f (PySem.W.fnOf x qual (iX st) (dZ st) (bB st) .none kV doc pm an cdv ct):=⟨⟨oc,od,kV,doc,pm,an,cdv,ct,osl,rfl,l,c⟩,k⟩
end
theorem A7{A:Around}{k:Nat}(hr:bZ k A):A.units+1<cLine:=xbf (Nat.add_le_add_left (by decide:1<=64) _) hr.units
theorem SX{n:Nat}(h:n<=1000):n<sizeLine:=xbf h (by decide)
section
variable{X:Cx}
theorem pv(i:Nat){x:Str}{pos:Pos}(hN:X.N[i]? = some x:=by rfl)(hv:cB X.env.scope x:=by first|exact Or.inl rfl|exact Or.inr (Or.inl rfl)|exact Or.inr (Or.inr rfl))(hd:(x==("__debug__":Str))=false:=by decide)
  (hcd:(x==("__classdict__":Str))=false:=by decide):PE X (.Name x pos) (zS i):=OK hN hv hd hcd
end
theorem jR{A B:Prop}(h:B):if false=true then A else B:=by
 rw[xak xa4]
 exact h
theorem jS{A B:Prop}(h:A):if true=true then A else B:=by
 rw[xal rfl]
 exact h
def Same(H H':Hp):Prop:=∀b o,H b=some o->H' b=some o
theorem Same.refl(H:Hp):Same H H:=fun _ _ h=>h
theorem Same.trans{H H1 H2:Hp}(a:Same H H1)(b:Same H1 H2):Same H H2:=fun c o h=>b c o (a c o h)
theorem Same.free{H H':Hp}(e:Same H H'){l:Addr}(h:H' l=Option.none):H l=Option.none:=by
 cases q:H l with
 |none=>rfl
 |some o=>
  rw[e l o q] at h
  cases h
theorem Same.seq{K:xFg}{H H':Hp}{a:Addr}{xs:List V}(e:Same H H')(h:aY K H a xs):aY K H' a xs:=by
 rcases h with (h|⟨o,h⟩)|h
 ·exact .inl (.inl (e _ _ h))
 ·exact .inl (.inr ⟨o,e _ _ h⟩)
 ·exact .inr h
end L2
end
namespace L2
open PySem.Spec PyProof.Rows
theorem A8{α β:Type}(g:β->α->β):∀{l:List α} {f:α->β->Sem (ForInStep β)} (c:β),(∀x∈l,∀c,f x c=pure (.yield (g c x)))->forIn l c f=pure (l.foldl g c)
 |[],_,_,_=>rfl
 |x::l,f,c,h=>by
  rw[List.forIn_cons,h x xa7 c,pure_bind]
  exact A8 g (g c x) fun y hy=>h y (xas _ hy)
def iC(env:Env)(cs:List (Str×Addr))(x:Str×NameKind):List (Str×Addr):=
 if (x.2==NameKind.free)=true then (x.1,(env.cells.lookup x.1).getD 0)::cs else cs
def mZ(env:Env)(names:List (Str×NameKind)):List (Str×Addr):=names.foldl (iC env) []
theorem SY{env:Env}{scope:Scope}(h:∀x∈scope.names,x.2=.free->∃c,env.cells.lookup x.1=some c):closureFor scope env=pure (mZ env scope.names):=by
 simp only[closureFor]
 rw[A8 (iC env) [] (fun x hx c=>by
  obtain⟨n,k⟩:=x
  by_cases hk:k=.free
  ·obtain⟨a,e⟩:=h (n,k) hx hk
   have e':env.cells.lookup n=some a:=e
   subst hk
   simp[iC,cellOf,e']
  ·have hb:(k==NameKind.free)=false:=by simpa using hk
   simp[iC,hb])]
 rfl
theorem vH{env:Env}:∀(l:List (Str×NameKind)) (acc:List (Str×Addr)),(∀x∈l,x.2=.free->∃c,env.cells.lookup x.1=some c)->(∀y c,acc.lookup y=some c->env.cells.lookup y=some c)->
  ∀y c,(l.foldl (iC env) acc).lookup y=some c->env.cells.lookup y=some c
 |[],acc,_,ha,y,c,e=>ha y c e
 |x::l,acc,h,ha,y,c,e=>by
  refine vH l (iC env acc x) (fun z hz=>h z (xas _ hz)) (fun z d q=>?_) y c e
  unfold iC at q
  split at q
  ·rename_i hk
   obtain⟨a,ea⟩:=h x xa7 (by simpa using hk)
   rw[xbx] at q
   cases hz:z==x.1 with
   |true=>
    rw[hz] at q
    rw[ea] at q
    have:z=x.1:=by simpa using hz
    rw[this,ea];simpa using q
   |false=>rw[hz] at q;exact ha z d q
  ·exact ha z d q
theorem vI{env:Env}:∀(l:List (Str×NameKind)) (acc:List (Str×Addr)) (y:Str),((∃c,acc.lookup y=some c)\/(y,NameKind.free)∈l)->∃c,(l.foldl (iC env) acc).lookup y=some c
 |[],acc,y,h=>by
  rcases h with h|h
  ·exact h
  ·exact xaq h (by simp)
 |x::l,acc,y,h=>by
  refine vI l (iC env acc x) y ?_
  rcases h with⟨c,h⟩|h
  ·left
   unfold iC
   split
   ·rw[xbx]
    cases hz:y==x.1 with
    |true=>exact⟨_,rfl⟩
    |false=>exact⟨c,h⟩
   ·exact⟨c,h⟩
  ·rcases xa1.mp h with e|h
   ·left
    subst e
    unfold iC
    rw[xal (by rfl),xbx]
    simp
   ·exact .inr h
theorem lI{scope:Scope}{env:Env}:∀{names:List (Str×NameKind)} {x:Str} {k:NameKind},
  (names.map fun (n,k)=>if (k==NameKind.free&&env.scope.kind==.function&&env.kindOf n==some .cell) then (n,NameKind.cell) else (n,k)).lookup x=some k->
  names.lookup x=some k\/(k=.cell/\names.lookup x=some .free)
 |[],_,_,h=>by simp at h
 |(n,k')::r,x,k,h=>by
  change List.lookup x ((if (k'==NameKind.free&&env.scope.kind==.function&&env.kindOf n==some .cell)=true then (n,NameKind.cell) else (n,k'))::_)=some k at h
  by_cases hc:(k'==NameKind.free&&env.scope.kind==.function&&env.kindOf n==some .cell)=true
  ·rw[xal hc,xbx] at h
   rw[xbx]
   cases hx:x==n with
   |true=>
    rw[hx] at h
    have hk:k'=.free:=by
     simp only[xap,beq_iff_eq] at hc
     exact hc.1.1
    subst hk
    have h':NameKind.cell=k:=by simpa using h
    exact .inr ⟨h'.symm,rfl⟩
   |false=>rw[hx] at h;exact lI (scope:=scope) h
  ·rw[xak hc,xbx] at h
   rw[xbx]
   cases hx:x==n with
   |true=>rw[hx] at h;exact .inl h
   |false=>rw[hx] at h;exact lI (scope:=scope) h
def vJ(k:Nat)(NY N:List Str)(sc:Scope):Bool:=
 NY.length==k+N.length&&((NY.drop k).zip N).all fun p=>(sc.names.lookup p.1).isNone||(p.1==p.2&&sc.names.lookup p.1 != some .local)
structure LC(X:Cx)(k:Nat)(scope:Scope)(NY:List Str):Prop where
 cells:∀y∈scope.names,y.2≠.cell
 kind:scope.kind=.function
 names:∀y∈scope.names,y.2=.local->scope.names.lookup y.1=some .local
 free:∀y∈scope.names,y.2=.free->X.env.kindOf y.1=some .cell\/X.env.kindOf y.1=some .free
 ny:vJ k NY X.N scope=true
 nd:NY.Nodup
def A9(k:Nat)(N:List Str)(sc0 scope:Scope)(NY:List Str):Bool:=
 (scope.names.all fun y=>y.2 != .cell)&&(scope.kind==.function)&&(scope.names.all fun y=>y.2 != .local||scope.names.lookup y.1==some .local) &&
 (scope.names.all fun y=>y.2 != .free||sc0.names.lookup y.1==some .cell||sc0.names.lookup y.1==some .free)&&vJ k NY N scope&&decide NY.Nodup
theorem LC.of{X:Cx}{k:Nat}{N NY:List Str}{sc0 scope:Scope}(hN:X.N=N)(hs:X.env.scope=sc0)(h:A9 k N sc0 scope NY=true):LC X k scope NY:=by
 unfold A9 at h
 simp only[xap,xbh,Bool.or_eq_true,bne_iff_ne,beq_iff_eq,ne_eq] at h
 obtain⟨⟨⟨⟨⟨h1,h2⟩,h3⟩,h4⟩,h5⟩,h6⟩:=h
 refine⟨h1,h2,fun y hy e=>?_,fun y hy e=>?_,by rw[hN];exact h5,xau h6⟩
 ·rcases h3 y hy with z|z
  ·exact xaq e z
  ·exact z
 ·show X.env.scope.names.lookup y.1=_\/X.env.scope.names.lookup y.1=_
  rw[hs]
  rcases h4 y hy with (z|z)|z
  ·exact xaq e z
  ·exact .inl z
  ·exact .inr z
def c4(X:Cx)(scope:Scope)(NY:List Str)(s₀:Shared)(H₀:Hp)(C:Addr)(ex:List Addr):Cx:=
 { X with N:=NY,s₀:=s₀,H₀:=H₀,env:=compEnvC scope (mZ X.env scope.names) C X.env,outer:=X.stack,ex:=ex,fn:=fun _=>false,pn:=[],xe:=fun _ _=>False }
def jT(X:Cx)(cs:List Expr)(t:TT):Prop:=
 ∀(pins:List (Addr×Obj)) (s:Shared) (σ:St) (H:Hp) (Q:Bool->Hp->Prop),aD X pins σ H s->t σ H Q->
  wpAny (model X.prog X.w) X.A (forIn cs true fun c r=>if r=true then do let ok<-isTrue c X.env (eval c X.env);pure (ForInStep.yield ok) else pure (ForInStep.yield r)) (TP X pins σ Q) X.xe s
def SZ:TT:=fun _ H Q=>Q true H
theorem S0{X:Cx}:jT X [] SZ:=fun _ _ _ H _ I h=>wpAny_tests_nil ⟨H,I,h⟩
theorem S3{X:Cx}{c:Expr}{t:TT}(hc:PT X c t):jT X [c] t:=fun pins s σ H Q I h=>wpAny_tests_one (hc pins s σ H Q I h)
def vK(σ σ2:St):Prop:=σ2.length=σ.length/\∀(j:Nat) (v:V),σ[j]? = some (some v)->σ2[j]? = some (some v)
def tLC(k:Nat)(wi:TI)(g:TG)(tc:TT)(te:TE):TE:=fun σ H Q=>wi σ H fun J H1=>∃W:Nat->Nat->List V->Hp->Prop,(∃m,W 0 m [] H1)/\∀i m ys H,W i m ys H->ys.length<sizeLine/\
 ((J.stop i H /\ ∀ D, H D = none -> Q (.ref D) (aG H D (.lst ys))) \/
  (J.go i H/\∃N:List V->Hp->Prop,(∀ys' H',N ys' H'->∃m',m'<m/\W (i+1) m' ys' H')/\
    ∀v H',J.yld i H v H'->g v (List.replicate k none++σ) H' fun σ2 H2=>vK (List.replicate k none++σ) σ2/\
      tc σ2 H2 fun b H3=>if b=true then te σ2 H3 fun y H4=>N (ys++[y]) H4 else N ys H3))
theorem vL{α:Type}{t:Sem α}{Q Q':α->Shared->Prop}{M:Model}{A:Around}{E:Value->Shared->Prop}{s:Shared}(h:wpAny M A t Q (fun _ _=>False) s)(hQ:∀a s,Q a s->Q' a s):wpAny M A t Q' E s:=
 wpAny_mono h hQ fun _ _ z=>False.elim z
section
variable{prog:Program}{w:World}{A:Around}{R:Result->Shared->Prop}{s:Shared}
theorem S4{elt tg iter:Expr}{ifs:List Expr}{scope:Scope}{pos:Pos}{it acc:Value}{env:Env}(W:Nat->Shared->Prop)
  (turn : ∀ n s, W n s -> ∀ E', wpAny (model prog w) A (pyNext it) (fun r s1 => match r with
   |none=>R (.ok .next) s1
   |some v=>wpAny (model prog w) A (letOwnedTupleGo tg it v) (fun _ s2=>wpAny (model prog w) A (assign tg env v) (fun _ s3=>
     wpAny (model prog w) A (forIn ifs true fun c r=>if r=true then do let ok<-isTrue c env (eval c env);pure (ForInStep.yield ok) else pure (ForInStep.yield r)) (fun ok s4=>
      if ok=true then wpAny (model prog w) A (eval elt env) (fun x s5=>wpAny (model prog w) A (call (.builtin "list.append") [acc,x]) (fun _ s6=>∃m,m<n/\W m s6) E' s5) E' s4
      else ∃m,m<n/\W m s4) E' s3) E' s2) E' s1) E' s)
  (n:Nat) (h:W n s):codeAny (model prog w) A (.compLoop (.ListComp elt [⟨tg,iter,ifs,0⟩] scope pos) 0 it acc env) R s:=by
 refine codeAny_loop rfl W (fun n s hW=>?_) n h
 show wpAny _ A ((compTurn (.ListComp elt [⟨tg,iter,ifs,0⟩] scope pos) 0 it acc env).onRaise (fun x=>do noteFrame x env;theTreesLotGoes x)) _ _ s
 refine wpAny_noted ?_
 rw[compTurn_list]
 refine xab (wpAny_standAt (xab (aJ (turn n s hW _) fun r s1 h1=>?_)))
 cases r with
 |none=>exact xar h1
 |some v=>
  refine xab (aJ h1 fun _ s2 h2=>xab (aJ h2 fun _ s3 h3=>xab (aJ h3 fun ok s4 h4=>?_)))
  cases ok with
  |false=>exact xar ⟨rfl,h4⟩
  |true=>exact xab (xab (aJ h4 fun x s5 h5=>xab (aJ h5 fun _ s6 h6=>xar (xar ⟨rfl,h6⟩))))
end
section
variable{X:Cx}{pins:List (Addr×Obj)}{σ:St}{H2:Hp}{s2:Shared}{scope:Scope}{NY:List Str}{k:Nat}{C D:Addr}{fp:List Addr}
theorem S5(I2:aD X pins σ H2 s2)(lc:LC X k scope NY)(hf:∀b∈fp,fU X pins H2 b)(hfl:∀b∈fp,b<s2.heap.objs.size)(hC:s2.heap.objs.size<=C):(c4 X scope NY s2 H2 C fp).Ok:=by
 have hfree:∀x∈scope.names,x.2=.free->∃c,X.env.cells.lookup x.1=some c:=fun x hx e=>I2.ok.has x.1 (lc.free x hx e)
 have sub:∀x c,(mZ X.env scope.names).lookup x=some c->X.env.cells.lookup x=some c:=vH scope.names [] hfree (fun y c e=>by simp at e)
 refine⟨I2.ok.mod,?_,I2.ok.glob,I2.ok.blt,hC,fun x y c e1 e2=>I2.ok.inj x y c (sub x c e1) (sub y c e2),fun x hx=>?_,fun x c z=>xaq z (by show ¬(false=true);decide),I2.ok.hd,I2.ok.frames,.inl rfl,fun b hb=>⟨xa6 (xan (hfl b hb) hC),fun x c e=>(hf b hb).2.2.2.2.1 x c (sub x c e)⟩,
  I2.bs,xaz I2.ok.bsz I2.sz,fun b o e hb=>?_,fun b hb z=>?_,I2.stack,I2.stkFree⟩
 ·show (relabel scope X.env).kind=.function
  exact lc.kind
 ·have hx:(relabel scope X.env).names.lookup x=some .cell\/(relabel scope X.env).names.lookup x=some .free:=hx
  have key:scope.names.lookup x=some .free:=by
   rcases hx with hx|hx
   ·rcases lI (scope:=scope) hx with z|⟨_,z⟩
    ·exact xaq rfl (lc.cells _ (PySem.mem_of_lookup z))
    ·exact z
   ·rcases lI (scope:=scope) hx with z|⟨_,z⟩
    ·exact z
    ·exact z
  exact vI scope.names [] x (.inr (PySem.mem_of_lookup key))
 ·have q:b∈X.ex\/X.s₀.heap.objs.size<=b:=(hf b hb).2.2.2.1
  rcases q with q|q
  ·exact I2.ok.noex b o e q
  ·exact xaq (xan (xam e) (xaz I2.ok.bsz q)) (xbq _)
 ·rcases xa1.mp (I2.stkSub b z) with e|e
  ·exact(hf b hb).2.1 e
  ·exact(hf b hb).2.2.1 e
theorem S6{h1:Heap}{tk:Nat}{m:Str->Option Value}{oD:Obj}(I2:aD X pins σ H2 s2)(lc:LC X k scope NY)(hf:∀b∈fp,fU X pins H2 b)(hfl:∀b∈fp,b<s2.heap.objs.size)(hC:s2.heap.objs.size<=C)(hD:s2.heap.objs.size<=D)(hDC:D≠C)
  (old:∀b o,s2.heap.get? b=some o->h1.get? b=some o) (hn:h1.Ns C m) (ho:h1.get? D=some oD) (hoD:∀v,oD.data≠.cell v) :
  aD (c4 X scope NY s2 H2 C fp) [(D,oD)] (List.replicate k none++σ) H2 { s2 with heap:=h1,toks:=tk }:=by
 have hfree:∀x∈scope.names,x.2=.free->∃c,X.env.cells.lookup x.1=some c:=fun x hx e=>I2.ok.has x.1 (lc.free x hx e)
 have sub:∀x c,(mZ X.env scope.names).lookup x=some c->X.env.cells.lookup x=some c:=vH scope.names [] hfree (fun y c e=>by simp at e)
 have hny:=lc.ny
 unfold vJ at hny
 simp only[xap,beq_iff_eq,xbh,Bool.or_eq_true,bne_iff_ne,ne_eq] at hny
 obtain⟨hlen,hz⟩:=hny
 refine⟨S5 I2 lc hf hfl hC,rfl,I2.bare,Un.kept old,⟨m,hn,fun i x v e1 e2 e3=>?_⟩,fun x c e=>?_,I2.hok.fresh hC,fun x c e=>I2.freeC x c (sub x c e),fun p hp=>?_,I2.hok.kept old,?_⟩
 ·have e1:NY[i]? = some x:=e1
  have hik:k<=i:=by
   refine Nat.le_of_not_lt fun z=>?_
   rw[xbu (by simpa using z),xb1,xal z] at e2
   cases e2
  rw[xb6 (by simpa using hik),xci] at e2
  have hi2:i-k<X.N.length:=by
   rw[<- I2.len];exact(xaf.mp e2).1
  obtain⟨y,ey⟩:∃y,X.N[i-k]? = some y:=⟨_,xa0 hi2⟩
  have em:(x,y)∈(NY.drop k).zip X.N:=by
   refine List.mem_of_getElem? (i:=i-k) ?_
   rw[List.getElem?_zip_eq_some]
   refine⟨?_,ey⟩
   rw[List.getElem?_drop,show k+(i-k)=i by omega];exact e1
  have e3:cB (relabel scope X.env) x:=e3
  have kf:scope.names.lookup x=some .free:=by
   have kk:∃q,scope.names.lookup x=some q:=by
    rcases e3 with z|z|z<;>rcases lI (scope:=scope) z with z|⟨_,z⟩<;>exact⟨_,z⟩
   have zz:=hz (x,y) em
   have nl:scope.names.lookup x≠some .local:=by
    rcases zz with zz|zz
    ·obtain⟨q,hq⟩:=kk
     have zz:(scope.names.lookup x).isNone=true:=zz
     rw[hq] at zz;cases zz
    ·exact zz.2
   rcases e3 with z|z|z<;>rcases lI (scope:=scope) z with z|⟨_,z⟩
   ·exact xaq z nl
   ·exact z
   ·exact xaq rfl (lc.cells _ (PySem.mem_of_lookup z))
   ·exact z
   ·exact z
   ·exact z
  have exy:x=y:=by
   rcases hz (x,y) em with zz|zz
   ·have zz:(scope.names.lookup x).isNone=true:=zz
    rw[kf] at zz;cases zz
   ·exact zz.1
  subst exy
  obtain⟨mX,hnX,hlX⟩:=I2.loc
  have hk:=lc.free (x,.free) (PySem.mem_of_lookup kf) rfl
  have hk:X.env.kindOf x=some .cell\/X.env.kindOf x=some .free:=hk
  obtain⟨u,ru,lu⟩:=hlX (i-k) x v ey e2 (.inr hk)
  refine⟨u,ru,?_⟩
  rcases lu with⟨z,_⟩|⟨_,c,hc,hcell⟩
  ·rcases hk with q|q<;>rw[q] at z<;>cases z
  ·obtain⟨c',hc'⟩:=vI (env:=X.env) scope.names [] x (.inr (PySem.mem_of_lookup kf))
   have:c'=c:=by
    have q:=sub x c' hc'
    rw[hc] at q;exact(xaw q).symm
   subst this
   refine .inr ⟨?_,c',hc',hcell.keeps old⟩
   show (relabel scope X.env).names.lookup x=some .cell\/(relabel scope X.env).names.lookup x=some .free
   rcases e3 with z|z
   ·rcases lI (scope:=scope) z with z|⟨z,_⟩
    ·rw[kf] at z;cases z
    ·cases z
   ·exact z
 ·obtain⟨v,z⟩:=I2.cell x c (sub x c e)
  exact⟨v,z.keeps old⟩
 ·have e:p=(D,oD):=by simpa [c4] using hp
  subst e
  refine⟨ho,I2.hok.fresh hD,hDC,fun z=>?_,hoD⟩
  have z:D∈bV X.stack:=z
  rcases xa1.mp (I2.stkSub D z) with q|q
  ·exact xaq (xan I2.lt hD) (by rw[q];exact xbq _)
  ·exact I2.nofs hD q
 ·show (List.replicate k none++σ).length=NY.length
  rw[hlen,xa2,xci,I2.len]
theorem S7{H4:Hp}{s4:Shared}{σ':St}{ys:List V}{us:List Value}(I2:aD X pins σ H2 s2)(hf:∀b∈fp,fU X pins H2 b)(hC:s2.heap.objs.size<=C)(hD:s2.heap.objs.size<=D)
  (I4:aD (c4 X scope NY s2 H2 C fp) [(D,LCg.lst us)] σ' H4 s4) (rv:aP ys us) (hz:ys.length<=sizeLine):aD X pins σ (aG H4 D (.lst ys)) s4:=by
 obtain⟨pD,nD,neD,nfD,dD⟩:=I4.pin (D,LCg.lst us) (by simp)
 have u0:Un (bV X.stack) fp H2 H4 s2.heap s4.heap:=I4.base
 have neb:∀b o,s2.heap.get? b=some o->b≠D:=fun b o e=>xa6 (xan (xam e) hD)
 have hok:bY X.prog X.w (aG H4 D (.lst ys)) s4.heap:=fun b u e=>by
  by_cases hb:b=D
  ·subst hb
   rw[aU] at e;cases e
   exact⟨hz,us,us.length,rv,pD⟩
  ·rw[aH hb] at e
   exact(I4.hok b u e).stay (fun _ _ _ q=>q) (fun c q=>by rw[aH (bC q nD)];exact q) fun c xs q=>by rw[aH (bC q nD)];exact q
 refine I2.call' (ch:=fp) I4.os ⟨u0.keep,u0.slot,fun b o e n hx=>?_,u0.there,fun b xs q=>?_,fun b o u q=>?_,fun b ps q=>?_⟩ hok I4.bare fun b hb=>⟨(hf b hb).2.2.2.1,(hf b hb).2.1,(hf b hb).2.2.2.2.1,(hf b hb).2.2.2.2.2⟩
 ·rw[aH (neb b o e)];exact u0.free b o e n hx
 ·have z:=u0.tups b xs q
  rw[aH (bC z nD)];exact z
 ·have z:=u0.frzs b o u q
  rw[aH (bC z nD)];exact z
 ·obtain⟨more,z⟩:=u0.tbls b ps q
  exact⟨more,by rw[aH (bC z nD)];exact z⟩
end
theorem S8{X:Cx}{tg elt iter:Expr}{ifs:List Expr}{scope:Scope}{pos:Pos}{NY:List Str}{k:Nat}{g:TG}{tc:TT}{te:TE}(hc:X.calm=true)(lc:LC X k scope NY)
  (hb:∀(s₀:Shared) (H₀:Hp) (C:Addr) (ex:List Addr),NY.Nodup->PG (c4 X scope NY s₀ H₀ C ex) tg g/\jT (c4 X scope NY s₀ H₀ C ex) ifs tc/\PE (c4 X scope NY s₀ H₀ C ex) elt te)
  {pins:List (Addr×Obj)} {σ:St} {H2:Hp} {s2:Shared} {it:Addr} {fp:List Addr} {tn:Nat->Heap->Prop} {J:It} {RR:Value->Addr->Result->Shared->Prop} {E:Value->Shared->Prop} {Fin:List V->Hp->Prop}
  (I2:aD X pins σ H2 s2) (T:kG X.prog X.w X.K tg J fp it tn) (st2:tn 0 s2.heap) (f2:∀b∈fp,fU X pins H2 b) {W:Nat->Nat->List V->Hp->Prop} {m0:Nat} (w0:W 0 m0 [] H2)
  (turn : ∀ i m ys H, W i m ys H -> ys.length < sizeLine /\ ((J.stop i H /\ Fin ys H) \/ (J.go i H /\ ∃ N : List V -> Hp -> Prop, (∀ ys' H', N ys' H' -> ∃ m', m' < m /\ W (i + 1) m' ys' H') /\
   ∀v H',J.yld i H v H'->g v (List.replicate k none++σ) H' fun σ2 H2=>vK (List.replicate k none++σ) σ2/\tc σ2 H2 fun b H3=>if b=true then te σ2 H3 fun y H4=>N (ys++[y]) H4 else N ys H3)))
  (fin:∀(C D:Addr) (H4:Hp) (s4:Shared) (ys:List V) (m:Str->Option Value),s2.heap.objs.size<=C->H4 D=none->H4 C=none->D≠C->s4.heap.Ns C m->aD X pins σ (aG H4 D (.lst ys)) s4->Fin ys H4->RR (.ref D) C (.ok .next) s4) :
  wpAny (model X.prog X.w) X.A (newList []) (fun acc s3=>wpAny (model X.prog X.w) X.A (newFunctionEnv scope X.env.globals (mZ X.env scope.names) [] X.env.qual none .none (some X.env)) (fun cenv s4=>
   codeAny (model X.prog X.w) X.A (.compStart (.ListComp elt [⟨tg,iter,ifs,0⟩] scope pos) 0 (.ref it) acc { cenv with scope:=relabel scope X.env }) (RR acc cenv.locals) s4) E s3) E s2:=by
 refine wpAny_newObj_type (wpAny_newFunctionEnv lc.cells (by intro y hy;simp at hy) (fun h1 hns1 hsb1=>?_) lc.kind)
 dsimp only at hns1 hsb1 ⊢
 generalize hG:s2.heap.push { cls:=.type "list",dict:=none,data:=.seq ([]:List Value).toArray }=G at hns1 hsb1 ⊢
 have hC:G.objs.size=s2.heap.objs.size+1:=by rw[<- hG,xcu]
 have hCle:s2.heap.objs.size<=G.objs.size:=by omega
 have hDC:s2.heap.objs.size≠G.objs.size:=by omega
 have hfl:∀b∈fp,b<s2.heap.objs.size:=fun b hb=>by obtain⟨o,e,_⟩:=T.obj 0 _ st2 b hb;exact xam e
 have old:∀b o,s2.heap.get? b=some o->h1.get? b=some o:=fun b o e=>by
  have lt:=xam e
  refine hsb1.extBut b o (xa6 (xan lt hCle)) (xad _ ?_)
  rw[<- hG];exact xad _ e
 have hacc:h1.get? s2.heap.objs.size=some (LCg.lst []):=by
  refine hsb1.extBut _ _ hDC (xad _ ?_)
  rw[<- hG];exact xav _ rfl
 have dl:∀(us:List Value) v,(LCg.lst us).data≠.cell v:=fun us v z=>by
  have z':Data.seq us.toArray us.length=Data.cell v:=z
  cases z'
 have I3:=S6 (h1:=h1) (tk:=s2.toks+([]:List (Str×Value)).length) I2 lc f2 hfl hCle (xag _) hDC old hns1 hacc (dl [])
 have fpY:∀{us:List Value} {H':Hp},(∀b∈fp,H' b=none)->∀b∈fp,fU (c4 X scope NY s2 H2 G.objs.size fp) [(s2.heap.objs.size,LCg.lst us)] H' b:=fun {us H'} hn b hb=>by
  have lt:=hfl b hb
  have okY:=I3.ok
  refine⟨hn b hb,(okY.exf b hb).1,okY.exfs b hb,.inl hb,(okY.exf b hb).2,fun p hp=>?_⟩
  have e:p=(s2.heap.objs.size,LCg.lst us):=by simpa [c4] using hp
  subst e
  exact xcm lt
 obtain⟨hg,ht,he⟩:=hb s2 H2 G.objs.size fp lc.nd
 have loop:∀s3:Shared,s3={ s2 with heap:=h1,toks:=s2.toks+([]:List (Str×Value)).length }->
   codeAny (model X.prog X.w) X.A (.compLoop (.ListComp elt [⟨tg,iter,ifs,0⟩] scope pos) 0 (.ref it) (.ref s2.heap.objs.size) (compEnvC scope (mZ X.env scope.names) G.objs.size X.env)) (RR (.ref s2.heap.objs.size) G.objs.size) s3:=by
  rintro s3 rfl
  refine S4 (fun n s'=>∃i H' ys us,aD (c4 X scope NY s2 H2 G.objs.size fp) [(s2.heap.objs.size,LCg.lst us)] (List.replicate k none++σ) H' s'/\aP ys us/\tn i s'.heap/\(∀b∈fp,H' b=none)/\W i n ys H') ?_ m0
   ⟨0,H2,[],[],I3,.nil,T.keep _ _ _ st2 fun b _ o e=>old b o e,fun b hb=>(f2 b hb).1,w0⟩
  rintro n s3 ⟨i,H3,ys,us,I3,rv,st3,fr3,w3⟩ E'
  obtain⟨hsz,hturn⟩:=turn i n ys H3 w3
  rcases hturn with⟨stop,qn⟩|⟨go,N,hN,step⟩
  ·refine aJ (T.done (c4 X scope NY s2 H2 G.objs.size fp) rfl rfl rfl hc i _ s3 _ H3 E' I3 (fpY fr3) st3 stop) fun r s4 ⟨hr,I4⟩=>?_
   subst hr
   obtain⟨m4,hn4,_⟩:=I4.loc
   exact fin _ _ H3 s4 ys m4 hCle (I4.pin (s2.heap.objs.size,LCg.lst us) (by simp)).2.1 I4.free hDC hn4 (S7 I2 f2 hCle (xag _) I4 rv (xcb hsz)) qn
  ·refine aJ (T.item (c4 X scope NY s2 H2 G.objs.size fp) rfl rfl rfl hc i _ s3 _ H3 E' I3 (fpY fr3) st3 go) fun r s4 ⟨u,hr,h4⟩=>?_
   subst hr
   refine aJ h4 fun _ s5 ⟨x,H5,I5,r5,y5,st5,fr5⟩=>?_
   have I5':=I5.pinned (fpY fr5) (T.obj _ _ st5)
   refine vL (hg _ s5 _ H5 x u _ I5' r5 (step x H5 y5)) fun _ s6 ⟨σ6,H6,I6,sub6,q6⟩=>?_
   have keep:∀{σ7:St} {H7:Hp} {s7:Shared},aD (c4 X scope NY s2 H2 G.objs.size fp) ([(s2.heap.objs.size,LCg.lst us)]++o9 fp s5.heap) σ7 H7 s7->tn (i+1) s7.heap/\(∀b∈fp,H7 b=none):=fun {σ7 H7 s7} I7=>by
    refine⟨T.keep _ _ _ st5 fun b hb o e=>(I7.pin (b,o) (xbb _ (xbb _ (rD hb e)))).1,fun b hb=>?_⟩
    obtain⟨o,e,d⟩:=T.obj _ _ st5 b hb
    exact(I7.pin (b,o) (xbb _ (xbb _ (rD hb e)))).2.1
   refine vL (ht _ s6 σ6 H6 _ I6 q6) fun ok s7 ⟨H7,I7,q7⟩=>?_
   cases ok with
   |false=>
    rw[xak xa4] at q7 ⊢
    obtain⟨m',hm,w7⟩:=hN _ _ q7
    obtain⟨k1,k2⟩:=keep I7
    exact⟨m',hm,i+1,H7,ys,us,(I7.weak (by rw[I7.len,I5.len]) sub6.2).unpinned,rv,k1,k2,w7⟩
   |true=>
    rw[xal rfl] at q7 ⊢
    refine vL (he _ s7 σ6 H7 _ I7 q7) fun y s8 ⟨v,H8,I8,r8,q8⟩=>?_
    obtain⟨m',hm,w8⟩:=hN _ _ q8
    obtain⟨k1,k2⟩:=keep I8
    obtain⟨pD,nD,neD,nfD,dD⟩:=I8.pin (s2.heap.objs.size,LCg.lst us) (by simp)
    have hul:us.toArray.size<=sizeLine:=by rw[xaj,<- rv.length];exact xcb hsz
    refine append_at pD (fun h9 sb9 hD9=>?_) hul
    have I8':aD (c4 X scope NY s2 H2 G.objs.size fp) [] (List.replicate k none++σ) H8 s8:=(I8.weak (by rw[I8.len,I5.len]) sub6.2).pins_of fun p hp=>xaq hp (by simp)
    have hDfp:s2.heap.objs.size∉fp:=fun z=>xbq _ (hfl _ z)
    have I9:aD (c4 X scope NY s2 H2 G.objs.size fp) [] (List.replicate k none++σ) H8 { s8 with heap:=h9 }:=
     I8'.turned (t':=s8.toks) (it:=s2.heap.objs.size) (fun b o hb e=>(sb9.2 b hb).trans e) nD neD (.inr (xag _)) (fun x c e z=>by
      obtain⟨v',o',e1,e2⟩:=I8.cell x c e
      rw[z,pD] at e1
      have e1':LCg.lst us=o':=xaw e1
      rw[<- e1'] at e2
      exact dl us v' e2) (fun p hp=>xaq hp (by simp[c4]))
    refine⟨m',hm,i+1,H8,ys++[v],us++[y],I9.pins_of fun p hp=>?_,rv.append (.cons r8 .nil),T.keep _ _ _ k1 fun b hb o e=>(sb9.2 b fun z=>hDfp (z▸hb)).trans e,k2,w8⟩
    have e:p=(s2.heap.objs.size,LCg.lst (us++[y])):=by simpa using hp
    subst e
    exact⟨hD9.trans (congrArg some (LCg.lst_snoc us y)),nD,neD,nfD,dl _⟩
 exact codeAny_compStart_list (loop _ rfl) (T.self _ 0 _ _ _ (T.keep _ _ _ st2 fun b _ o e=>old b o e) (loop _ rfl))
section
variable{X:Cx}{tg elt iter:Expr}{ifs:List Expr}{scope:Scope}{pos:Pos}{NY:List Str}{k:Nat}{wi:TI}{g:TG}{tc:TT}{te:TE}
theorem S9(hc:X.calm=true)(lc:LC X k scope NY)(hi:PI X tg iter wi)
  (hb:∀(s₀:Shared) (H₀:Hp) (C:Addr) (ex:List Addr),NY.Nodup->PG (c4 X scope NY s₀ H₀ C ex) tg g/\jT (c4 X scope NY s₀ H₀ C ex) ifs tc/\PE (c4 X scope NY s₀ H₀ C ex) elt te)
  (hs:∀x,foldedSetIterable iter X.env x=pure x:=by intro _;rfl):PE X (.ListComp elt [⟨tg,iter,ifs,0⟩] scope pos) (tLC k wi g tc te):=by
 intro pins s σ H Q I h
 rw[eval_ListComp]
 refine wpAny_comprehension_free (use:=none) rfl hs (SY fun x hx e=>I.ok.has x.1 (lc.free x hx e)) lc.kind lc.names (aJ (hi pins s σ H _ I h) fun v s1 h1=>aJ h1 fun itv s2 h2=>?_)
 obtain⟨it,fp,tn,J,H2,e,I2,T,st2,f2,W,⟨m0,w0⟩,turn⟩:=h2
 subst e
 refine S8 (RR:=fun acc C=>compPost (model X.prog X.w) X.A X.xe none (EP X pins σ Q) acc C) hc lc hb I2 T st2 f2 w0 turn fun C D H4 s4 ys m hC nD nC hDC hn I4 q=>?_
 refine⟨m,hn,fun h' sb=>?_⟩
 have hCn:aG H4 D (.lst ys) C=none:=by rw[aH (xay hDC)];exact nC
 obtain⟨f0,f1,f2',f3,f4,f5⟩:=I2.fpOk (H':=aG H4 D (.lst ys)) hC hCn
 exact⟨.ref D,_,I4.turned (t':=s4.toks) (fun b o hb e=>(sb.2 b hb).trans e) f0 f1 f3 f4 f5,rfl,q D nD⟩
end
end L2
namespace L2
open PySem.Spec PyProof.Rows
def Sm(i:Int):Prop:=i.natAbs<2^4000
theorem Sm.of{i:Int}{n:Nat}(h:i.natAbs<=n)(hn:n<2^4000:=by decide +kernel):Sm i:=xbf h hn
theorem BB{n k:Nat}(hk:0<k)(h:n<2^k):n.log2<k:=by
 rcases Nat.eq_zero_or_pos n with h0|hp
 ·rw[h0];simpa using hk
 ·exact(Nat.log2_lt (xcm hp)).mpr h
theorem Sm.bits{i:Int}(h:Sm i):Builtin.Int.intBits i<=4000:=by
 unfold Builtin.Int.intBits
 split
 ·exact xbc _
 ·have q:i.natAbs.log2<4000:=BB (by decide) h
  omega
theorem Sm.mulOk{i j:Int}(a:Sm i)(b:Sm j):IntMulOk i j:=by
 have h1:=a.bits
 have h2:=b.bits
 unfold IntMulOk
 intro z
 simp only[xap,decide_eq_true_eq,Builtin.Int.intTooBig] at z
 have e:=z.2
 have l:(bitsLine:Int)=134217728:=by decide
 rw[l] at e
 omega
section
variable{X:Cx}
theorem TB:bD X (binaryOp .Mult) (rI (fun i j=>Sm i/\Sm j) fun i j=>.int (i*j)):=lA fun _ _ _ _ _ _ _ hc q=>mul_int q (hc.1.mulOk hc.2)
theorem TC:bD X (compareOp .Is) (fun x y H Q=>∃a b,x=.bl a/\y=.bl b/\Q (.bl (a==b)) H):=by
 intro pins s σ H x y v u Q I rx ry h
 obtain⟨a,b,rfl,rfl,q⟩:=h
 cases rx
 cases ry
 exact is_bool (pA I q rfl)
theorem TD:bD X (compareOp .IsNot) (fun x y H Q=>∃a b,x=.bl a/\y=.bl b/\Q (.bl (a != b)) H):=by
 intro pins s σ H x y v u Q I rx ry h
 obtain⟨a,b,rfl,rfl,q⟩:=h
 cases rx
 cases ry
 exact isnot_bool (pA I q rfl)
def TF(K:xFg)(n:Nat)(t:iU):TG:=fun v σ H Q=>∃a xs,v=.ref a/\aY K H a xs/\xs.length=n/\t xs σ H Q
theorem TH{es:List Expr}{k:Nat}{t:iU}{n:Nat}{pos:Pos}(hc:X.calm=true)(h:mS X es t)
  (hn:(assignEach es X.env).length=n:=by rfl) (hst:(assignEach es X.env).findIdx? (·.1)=none:=by rfl):PG X (.Tuple es k pos) (TF X.K n t):=by
 intro pins s σ H v u Q I r hw
 obtain⟨a,xs,e1,hq,hl,hw⟩:=hw
 subst e1
 cases r
 obtain⟨its,rv,pl,hz⟩:=I.list hq
 have hsz:(assignEach es X.env).length=its.toArray.size:=by simp[hn,<- hl,rv.length]
 rw[assign_Tuple]
 refine xab (wpAny_standAt ?_)
 unfold unpack
 rw[hsz,hst]
 refine xab (wpAny_holding (PySem.W.kun_itemsOf (I.ok.hd hc) pl.isList fun h' hx=>?_))
 have I1:aD X pins σ H { s with heap:=h' }:=I.kept (t':=s.toks) fun b o e=>hx b o (xa6 (xam e)) e
 exact h pins _ σ H xs _ Q I1 (by simpa using rv) hw
def pF(lo st:Int)(n:Nat):It:=⟨fun i _=>i<n,fun i H x H'=>H'=H/\x=.int (lo+i*st),fun i _=>n<=i⟩
theorem TJ{P:Program}{w:World}{K:xFg}{tg:Expr}(it:Addr)(lo c:Int)(n:Nat):kG P w K tg (pF lo c n) [it] it (fun i h=>IsRangeIter h it (lo+(i:Nat)*c) ((n:Int)-(i:Nat)) c) where
 mem:=by simp
 obj:=fun i h st b hb=>by
  have e:b=it:=by simpa using hb
  subst e
  exact⟨_,st,fun v z=>by
   have z':Data.fields _=Data.cell v:=z
   cases z'⟩
 keep:=fun i h h' st k=>k it (by simp) _ st
 item:=by
  intro X hP hw hK hc i pins s σ H E I hf st hg
  subst hP hw hK
  obtain⟨f0,f1,f2,f3,f4,f5⟩:=hf it (by simp)
  have W:=Walks.range (prog:=X.prog) (w:=X.w) (A:=X.A) (I.ok.hd hc) it lo c n
  refine W.item i s _ _ hg st fun v h' tk hv st' kk=>?_
  obtain⟨t,rfl⟩:=hv
  have I1:aD X pins σ H { s with heap:=h',toks:=tk }:=I.turned (fun b o hb e=>kk b o (by simpa using hb) e) f0 f1 f3 f4 f5
  exact⟨_,rfl,o7 (s:={ s with heap:=h',toks:=tk }) (n:="range_iterator") st' rfl rfl (by decide) ⟨.int (lo+i*c),H,I1,⟨t,rfl⟩,⟨rfl,rfl⟩,st',fun b hb=>(hf b hb).1⟩⟩
 done:=by
  intro X hP hw hK hc i pins s σ H E I hf st hg
  subst hP hw hK
  obtain⟨f0,f1,f2,f3,f4,f5⟩:=hf it (by simp)
  exact wpAny_pyNext_range_end (I.ok.hd hc) st (by have:n<=i:=hg;omega) fun h' eb=>⟨rfl,I.turned (t':=s.toks) (fun b o hb e=>eb b o hb e) f0 f1 f3 f4 f5⟩
 self:=fun _ _ _ _ _ st h=>wpAny_pyIter_rangeiter st h
theorem TK{lo c:Int}{n:Nat}{g:TG}{tb:TS}{D:fM}{σ:St}{H:Hp}(Pv:Nat->St->Hp->Prop)(h0:Pv 0 σ H)
  (hs:∀i σ H,i<n->Pv i σ H->g (.int (lo+i*c)) σ H fun σ2 H2=>tb { D with nx:=Pv (i+1),ct:=Pv (i+1),bk:=D.nx } σ2 H2) (hd:∀σ H,Pv n σ H->D.nx σ H) :
  ∃W:Nat->Nat->St->Hp->Prop,(∃m,W 0 m σ H)/\∀i m σ H,W i m σ H->
   ((pF lo c n).stop i H/\D.nx σ H)\/((pF lo c n).go i H/\∃N:St->Hp->Prop,(∀σ' H',N σ' H'->∃m',m'<m/\W (i+1) m' σ' H')/\∀x H',(pF lo c n).yld i H x H'->g x σ H' fun σ2 H2=>tb { D with nx:=N,ct:=N,bk:=D.nx } σ2 H2):=by
 refine⟨fun i m σ H=>m=n-i/\i<=n/\Pv i σ H,⟨n,by simp,xbc _,h0⟩,?_⟩
 rintro i m σ H ⟨rfl,hi,p⟩
 by_cases hlt:i<n
 ·refine .inr ⟨hlt,Pv (i+1),fun σ' H' p'=>⟨n-(i+1),by omega,rfl,hlt,p'⟩,fun x H' y=>?_⟩
  obtain⟨e,y⟩:=y
  subst e y
  exact hs i σ _ hlt p
 ·have e:i=n:=by omega
  subst e
  exact .inl ⟨xag _,hd σ H p⟩
end
end L2
namespace L2
open PySem.Spec PyProof.Rows
theorem TL{H:Hp}{p:Addr}(h:H p=none)(o:HO):Same H (aG H p o):=fun b u q=>by rw[aH (bC q h)];exact q
theorem Same.tup{K:xFg}{H H':Hp}{a:Addr}{xs:List V}(e:Same H H')(h:bG K H a xs):bG K H' a xs:=by
 rcases h with (h|⟨o,h⟩)|h
 ·exact .inl (.inl (e _ _ h))
 ·exact .inl (.inr ⟨o,e _ _ h⟩)
 ·exact .inr h
theorem small{n:Nat}(h:n<=1000):n<=sizeLine:=xcb (SX h)
section
variable{K:xFg}{a:Addr}{xs:List V}{H:Hp}
theorem lgo(h:aY K H a xs):(mT K a).stop xs.length H/\∀i,i<xs.length->(mT K a).go i H/\∀v H',(mT K a).yld i H v H'->H'=H/\xs[i]? = some v:=
 ⟨⟨xs,h,xag _⟩,fun i hi=>⟨⟨xs,xs[i],h,by simp[hi]⟩,fun v H' y=>⟨y.1,y.2 xs h⟩⟩⟩
theorem tgo(h:bG K H a xs):(mU K a).stop xs.length H/\∀i,i<xs.length->(mU K a).go i H/\∀v H',(mU K a).yld i H v H'->H'=H/\xs[i]? = some v:=
 ⟨⟨xs,h,xag _⟩,fun i hi=>⟨⟨xs,xs[i],h,by simp[hi]⟩,fun v H' y=>⟨y.1,y.2 xs h⟩⟩⟩
end
end L2
namespace L2
open PySem.Spec PyProof.Rows
structure gK(B:Heap)(l:List Env)(x:Addr)(cls:Value)(dct:Option Addr)(fl:Value)(h:Heap):Prop where
 stays:B.StaysIn h
 new:B.get? x=none
 frames:h.FunFrames B l
 obj:∃ox vs T oT ts,h.get? x=some ox/\ox.cls=cls/\ox.dict=dct/\ox.data=.fields vs/\vs[1]? = some (.ref T)/\B.get? T=none/\T≠x/\h.get? T=some oT/\oT.data=.fields ts/\ts[3]? = some fl
theorem TM(o:Obj)(f:Array Value->Array Value):(o.mapFields f).dict=o.dict:=by
 obtain⟨c,d,dt,sl⟩:=o;cases dt<;>rfl
section
variable{M:Model}{A:Around}{E:Value->Shared->Prop}{s:Shared}{B:Heap}{env:Env}{outer:List Env}{L x:Addr}{Q:Unit->Shared->Prop}
theorem lJ{h:Heap}{y:Addr}{oy:Obj}{ws:Array Value}(ey:h.get? y=some oy)(dy:oy.data=.fields ws){b:Addr}{o:Obj}(eb:h.get? b=some o)(nf:∀us,o.data≠.fields us):b≠y:=fun z=>by
 rw[z,ey] at eb
 have z':oy=o:=xaw eb
 rw[<- z'] at nf
 exact nf ws dy
theorem BE{ox:Obj}{vs:Array Value}{head:Value}{hadNext:Bool}(hfr:A.frames=some (env::outer))(hl:s.heap.FunFrames B (env::outer))(hf:env.frame=some L)
  (ex:s.heap.get? x=some ox) (hB:B.StaysIn s.heap) (nx:B.get? x=none) (dx:ox.data=.fields vs) (sz:1<vs.size)
  (k:∀h',gK B (env::outer) x ox.cls ox.dict (rawInt L) h'->s.heap.UpToSlots h'->Q () { s with heap:=h' }) :
  wpAny M A (do let a<-frameOf env;let pl<-entryPlaceOf L hadNext;let b<-EntryCells.newEntry head a .none (rawInt L) .none pl;setField (.ref x) 1 b) Q E s:=by
 have nfr:x∉(env::outer).filterMap (·.frame):=fun hm=>by
  obtain⟨_,o,ho,nf⟩:=hl.mem hm
  exact lJ ex dx ho nf rfl
 refine xab (wpAny_frameOf_fun hfr hl hf fun g1 so=>xab (wpAny_entryPlaceOf fun pl hpl=>?_))
 unfold EntryCells.newEntry newFields
 refine xab (wpAny_newObj_type ?_ (hpl.sizeOk5 _ _ _ _ _))
 have ex1:g1.get? x=some ox:=(so.2.1 x nfr).trans ex
 have B1:B.StaysIn g1:=fun b o eb=>(so.2.1 b fun hm=>by rw[(hl.mem hm).1] at eb;cases eb).trans (hB b o eb)
 generalize eo:({ cls:=.type "traceback",dict:=none,data:=.fields ([head,.ref L,.none,rawInt L,.none]++(if pl.isEmpty then List.replicate 6 Value.none else pl)).toArray }:Obj)=ob
 have ex2:=xad (h:=g1) ob ex1
 refine wpAny_setField ex2 dx sz (k _ ?_ ?_)
 ·have Tx:g1.objs.size≠x:=xcm (xam ex1)
  have d3:=Obj.data_mapFields dx (·.setIfInBounds 1 (Value.ref g1.objs.size))
  have e3:=Heap.get?_update_self (Obj.mapFields (·.setIfInBounds 1 (Value.ref g1.objs.size))) ex2 (Obj.isFreed_of_fields d3)
  have freeOb:ob.isFreed=false:=by rw[<- eo];rfl
  have T3:=(xbj (g1.push ob) (Obj.mapFields (·.setIfInBounds 1 (Value.ref g1.objs.size))) (xay Tx)).trans (xav g1 freeOb)
  refine⟨fun b o eb=>?_,nx,hl.of_keeps fun b o eb nf=>?_,_,_,g1.objs.size,ob,_,e3,Obj.cls_mapFields _ _,TM _ _,d3,by simp[sz],B1.fresh,Tx,T3,by rw[<- eo],?_⟩
  ·rw[xbj _ _ (fun z=>by rw[<- z,nx] at eb;cases eb)]
   exact xad _ (B1 b o eb)
  ·obtain⟨sl,q⟩:=so.2.2 b o eb
   refine⟨{ o with slots:=sl },?_,rfl⟩
   rw[xbj _ _ (xay (lJ ex dx eb nf))]
   exact xad _ q
  ·rcases hpl with rfl|⟨_,_,_,_,_,_,_,rfl⟩<;>simp
 ·intro b o eb nf
  obtain⟨sl,q⟩:=so.2.2 b o eb
  refine⟨sl,?_⟩
  rw[xbj _ _ (xay (lJ ex dx eb nf))]
  exact xad _ q
theorem TN{ox:Obj}{vs:Array Value}(hfr:A.frames=some (env::outer))(hl:s.heap.FunFrames B (env::outer))(hf:env.frame=some L)
  (ex:s.heap.get? x=some ox) (hB:B.StaysIn s.heap) (nx:B.get? x=none) (dx:ox.data=.fields vs) (v1:vs[1]? = some .none)
  (k:∀h',gK B (env::outer) x ox.cls ox.dict (rawInt L) h'->s.heap.UpToSlots h'->Q () { s with heap:=h' }):wpAny M A (noteFrame (.ref x) env) Q E s:=by
 unfold noteFrame
 simp only[hf]
 refine xab (wpAny_field ex dx v1 ?_)
 rw[xak (show ¬((Value.none != Value.none)=true) by decide)]
 exact BE hfr hl hf ex hB nx dx (xbr.mp v1).1 k
theorem BF{cls:Value}{dct:Option Addr}(hfr:A.frames=some (env::outer))(hf:env.frame=some L)(F:gK B (env::outer) x cls dct .none s.heap)
  (k:∀h',gK B (env::outer) x cls dct (rawInt L) h'->s.heap.UpToSlots h'->Q () { s with heap:=h' }):wpAny M A (noteFrame (.ref x) env) Q E s:=by
 obtain⟨ox,vs,T,oT,ts,ex,hc,hd,dx,v1,nT,Tx,eT,dT,t3⟩:=F.obj
 subst hc hd
 unfold noteFrame
 simp only[hf]
 refine xab (wpAny_field ex dx v1 ?_)
 rw[xal (show (Value.ref T != Value.none)=true by simp)]
 refine xab (wpAny_field eT dT t3 ?_)
 rw[xak (show ¬((Value.none==rawInt L)=true) by simp[rawInt])]
 refine xab (wpAny_setField eT dT (xbr.mp t3).1 ?_)
 have oth:∀b,b≠T->(s.heap.update T (Obj.mapFields (·.setIfInBounds 3 Value.none))).get? b=s.heap.get? b:=fun b hb=>xbj _ _ (xay hb)
 have up:s.heap.UpToSlots (s.heap.update T (Obj.mapFields (·.setIfInBounds 3 Value.none))):=fun b o eb nf=>⟨o.slots,(oth b (lJ eT dT eb nf)).trans eb⟩
 refine BE hfr (F.frames.of_keeps fun b o eb nf=>⟨o,(oth b (lJ eT dT eb nf)).trans eb,rfl⟩) hf ((oth x (xay Tx)).trans ex) (fun b o eb=>(oth b fun z=>by rw[z,nT] at eb;cases eb).trans (F.stays b o eb)) F.new dx
  (xbr.mp v1).1 fun h' f u=>k h' f (up.trans u)
theorem rK{l:List Env}{cls fl:Value}{dct:Option Addr}(F:gK B l x cls dct fl s.heap)
  (k:∀h',gK B l x cls dct .none h'->s.heap.UpToSlots h'->Q () { s with heap:=h' }):wpAny M A (setFlight (.ref x) none) Q E s:=by
 obtain⟨ox,vs,T,oT,ts,ex,hc,hd,dx,v1,nT,Tx,eT,dT,t3⟩:=F.obj
 have sz:3<ts.size:=(xbr.mp t3).1
 unfold setFlight
 refine xab (wpAny_field ex dx v1 ?_)
 rw[xal (show (Value.ref T != Value.none)=true by simp)]
 have oth:∀b,b≠T->(s.heap.update T (Obj.mapFields (·.setIfInBounds 3 ((none:Option Addr).elim Value.none fun f=>rawInt f)))).get? b=s.heap.get? b:=fun b hb=>xbj _ _ (xay hb)
 refine wpAny_setField eT dT sz (k _ ⟨fun b o eb=>(oth b fun z=>by rw[z,nT] at eb;cases eb).trans (F.stays b o eb),F.new,F.frames.of_keeps fun b o eb nf=>⟨o,(oth b (lJ eT dT eb nf)).trans eb,rfl⟩,
  ox,vs,T,_,_,(oth x (xay Tx)).trans ex,hc,hd,dx,v1,nT,Tx,Heap.get?_update_self _ eT (Obj.isFreed_of_fields (Obj.data_mapFields dT _)),Obj.data_mapFields dT _,by simp[sz]⟩
  fun b o eb nf=>⟨o.slots,(oth b (lJ eT dT eb nf)).trans eb⟩)
theorem gK.out{cls:Value}{dct:Option Addr}{fl:Value}{h:Heap}(F:gK B (env::outer) x cls dct fl h):gK B outer x cls dct fl h:=⟨F.stays,F.new,F.frames.2.2,F.obj⟩
end
end L2
namespace L2
open PySem.Spec PyProof.Rows
theorem cW.there{P:Program}{w:World}{H:Hp}{h:Heap}{a:Addr}{o:HO}(x:cW P w H h a o):∃ob,h.get? a=some ob:=by
 cases o with
 |lst xs=>obtain⟨_,_,_,_,e⟩:=x;exact⟨_,e⟩
 |tup xs=>obtain⟨_,_,_,ob,e,_⟩:=x;exact⟨ob,e⟩
 |dK kvs=>obtain⟨_,_,_,_,o,_,_,e,_⟩:=x;exact⟨o,e⟩
 |dT kvs=>obtain⟨_,_,_,_,o,_,_,e,_⟩:=x;exact⟨o,e⟩
 |set S n=>obtain⟨o,_,_,_,e,_⟩:=x;exact⟨o,e⟩
 |ins C dx fs=>obtain⟨_,_,_,e,_⟩:=x;exact⟨_,e⟩
 |own y=>exact x
 |xd fs=>obtain⟨_,⟨o,_,_,e,_⟩,_⟩:=x;exact⟨o,e⟩
 |rng lo hi=>obtain⟨_,_,_,e⟩:=x;exact⟨_,e⟩
 |frz ob u=>obtain⟨e,_⟩:=x;exact⟨_,e⟩
 |tbl ps=>exact⟨_,(show h.get? a=some _ from x)⟩
 |met f y=>exact⟨_,(show h.get? a=some _ from x)⟩
 |ext φ=>exact x.2.1
structure InB(B:Heap)(fs:List Addr)(h0:Heap)(H':Hp)(h':Heap):Prop where
 old:∀b o,h0.get? b=some o->b∉fs->∀o',h'.get? b=some o'->B.get? b=some o'
 trk:∀b u,H' b=some u->∀o',h'.get? b=some o'->B.get? b=some o'
def bM(P:Program)(w:World):dC:=fun outer H s E e s'=>∃(x C:Addr) (dct:Option Addr) (H':Hp) (B:Heap),e=.ref x/\s'.os=s.os/\AllBare s'.gens/\Un (bV outer) [] H H' s.heap s'.heap/\bY P w H' s'.heap/\
 gK B outer x (.ref C) dct .none s'.heap/\InB B (bV outer) s.heap H' s'.heap/\H' x=none/\E (.ref C) dct H'
section
variable{X:Cx}{pins:List (Addr×Obj)}{σ:St}{H H':Hp}{s s':Shared}{x C:Addr}{B:Heap}{E:XK}{dct:Option Addr}{M:Model}{EE:Value->Shared->Prop}
theorem BH{env:Env}{outer:List Env}{L:Addr}(hf:env.frame=some L):bV (env::outer)=L::bV outer:=by
 unfold bV;rw[xb8,hf]
theorem TQ{h':Heap}{args:List Value}{tk:Nat}(I:aD X pins σ H s)(hst:X.stack=X.env::X.outer)(hf:X.env.frame=some X.env.locals)(hex:X.ex=[])(m:Heap.MadeExcOf s.heap h' x (.ref C) args)(hE:E (.ref C) none H) :
  wpAny M X.A (leaving X.env (.ref x)) (fun _ s2=>bM X.prog X.w X.outer X.H₀ X.s₀ E (.ref x) s2) EE { s with heap:=h',toks:=tk }:=by
 have stk:=I.stack
 have hfr:X.A.frames=some (X.env::X.outer):=by rw[<- hst];exact I.ok.frames
 rw[hst] at stk
 have fc:bV (X.env::X.outer)=X.env.locals::X.fs:=BH hf
 have hin:∀env∈(X.env::X.outer),∀b,env.frame=some b->b∈bV (X.env::X.outer):=fun env he b hb=>List.mem_filterMap.mpr ⟨env,he,hb⟩
 generalize eB:PySem.W.hideAll s.heap (bV (X.env::X.outer))=B
 have inB:∀b o,s.heap.get? b=some o->b∉bV (X.env::X.outer)->B.get? b=some o:=fun b o e n=>by rw[<- eB];exact PySem.W.hideAll_get _ e n
 have ofB:∀b o,B.get? b=some o->s.heap.get? b=some o:=fun b o e=>by rw[<- eB] at e;exact PySem.W.of_hideAll _ e
 have fl0:s.heap.FunFrames B (X.env::X.outer):=by rw[<- eB];exact PySem.W.funFrames_hide stk hin
 have nx:B.get? x=none:=by
  cases q:B.get? x with
  |none=>rfl
  |some o=>have:=ofB x o q;rw[m.new] at this;cases this
 obtain⟨t,et,_,_⟩:=m.there
 have tfree:∀b u,H b=some u->b∉bV (X.env::X.outer):=fun b u e hb=>by
  have:=I.stkFree b (by rw[hst];exact hb)
  rw[e] at this;cases this
 have hHx:H x=none:=by
  cases q:H x with
  |none=>rfl
  |some u=>
   obtain⟨ob,e⟩:=(I.hok x u q).there
   rw[m.new] at e;cases e
 unfold leaving
 refine xab (TN (s:={ s with heap:=h',toks:=tk }) hfr (fl0.of_keeps fun b o e _=>⟨o,m.keeps b o e,rfl⟩) hf et (fun b o e=>m.keeps b o (ofB b o e)) nx rfl rfl fun h1 F1 u1=>rK F1 fun h2 F2 u2=>?_)
 have up:s.heap.UpToSlots h2:=(Heap.UpToSlots.of_keeps m.keeps).trans (u1.trans u2)
 have keep2:∀b o,s.heap.get? b=some o->b∉bV (X.env::X.outer)->h2.get? b=some o:=fun b o e n=>F2.stays b o (inB b o e n)
 have below:∀b o,X.s₀.heap.get? b=some o->b∉X.fs->b∉bV (X.env::X.outer):=fun b o e nb hb=>by
  rw[fc] at hb
  rcases xa1.mp hb with z|z
  ·exact xaq (xan (xam e) I.ok.above) (by rw[z];exact xbq _)
  ·exact nb z
 have noex:∀b,b∉X.ex:=fun b z=>by rw[hex] at z;cases z
 have slot2:∀b o,s.heap.get? b=some o->b∈X.fs->∃sl,h2.get? b=some { o with slots:=sl }:=fun b o e hb=>by
  obtain⟨_,o1,e1,nf⟩:=stk.mem (b:=b) (by show b∈bV (X.env::X.outer);rw[fc];exact xas _ hb)
  rw[e] at e1;cases e1
  exact up b o e nf
 refine⟨x,C,none,H,B,rfl,I.os,I.bare,⟨fun b o e n hb _=>keep2 b o (I.base.keep b o e n hb (noex b)) (below b o e hb),fun b o e n hb _=>?_,fun b o e n _=>I.base.free b o e n (noex b),fun b o e _=>?_,I.base.tups,I.base.frzs,I.base.tbls⟩,
  fun b u e=>(I.hok b u e).stay (fun c v hc q=>keep2 c v q ?_) (fun _ q=>q) fun _ _ q=>q,F2.out,⟨fun b o e nb o' e'=>?_,fun b u e o' e'=>?_⟩,hHx,hE⟩
 ·obtain⟨sl,e1⟩:=I.base.slot b o e n hb (noex b)
  obtain⟨sl2,e2⟩:=slot2 b _ e1 hb
  exact⟨sl2,e2⟩
 ·obtain⟨o1,e1⟩:=I.base.there b o e (noex b)
  by_cases hb:b∈X.fs
  ·obtain⟨sl2,e2⟩:=slot2 b _ e1 hb
   exact⟨_,e2⟩
  ·exact⟨o1,keep2 b o1 e1 (below b o e hb)⟩
 ·rcases hc with z|z
  ·rw[z];exact tfree b u e
  ·exact tfree c _ z
 ·obtain⟨o1,e1⟩:=I.base.there b o e (noex b)
  have q:=inB b o1 e1 (below b o e nb)
  rw[F2.stays b o1 q] at e'
  cases e';exact q
 ·obtain⟨o1,e1⟩:=(I.hok b u e).there
  have q:=inB b o1 e1 (tfree b u e)
  rw[F2.stays b o1 q] at e'
  cases e';exact q
theorem TR{e:Value}(I:aD X pins σ H s)(hst:X.stack=X.env::X.outer)(hf:X.env.frame=some X.env.locals)(hex:X.ex=[])(h:bM X.prog X.w X.stack H s E e s') :
  wpAny M X.A (leaving X.env e) (fun _ s2=>bM X.prog X.w X.outer X.H₀ X.s₀ E e s2) EE s':=by
 obtain⟨x,C,dct,H',B,rfl,ho,hg,un,hok,F,ib,nx,hE⟩:=h
 have stk:=I.stack
 have hfr:X.A.frames=some (X.env::X.outer):=by rw[<- hst];exact I.ok.frames
 rw[hst] at stk F ib un
 have fc:bV (X.env::X.outer)=X.env.locals::X.fs:=BH hf
 unfold leaving
 refine xab (BF hfr hf F fun h1 F1 u1=>rK F1 fun h2 F2 u2=>?_)
 have up:s'.heap.UpToSlots h2:=u1.trans u2
 have below:∀b o,X.s₀.heap.get? b=some o->b∉X.fs->b∉bV (X.env::X.outer):=fun b o e nb hb=>by
  rw[fc] at hb
  rcases xa1.mp hb with z|z
  ·exact xaq (xan (xam e) I.ok.above) (by rw[z];exact xbq _)
  ·exact nb z
 have inFs:∀b,b∈X.fs->b∈bV (X.env::X.outer):=fun b hb=>by rw[fc];exact xas _ hb
 have noex:∀b,b∉X.ex:=fun b z=>by rw[hex] at z;cases z
 have no0:∀b:Addr,b∉([]:List Addr):=fun b=>by simp
 have slot2:∀b o,s.heap.get? b=some o->H b=none->b∈X.fs->∃sl,h2.get? b=some { o with slots:=sl }:=fun b o e n hb=>by
  obtain⟨_,o1,e1,nf⟩:=stk.mem (b:=b) (inFs b hb)
  rw[e] at e1;cases e1
  obtain⟨sl,e2⟩:=un.slot b o e n (inFs b hb) (no0 b)
  obtain⟨sl2,e3⟩:=up b _ e2 nf
  exact⟨sl2,e3⟩
 have free1:∀b o,X.s₀.heap.get? b=some o->X.H₀ b=none->H b=none:=fun b o e n=>I.base.free b o e n (noex b)
 refine⟨x,C,dct,H',B,rfl,ho.trans I.os,hg,⟨fun b o e n hb _=>?_,fun b o e n hb _=>?_,fun b o e n _=>?_,fun b o e _=>?_,fun b xs q=>un.tups b xs (I.base.tups b xs q),fun b o u q=>un.frzs b o u (I.base.frzs b o u q),fun b ps q=>?_⟩,
  fun b u e=>(hok b u e).stay (fun c v hc q=>F2.stays c v ?_) (fun _ q=>q) fun _ _ q=>q,F2.out,⟨fun b o e nb o' e'=>?_,fun b u e o' e'=>?_⟩,nx,hE⟩
 ·have e1:=I.base.keep b o e n hb (noex b)
  have e2:=un.keep b o e1 (free1 b o e n) (below b o e hb) (no0 b)
  exact F2.stays b o (ib.old b o e1 (below b o e hb) o e2)
 ·obtain⟨sl,e1⟩:=I.base.slot b o e n hb (noex b)
  obtain⟨sl2,e2⟩:=slot2 b _ e1 (free1 b o e n) hb
  exact⟨sl2,e2⟩
 ·obtain⟨o1,e1⟩:=I.base.there b o e (noex b)
  exact un.free b o1 e1 (free1 b o e n) (no0 b)
 ·obtain⟨o1,e1⟩:=I.base.there b o e (noex b)
  obtain⟨o2,e2⟩:=un.there b o1 e1 (no0 b)
  by_cases hb:b∈X.fs
  ·have n:H b=none:=I.stkFree b (by rw[hst];exact inFs b hb)
   obtain⟨sl2,e3⟩:=slot2 b _ e1 n hb
   exact⟨_,e3⟩
  ·exact⟨o2,F2.stays b o2 (ib.old b o1 e1 (below b o e hb) o2 e2)⟩
 ·obtain⟨m1,e1⟩:=I.base.tbls b ps q
  obtain⟨m2,e2⟩:=un.tbls b _ e1
  exact⟨m1++m2,by rw[e2,Array.append_assoc]⟩
 ·rcases hc with z|z
  ·subst z;exact ib.trk c u e v q
  ·exact ib.trk c _ z v q
 ·obtain⟨o1,e1⟩:=I.base.there b o e (noex b)
  obtain⟨o2,e2⟩:=un.there b o1 e1 (no0 b)
  have q:=ib.old b o1 e1 (below b o e nb) o2 e2
  rw[F2.stays b o2 q] at e'
  cases e';exact q
 ·obtain⟨o1,e1⟩:=(hok b u e).there
  have q:=ib.trk b u e o1 e1
  rw[F2.stays b o1 q] at e'
  cases e';exact q
def iY(x C:Addr)(dct:Option Addr):HO:=.ext fun h=>∃o,h.get? x=some o/\o.cls=.ref C/\o.dict=dct/\PySem.W.notCls o=true
theorem BI{h3:Heap}{tk:Nat}(I:aD X pins σ H s)(ho:s'.os=s.os)(hg:AllBare s'.gens)(un:Un (bV X.stack) [] H H' s.heap s'.heap)(hok:bY X.prog X.w H' s'.heap)(F:gK B X.stack x (.ref C) dct .none h3)
  (ib:InB B (bV X.stack) s.heap H' s'.heap) (up:s'.heap.UpToSlots h3) (nx:H' x=none):aD X pins σ (aG H' x (iY x C dct)) { s' with heap:=h3,toks:=tk }:=by
 have stk:=I.stack
 have no0:∀b:Addr,b∉([]:List Addr):=fun b=>by simp
 have nex:∀b o,s.heap.get? b=some o->b∉bV X.stack->b≠x:=fun b o e nb z=>by
  obtain⟨o2,e2⟩:=un.there b o e (no0 b)
  have q:=ib.old b o e nb o2 e2
  rw[z,F.new] at q;cases q
 have nfx:∀b,b∈bV X.stack->b≠x:=fun b hb z=>by
  obtain⟨_,o1,e1,nf⟩:=F.frames.mem (b:=b) hb
  obtain⟨ox,vs,T,oT,ts,ex,_,_,dx,_⟩:=F.obj
  rw[z,ex] at e1;cases e1
  exact nf vs dx
 have ne:∀b o,s.heap.get? b=some o->b≠x:=fun b o e=>by
  by_cases hb:b∈bV X.stack
  ·exact nfx b hb
  ·exact nex b o e hb
 have hok3:bY X.prog X.w (aG H' x (iY x C dct)) h3:=fun b u e=>by
  by_cases hb:b=x
  ·subst hb
   rw[aU] at e;cases e
   obtain⟨ox,vs,T,oT,ts,ex,hc,hd,dx,_⟩:=F.obj
   have nc:PySem.W.notCls ox=true:=by unfold PySem.W.notCls;rw[dx]
   exact⟨⟨ox,ex,hc,hd,nc⟩,⟨ox,ex⟩,fun h1 h2 ⟨o,q,r⟩ k=>⟨o,k o q,r⟩⟩
  ·rw[aH hb] at e
   refine(hok b u e).stay (fun c v hc q=>F.stays c v ?_) (fun c q=>by rw[aH (bC q nx)];exact q) fun c xs q=>by rw[aH (bC q nx)];exact q
   rcases hc with z|z
   ·subst z;exact ib.trk c u e v q
   ·exact ib.trk c _ z v q
 have U:Un (bV X.stack) [] H (aG H' x (iY x C dct)) s.heap h3:=by
  refine⟨fun b o e n hb _=>?_,fun b o e n hb _=>?_,fun b o e n _=>?_,fun b o e _=>?_,fun b xs q=>?_,fun b o u q=>?_,fun b ps q=>?_⟩
  ·exact F.stays b o (ib.old b o e hb o (un.keep b o e n hb (no0 b)))
  ·obtain⟨sl,e1⟩:=un.slot b o e n hb (no0 b)
   obtain⟨_,o1,e2,nf⟩:=stk.mem (b:=b) hb
   rw[e] at e2;cases e2
   obtain⟨sl2,e3⟩:=up b _ e1 nf
   exact⟨sl2,e3⟩
  ·rw[aH (ne b o e)];exact un.free b o e n (no0 b)
  ·obtain⟨o2,e2⟩:=un.there b o e (no0 b)
   by_cases hb:b∈bV X.stack
   ·have n:H b=none:=I.stkFree b hb
    obtain⟨sl,e1⟩:=un.slot b o e n hb (no0 b)
    obtain⟨_,o1,e3,nf⟩:=stk.mem (b:=b) hb
    rw[e] at e3;cases e3
    obtain⟨sl2,e4⟩:=up b _ e1 nf
    exact⟨_,e4⟩
   ·exact⟨o2,F.stays b o2 (ib.old b o e hb o2 e2)⟩
  ·have z:=un.tups b xs q
   rw[aH (bC z nx)];exact z
  ·have z:=un.frzs b o u q
   rw[aH (bC z nx)];exact z
  ·obtain⟨more,z⟩:=un.tbls b ps q
   exact⟨more,by rw[aH (bC z nx)];exact z⟩
 have J:=I.call (g':=s'.gens) (t':=tk) (d':=s'.drawn) (ch:=[]) U hok3 hg (fun b z=>xaq z (no0 b))
 obtain⟨hh,g,d,t,os⟩:=s'
 have e:os=s.os:=ho
 subst e
 exact J
end
end L2
namespace L2
open PySem.Spec PyProof.Rows PySem.W
section
variable{prog:Program}{w:World}{A:Around}{E:Value->Shared->Prop}{s:Shared}{K:Frag}{x D:Addr}{ox:Obj}{od:Option Obj}{name:Str}{tk:Tok}
theorem TU{M:Model}{nameV:Value}{Q:Unit->Shared->Prop}(X:K.In s.heap)(I:InstAt s.heap x ox D od)(hb:mroIn K D (.type "BaseException")=some true)(hq:Q () s) :
  wpAny M A (checkBuiltinCall "BaseException.__getattribute__" ⟨[.ref x,nameV],[]⟩) Q E s:=by
 have hk:builtinKind "BaseException.__getattribute__"=some .slot:=by decide +kernel
 have hsp:splitId "BaseException.__getattribute__"=some ("BaseException","__getattribute__"):=by decide +kernel
 have ha:=F.args_bexc_ga (.ref x) nameV
 obtain⟨hh,g,d,t,os⟩:=s
 have L0:Looks M hh (isInstance (.ref x) (.type "BaseException")) true:=(I.type (M:=M)).andThen (looks_mroIn X hb)
 simp only[checkBuiltinCall,hk,hsp]
 refine xab (L0.at ?_)
 repeat (any_goals (first|assumption|wp_step))
theorem TV{R:Result->Shared->Prop}{g a:Value}(X:K.In s.heap)(I:InstAt s.heap x ox D od)(hb:mroIn K D (.type "BaseException")=some true)(hf:findObj K D od name=some (.bind g a))
  (h:wpAny (model prog w) A.in1 (call g [a,.ref x,.ref D]) (fun v s'=>R (.ok (.ret v)) s') (fun e s'=>R (.error e) s') s) :
  codeAny (model prog w) A (.call (.builtin "BaseException.__getattribute__") ⟨[.ref x,.str name tk],[]⟩) R s:=by
 refine codeAny_call_builtin F.attr_ValueError.ga.plain F.entry_bexc_ga (TU X I hb ?_)
 obtain⟨hh,gg,d,t,os⟩:=s
 have L0:=I.type (M:=model prog w)
 have L1:=looks_find (M:=model prog w) X I hf
 unfold Builtin.«object.__getattribute__»
 refine xab (wpAny_of_eq (a:=(Value.ref x,[Value.str name tk])) rfl ?_)
 refine xab (wpAny_of_eq (a:=name) rfl ?_)
 refine xab (L0.at (xab (L1.at ?_)))
 show wpAny _ _ (do ret (<- holding [a] (call g [a,Value.ref x,Value.ref D]))) _ _ _
 exact xab (wpAny_holding (wpAny_mono h (fun v s' q=>xar q) fun e s' q=>q))
theorem TW{a g:Value}(hc:(clsIn K D).isSome=true)(ha:findIn K (.ref D) name=some (some a))(hg:specialIn K a "__get__"=some (some g))(ht:takesIn K a=some true):findObj K D od name=some (.bind g a):=by
 obtain⟨cd,hc⟩:=xbv.mp hc
 unfold findObj
 rw[hc,xba,ha,xba]
 simp[hg,ht]
structure lK(K:Frag)(D:Addr):Prop where
 cls:(clsIn K D).isSome=true
 ga:findIn K (.ref D) "__getattribute__"=some (some (.builtin "BaseException.__getattribute__"))
 gh:findIn K (.ref D) "__getattr__"=some none
 base:mroIn K D (.type "BaseException")=some true
 obj:mroIn K D (.type "object")=some true
 ca:findIn K (.ref D) "__class__"=some (some (.builtin "object.__class__"))
 cg:specialIn K (.builtin "object.__class__") "__get__"=some (some (.builtin "getset_descriptor.__get__"))
 ct:takesIn K (.builtin "object.__class__")=some true
theorem TX{Q:Option Value->Shared->Prop}(c:lK K D)(X:K.In s.heap)(I:InstAt s.heap x ox D od)(h:Q (some (.ref D)) { s with toks:=s.toks+1 }) :
  wpAny (model prog w) A (getAttr? (.ref x) "__class__") Q E s:=by
 obtain⟨hh,gg,d,t,os⟩:=s
 have L0:=I.type (M:=model prog w)
 have L1:=looks_findIn (M:=model prog w) X c.ga
 have L2:=looks_findIn (M:=model prog w) X c.gh
 have hf:findObj K D od "__class__"=some (.bind (.builtin "getset_descriptor.__get__") (.builtin "object.__class__")):=TW c.cls c.ca c.cg c.ct
 have hx1:(onTheHeap (Value.ref D)&&Value.builtin "BaseException.__getattribute__"==Value.builtin "object.__getattribute__")=false:=by
  rw[show (Value.builtin "BaseException.__getattribute__"==Value.builtin "object.__getattribute__")=false by decide +kernel];rfl
 unfold getAttr? getAttrBy? getAttrBy
 refine xab (wpAny_mkText (xab (wpAny_attempt (wpAny_holding (xab (L0.at (xab (L1.at ?_))))))))
 dsimp only
 rw[hx1,xak xa4]
 unfold getAttrByItsOwn
 refine xab ?_
 show wpAny _ _ (typeLookup (.ref D) "__getattr__") _ _ _
 refine L2.at ?_
 refine xab (wpAny_attempt (wpAny_holding ?_))
 show wpAny _ _ (boundAndCalled (.builtin "BaseException.__getattribute__") (.ref x) (.str "__class__" t)) _ _ _
 unfold boundAndCalled
 refine xab (wpAny_of_eq (F.attr_ValueError.ga.bind (.ref x)) ?_)
 refine wpAny_call (TV X I c.base hf ?_)
 refine wpAny_call (class_get X I c.obj ?_)
 exact handed_on rfl (xar h)
theorem TY(c:lK K D):KitX K (.ref x) (.ref D) (fun h=>∃ox od,InstAt h x ox D od) where
 ty:=fun _ _ _ ⟨_,_,I⟩=>I.type
 it:=fun _ _ X _=>by
  obtain⟨cdD,hcD⟩:=xbv.mp c.cls
  unfold clsIn at hcD
  split at hcD
  ·rename_i c' d' cd' sl' ho
   intro A' Q' E' s' k q
   unfold isType loadHead
   exact xab (wpAny_loadPart (k _ _ (X _ _ ho)) (xar q))
  ·cases hcD
 ne:=fun h tp dd its n sl X htp=>by
  obtain⟨cdD,hcD⟩:=xbv.mp c.cls
  refine Bool.eq_false_iff.mpr fun q=>?_
  have e:D=tp:=Value.ref.inj (beq_iff_eq.mp q)
  subst e
  unfold clsIn at hcD
  split at hcD
  ·rename_i c' d' cd' sl' ho
   have z:=(X _ _ ho).symm.trans htp
   cases z
  ·cases hcD
 ca:=fun X ⟨_,_,I⟩ k=>TX c X I k
end
end L2
namespace L2
open PySem.Spec PyProof.Rows
section
variable{P:Program}{w:World}{K:xFg}{mg:Str->Option Value}{base:Heap}
theorem bT.okX{CX:dC}{x qual:Str}{st:Stmt}{f:Addr}{fd:FuncData}{N ps:List Str}{k:Nat}{sp:Sp}(F:bT K x qual st f fd)(S:cD N ps (bB st))(len:∀vs H Q E,sp vs H Q E->vs.length=ps.length)
  (hbody : ∀ (cdv : Value) (A : Around) (outer : List Env) (s : Shared) (H : Hp) (vs : List V) (Q : VK) (E : XK), bZ k (A.deeper (envOfC qual (bB st) s.heap.objs.size f cdv)) -> sp vs H Q E ->
   ∃t,bQ (cZ CX P w K mg base N qual (bB st) f cdv A outer s H E) (dZ st) t/\t { nx:=fun _ H'=>Q .non H',rt:=Q } (start N vs) H):cF P w K mg base CX (k+1) f fd ps sp:=by
 obtain⟨oc,od,kV,doc,pm,an,cdv,ct,osl,rfl,lk,hcd⟩:=F.ex
 exact RQ lk hcd S len fun A outer s H vs Q E hr hsp=>hbody cdv A outer s H vs Q E hr hsp
theorem pG{N:List Str}{qual:Str}{scope:Scope}{f:Addr}{cdv:Value}{A:Around}{outer:List Env}{s:Shared}{H:Hp}{E:XK}:jO (bM P w) (cZ (bM P w) P w K mg base N qual scope f cdv A outer s H E) E:=
 fun pins σ H1 s1 e s' I h=>TR (X:=cZ (bM P w) P w K mg base N qual scope f cdv A outer s H E) I rfl rfl rfl h
theorem BJ{X:Cx}:jO (bM P w) X E0:=fun _ _ _ _ _ _ _ h=>by
 obtain⟨_,_,_,_,_,_,_,_,_,_,_,_,_,z⟩:=h
 exact z.elim
end
theorem TZ{K:xFg}{h:Heap}{C:Addr}{bmB:List Value}{newId:String}(X:K.In h)(q:PySem.W.excIn K C bmB newId=true) :
  ∃bm N nm qn bs hdct sn sub ab col dd k0 k1 k2 k3 k5 mN,h.get? C=some (excClassObj nm qn C N bs bm hdct sn sub ab col dd k0 k1 k2 k3 k5 newId)/\h.Ns N mN/\mN "__init__"=none/\OwnTail h bmB bm:=by
 unfold PySem.W.excIn at q
 split at q
 ·rename_i dd cd sl lk
  split at q
  ·rename_i C' bm k0 k1 k2 k3 nn k5 hm hs
   simp only[xap,beq_iff_eq,xb3] at q
   obtain⟨⟨⟨⟨⟨rfl,rfl⟩,hdel⟩,ht⟩,hok⟩,hni⟩:=q
   obtain⟨nm,bs,mro,ns,qn,hd,sn,sub,ab,col,del⟩:=cd
   dsimp only at hm hdel hok hni
   subst hm hdel
   obtain rfl:sl=#[k0,k1,k2,k3,some (.builtin nn),k5]:=by
    obtain⟨l⟩:=sl
    simp only at hs
    rw[hs]
   exact⟨bm,ns,nm,qn,bs,hd,sn,sub,ab,col,dd,k0,k1,k2,k3,k5,_,X _ _ lk,.of_isNs (PySem.W.isNs_of_in X hok),PySem.W.nsMap_none_of_in X hok hni,PySem.W.tail_of_in X ht⟩
  ·cases q
 ·cases q
def T0(C:Addr)(ta:TA)(E:XK):TS:=fun _ σ H=>ta σ H fun vs H1=>vs.length<=sizeLine/\E (.ref C) none H1
section
variable{P:Program}{w:World}{K:xFg}{mg:Str->Option Value}{base:Heap}{N:List Str}{qual:Str}{scope:Scope}{f:Addr}{cdv:Value}{A:Around}{outer:List Env}{s0:Shared}{H0:Hp}{E:XK}
theorem T1{x:Str}{C:Addr}{e0:Expr}{aN:List Expr}{np cpos pos:Pos}{ta:TA}(q:PySem.W.excIn K C [.type "ValueError",.type "Exception",.type "BaseException",.type "object"] "ValueError.__new__"=true)
  (hg:Gl (cZ (bM P w) P w K mg base N qual scope f cdv A outer s0 H0 E) x) (hm:mg x=some (.ref C)) (ha:PA (cZ (bM P w) P w K mg base N qual scope f cdv A outer s0 H0 E) (e0::aN) ta)
  (hdb:(x==("__debug__":Str))=false:=by decide)
  (he:starEach (e0::aN) (envOfC qual scope s0.heap.objs.size f cdv)=(false,eval e0 (envOfC qual scope s0.heap.objs.size f cdv))::starEach aN (envOfC qual scope s0.heap.objs.size f cdv):=by rfl)
  (hpl:(backTo cpos (starEach aN (envOfC qual scope s0.heap.objs.size f cdv))).any (·.1)=false:=by rfl) :
  PS (cZ (bM P w) P w K mg base N qual scope f cdv A outer s0 H0 E) (.Raise (some (.Call (.Name x np) (e0::aN) [] cpos)) none pos) (T0 C ta E):=by
 intro pins s σ H D I h
 obtain⟨bm,Nn,nm,qn,bs,hdct,sn,sub,ab,col,dd,k0,k1,k2,k3,k5,mN,hC,hN,hni,T⟩:=TZ I.mod.kin q
 refine wpAny_Raise_call_subT (C:=C) (nm:=nm) (q:=qn) (N:=Nn) (bs:=bs) (bm:=bm) (hdct:=hdct) (sn:=sn) (sub:=sub) (ab:=ab) (col:=col) (dd:=dd) (k0:=k0) (k1:=k1) (k2:=k2) (k3:=k3) (k5:=k5)
  PySem.F.excBase_ValueError (mN:=mN) (T.hasType PySem.F.excBase_ValueError.hasBase) (I.ok.hd rfl) (by
   show (backTo cpos (starEach (e0::aN) (envOfC qual scope s0.heap.objs.size f cdv))).any (·.1)=false
   rw[he];show (false||(backTo cpos (starEach aN (envOfC qual scope s0.heap.objs.size f cdv))).any (·.1))=false;rw[hpl];rfl) hni (mP I hg hm ⟨rfl,?_⟩ hdb)
 have ha':=ha cpos pins s σ H _ I h
 show wpAny _ _ (evalArgs (.ref C) true (backTo cpos (starEach (e0::aN) (envOfC qual scope s0.heap.objs.size f cdv))) []) _ _ _
 change wpAny _ _ (spliced (backTo cpos (starEach (e0::aN) (envOfC qual scope s0.heap.objs.size f cdv)))) _ _ _ at ha'
 rw[he] at ha' ⊢
 refine Calls.evalArgs_plain (aJ ha' fun us s2 ⟨vs,H1,I1,r,hz,hE⟩=>?_)
 have hl:us.length<=sizeLine:=by rw[<- r.length];exact hz
 exact⟨rfl,hl,I1.bk _ _ hC,hN.keeps I1.bk,T.keeps I1.bk,fun h' e m=>TQ (tk:=s2.toks) I1 rfl rfl rfl m hE⟩
end
end L2
namespace L2
open PySem.Spec PyProof.Rows
abbrev rL:=St->Hp->VK->XK->Prop
abbrev kK:=fM->XK->St->Hp->Prop
def XP(X:Cx)(CX:dC)(pins:List (Addr×Obj))(σ:St)(E:XK)(e:Value)(s':Shared):Prop:=∃s1 H1,aD X pins σ H1 s1/\CX X.stack H1 s1 E e s'
def PEX(X:Cx)(CX:dC)(e:Expr)(t:rL):Prop:=
 ∀(pins:List (Addr×Obj)) (s:Shared) (σ:St) (H:Hp) (Q:VK) (E:XK),aD X pins σ H s->t σ H Q E->wpAny (model X.prog X.w) X.A (eval e X.env) (EP X pins σ Q) (XP X CX pins σ E) s
def lL(X:Cx)(CX:dC)(st:Stmt)(t:kK):Prop:=
 ∀(pins:List (Addr×Obj)) (s:Shared) (σ:St) (H:Hp) (D:fM) (E:XK),aD X pins σ H s->t D E σ H->wpAny (model X.prog X.w) X.A (exec st X.env) (SP X pins D) (XP X CX pins σ E) s
def vM(X:Cx)(CX:dC)(st:List Stmt)(t:kK):Prop:=
 ∀(pins:List (Addr×Obj)) (s:Shared) (σ:St) (H:Hp) (D:fM) (E:XK),aD X pins σ H s->t D E σ H->wpAny (model X.prog X.w) X.A (execs st X.env) (SP X pins D) (XP X CX pins σ E) s
section
variable{X:Cx}{CX:dC}{k:Nat}{f:Addr}{fd:FuncData}{ps:List Str}{sp:Sp}{dvs:List V}{ds:List Value}{x:Str}{p pos:Pos}{e:Expr}{es:List Expr}{t:TA}
def BL(sp:Sp)(dvs:List V)(t:TA):rL:=fun σ H Q E=>t σ H fun vs H1=>sp (vs++dvs) H1 Q E
theorem T2(F:cF X.prog X.w X.K X.mg X.base CX k f fd ps sp)(hr:bZ k X.A)(hg:Gl X x)(hm:X.mg x=some (.ref f))(hk:PySem.W.keepIn X.K (.ref f)=true)(hb:bR X.K fd ps ds)(hd:aP dvs ds)
  (ha:PA X.nox (e::es) t) (hdb:(x==("__debug__":Str))=false:=by decide) (he:starEach (e::es) X.env=(false,eval e X.env)::starEach es X.env:=by rfl) (hpl:(backTo pos (starEach es X.env)).any (·.1)=false:=by rfl) :
  PEX X CX (.Call (.Name x p) (e::es) [] pos) (BL sp dvs t):=by
 intro pins s σ H Q E I h
 refine wpAny_Call_Name_kw (mP I hg hm ?_ hdb)
 refine PySem.W.callWith_K (h₀:=X.base) I.ok.mod.kin hk (wpAny_mono (ha pos pins s σ H _ (I.wish _) h) (fun us s1 ⟨vs,H1,I1',r,q⟩=>?_) fun _ _ z=>False.elim z) he hpl
 have I1:aD X pins σ H1 s1:=I1'.unwish
 refine⟨I1.kIn,?_⟩
 have r2:aP (vs++dvs) (us++ds):=r.append hd
 have hl:(us++ds).length=ps.length:=by rw[<- r2.length];exact F.len _ _ _ _ q
 refine wpAny_call (codeAny_mono (F.run X.A X.stack s1 H1 ⟨us,[]⟩ (us++ds) (vs++dvs) Q E hr I1.env0 (hb s1 us I1.kIn hl) r2 q) fun r s' hq=>?_)
 cases r with
 |error e=>exact⟨s1,H1,I1,hq⟩
 |ok fl=>
  cases fl with
  |ret u=>exact I1.after hq
  |next=>exact False.elim hq
  |brk=>exact False.elim hq
  |cont=>exact False.elim hq
def T4(t:rL):kK:=fun D E σ H=>t σ H (fun _ H1=>D.nx σ H1) E
theorem T5{te:rL}(he:PEX X CX e te)(hs:swapsWith e none pos.line X.env=pure false:=by rfl):lL X CX (.Expr e pos) (T4 te):=by
 intro pins s σ H D E I h
 exact wpAny_Expr_any (aJ (he pins s σ H _ E I h) fun v s1 ⟨y,H1,I1,r1,q1⟩=>⟨σ,H1,I1,q1⟩) I.quiet hs
theorem T6{st:Stmt}{ts:kK}(h1:lL X CX st ts):vM X CX [st] ts:=by
 intro pins s σ H D E I h
 refine wpAny_execs_cons (aJ (h1 pins s σ H D E I h) fun fl s1 q=>?_)
 cases fl with
 |next=>exact wpAny_execs_nil q
 |ret v=>exact q
 |brk=>exact q
 |cont=>exact q
end
theorem aD.gone{X:Cx}{pins:List (Addr×Obj)}{σ:St}{H:Hp}{s:Shared}{h':Heap}{m:Str->Option Value}{n:Str}{v:Option Value}{i:Nat}{tk:Nat}(I:aD X pins σ H s)(hN:X.N.Nodup)(hi:X.N[i]? = some n)
  (hm:∀(j:Nat) (y:Str) (v:V),X.N[j]? = some y->σ[j]? = some (some v)->cB X.env.scope y->∃u,aM v u/\zQ X.env s.heap m y u) (hn:h'.Ns X.env.locals (fun y=>if y=n then v else m y)) (hs:Heap.SameBut X.env.locals s.heap h') :
  aD X pins (σ.set i none) H { s with heap:=h',toks:=tk }:=by
 have neL:∀b o,X.s₀.heap.get? b=some o->b≠X.env.locals:=fun b o e=>xa6 (xan (xam e) I.ok.above)
 have hiσ:i<σ.length:=by rw[I.len];exact(xaf.mp hi).1
 refine⟨I.ok,I.os,I.bare,⟨fun b o e nn hb hx=>(hs.2 b (neL b o e)).trans (I.base.keep b o e nn hb hx),fun b o e nn hb hx=>?_,I.base.free,fun b o e hx=>?_,I.base.tups,I.base.frzs,I.base.tbls⟩,⟨_,hn,fun j y v' e1 e2 e3=>?_⟩,fun y c e=>?_,I.free,I.freeC,fun p hp=>?_,fun b ob e=>?_,by simpa using I.len⟩
 ·obtain⟨sl,e1⟩:=I.base.slot b o e nn hb hx
  exact⟨sl,(hs.2 b (neL b o e)).trans e1⟩
 ·obtain⟨o',e1⟩:=I.base.there b o e hx
  exact⟨o',(hs.2 b (neL b o e)).trans e1⟩
 ·have hj:j≠i:=fun z=>by rw[z,xat hiσ] at e2;cases e2
  rw[xae (xay hj)] at e2
  obtain⟨u,r,l⟩:=hm j y v' e1 e2 e3
  refine⟨u,r,?_⟩
  rcases l with⟨k,e⟩|⟨k,c,e,z⟩
  ·have ny:y≠n:=fun z=>hj (uO hN e1 (z▸hi))
   exact .inl ⟨k,by simp[ny,e]⟩
  ·exact .inr ⟨k,c,e,z.sameBut hs (I.cne y c e)⟩
 ·obtain⟨w',z⟩:=I.cell y c e
  exact⟨w',z.sameBut hs (I.cne y c e)⟩
 ·obtain⟨e,nn,ne,nf,d⟩:=I.pin p hp
  exact⟨(hs.2 p.1 ne).trans e,nn,ne,nf,d⟩
 ·refine(I.hok b ob e).stay (fun c w' hc q=>(hs.2 c ?_).trans q) (fun _ q=>q) fun _ _ q=>q
  rintro rfl
  rcases hc with z|z
  ·rw[<- z,I.free] at e;cases e
  ·rw[I.free] at z;cases z
def hdl(X:Cx)(x:Addr):Cx:={ X with A:=X.A.mark (some (.ref x)),calm:=false,xe:=fun _ _=>False }
section
variable{X:Cx}{pins:List (Addr×Obj)}{σ:St}{H:Hp}{s:Shared}{x:Addr}
theorem aD.hdl(I:aD X pins σ H s)(x:Addr):aD (hdl X x) pins σ H s:=
 ⟨⟨I.ok.mod,I.ok.kind,I.ok.glob,I.ok.blt,I.ok.above,I.ok.inj,I.ok.has,I.ok.cab,fun z=>xaq z (by show ¬(false=true);decide),I.ok.frames,I.ok.stk,I.ok.exf,I.ok.bs,I.ok.bsz,I.ok.noex,I.ok.exfs,I.ok.funs,I.ok.frf⟩,I.os,I.bare,I.base,I.loc,I.cell,I.free,I.freeC,I.pin,I.hok,I.len⟩
theorem aD.unhdl(I:aD (L2.hdl X x) pins σ H s)(ok:X.Ok):aD X pins σ H s:=⟨ok,I.os,I.bare,I.base,I.loc,I.cell,I.free,I.freeC,I.pin,I.hok,I.len⟩
end
def T7(K:xFg)(Dc:Addr)(i:Nat)(tb:kK)(th:TS):TS:=fun D σ H=>∃E:XK,tb D E σ H/\∀(C:Addr) (dct:Option Addr) (H':Hp) (x:Addr),E (.ref C) dct H'->H' x=none->
 PySem.W.exmOne K (.ref C) (.ref Dc)=some true/\th { nx:=fun σ' H''=>D.nx (σ'.set i none) H'',rt:=fun _ _=>False } (σ.set i (some (.ref x))) (aG H' x (iY x C dct))
theorem T8{X:Cx}{body:List Stmt}{c n:Str}{np hpos pos:Pos}{b0:Stmt}{suite:List Stmt}{tb:kK}{th:TS}{i:Nat}{Dc:Addr}(hst:X.stack=X.env::X.outer)(hf:X.env.frame=some X.env.locals)
  (hN:X.N.Nodup) (hi:X.N[i]? = some n) (hn:X.env.scope.names.lookup n=some .local) (hg:Gl X c) (hm:X.mg c=some (.ref Dc)) (hb:vM X (bM X.prog X.w) body tb) (hh:∀x,bQ (hdl X x) (b0::suite) th)
  (hdb:(c==("__debug__":Str))=false:=by decide):PS X (.Try body [.ExceptHandler (some (.Name c np)) (some n) (b0::suite) hpos] [] [] pos) (T7 X.K Dc i tb th):=by
 intro pins s σ H D I h
 obtain⟨Ex,hbody,hhand⟩:=h
 refine wpAny_Try_except (wpAny_mono (hb pins s σ H D Ex I hbody) (fun fl s1 q=>?_) (fun e s1 q=>?_))
 ·cases fl with
  |next=>exact wpAny_execs_nil q
  |ret v=>exact q
  |brk=>exact q
  |cont=>exact q
 obtain⟨s2,H2,I2,x,C,dct,H',B,rfl,ho,hg',un,hok,F,ib,nx,hE⟩:=q
 obtain⟨hx,hth⟩:=hhand C dct H' x hE nx
 have hfr:X.A.frames=some (X.env::X.outer):=by rw[<- hst];exact I.ok.frames
 have F':gK B (X.env::X.outer) x (.ref C) dct .none s1.heap:=by rw[<- hst];exact F
 refine BF hfr hf F' fun h1 F1 u1=>rK F1 fun h2 F2 u2=>?_
 have I3:=BI (tk:=s1.toks) I2 ho hg' un hok (hst▸F2) ib (u1.trans u2) nx
 refine wpAny_handleBy_cons (codeAny_handlers_test ?_) (by intro z;cases z)
 refine mP (X:=hdl X x) (I3.hdl x) hg hm ?_ hdb
 obtain⟨ox,vs,T,oT,ts,ex,hcl,_⟩:=F2.obj
 have LT:PySem.W.Looks (model X.prog X.w) h2 (typeOf (.ref x)) (.ref C):=hcl▸(PySem.W.Looks.ld ex).andThen .now
 refine(PySem.W.exm_one (M:=model X.prog X.w) I3.kIn LT hx) _ _ _ _ (fun _ _ e=>e) ?_
 refine codeAny_handlers_suite_as ?_
 refine rK F2 fun h3 F3 u3=>?_
 have I4:=BI (tk:=s1.toks) I2 ho hg' un hok (hst▸F3) ib (u1.trans (u2.trans u3)) nx
 refine uP (X:=hdl X x) (v:=.ref x) (I4.hdl x) hN hi (.inl hn) rfl (fun s5 I5=>?_) (.inr hn)
 refine wpAny_mono (hh x pins s5 _ _ _ I5 hth) (fun fl s6 q6=>?_) fun _ _ z=>False.elim z
 cases fl with
 |ret v=>obtain⟨_,_,_,_,_,z⟩:=q6;exact False.elim z
 |brk=>obtain⟨_,_,_,z⟩:=q6;exact False.elim z
 |cont=>obtain⟨_,_,_,z⟩:=q6;exact False.elim z
 |next=>
  obtain⟨σ6,H6,I6,q⟩:=q6
  have I7:aD X pins σ6 H6 s6:=I6.unhdl I.ok
  obtain⟨m,hnm,hl⟩:=I7.loc
  have hp:(X.env.scope.kind==.class||(X.env.scope.kind==.module&&X.env.locals != X.env.globals))=false:=by rw[I.ok.kind];rfl
  exact wpAny_nameGoes_keeps hn hnm hp fun h' v hn' hs'=>⟨_,H6,I7.gone hN hi hl hn' hs',q⟩
theorem T9{X:Cx}:dL X (.builtin "isinstance") (fun xs H Q=>∃(a C:Addr) (c:V) (cv:Value) (b:Bool),xs=[.ref a,c]/\H a=some (iY a C none)/\((∃D,c=.ref D/\cv=.ref D)\/∃T,c=.ty T/\cv=.type T)/\lK X.K C/\PySem.W.kitOne X.K (.ref C) cv=some b/\Q (.bl b) H):=by
 intro pins s σ H xs us Q I r h
 obtain⟨a,C,c,cv,b,rfl,ha,hc,ec,hk,q⟩:=h
 obtain⟨u,w',rfl,ru,rw'⟩:=rH r
 obtain rfl:u=Value.ref a:=ru
 have e:w'=cv:=by
  rcases hc with⟨D,rfl,rfl⟩|⟨T,rfl,rfl⟩
  ·exact rw'
  ·exact rw'
 subst e
 obtain⟨⟨o,e1,e2,e3,e4⟩,_,_⟩:=I.hok a _ ha
 have hI:PySem.W.InstAt s.heap a o C none:=⟨e1,e2,e4,by rw[e3];trivial⟩
 exact PySem.W.kia_one (TY ec) I.kIn ⟨o,none,hI⟩ hk (fun z=>nomatch z) fun tk=>⟨.bl b,H,I.tok tk,rfl,q⟩
end L2
namespace SetT
open PySem.SetTable
def iter(t:SetTable):Nat->Probe->Probe
 |0,p=>p
 |k+1,p=>iter t k (t.advance p)
def start(mask i perturb:Nat):Probe:={ j:=i,more:=runEnd mask i-i,i,perturb,dummy:=none }
end SetT
namespace TxtA
open PySem.StrLaws PySem.Builtin.Str
def flat(y:List Nat):List (List Nat)->List Nat
 |[]=>[]
 |[r]=>r
 |r::r'::rs=>r++y++flat y (r'::rs)
def aQ(l:List Nat):Str:=⟨l.toArray⟩
theorem UA(c:Nat)(t:List Nat):∀rows:List (List Nat),rows.length<=(flat (c::t) rows).length+1
 |[]=>by simp
 |[r]=>by simp
 |r::r'::rs=>by
  have:=UA c t (r'::rs)
  rw[flat]
  simp at this ⊢
  omega
theorem vN(y:List Nat):∀rows:List (List Nat),Str.join (aQ y) (rows.map aQ)=aQ (flat y rows)
 |[]=>rfl
 |[r]=>rfl
 |r::r'::rs=>by
  have ih:=vN y (r'::rs)
  show aQ r++aQ y++Str.join (aQ y) ((r'::rs).map aQ)=_
  rw[ih,flat]
  apply Str.ext'
  simp[aQ,Str.cps_append]
end TxtA
namespace TxtA
open PySem.StrLaws PySem.Builtin.Str PySem.NumText
def kL(n:Nat):List Nat:=(Nat.toDigits 10 n).map Char.toNat
theorem ofS(n:Nat):Str.ofString (toString ((n:Nat):Int))=aQ (kL n):=Str.ext' (Array.toList_inj.mp (by rw[PySem.W.KIN.signs_num];simp[aQ,kL]))
theorem UC(n:Nat):AllDigits (kL n):=by
 intro c hc
 obtain⟨ch,hch,e⟩:=xby.mp hc
 have r:=PyProof.Rows.digit_range (Nat.isDigit_of_mem_toDigits (by decide) (by decide) hch)
 rw[<- e]
 exact r
theorem UD{n k:Nat}(h0:0<k)(h:n<10^k):(kL n).length<=k:=by
 unfold kL
 rw[xai]
 exact(Nat.length_toDigits_le_iff (by decide) h0).mpr h
end TxtA
namespace DL
open L2
inductive D where
 |non|bl (b:Bool)|int (i:Int)|str (x:Str)|ty (n:String)|cls (c:Str)
 |tup (xs:List D)|lst (xs:List D)|dct (ks:List Key) (vs:List D)|exc (c:Str) (as:List D)
instance:Inhabited D:=⟨.non⟩
inductive R (α:Type) where
 |ok (a:α)|err (e:D)|bad
def R.bind{α β:Type}:R α->(α->R β)->R β
 |.ok a,k=>k a
 |.err e,_=>.err e
 |.bad,_=>.bad
def RW{α:Type}(r:R α)(Q:α->Prop)(E:D->Prop):Prop:=match r with
 |.ok a=>Q a
 |.err e=>E e
 |.bad=>False
theorem RW.mono{α:Type}{r:R α}{Q Q':α->Prop}{E E':D->Prop}(h:RW r Q E)(hq:∀a,r=.ok a->Q a->Q' a)(he:∀e,E e->E' e):RW r Q' E':=by
 cases r with
 |ok a=>exact hq a rfl h
 |err e=>exact he e h
 |bad=>exact h
theorem RW.of_bind{α β:Type}{r:R α}{k:α->R β}{Q:β->Prop}{E:D->Prop}(h:RW (r.bind k) Q E):RW r (fun a=>RW (k a) Q E) E:=by
 cases r with
 |ok a=>exact h
 |err e=>exact h
 |bad=>exact h
def kM:List Str:=["ChalkError","NoPlace","Same","NoFloor","Endless","NoDeed","NoText","NoName","TooMany","NoChange","NoFrame","NoValue","Unlike","NoRatio","NoBow","NoRow"]
def cH(c d:Str):Option Bool:=bif kM.contains c&&kM.contains d then some (c==d||d=="ChalkError") else none
structure iZ(K:xFg)(mg:Str->Option Value)(c:Str)(C:Addr):Prop where
 here:mg c=some (.ref C)
 exc:lK K C
 isi:∀d Dd b,cH c d=some b->mg d=some (.ref Dd)->PySem.W.kitOne K (.ref C) (.ref Dd)=some b
 val:PySem.W.kitOne K (.ref C) (.type "ValueError")=some true
 ctc:∀d Dd,cH c d=some true->mg d=some (.ref Dd)->PySem.W.exmOne K (.ref C) (.ref Dd)=some true
def pH(G:Hp)(dct:Option Addr)(vs:List V):Prop:=(dct=none/\vs=[])\/∃dx v,dct=some dx/\vs=[v]/\G dx=some (.xd [("at",v)])
mutual
def aR(K:xFg)(mg:Str->Option Value)(G:Hp):D->V->Prop
 |.non,v=>v=.non
 |.bl b,v=>v=.bl b
 |.int i,v=>v=.int i
 |.str x,v=>v=.str x
 |.ty n,v=>v=.ty n
 |.cls c,v=>∃C,v=.ref C/\mg c=some (.ref C)
 |.tup ds,v=>∃a vs,v=.ref a/\bG K G a vs/\Reps K mg G ds vs
 |.lst ds,v=>∃a vs,v=.ref a/\aY K G a vs/\Reps K mg G ds vs
 |.dct ks ds,v=>∃a vs,v=.ref a/\Rd G a (.dK (ks.zip vs))/\ks.length=vs.length/\Reps K mg G ds vs
 |.exc c as,v=>∃x C dct vs,v=.ref x/\G x=some (iY x C dct)/\iZ K mg c C/\pH G dct vs/\Reps K mg G as vs
def Reps(K:xFg)(mg:Str->Option Value)(G:Hp):List D->List V->Prop
 |[],vs=>vs=[]
 |d::ds,vs=>∃v r,vs=v::r/\aR K mg G d v/\Reps K mg G ds r
end
def BM(K:xFg)(mg:Str->Option Value)(G:Hp)(e:D)(C:Addr)(dct:Option Addr):Prop:=∃c as vs,e=.exc c as/\iZ K mg c C/\pH G dct vs/\Reps K mg G as vs
section
variable{K:xFg}{mg:Str->Option Value}{G G' H H':Hp}
theorem Same.sqT{a:Addr}{xs:List V}(e:Same G G')(h:bG K G a xs):bG K G' a xs:=e.tup h
theorem Same.rd{a:Addr}{u:HO}(e:Same G G')(h:Rd G a u):Rd G' a u:=by
 rcases h with h|⟨o,h⟩
 ·exact .inl (e _ _ h)
 ·exact .inr ⟨o,e _ _ h⟩
theorem pH.mono{dct:Option Addr}{vs:List V}(e:Same G G')(h:pH G dct vs):pH G' dct vs:=by
 rcases h with h|⟨dx,v,h1,h2,h3⟩
 ·exact .inl h
 ·exact .inr ⟨dx,v,h1,h2,e _ _ h3⟩
mutual
theorem aR.mono(e:Same G G'):∀{d:D} {v:V},aR K mg G d v->aR K mg G' d v
 |.non,_,h=>h
 |.bl _,_,h=>h
 |.int _,_,h=>h
 |.str _,_,h=>h
 |.ty _,_,h=>h
 |.cls _,_,h=>h
 |.tup _,_,⟨a,vs,h1,h2,h3⟩=>⟨a,vs,h1,Same.sqT e h2,Reps.mono e h3⟩
 |.lst _,_,⟨a,vs,h1,h2,h3⟩=>⟨a,vs,h1,e.seq h2,Reps.mono e h3⟩
 |.dct _ _,_,⟨a,vs,h1,h2,h3,h4⟩=>⟨a,vs,h1,Same.rd e h2,h3,Reps.mono e h4⟩
 |.exc _ _,_,⟨x,C,dct,vs,h1,h2,h3,h4,h5⟩=>⟨x,C,dct,vs,h1,e _ _ h2,h3,h4.mono e,Reps.mono e h5⟩
theorem Reps.mono(e:Same G G'):∀{ds:List D} {vs:List V},Reps K mg G ds vs->Reps K mg G' ds vs
 |[],_,h=>h
 |_::_,_,⟨v,r,h1,h2,h3⟩=>⟨v,r,h1,aR.mono e h2,Reps.mono e h3⟩
end
theorem Reps.length:∀{ds:List D} {vs:List V},Reps K mg G ds vs->ds.length=vs.length
 |[],_,h=>by cases h;rfl
 |_::_,_,⟨v,r,h1,_,h3⟩=>by cases h1;rw[xao,xao,Reps.length h3]
theorem Reps.nil:Reps K mg G [] []:=rfl
theorem Reps.cons{d:D}{v:V}{ds:List D}{vs:List V}(h:aR K mg G d v)(t:Reps K mg G ds vs):Reps K mg G (d::ds) (v::vs):=⟨v,vs,rfl,h,t⟩
theorem Reps.append:∀{ds es:List D} {vs ws:List V},Reps K mg G ds vs->Reps K mg G es ws->Reps K mg G (ds++es) (vs++ws)
 |[],_,_,_,h,t=>by cases h;exact t
 |_::_,_,_,_,⟨v,r,h1,h2,h3⟩,t=>by cases h1;exact⟨v,r++_,rfl,h2,h3.append t⟩
theorem Reps.get:∀{ds:List D} {vs:List V} {i:Nat} {d:D},Reps K mg G ds vs->ds[i]? = some d->∃v,vs[i]? = some v/\aR K mg G d v
 |[],_,_,_,_,e=>by simp at e
 |_::_,_,0,_,⟨v,r,h1,h2,_⟩,e=>by simp at e;subst e;subst h1;exact⟨v,rfl,h2⟩
 |_::ds,_,i+1,d,⟨v,r,h1,_,h3⟩,e=>by
  subst h1
  obtain⟨w,e1,e2⟩:=Reps.get (i:=i) (d:=d) h3 (by simpa using e)
  exact⟨w,by simpa using e1,e2⟩
theorem Reps.drop:∀{ds:List D} {vs:List V} (n:Nat),Reps K mg G ds vs->Reps K mg G (ds.drop n) (vs.drop n)
 |_,_,0,h=>h
 |[],_,_+1,h=>by cases h;exact rfl
 |_::_,_,n+1,⟨_,_,h1,_,h3⟩=>by subst h1;exact h3.drop n
theorem Reps.take:∀{ds:List D} {vs:List V} (n:Nat),Reps K mg G ds vs->Reps K mg G (ds.take n) (vs.take n)
 |_,_,0,h=>by simp only[List.take_zero];exact rfl
 |[],_,_+1,h=>by cases h;exact rfl
 |_::_,_,n+1,⟨v,_,h1,h2,h3⟩=>by subst h1;exact⟨v,_,rfl,h2,h3.take n⟩
theorem Reps.ints(ns:List Int):Reps K mg G (ns.map D.int) (ns.map V.int):=by
 induction ns with
 |nil=>exact rfl
 |cons n r ih=>exact⟨_,_,rfl,rfl,ih⟩
theorem Reps.of_ints:∀{ns:List Int} {vs:List V},Reps K mg G (ns.map D.int) vs->vs=ns.map V.int
 |[],_,h=>h
 |_::_,_,⟨_,_,h1,h2,h3⟩=>by subst h1;cases h2;rw[Reps.of_ints h3];rfl
theorem Reps.at{ds:List D}{vs:List V}{i:Int}{d:D}(h:Reps K mg G ds vs)(e:eP ds i=some d):∃v,eP vs i=some v/\aR K mg G d v:=by
 unfold eP at e ⊢
 rw[h.length] at e
 cases q:jP vs.length i with
 |none=>rw[q] at e;cases e
 |some j=>rw[q] at e;exact h.get e
structure Step(G H G' H':Hp):Prop where
 g:Same G G'
 h:Same H H'
 e:Same G' H'
 c:∀a o,H a=some o->G a=none->G' a=none
theorem Step.refl(e:Same G H):Step G H G H:=⟨Same.refl _,Same.refl _,e,fun _ _ _ h=>h⟩
theorem Step.trans{G1 H1:Hp}(a:Step G H G1 H1)(b:Step G1 H1 G' H'):Step G H G' H':=
 ⟨a.g.trans b.g,a.h.trans b.h,b.e,fun x o p q=>b.c x o (a.h x o p) (a.c x o p q)⟩
theorem same_upd{p:Addr}{o:HO}(h:H p=none):Same H (aG H p o):=TL h o
theorem Step.pub{p:Addr}{o:HO}(e:Same G H)(h:H p=none):Step G H (aG G p o) (aG H p o):=by
 refine⟨same_upd (e.free h),same_upd h,fun b u q=>?_,fun a u p1 q1=>?_⟩
 ·by_cases hb:b=p
  ·subst hb;rw[aU] at q ⊢;exact q
  ·rw[aH hb] at q ⊢;exact e b u q
 ·have hb:a≠p:=bC p1 h
  rw[aH hb];exact q1
theorem Step.hid{p:Addr}{o:HO}(e:Same G H)(h:H p=none):Step G H G (aG H p o):=
 ⟨Same.refl _,same_upd h,e.trans (same_upd h),fun _ _ _ q=>q⟩
theorem Step.heap(e:Same G H)(h:Same H H'):Step G H G H':=⟨Same.refl _,h,e.trans h,fun _ _ _ q=>q⟩
end
abbrev DSt:=List (Option D)
structure bH(K:xFg)(mg:Str->Option Value)(σd:DSt)(σ:St)(G H:Hp):Prop where
 ext:Same G H
 len:σd.length=σ.length
 val:∀(i:Nat) (d:D),σd[i]? = some (some d)->∃v,σ[i]? = some (some v)/\aR K mg G d v
section
variable{K:xFg}{mg:Str->Option Value}{G G' H H':Hp}{σd:DSt}{σ:St}
theorem bH.step(o:bH K mg σd σ G H)(s:Step G H G' H'):bH K mg σd σ G' H':=
 ⟨s.e,o.len,fun i d q=>let⟨v,h1,h2⟩:=o.val i d q;⟨v,h1,h2.mono s.g⟩⟩
theorem bH.set{i:Nat}{d:D}{v:V}(o:bH K mg σd σ G H)(h:aR K mg G d v):bH K mg (σd.set i (some d)) (σ.set i (some v)) G H:=by
 refine⟨o.ext,by simp[o.len],fun j e q=>?_⟩
 by_cases hj:j=i
 ·subst hj
  have hl:j<σd.length:=by have:=(xaf.mp q).1;simpa using this
  rw[xat hl] at q
  cases q
  exact⟨v,by rw[xat (by rw[<- o.len];exact hl)],h⟩
 ·rw[xae (xay hj)] at q ⊢
  exact o.val j e q
theorem bH.cons{x:Option D}{y:Option V}(o:bH K mg σd σ G H)(h:∀d,x=some d->∃v,y=some v/\aR K mg G d v):bH K mg (x::σd) (y::σ) G H:=by
 refine⟨o.ext,by simp[o.len],fun j e q=>?_⟩
 cases j with
 |zero=>
  have q':x=some e:=by simpa using q
  obtain⟨v,h1,h2⟩:=h e q'
  exact⟨v,by simp[h1],h2⟩
 |succ j=>exact o.val j e (by simpa using q)
theorem bH.nones(o:bH K mg σd σ G H):∀k:Nat,bH K mg (List.replicate k none++σd) (List.replicate k none++σ) G H
 |0=>o
 |k+1=>(bH.nones o k).cons (x:=none) (y:=none) (fun d e=>by cases e)
end
section
variable(K:xFg)(mg:Str->Option Value)(E:XK)
def aL(Q:VK)(G H:Hp)(d:D):Prop:=∀v G' H',Step G H G' H'->aR K mg G' d v->Q v H'
def jU(Q:Bool->Hp->Prop)(G H:Hp)(b:Bool):Prop:=∀G' H',Step G H G' H'->Q b H'
def rM(Q:List V->Hp->Prop)(G H:Hp)(ds:List D):Prop:=∀vs G' H',Step G H G' H'->Reps K mg G' ds vs->Q vs H'
def vO(Q:VK)(G H:Hp)(ds:List D):Prop:=∀a vs G' H',Step G H G' H'->H a=none->H' a=some (.lst vs)->G' a=none->Reps K mg G' ds vs->Q (.ref a) H'
def aX(G H:Hp)(e:D):Prop:=∀G' H' C dct,Step G H G' H'->BM K mg G' e C dct->E (.ref C) dct H'
def tE(f:DSt->R D):TE:=fun σ H Q=>∃G σd,bH K mg σd σ G H/\RW (f σd) (aL K mg Q G H) (aX K mg E G H)
def tT(f:DSt->R Bool):TT:=fun σ H Q=>∃G σd,bH K mg σd σ G H/\RW (f σd) (jU Q G H) (aX K mg E G H)
def vP(f:DSt->R (List D)):TA:=fun σ H Q=>∃G σd,bH K mg σd σ G H/\RW (f σd) (rM K mg Q G H) (aX K mg E G H)
def vQ(f:DSt->R (List D)):TE:=fun σ H Q=>∃G σd,bH K mg σd σ G H/\RW (f σd) (vO K mg Q G H) (aX K mg E G H)
end
def DE(X:Cx)(E:XK)(e:Expr)(f:DSt->R D):Prop:=PE X e (tE X.K X.mg E f)
def DT(X:Cx)(E:XK)(e:Expr)(f:DSt->R Bool):Prop:=PT X e (tT X.K X.mg E f)
def DW(X:Cx)(E:XK)(e:Expr)(f:DSt->R Bool):Prop:=PW X e (tT X.K X.mg E f)
def DA(X:Cx)(E:XK)(es:List Expr)(f:DSt->R (List D)):Prop:=PA X es (vP X.K X.mg E f)
def DF(X:Cx)(E:XK)(e:Expr)(f:DSt->R (List D)):Prop:=PE X e (vQ X.K X.mg E f)
section
variable{X:Cx}{E:XK}{K:xFg}{mg:Str->Option Value}{G G1 H H1:Hp}
theorem PE.mono'{e:Expr}{t t':TE}(h:PE X e t)(m:∀σ H Q,t' σ H Q->t σ H Q):PE X e t':=fun pins s σ H Q I q=>h pins s σ H Q I (m σ H Q q)
theorem PT.mono'{e:Expr}{t t':TT}(h:PT X e t)(m:∀σ H Q,t' σ H Q->t σ H Q):PT X e t':=fun pins s σ H Q I q=>h pins s σ H Q I (m σ H Q q)
theorem PW.mono'{e:Expr}{t t':TT}(h:PW X e t)(m:∀σ H Q,t' σ H Q->t σ H Q):PW X e t':=fun wh pins s σ H Q I q=>h wh pins s σ H Q I (m σ H Q q)
theorem PA.mono'{es:List Expr}{t t':TA}(h:PA X es t)(m:∀σ H Q,t' σ H Q->t σ H Q):PA X es t':=fun pos pins s σ H Q I q=>h pos pins s σ H Q I (m σ H Q q)
theorem PS.mono'{st:Stmt}{t t':TS}(h:PS X st t)(m:∀D σ H,t' D σ H->t D σ H):PS X st t':=fun pins s σ H D I q=>h pins s σ H D I (m D σ H q)
theorem bQ.mono'{st:List Stmt}{t t':TS}(h:bQ X st t)(m:∀D σ H,t' D σ H->t D σ H):bQ X st t':=fun pins s σ H D I q=>h pins s σ H D I (m D σ H q)
theorem aL.step{Q:VK}{d:D}(h:aL K mg Q G H d)(s:Step G H G1 H1):aL K mg Q G1 H1 d:=fun v G' H' s' r=>h v G' H' (s.trans s') r
theorem aX.step{e:D}(h:aX K mg E G H e)(s:Step G H G1 H1):aX K mg E G1 H1 e:=fun G' H' C dct s' r=>h G' H' C dct (s.trans s') r
theorem jU.step{Q:Bool->Hp->Prop}{b:Bool}(h:jU Q G H b)(s:Step G H G1 H1):jU Q G1 H1 b:=fun G' H' s'=>h G' H' (s.trans s')
theorem aL.now{Q:VK}{d:D}{v:V}(h:aL K mg Q G H d)(e:Same G H)(r:aR K mg G d v):Q v H:=h v G H (.refl e) r
theorem DF.de{e:Expr}{f:DSt->R (List D)}(h:DF X E e f):DE X E e (fun σ=>(f σ).bind fun ds=>.ok (.lst ds)):=by
 refine PE.mono' h fun σ H Q ⟨G,σd,ok,q⟩=>⟨G,σd,ok,q.of_bind.mono (fun ds _ q=>?_) fun _ z=>z⟩
 intro a vs G' H' s n e g r
 have q':aL X.K X.mg Q G H (.lst ds):=q
 have sg:Same G' (aG G' a (.lst vs)):=same_upd g
 refine q' (.ref a) (aG G' a (.lst vs)) H' ⟨s.g.trans sg,s.h,fun b u p=>?_,fun b u p1 p2=>?_⟩ ⟨a,vs,rfl,aY.of aU,r.mono sg⟩
 ·by_cases hb:b=a
  ·subst hb;rw[aU] at p;cases p;exact e
  ·rw[aH hb] at p;exact s.e b u p
 ·have hb:b≠a:=bC p1 n
  rw[aH hb];exact s.c b u p1 p2
def aA(i:Nat):DSt->R D:=fun σ=>match σ[i]? with
 |some (some d)=>.ok d
 |_=>.bad
theorem BN(i:Nat){x:Str}{pos:Pos}(hN:X.N[i]? = some x:=by rfl)(hv:cB X.env.scope x:=by first|exact Or.inl rfl|exact Or.inr (Or.inl rfl)|exact Or.inr (Or.inr rfl))(hd:(x==("__debug__":Str))=false:=by decide)
  (hcd:(x==("__classdict__":Str))=false:=by decide):DE X E (.Name x pos) (aA i):=by
 refine PE.mono' (pv i hN hv hd hcd) fun σ H Q ⟨G,σd,ok,q⟩=>?_
 unfold aA at q
 split at q
 ·rename_i d e
  obtain⟨v,h1,h2⟩:=ok.val i d e
  exact⟨v,h1,aL.now q ok.ext h2⟩
 ·exact q.elim
def eC(d:D):DSt->R D:=fun _=>.ok d
theorem gL{i j pos}:DE X E (.Constant (.int i) j pos) (eC (.int i)):=PE.mono' gG fun _ _ _ ⟨_,_,ok,q⟩=>aL.now q ok.ext rfl
theorem UE{b j pos}:DE X E (.Constant (.bool b) j pos) (eC (.bl b)):=PE.mono' OL fun _ _ _ ⟨_,_,ok,q⟩=>aL.now q ok.ext rfl
theorem BO{j pos}:DE X E (.Constant .none j pos) (eC .non):=PE.mono' zT fun _ _ _ ⟨_,_,ok,q⟩=>aL.now q ok.ext rfl
theorem rN{x j pos}:DE X E (.Constant (.str x) j pos) (eC (.str x)):=PE.mono' uQ fun _ _ _ ⟨_,_,ok,q⟩=>aL.now q ok.ext rfl
theorem BP{x:Str}{d:D}{v:V}{u:Value}{pos:Pos}(hm:X.mg x=some u)(r:aM v u)(rp:∀G,aR X.K X.mg G d v)(hg:Gl X x:=by rfl)(hd:(x==("__debug__":Str))=false:=by decide):DE X E (.Name x pos) (eC d):=
 PE.mono' (OM hg hm r hd) fun _ _ _ ⟨_,_,ok,q⟩=>aL.now q ok.ext (rp _)
theorem BQ{x:Str}{C:Addr}{pos:Pos}(hm:X.mg x=some (.ref C))(hg:Gl X x:=by rfl)(hd:(x==("__debug__":Str))=false:=by decide):DE X E (.Name x pos) (eC (.cls x)):=
 BP hm (v:=.ref C) rfl (fun _=>⟨C,rfl,hm⟩) hg hd
theorem nA{x:Str}{n:String}{pos:Pos}(hm:X.mg x=none)(hv:bootBuiltins x=some (.type n):=by rfl)(hg:Gl X x:=by rfl)(hn:x≠"__name__":=by decide)(hd:(x==("__debug__":Str))=false:=by decide):DE X E (.Name x pos) (eC (.ty n)):=
 PE.mono' (ON hg hm hv (v:=.ty n) rfl hn hd) fun _ _ _ ⟨_,_,ok,q⟩=>aL.now q ok.ext rfl
def eQ(K:xFg)(mg:Str->Option Value)(r:R2)(g:D->D->R D):Prop:=
 ∀(G H:Hp) (a b:D) (x y:V) (Q:VK),Same G H->aR K mg G a x->aR K mg G b y->RW (g a b) (aL K mg Q G H) (fun _=>False)->r x y H Q
def aC(g:D->D->R D)(fa fb:DSt->R D):DSt->R D:=fun σ=>(fa σ).bind fun x=>(fb σ).bind fun y=>g x y
theorem gM{f:DSt->R D}{α:Type}{k:D->R α}{σ:St}{H:Hp}{Q:VK}{P:Hp->Hp->α->Prop}{G:Hp}{σd:DSt}
  (ok:bH K mg σd σ G H) (q:RW ((f σd).bind k) (P G H) (aX K mg E G H))
  (h:∀d v G' H',Step G H G' H'->bH K mg σd σ G' H'->aR K mg G' d v->RW (k d) (P G H) (aX K mg E G' H')->Q v H'):tE K mg E f σ H Q:=
 ⟨G,σd,ok,q.of_bind.mono (fun d _ q v G' H' s r=>h d v G' H' s (ok.step s) r (q.mono (fun _ _ z=>z) fun e z=>z.step s)) fun _ z=>z⟩
theorem noX{α:Type}{r:R α}{Q:α->Prop}{E':D->Prop}(hr:∀e,r≠.err e)(h:RW r Q E'):RW r Q (fun _=>False):=by
 cases r with
 |ok a=>exact h
 |err e=>exact xaq rfl (hr e)
 |bad=>exact h
def eR(g:D->D->R D):Prop:=∀a b e,g a b≠.err e
theorem pI{r:R2}{g:D->D->R D}(hd:eQ X.K X.mg r g)(hn:eR g){fa fb:DSt->R D}{σ:St}{H:Hp}{Q:VK}(h:tE X.K X.mg E (aC g fa fb) σ H Q):mV r (tE X.K X.mg E fa) (tE X.K X.mg E fb) σ H Q:=by
 obtain⟨G,σd,ok,q⟩:=h
 refine gM (P:=aL X.K X.mg Q) ok q fun a x G1 H1 s1 ok1 r1 q1=>?_
 refine gM (P:=fun _ _=>aL X.K X.mg Q G H) ok1 q1 fun b y G2 H2 s2 ok2 r2 q2=>?_
 exact hd G2 H2 a b x y Q ok2.ext (r1.mono s2.g) r2 (noX (hn a b) (q2.mono (fun _ _ z=>z.step (s1.trans s2)) fun _ z=>z))
variable{a b c:Expr}{fa fb fc:DSt->R D}{pos:Pos}
theorem nB{op:Operator}{r:R2}{g:D->D->R D}(ho:bD X (binaryOp op) r)(hd:eQ X.K X.mg r g)(hn:eR g)(ha:DE X E a fa)(hb:DE X E b fb):DE X E (.BinOp a op b pos) (aC g fa fb):=
 PE.mono' (uX ho ha hb) fun _ _ _ h=>pI hd hn h
theorem UF{op:CmpOp}{r:R2}{g:D->D->R D}(ho:bD X (compareOp op) r)(hd:eQ X.K X.mg r g)(hn:eR g)(ha:DE X E a fa)(hb:DE X E b fb)(hm:behindInMarks op b=false:=by first|exact c5 _ (by decide) (by decide)|rfl):DE X E (.Compare a [op] [b] pos) (aC g fa fb):=
 PE.mono' (QS ho ha hb hm) fun _ _ _ h=>pI hd hn h
def iE:D->R Bool
 |.bl b=>.ok b
 |_=>.bad
def aS(f:DSt->R D):DSt->R Bool:=fun σ=>(f σ).bind iE
theorem vR{t:TE}{f:DSt->R D}(h:∀σ H Q,tE X.K X.mg E f σ H Q->t σ H Q){σ:St}{H:Hp}{Q:Bool->Hp->Prop}(q:tT X.K X.mg E (aS f) σ H Q):uY t σ H Q:=by
 obtain⟨G,σd,ok,q⟩:=q
 refine h σ H _ ⟨G,σd,ok,q.of_bind.mono (fun d _ q v G' H' s r=>?_) fun _ z=>z⟩
 cases d with
 |bl k=>cases r;exact⟨k,rfl,(show jU Q G H k from q) G' H' s⟩
 |_=>exact(show False from q).elim
theorem UG{op:CmpOp}{r:R2}{g:D->D->R D}(ho:bD X (compareOp op) r)(hd:eQ X.K X.mg r g)(hn:eR g)(ha:DE X E a fa)(hb:DE X E b fb)(hm:behindInMarks op b=false:=by first|exact c5 _ (by decide) (by decide)|rfl):DT X E (.Compare a [op] [b] pos) (aS (aC g fa fb)):=
 PT.mono' (QT ho ha hb hm) fun _ _ _ q=>vR (fun _ _ _ h=>pI hd hn h) q
def jV(g g':D->D->R D)(fa fb fc:DSt->R D):DSt->R D:=fun σ=>(fa σ).bind fun x=>(fb σ).bind fun y=>(g x y).bind fun z=>(iE z).bind fun k=>bif k then (fc σ).bind fun w=>g' y w else .ok (.bl false)
theorem BS{r r':R2}{g g':D->D->R D}(hd:eQ X.K X.mg r g)(hn:eR g)(hd':eQ X.K X.mg r' g')(hn':eR g'){σ:St}{H:Hp}{Q:VK}(h:tE X.K X.mg E (jV g g' fa fb fc) σ H Q) :
  uZ r r' (tE X.K X.mg E fa) (tE X.K X.mg E fb) (tE X.K X.mg E fc) σ H Q:=by
 obtain⟨G,σd,ok,q⟩:=h
 refine gM (P:=aL X.K X.mg Q) ok q fun a x G1 H1 s1 ok1 r1 q1=>?_
 refine gM (P:=fun _ _=>aL X.K X.mg Q G H) ok1 q1 fun b y G2 H2 s2 ok2 r2 q2=>?_
 refine hd G2 H2 a b x y _ ok2.ext (r1.mono s2.g) r2 ?_
 have s12:=s1.trans s2
 cases ez:g a b with
 |bad=>rw[ez] at q2;exact q2.elim
 |err e=>exact xaq ez (hn a b e)
 |ok z=>
  rw[ez] at q2
  intro v G3 H3 s3 r3
  cases z with
  |bl k=>
   cases r3
   have ok3:=ok2.step s3
   have s13:=s12.trans s3
   refine⟨k,rfl,?_⟩
   cases k with
   |false=>
    rw[xak xa4]
    have q3:aL X.K X.mg Q G H (.bl false):=q2
    exact q3 _ G3 H3 s13 rfl
   |true=>
    rw[xal rfl]
    have q3:RW ((fc σd).bind fun w=>g' b w) (aL X.K X.mg Q G H) (aX X.K X.mg E G2 H2):=q2
    refine gM (k:=fun w=>g' b w) (P:=fun _ _=>aL X.K X.mg Q G H) ok3 (q3.mono (fun _ _ z=>z) fun _ z=>z.step s3) fun c w G4 H4 s4 ok4 r4 q4=>?_
    exact hd' G4 H4 b c y w Q ok4.ext (r2.mono (s3.g.trans s4.g)) r4 (noX (hn' b c) (q4.mono (fun _ _ z=>z.step (s13.trans s4)) fun _ z=>z))
  |_=>exact(show False from q2).elim
theorem UH{op op':CmpOp}{r r':R2}{g g':D->D->R D}(ho:bD X (compareOp op) r)(hd:eQ X.K X.mg r g)(hn:eR g)(ho':bD X (compareOp op') r')(hd':eQ X.K X.mg r' g')(hn':eR g')(ha:DE X E a fa)(hb:DE X E b fb)(hc:DE X E c fc)
  (hm:lastMarks [op,op'] [b,c]=false:=by with_unfolding_all rfl):DE X E (.Compare a [op,op'] [b,c] pos) (jV g g' fa fb fc):=
 PE.mono' (QU ho ho' ha hb hc hm) fun _ _ _ h=>BS hd hn hd' hn' h
theorem UI{op op':CmpOp}{r r':R2}{g g':D->D->R D}(ho:bD X (compareOp op) r)(hd:eQ X.K X.mg r g)(hn:eR g)(ho':bD X (compareOp op') r')(hd':eQ X.K X.mg r' g')(hn':eR g')(ha:DE X E a fa)(hb:DE X E b fb)(hc:DE X E c fc)
  (hm:lastMarks [op,op'] [b,c]=false:=by with_unfolding_all rfl):DT X E (.Compare a [op,op'] [b,c] pos) (aS (jV g g' fa fb fc)):=
 PT.mono' (QV ho ho' ha hb hc hm) fun _ _ _ q=>vR (fun _ _ _ h=>BS hd hn hd' hn' h) q
theorem pJ{e:Expr}{f:DSt->R D}(h:DE X E e f)(he:∀whole,isTrue e X.env whole=(do let v<-whole;standAt e.pos;holding [v] (truthy v)):=by intro _;rfl):DT X E e (aS f):=
 PT.mono' (OV h he) fun σ H Q q=>vR (t:=tE X.K X.mg E f) (fun _ _ _ h=>h) q
theorem DW.dt{e:Expr}{f:DSt->R Bool}(h:DW X E e f):DT X E e f:=h _
variable{aN:List Expr}{ga gb:DSt->R Bool}
def rO(fa fb:DSt->R Bool):DSt->R Bool:=fun σ=>(fa σ).bind fun k=>bif k then fb σ else .ok false
def fD(fa fb:DSt->R Bool):DSt->R Bool:=fun σ=>(fa σ).bind fun k=>bif k then .ok true else fb σ
def dB(fa:DSt->R Bool):DSt->R Bool:=fun σ=>(fa σ).bind fun k=>.ok (!k)
theorem vS{f:DSt->R Bool}{α:Type}{k:Bool->R α}{σ:St}{H:Hp}{Q:Bool->Hp->Prop}{P:α->Prop}{G:Hp}{σd:DSt}
  (ok:bH K mg σd σ G H) (q:RW ((f σd).bind k) P (aX K mg E G H))
  (h:∀b G' H',Step G H G' H'->bH K mg σd σ G' H'->RW (k b) P (aX K mg E G' H')->Q b H'):tT K mg E f σ H Q:=
 ⟨G,σd,ok,q.of_bind.mono (fun d _ q G' H' s=>h d G' H' s (ok.step s) (q.mono (fun _ _ z=>z) fun e z=>z.step s)) fun _ z=>z⟩
theorem vT(ha:DT X E a ga):DW X E (.BoolOp .And [a] pos) ga:=O0 ha
theorem vU(ha:DT X E a ga):DW X E (.BoolOp .Or [a] pos) ga:=O1 ha
theorem BT(ha:DT X E a ga)(hb:DW X E (.BoolOp .And (b::aN) pos) gb):DW X E (.BoolOp .And (a::b::aN) pos) (rO ga gb):=by
 refine PW.mono' (O2 ha hb) fun σ H Q ⟨G,σd,ok,q⟩=>?_
 refine vS ok q fun k G' H' s ok' q'=>?_
 cases k with
 |true=>rw[xal rfl];exact⟨G',σd,ok',q'.mono (fun _ _ z=>z.step s) fun _ z=>z⟩
 |false=>rw[xak xa4];exact(show jU Q G H false from q') G' H' s
theorem lM(ha:DT X E a ga)(hb:DW X E (.BoolOp .Or (b::aN) pos) gb):DW X E (.BoolOp .Or (a::b::aN) pos) (fD ga gb):=by
 refine PW.mono' (O3 ha hb) fun σ H Q ⟨G,σd,ok,q⟩=>?_
 refine vS ok q fun k G' H' s ok' q'=>?_
 cases k with
 |true=>rw[xal rfl];exact(show jU Q G H true from q') G' H' s
 |false=>rw[xak xa4];exact⟨G',σd,ok',q'.mono (fun _ _ z=>z.step s) fun _ z=>z⟩
theorem nF(ha:DT X E a ga):DT X E (.UnaryOp .Not a pos) (dB ga):=by
 refine PT.mono' (O4 ha) fun σ H Q ⟨G,σd,ok,q⟩=>?_
 exact vS ok q fun k G' H' s _ q'=>(show jU Q G H (!k) from q') G' H' s
def lN(fa fb:DSt->R D):DSt->R D:=fun σ=>(fa σ).bind fun x=>(iE x).bind fun k=>bif k then fb σ else .ok (.bl false)
def vOr(fa fb:DSt->R D):DSt->R D:=fun σ=>(fa σ).bind fun x=>(iE x).bind fun k=>bif k then .ok (.bl true) else fb σ
def vV(fa:DSt->R D):DSt->R D:=fun σ=>(fa σ).bind fun x=>(iE x).bind fun k=>.ok (.bl !k)
theorem vW{op}{f:DSt->R D}(h:DE X E a f):DE X E (.BoolOp op [a] pos) f:=O7 h
theorem pK(ha:DE X E a fa)(hb:DE X E (.BoolOp .And (b::aN) pos) fb):DE X E (.BoolOp .And (a::b::aN) pos) (lN fa fb):=by
 refine PE.mono' (O8 ha hb) fun σ H Q ⟨G,σd,ok,q⟩=>?_
 refine gM (P:=aL X.K X.mg Q) ok q fun d v G' H' s ok' r q'=>?_
 cases d with
 |bl k=>
  cases r
  refine⟨k,rfl,?_⟩
  cases k with
  |true=>rw[xal rfl];exact⟨G',σd,ok',q'.mono (fun _ _ z=>z.step s) fun _ z=>z⟩
  |false=>rw[xak xa4];exact(show aL X.K X.mg Q G H (.bl false) from q') _ G' H' s rfl
 |_=>exact(show False from q').elim
theorem UK(ha:DE X E a fa):DE X E (.UnaryOp .Not a pos) (vV fa):=by
 refine PE.mono' (O9 ha) fun σ H Q ⟨G,σd,ok,q⟩=>?_
 refine gM (P:=aL X.K X.mg Q) ok q fun d v G' H' s ok' r q'=>?_
 cases d with
 |bl k=>cases r;exact⟨k,rfl,(show aL X.K X.mg Q G H (.bl !k) from q') _ G' H' s rfl⟩
 |_=>exact(show False from q').elim
def eIf(c:DSt->R Bool)(fa fb:DSt->R D):DSt->R D:=fun σ=>(c σ).bind fun k=>bif k then fa σ else fb σ
def eUn(g:D->R D)(fa:DSt->R D):DSt->R D:=fun σ=>(fa σ).bind g
def aF:DSt->R (List D):=fun _=>.ok []
def aB(fa:DSt->R D)(fs:DSt->R (List D)):DSt->R (List D):=fun σ=>(fa σ).bind fun x=>(fs σ).bind fun xs=>.ok (x::xs)
variable{es:List Expr}{fs:DSt->R (List D)}
theorem gN:DA X E [] aF:=PA.mono' dM fun σ H Q ⟨G,σd,ok,q⟩=>(show rM X.K X.mg Q G H [] from q) [] G H (.refl ok.ext) Reps.nil
theorem dQ(ha:DE X E a fa)(hr:DA X E es fs)(hs:starEach (a::es) X.env=(false,eval a X.env)::starEach es X.env:=by rfl):DA X E (a::es) (aB fa fs):=by
 refine PA.mono' (cL ha hr hs) fun σ H Q ⟨G,σd,ok,q⟩=>?_
 refine gM (P:=rM X.K X.mg Q) ok q fun d v G' H' s ok' r q'=>?_
 refine⟨G',σd,ok',q'.of_bind.mono (fun ds _ z vs G2 H2 s2 r2=>?_) fun _ z=>z⟩
 exact(show rM X.K X.mg Q G H (d::ds) from z) _ G2 H2 (s.trans s2) (Reps.cons (r.mono s2.g) r2)
def i0(n:Nat):Bool:=decide (n<=1000)
theorem vX{n:Nat}(h:i0 n=true):n<=sizeLine:=small (xau h)
def kN(fs:DSt->R (List D)):DSt->R D:=fun σ=>(fs σ).bind fun ds=>bif i0 ds.length then .ok (.tup ds) else .bad
theorem BU{α:Type}{k:List D->R α}{σ:St}{H:Hp}{Q:List V->Hp->Prop}{P:α->Prop}{G:Hp}{σd:DSt}
  (ok:bH K mg σd σ G H) (q:RW ((fs σd).bind k) P (aX K mg E G H))
  (h:∀ds vs G' H',Step G H G' H'->bH K mg σd σ G' H'->Reps K mg G' ds vs->RW (k ds) P (aX K mg E G' H')->Q vs H'):vP K mg E fs σ H Q:=
 ⟨G,σd,ok,q.of_bind.mono (fun ds _ q vs G' H' s r=>h ds vs G' H' s (ok.step s) r (q.mono (fun _ _ z=>z) fun e z=>z.step s)) fun _ z=>z⟩
theorem UN{x1}(h:DA X E es fs):DE X E (.Tuple es x1 pos) (kN fs):=by
 refine PE.mono' (mW h) fun σ H Q ⟨G,σd,ok,q⟩=>?_
 refine BU (P:=aL X.K X.mg Q G H) ok q fun ds vs G' H' s ok' r q'=>?_
 cases hf:i0 ds.length with
 |false=>rw[hf] at q';exact(show False from q').elim
 |true=>
  rw[hf] at q'
  have q2:aL X.K X.mg Q G H (.tup ds):=q'
  refine⟨by rw[<- r.length];exact vX hf,fun p hp=>?_⟩
  have s2:Step G' H' (aG G' p (.tup vs)) (aG H' p (.tup vs)):=.pub ok'.ext hp
  exact q2 _ _ _ (s.trans s2) ⟨p,vs,rfl,bG.of aU,r.mono s2.g⟩
def cS(fs:DSt->R (List D)):DSt->R (List D):=fun σ=>(fs σ).bind fun ds=>bif i0 ds.length then .ok ds else .bad
theorem UO(h:DA X E es fs):DF X E (.List es pos) (cS fs):=by
 refine PE.mono' (u8 h) fun σ H Q ⟨G,σd,ok,q⟩=>?_
 refine BU (P:=vO X.K X.mg Q G H) ok q fun ds vs G' H' s ok' r q'=>?_
 cases hf:i0 ds.length with
 |false=>rw[hf] at q';exact(show False from q').elim
 |true=>
  rw[hf] at q'
  have q2:vO X.K X.mg Q G H ds:=q'
  refine⟨by rw[<- r.length];exact vX hf,fun p hp=>?_⟩
  exact q2 p vs G' _ (s.trans (.hid ok'.ext hp)) (s.h.free hp) aU (ok'.ext.free hp) r
def aI:D->D->R D
 |.tup xs,.int i=>match eP xs i with
  |some d=>.ok d
  |none=>.bad
 |.lst xs,.int i=>match eP xs i with
  |some d=>.ok d
  |none=>.bad
 |_,_=>.bad
theorem UP:eR aI:=by
 intro a b e h
 cases a<;>cases b<;>simp only[aI] at h<;>first|exact xaq h (by simp)|(split at h<;>cases h)
theorem UQ:eQ K mg (fun x y H Q=>A0 K x y H Q\/A1 K x y H Q) aI:=by
 intro G H a b x y Q e ra rb q
 cases b with
 |int i=>
  cases rb
  cases a with
  |lst xs=>
   obtain⟨p,vs,rfl,h1,h2⟩:=ra
   cases ed:eP xs i with
   |none=>simp only[aI,ed] at q;exact q.elim
   |some d=>
    simp only[aI,ed] at q
    obtain⟨v,h3,h4⟩:=h2.at ed
    exact .inl ⟨p,vs,i,v,rfl,rfl,e.seq h1,h3,aL.now q e h4⟩
  |tup xs=>
   obtain⟨p,vs,rfl,h1,h2⟩:=ra
   cases ed:eP xs i with
   |none=>simp only[aI,ed] at q;exact q.elim
   |some d=>
    simp only[aI,ed] at q
    obtain⟨v,h3,h4⟩:=h2.at ed
    exact .inr ⟨p,vs,i,v,rfl,rfl,Same.sqT e h1,h3,aL.now q e h4⟩
  |_=>exact(show False from q).elim
 |_=>cases a<;>exact(show False from q).elim
theorem BV(ha:DE X E a fa)(hb:DE X E b fb)(hs:pB b:=by intro _ _;rfl):DE X E (.Subscript a b pos) (aC aI fa fb):=
 PE.mono' (kJ (A4.or lF) ha hb hs) fun _ _ _ h=>pI UQ UP h
end
def lO(K:xFg)(mg:Str->Option Value)(m:List D->R D):Sp:=fun vs H Q E=>∃G ds,Same G H/\Reps K mg G ds vs/\RW (m ds) (aL K mg Q G H) (aX K mg E G H)
structure bA(P:Program)(w:World)(K:xFg)(mg:Str->Option Value)(base:Heap)(k:Nat)(x:Str)(m:List D->R D):Prop where
 ex:∃(f:Addr) (fd:FuncData) (ps:List Str),cF P w K mg base (bM P w) k f fd ps (lO K mg m)/\mg x=some (.ref f)/\PySem.W.keepIn K (.ref f)=true/\bR K fd ps []
theorem bA.mono{P:Program}{w:World}{K:xFg}{mg:Str->Option Value}{base:Heap}{j k:Nat}{x:Str}{m:List D->R D}(F:bA P w K mg base j x m)(h:j<=k):bA P w K mg base k x m:=by
 obtain⟨f,fd,ps,h1,h2⟩:=F.ex
 exact⟨f,fd,ps,h1.mono h,h2⟩
structure XC(X:Cx)(E:XK)(k:Nat):Prop where
 calm:X.calm=true
 room:bZ k X.A
 pass:jO (bM X.prog X.w) X E
def bI(m:List D->R D)(fs:DSt->R (List D)):DSt->R D:=fun σ=>(fs σ).bind m
def i6(K:xFg)(mg:Str->Option Value)(r:List V->Hp->VK->Prop)(g:List D->R D):Prop:=
 ∀(G H:Hp) (ds:List D) (vs:List V) (Q:VK),Same G H->Reps K mg G ds vs->RW (g ds) (aL K mg Q G H) (fun _=>False)->r vs H Q
def R.noerr{α:Type}:R α->R α
 |.ok a=>.ok a
 |_=>.bad
def aK(g:List D->R D)(fs:DSt->R (List D)):DSt->R D:=fun σ=>(fs σ).bind fun ds=>(g ds).noerr
theorem nH{α:Type}{r:R α}{Q:α->Prop}{E':D->Prop}(h:RW r.noerr Q E'):∃a,r=.ok a/\Q a:=by
 cases r with
 |ok a=>exact⟨a,rfl,h⟩
 |err e=>exact(show False from h).elim
 |bad=>exact(show False from h).elim
section
variable{X:Cx}{E:XK}{k:Nat}{x:Str}{m:List D->R D}{p pos:Pos}{e:Expr}{es:List Expr}{fs:DSt->R (List D)}
theorem BW(C:XC X E k)(F:bA X.prog X.w X.K X.mg X.base k x m)(ha:DA X E (e::es) fs)(hg:Gl X x:=by rfl)(hdb:(x==("__debug__":Str))=false:=by decide)
  (he:starEach (e::es) X.env=(false,eval e X.env)::starEach es X.env:=by rfl) (hpl:(backTo pos (starEach es X.env)).any (·.1)=false:=by rfl):DE X E (.Call (.Name x p) (e::es) [] pos) (bI m fs):=by
 obtain⟨f,fd,ps,h1,h2,h3,h4⟩:=F.ex
 refine PE.mono' (vA h1 C.room hg h2 h3 h4 .nil C.pass ha hdb he hpl) fun σ H Q ⟨G,σd,ok,q⟩=>?_
 refine⟨G,σd,ok,q.of_bind.mono (fun ds hds z vs G' H' s r=>?_) fun _ z=>z⟩
 show lO X.K X.mg m (vs++[]) H' Q E
 rw[xbn]
 exact⟨G',ds,s.e,r,z.mono (fun _ _ z=>z.step s) fun _ z=>z.step s⟩
theorem rP{id:String}{r:List V->Hp->VK->Prop}{g:List D->R D}(hc:dL X (.builtin id) r)(hd:i6 X.K X.mg r g)(hm:X.mg x=none)(hv:bootBuiltins x=some (.builtin id))(ha:DA X E (e::es) fs)(hg:Gl X x:=by rfl)(hn:x≠"__name__":=by decide)(hdb:(x==("__debug__":Str))=false:=by decide)
  (he:starEach (e::es) X.env=(false,eval e X.env)::starEach es X.env:=by rfl) (hpl:(backTo pos (starEach es X.env)).any (·.1)=false:=by rfl):DE X E (.Call (.Name x p) (e::es) [] pos) (aK g fs):=by
 refine PE.mono' (AT hc hg hm hv ha hn hdb he hpl) fun σ H Q ⟨G,σd,ok,q⟩=>?_
 refine⟨G,σd,ok,q.of_bind.mono (fun ds _ z vs G' H' s r=>?_) fun _ z=>z⟩
 obtain⟨d,e1,z⟩:=nH z
 exact hd G' H' ds vs Q s.e r (by rw[e1];exact z.step s)
theorem vY{T:String}{r:List V->Hp->VK->Prop}{g:List D->R D}(hc:dL X (.type T) r)(hd:i6 X.K X.mg r g)(hm:X.mg x=none)(ha:DA X E (e::es) fs)(hv:bootBuiltins x=some (.type T):=by rfl)(hg:Gl X x:=by rfl)(hn:x≠"__name__":=by decide)(hdb:(x==("__debug__":Str))=false:=by decide)
  (he:starEach (e::es) X.env=(false,eval e X.env)::starEach es X.env:=by rfl) (hpl:(backTo pos (starEach es X.env)).any (·.1)=false:=by rfl):DE X E (.Call (.Name x p) (e::es) [] pos) (aK g fs):=by
 refine PE.mono' (AU hc hg hm hv ha hn hdb he hpl) fun σ H Q ⟨G,σd,ok,q⟩=>?_
 refine⟨G,σd,ok,q.of_bind.mono (fun ds _ z vs G' H' s r=>?_) fun _ z=>z⟩
 obtain⟨d,e1,z⟩:=nH z
 exact hd G' H' ds vs Q s.e r (by rw[e1];exact z.step s)
end
def setAll{α:Type}:List (Option α)->List Nat->List α->List (Option α)
 |σ,k::ks,v::vs=>setAll (σ.set k (some v)) ks vs
 |σ,_,_=>σ
theorem BX{α:Type}:∀(ks:List Nat) (σ:List (Option α)) (vs:List α),(setAll σ ks vs).length=σ.length
 |[],_,_=>by unfold setAll;rfl
 |_::_,_,[]=>by unfold setAll;rfl
 |_::ks,σ,_::vs=>by unfold setAll;rw[BX ks];simp
theorem BY{α:Type}{j:Nat}:∀(ks:List Nat) (σ:List (Option α)) (vs:List α),j∉ks->(setAll σ ks vs)[j]? = σ[j]?
 |[],_,_,_=>by unfold setAll;rfl
 |_::_,_,[],_=>by unfold setAll;rfl
 |k::ks,σ,_::vs,h=>by
  unfold setAll
  rw[BY ks _ vs fun z=>h (xas _ z),xae (fun z=>h (by rw[<- z];exact xa7))]
def tG(K:xFg)(mg:Str->Option Value)(ks:List Nat)(gp:D->R (List D)):TG:=fun v σ H Q=>∃G d,Same G H/\aR K mg G d v/\RW (gp d) (fun us=>∀ws,Reps K mg G us ws->Q (setAll σ ks ws) H) (fun _=>False)
def DG(X:Cx)(tg:Expr)(ks:List Nat)(gp:D->R (List D)):Prop:=PG X tg (tG X.K X.mg ks gp)
def bN:D->R (List D):=fun d=>.ok [d]
def fE(n:Nat):D->R (List D)
 |.tup ds=>bif ds.length==n then .ok ds else .bad
 |.lst ds=>bif ds.length==n then .ok ds else .bad
 |_=>.bad
section
variable{X:Cx}{pos:Pos}
theorem PG.mono'{tg:Expr}{t t':TG}(h:PG X tg t)(m:∀v σ H Q,t' v σ H Q->t v σ H Q):PG X tg t':=fun pins s σ H v u Q I r q=>h pins s σ H v u Q I r (m v σ H Q q)
theorem PG.or{tg:Expr}{t t':TG}(h:PG X tg t)(h':PG X tg t'):PG X tg (fun v σ H Q=>t v σ H Q\/t' v σ H Q):=fun pins s σ H v u Q I r q=>by
 rcases q with q|q
 ·exact h pins s σ H v u Q I r q
 ·exact h' pins s σ H v u Q I r q
theorem UR(i:Nat){x:Str}(hN:X.N.Nodup)(hi:X.N[i]? = some x:=by rfl)(hx:eM X.env.scope x:=by first|exact Or.inl rfl|exact Or.inr rfl)(hf:X.fn x=true\/X.env.scope.names.lookup x=some .local:=by first|exact .inl rfl|exact .inr rfl|assumption):DG X (.Name x pos) [i] bN:=
 PG.mono' (uT hN hi hx hf) fun v σ H Q ⟨G,d,e,r,q⟩=>by
  have q':=(show ∀ws,Reps X.K X.mg G [d] ws->Q (setAll σ [i] ws) H from q) [v] (Reps.cons r Reps.nil)
  exact q'
def vZ:List Nat->iU
 |[]=>zV
 |i::r=>zW (o6 i) (vZ r)
theorem wA:∀(ks:List Nat) (vs:List V) (σ:St) (H:Hp) (Q:St->Hp->Prop),vs.length=ks.length->Q (setAll σ ks vs) H->vZ ks vs σ H Q
 |[],[],_,_,_,_,q=>⟨rfl,q⟩
 |i::r,v::vs,σ,H,Q,hl,q=>⟨v,vs,rfl,wA r vs _ H Q (by simpa using hl) q⟩
theorem US{es:List Expr}{k:Nat}(ks:List Nat)(n:Nat)(hc:X.calm=true)(h:mS X es (vZ ks))(hk:ks.length=n:=by rfl)
  (hn:(assignEach es X.env).length=n:=by rfl) (hst:(assignEach es X.env).findIdx? (·.1)=none:=by rfl):DG X (.Tuple es k pos) ks (fE n):=by
 refine PG.mono' (PG.or (PU hc h hn hst) (TH hc h hn hst)) fun v σ H Q ⟨G,d,e,r,q⟩=>?_
 cases d with
 |tup ds=>
  obtain⟨a,vs,rfl,h1,h2⟩:=r
  by_cases hd:ds.length=n
  ·have q':∀ws,Reps X.K X.mg G ds ws->Q (setAll σ ks ws) H:=by
    simp only[fE,hd,beq_self_eq_true,cond_true] at q;exact q
   exact .inl ⟨a,vs,rfl,Same.sqT e h1,by rw[<- h2.length];exact hd,wA ks vs σ H Q (by rw[<- h2.length,hd,hk]) (q' vs h2)⟩
  ·have:(ds.length==n)=false:=by simpa using hd
   simp only[fE,this,cond_false] at q;exact q.elim
 |lst ds=>
  obtain⟨a,vs,rfl,h1,h2⟩:=r
  by_cases hd:ds.length=n
  ·have q':∀ws,Reps X.K X.mg G ds ws->Q (setAll σ ks ws) H:=by
    simp only[fE,hd,beq_self_eq_true,cond_true] at q;exact q
   exact .inr ⟨a,vs,rfl,e.seq h1,by rw[<- h2.length];exact hd,wA ks vs σ H Q (by rw[<- h2.length,hd,hk]) (q' vs h2)⟩
  ·have:(ds.length==n)=false:=by simpa using hd
   simp only[fE,this,cond_false] at q;exact q.elim
 |_=>exact(show False from q).elim
end
theorem bH.setAll{K:xFg}{mg:Str->Option Value}{G H:Hp}:∀{ks:List Nat} {us:List D} {ws:List V} {σd:DSt} {σ:St},bH K mg σd σ G H->Reps K mg G us ws->bH K mg (setAll σd ks us) (setAll σ ks ws) G H
 |[],_,_,_,_,o,_=>by unfold DL.setAll;exact o
 |_::_,[],_,_,_,o,h=>by cases h;unfold DL.setAll;exact o
 |k::ks,_::_,_,_,_,o,⟨v,r,h1,h2,h3⟩=>by subst h1;unfold DL.setAll;exact bH.setAll (o.set h2) h3
structure fF(K:xFg)(mg:Str->Option Value)(J:It)(G:Hp)(ds:List D):Prop where
 stop:∀H,Same G H->J.stop ds.length H
 turn:∀(H:Hp) (i:Nat) (d:D),Same G H->ds[i]? = some d->J.go i H/\∀x H',J.yld i H x H'->∀G1,Same G G1->Same G1 H->∃G2,Step G1 H G2 H'/\aR K mg G2 d x
def tI(K:xFg)(mg:Str->Option Value)(E:XK)(f:DSt->R (List D)):TI:=fun σ H R=>∃G σd,bH K mg σd σ G H/\RW (f σd) (fun ds=>∀J G' H',Step G H G' H'->fF K mg J G' ds->R J H') (aX K mg E G H)
def DI(X:Cx)(E:XK)(tg iter:Expr)(f:DSt->R (List D)):Prop:=PI X tg iter (tI X.K X.mg E f)
section
variable{X:Cx}{E:XK}{tg:Expr}
theorem PI.mono'{iter:Expr}{t t':TI}(h:PI X tg iter t)(m:∀σ H R,t' σ H R->t σ H R):PI X tg iter t':=fun pins s σ H R I q=>h pins s σ H R I (m σ H R q)
theorem fF.list{K:xFg}{mg:Str->Option Value}{G:Hp}{a:Addr}{vs:List V}{ds:List D}(h:aY K G a vs)(r:Reps K mg G ds vs):fF K mg (mT K a) G ds:=by
 refine⟨fun H e=>by rw[r.length];exact(lgo (e.seq h)).1,fun H i d e hd=>?_⟩
 have hi:i<vs.length:=by rw[<- r.length];exact(xaf.mp hd).1
 obtain⟨g1,g2⟩:=(lgo (e.seq h)).2 i hi
 refine⟨g1,fun x H' y G1 e1 e2=>?_⟩
 obtain⟨rfl,hx⟩:=g2 x H' y
 obtain⟨v,h1,h2⟩:=r.get hd
 rw[hx] at h1;cases h1
 exact⟨G1,.refl e2,h2.mono e1⟩
theorem fF.tup{K:xFg}{mg:Str->Option Value}{G:Hp}{a:Addr}{vs:List V}{ds:List D}(h:bG K G a vs)(r:Reps K mg G ds vs):fF K mg (mU K a) G ds:=by
 refine⟨fun H e=>by rw[r.length];exact(tgo (Same.sqT e h)).1,fun H i d e hd=>?_⟩
 have hi:i<vs.length:=by rw[<- r.length];exact(xaf.mp hd).1
 obtain⟨g1,g2⟩:=(tgo (Same.sqT e h)).2 i hi
 refine⟨g1,fun x H' y G1 e1 e2=>?_⟩
 obtain⟨rfl,hx⟩:=g2 x H' y
 obtain⟨v,h1,h2⟩:=r.get hd
 rw[hx] at h1;cases h1
 exact⟨G1,.refl e2,h2.mono e1⟩
def dE(lo:Int)(n:Nat):List D:=(List.range n).map fun (i:Nat)=>D.int (lo+(i:Int))
theorem fF.rng{K:xFg}{mg:Str->Option Value}{G:Hp}(lo:Int)(n:Nat):fF K mg (o8 lo n) G (dE lo n):=by
 have hl:(dE lo n).length=n:=by simp[dE]
 refine⟨fun H e=>by rw[hl];exact xag _,fun H i d e hd=>?_⟩
 have hi:i<n:=by have:=(xaf.mp hd).1;omega
 refine⟨hi,fun x H' y G1 e1 e2=>?_⟩
 obtain⟨rfl,rfl⟩:=y
 have:d=.int (lo+(i:Int)):=by simp[dE,hi] at hd;exact hd.symm
 subst this
 exact⟨G1,.refl e2,rfl⟩
def wB:D->R (List D)
 |.tup ds=>.ok ds
 |.lst ds=>.ok ds
 |_=>.bad
def c6(f:DSt->R D):DSt->R (List D):=fun σ=>(f σ).bind wB
theorem UT{l:Expr}{f:DSt->R D}(hl:DE X E l f):DI X E tg l (c6 f):=by
 have hL:PI X tg l (zY X.K (tE X.K X.mg E f)):=P2 hl
 have hT:PI X tg l (zZ X.K (tE X.K X.mg E f)):=P3 hl
 intro pins s σ H R I ⟨G,σd,ok,q⟩
 cases hf:f σd with
 |bad=>unfold c6 at q;rw[hf] at q;exact(show False from q).elim
 |err e=>
  unfold c6 at q;rw[hf] at q
  refine hL pins s σ H R I ⟨G,σd,ok,?_⟩
  rw[hf];exact q
 |ok d=>
  unfold c6 at q;rw[hf] at q
  cases d with
  |lst ds=>
   have q':∀J G' H',Step G H G' H'->fF X.K X.mg J G' ds->R J H':=q
   refine hL pins s σ H R I ⟨G,σd,ok,?_⟩
   rw[hf]
   rintro v G' H' st ⟨a,vs,rfl,h1,h2⟩
   exact⟨a,rfl,⟨vs,st.e.seq h1⟩,q' _ G' H' st (.list h1 h2)⟩
  |tup ds=>
   have q':∀J G' H',Step G H G' H'->fF X.K X.mg J G' ds->R J H':=q
   refine hT pins s σ H R I ⟨G,σd,ok,?_⟩
   rw[hf]
   rintro v G' H' st ⟨a,vs,rfl,h1,h2⟩
   exact⟨a,rfl,⟨vs,Same.sqT st.e h1⟩,q' _ G' H' st (.tup h1 h2)⟩
  |_=>exact(show False from q).elim
def dF(i:Int):Bool:=Nat.blt i.natAbs 1073741824
theorem wC{i:Int}(h:dF i=true):-(2^30)<=i/\i<2^30:=by
 unfold dF at h
 rw[xcn] at h
 omega
def i7:List D->R (List D)
 |[.int j]=>bif dF j then .ok (dE 0 j.toNat) else .bad
 |_=>.bad
def kO:List D->R (List D)
 |[.int i,.int j]=>bif dF i&&dF j then .ok (dE i (j-i).toNat) else .bad
 |_=>.bad
def iF(g:List D->R (List D))(fs:DSt->R (List D)):DSt->R (List D):=fun σ=>(fs σ).bind g
variable{fs:DSt->R (List D)}{a b c:Expr}{p pos:Pos}
theorem UU(hm:X.mg "range"=none)(ha:DA X E [a] fs)(hg:Gl X "range":=by rfl)(hs:starEach [a] X.env=[(false,eval a X.env)]:=by rfl):DI X E tg (.Call (.Name "range" p) [a] [] pos) (iF i7 fs):=by
 refine PI.mono' (P6 hg hm ha hs) fun σ H R ⟨G,σd,ok,q⟩=>?_
 refine⟨G,σd,ok,q.of_bind.mono (fun ds _ z vs G' H' s r=>?_) fun _ z=>z⟩
 match ds,z,r with
 |[.int j],z,r=>
  obtain rfl:=Reps.of_ints (ns:=[j]) r
  cases hj:dF j with
  |false=>simp only[i7,hj,cond_false] at z;exact z.elim
  |true=>
   simp only[i7,hj,cond_true] at z
   have:=wC hj
   exact⟨j,rfl,by omega,by omega,z _ G' H' s (.rng 0 _)⟩
theorem UV(hm:X.mg "range"=none)(ha:DA X E [a,b] fs)(hg:Gl X "range":=by rfl)(hs:starEach [a,b] X.env=[(false,eval a X.env),(false,eval b X.env)]:=by rfl)(hs2:starEach [b] X.env=[(false,eval b X.env)]:=by rfl) :
  DI X E tg (.Call (.Name "range" p) [a,b] [] pos) (iF kO fs):=by
 refine PI.mono' (P7 hg hm ha hs hs2) fun σ H R ⟨G,σd,ok,q⟩=>?_
 refine⟨G,σd,ok,q.of_bind.mono (fun ds _ z vs G' H' s r=>?_) fun _ z=>z⟩
 match ds,z,r with
 |[.int i,.int j],z,r=>
  obtain rfl:=Reps.of_ints (ns:=[i,j]) r
  cases hj:(dF i&&dF j) with
  |false=>simp only[kO,hj,cond_false] at z;exact z.elim
  |true=>
   simp only[kO,hj,cond_true] at z
   rw[xap] at hj
   have h1:=wC hj.1
   have h2:=wC hj.2
   exact⟨i,j,rfl,⟨by omega,by omega,by omega,by omega⟩,z _ G' H' s (.rng i _)⟩
end
def eS(ks:List Nat)(gp:D->R (List D))(c:DSt->R Bool)(e:DSt->R D)(σ:DSt):List D->R (List D)
 |[]=>.ok []
 |d::ds=>(gp d).bind fun us=>(c (setAll σ ks us)).bind fun k=>bif k then (e (setAll σ ks us)).bind fun y=>(eS ks gp c e σ ds).bind fun ys=>.ok (y::ys) else eS ks gp c e σ ds
def most(n:Nat):Bool:=decide (n<sizeLine)
def fN(k:Nat)(ks:List Nat)(fi:DSt->R (List D))(gp:D->R (List D))(c:DSt->R Bool)(e:DSt->R D):DSt->R (List D):=fun σ=>(fi σ).bind fun ds=>bif most ds.length then (eS ks gp c e (List.replicate k none++σ) ds).noerr else .bad
def iG:DSt->R Bool:=fun _=>.ok true
def wD(X:Cx)(E:XK)(cs:List Expr)(f:DSt->R Bool):Prop:=jT X cs (tT X.K X.mg E f)
theorem jT.mono'{X:Cx}{cs:List Expr}{t t':TT}(h:jT X cs t)(m:∀σ H Q,t' σ H Q->t σ H Q):jT X cs t':=fun pins s σ H Q I q=>h pins s σ H Q I (m σ H Q q)
theorem BZ{X:Cx}{E:XK}:wD X E [] iG:=jT.mono' S0 fun σ H Q ⟨G,σd,ok,q⟩=>(show jU Q G H true from q) G H (.refl ok.ext)
theorem wE{X:Cx}{E:XK}{c:Expr}{f:DSt->R Bool}(h:DT X E c f):wD X E [c] f:=S3 h
theorem RW.ok_of{α:Type}{r:R α}{a:α}{Q:α->Prop}{E:D->Prop}(e:r=.ok a)(h:Q a):RW r Q E:=by rw[e];exact h
theorem rQ{α β:Type}{r:R α}{k:α->R β}{b:β}(h:r.bind k=.ok b):∃a,r=.ok a/\k a=.ok b:=by
 cases r with
 |ok a=>exact⟨a,rfl,h⟩
 |err e=>cases h
 |bad=>cases h
section
variable{X:Cx}{E:XK}{tg elt iter:Expr}{ifs:List Expr}{scope:Scope}{pos:Pos}{NY:List Str}{k:Nat}{ks:List Nat}{fi:DSt->R (List D)}{gp:D->R (List D)}{fc:DSt->R Bool}{fe:DSt->R D}
theorem UW{k:Nat}{ks:List Nat}{σ:St}(h:ks.all (fun i=>decide (i<k))=true)(ws:List V):vK (List.replicate k none++σ) (setAll (List.replicate k none++σ) ks ws):=by
 refine⟨BX _ _ _,fun j v e=>?_⟩
 rw[BY _ _ _ fun hj=>?_]
 ·exact e
 ·have hk:j<k:=xau (xbh.mp h j hj)
  rw[xbu (by simpa using hk),xb1,xal hk] at e
  cases e
theorem UX{te:TE}{tc:TT}(hk:ks.all (fun i=>decide (i<k))=true){σ:St}{H:Hp}{Q:VK}
  (h:vQ X.K X.mg E (fN k ks fi gp fc fe) σ H Q):tLC k (tI X.K X.mg E fi) (tG X.K X.mg ks gp) (tT X.K X.mg E0 fc) (tE X.K X.mg E0 fe) σ H Q:=by
 obtain⟨G,σd,ok,q⟩:=h
 refine⟨G,σd,ok,q.of_bind.mono (fun ds _ z J G1 H1 s1 it=>?_) fun _ z=>z⟩
 cases hm:most ds.length with
 |false=>rw[hm] at z;exact(show False from z).elim
 |true=>
  rw[hm] at z
  obtain⟨tot,ht,z⟩:=nH (show RW (eS ks gp fc fe (List.replicate k none++σd) ds).noerr _ _ from z)
  have hlt:ds.length<sizeLine:=xau hm
  have ok1:=ok.step s1
  refine⟨fun i m ys H'=>m=ds.length-i/\i<=ds.length/\∃G' yd aN,Step G1 H1 G' H'/\Reps X.K X.mg G' yd ys/\yd.length<=i/\eS ks gp fc fe (List.replicate k none++σd) (ds.drop i)=.ok aN/\tot=yd++aN,
   ⟨ds.length,by simp,xbc _,G1,[],tot,.refl ok1.ext,Reps.nil,xbc _,ht,rfl⟩,?_⟩
  rintro i m ys H' ⟨rfl,hi,G',yd,aN,s,r,hyl,hr,rfl⟩
  refine⟨by rw[<- r.length];omega,?_⟩
  by_cases hlt2:i<ds.length
  ·right
   obtain⟨d,hd⟩:∃d,ds[i]? = some d:=⟨ds[i],by simp[hlt2]⟩
   obtain⟨g1,g2⟩:=it.turn H' i d (s.g.trans s.e) hd
   have hdrop:ds.drop i=d::ds.drop (i+1):=by
    rw[xb9 hlt2]
    congr 1
    exact xaw ((xa0 hlt2).symm.trans hd)
   rw[hdrop] at hr
   refine⟨g1,fun ys' H''=>∃G' yd aN,Step G1 H1 G' H''/\Reps X.K X.mg G' yd ys'/\yd.length<=i+1/\eS ks gp fc fe (List.replicate k none++σd) (ds.drop (i+1))=.ok aN/\_=yd++aN,fun ys' H'' h=>⟨ds.length-(i+1),by omega,rfl,hlt2,h⟩,fun v H'' hy=>?_⟩
   obtain⟨G2,s2,rv⟩:=g2 v H'' hy G' s.g s.e
   unfold eS at hr
   obtain⟨us,e1,hr⟩:=rQ hr
   obtain⟨kk,e2,hr⟩:=rQ hr
   have s12:=s.trans s2
   have okN:bH X.K X.mg (List.replicate k none++σd) (List.replicate k none++σ) G2 H'':=(ok1.step s12).nones k
   refine⟨G2,d,s2.e,rv,RW.ok_of e1 fun ws rws=>⟨UW hk ws,?_⟩⟩
   have okS:=okN.setAll (ks:=ks) rws
   refine⟨G2,_,okS,RW.ok_of e2 fun G3 H3 s3=>?_⟩
   cases kk with
   |false=>
    rw[xak xa4]
    exact⟨G3,yd,aN,s12.trans s3,r.mono (s2.g.trans s3.g),by omega,hr,rfl⟩
   |true=>
    rw[xal rfl]
    obtain⟨y,e3,hr⟩:=rQ (show (fe (setAll (List.replicate k none++σd) ks us)).bind _=_ from hr)
    obtain⟨ys2,e4,hr⟩:=rQ hr
    cases hr
    refine⟨G3,_,okS.step s3,RW.ok_of e3 fun w G4 H4 s4 r4=>?_⟩
    exact⟨G4,yd++[y],ys2,(s12.trans s3).trans s4,(r.mono ((s2.g.trans s3.g).trans s4.g)).append (Reps.cons r4 Reps.nil),by simp;omega,e4,by simp⟩
  ·left
   have hi2:i=ds.length:=by omega
   subst hi2
   refine⟨it.stop H' (s.g.trans s.e),fun Dd hD=>?_⟩
   rw[List.drop_length] at hr
   have hre:aN=[]:=by unfold eS at hr;cases hr;rfl
   subst hre
   rw[xbn] at z
   have st:=(s1.trans s)
   exact z Dd ys G' _ (st.trans (.hid st.e hD)) (st.h.free hD) aU (st.e.free hD) r
theorem pL(C:X.calm=true)(lc:LC X k scope NY)(hk:ks.all (fun i=>decide (i<k))=true)(hi:DI X E tg iter fi)
  (hb:∀(s₀:Shared) (H₀:Hp) (C:Addr) (ex:List Addr),NY.Nodup->DG (c4 X scope NY s₀ H₀ C ex) tg ks gp/\wD (c4 X scope NY s₀ H₀ C ex) E0 ifs fc/\DE (c4 X scope NY s₀ H₀ C ex) E0 elt fe)
  (hs:∀x,foldedSetIterable iter X.env x=pure x:=by intro _;rfl):DF X E (.ListComp elt [⟨tg,iter,ifs,0⟩] scope pos) (fN k ks fi gp fc fe):=
 PE.mono' (S9 (g:=tG X.K X.mg ks gp) (tc:=tT X.K X.mg E0 fc) (te:=tE X.K X.mg E0 fe) C lc hi (fun s0 H0 Ca ex nd=>hb s0 H0 Ca ex nd) hs) fun _ _ _ h=>UX (te:=tE X.K X.mg E0 fe) (tc:=tT X.K X.mg E0 fc) hk h
end
end DL
namespace DL
open L2
mutual
def imm:D->Bool
 |.lst _=>false
 |.dct _ _=>false
 |.tup ds=>imms ds
 |.exc _ as=>imms as
 |.non=>true
 |.bl _=>true
 |.int _=>true
 |.str _=>true
 |.ty _=>true
 |.cls _=>true
def imms:List D->Bool
 |[]=>true
 |d::ds=>imm d&&imms ds
end
def pM(G G':Hp):Prop:=∀a o,G a=some o->(∀xs,o≠.lst xs)->G' a=some o
section
variable{K:xFg}{mg:Str->Option Value}{G G' H H' H0:Hp}
theorem pM.sqT{a:Addr}{xs:List V}(e:pM G G')(h:bG K G a xs):bG K G' a xs:=by
 rcases h with (h|⟨o,h⟩)|h
 ·exact .inl (.inl (e _ _ h fun xs z=>by cases z))
 ·exact .inl (.inr ⟨o,e _ _ h fun xs z=>by cases z⟩)
 ·exact .inr h
mutual
theorem aR.imm(e:pM G G'):∀{d:D} {v:V},imm d=true->aR K mg G d v->aR K mg G' d v
 |.non,_,_,h=>h
 |.bl _,_,_,h=>h
 |.int _,_,_,h=>h
 |.str _,_,_,h=>h
 |.ty _,_,_,h=>h
 |.cls _,_,_,h=>h
 |.tup _,_,i,⟨a,vs,h1,h2,h3⟩=>⟨a,vs,h1,e.sqT h2,Reps.imm e (by unfold DL.imm at i;exact i) h3⟩
 |.lst _,_,i,_=>by unfold DL.imm at i;cases i
 |.dct _ _,_,i,_=>by unfold DL.imm at i;cases i
 |.exc _ _,_,i,⟨x,C,dct,vs,h1,h2,h3,h4,h5⟩=>⟨x,C,dct,vs,h1,e _ _ h2 fun xs z=>(by unfold iY at z;cases z),h3,by
   rcases h4 with h|⟨dx,v,q1,q2,q3⟩
   ·exact .inl h
   ·exact .inr ⟨dx,v,q1,q2,e _ _ q3 fun xs z=>by cases z⟩,Reps.imm e (by unfold DL.imm at i;exact i) h5⟩
theorem Reps.imm(e:pM G G'):∀{ds:List D} {vs:List V},imms ds=true->Reps K mg G ds vs->Reps K mg G' ds vs
 |[],_,_,h=>h
 |_::_,_,i,⟨v,r,h1,h2,h3⟩=>by
  unfold imms at i
  rw[xap] at i
  exact⟨v,r,h1,aR.imm e i.1 h2,Reps.imm e i.2 h3⟩
end
end
structure Ok(K:xFg)(mg:Str->Option Value)(H0:Hp)(own:List Nat)(σd:DSt)(σ:St)(G H:Hp):Prop where
 ext:Same G H
 len:σd.length=σ.length
 val:∀(i:Nat) (d:D),i∉own->σd[i]? = some (some d)->∃v,σ[i]? = some (some v)/\aR K mg G d v
 mine:∀(i:Nat) (d:D),i∈own->σd[i]? = some (some d)->∃a ds vs,σ[i]? = some (some (.ref a))/\d=.lst ds/\H a=some (.lst vs)/\G a=none/\H0 a=none/\Reps K mg G ds vs
 dj:∀(i j:Nat) (a:Addr) (d d':D),i∈own->j∈own->σd[i]? = some (some d)->σd[j]? = some (some d')->σ[i]? = some (some (.ref a))->σ[j]? = some (some (.ref a))->i=j
def gO(own:List Nat):Nat->DSt->DSt
 |_,[]=>[]
 |i,d::ds=>(bif own.contains i then none else d)::gO own (i+1) ds
def mask(own:List Nat)(σ:DSt):DSt:=gO own 0 σ
theorem B0{own:List Nat}:∀(σ:DSt) (k i:Nat) (d:D),(gO own k σ)[i]? = some (some d)->k+i∉own/\σ[i]? = some (some d)
 |[],_,_,_,h=>by unfold gO at h;simp at h
 |x::σ,k,0,d,h=>by
  unfold gO at h
  simp only[xbl,Option.some.injEq] at h
  cases hc:own.contains k with
  |true=>rw[hc] at h;cases h
  |false=>
   rw[hc] at h
   have h':x=some d:=h
   subst h'
   exact⟨by simpa using hc,rfl⟩
 |x::σ,k,i+1,d,h=>by
  unfold gO at h
  have:=B0 σ (k+1) i d (by simpa using h)
  rw[show k+(i+1)=k+1+i by omega]
  exact⟨this.1,by simpa using this.2⟩
theorem B2{own:List Nat}:∀(σ:DSt) (k:Nat),(gO own k σ).length=σ.length
 |[],_=>rfl
 |_::σ,k=>by unfold gO;simp[B2 σ]
def rR(own:List Nat)(σd:DSt)(σ:St)(b:Addr):Prop:=∃i d,i∈own/\σd[i]? = some (some d)/\σ[i]? = some (some (.ref b))
open Classical in
noncomputable def gP(own:List Nat)(σd:DSt)(σ:St)(G H:Hp):Hp:=fun b=>if rR own σd σ b then H b else G b
open Classical in
noncomputable def nI(own:List Nat)(σd:DSt)(σ:St)(G:Hp):Hp:=fun b=>if rR own σd σ b then none else G b
section
variable{K:xFg}{mg:Str->Option Value}{G G' G0 H H' H0:Hp}{own:List Nat}{σd:DSt}{σ:St}
theorem Ok.masked(o:Ok K mg H0 own σd σ G H):bH K mg (mask own σd) σ G H:=
 ⟨o.ext, by unfold mask; rw [B2]; exact o.len, fun i d h => by
  have:=B0 σd 0 i d h
  rw[xco] at this
  exact o.val i d this.1 this.2⟩
theorem Ok.zero(o:bH K mg σd σ G H):Ok K mg H0 [] σd σ G H:=
 ⟨o.ext,o.len,fun i d _ h=>o.val i d h,fun i d h=>xaq h (by simp),fun i j a d d' h=>xaq h (by simp)⟩
theorem Ok.step(o:Ok K mg H0 own σd σ G H)(s:Step G H G' H'):Ok K mg H0 own σd σ G' H':=
 ⟨s.e, o.len, fun i d hi h => let ⟨v, h1, h2⟩ := o.val i d hi h; ⟨v, h1, h2.mono s.g⟩, fun i d hi h => by
  obtain⟨a,ds,vs,h1,h2,h3,h4,h5,h6⟩:=o.mine i d hi h
  exact⟨a,ds,vs,h1,h2,s.h _ _ h3,s.c _ _ h3 h4,h5,h6.mono s.g⟩,o.dj⟩
theorem Ok.notOwn(o:Ok K mg H0 own σd σ G H){b:Addr}{u:HO}(h:G b=some u):¬rR own σd σ b:=by
 rintro⟨i,d,h1,h2,h3⟩
 obtain⟨a,ds,vs,q1,q2,q3,q4,_⟩:=o.mine i d h1 h2
 rw[q1] at h3
 cases h3
 rw[q4] at h;cases h
theorem Ok.ownLst(o:Ok K mg H0 own σd σ G H){b:Addr}(h:rR own σd σ b):(∃vs,H b=some (.lst vs))/\G b=none/\H0 b=none:=by
 obtain⟨i,d,h1,h2,h3⟩:=h
 obtain⟨a,ds,vs,q1,q2,q3,q4,q5,_⟩:=o.mine i d h1 h2
 rw[q1] at h3
 cases h3
 exact⟨⟨vs,q3⟩,q4,q5⟩
theorem Ok.pub(o:Ok K mg H0 own σd σ G H):bH K mg σd σ (gP own σd σ G H) H/\Same G (gP own σd σ G H):=by
 have sg:Same G (gP own σd σ G H):=fun b u h=>by unfold gP;rw[xak (o.notOwn h)];exact h
 refine⟨⟨fun b u h=>?_,o.len,fun i d h=>?_⟩,sg⟩
 ·unfold gP at h
  split at h
  ·exact h
  ·exact o.ext b u h
 ·by_cases hi:i∈own
  ·obtain⟨a,ds,vs,q1,rfl,q3,q4,q5,q6⟩:=o.mine i d hi h
   refine⟨_,q1,a,vs,rfl,aY.of ?_,q6.mono sg⟩
   unfold gP
   rw[xal ⟨i,_,hi,h,q1⟩];exact q3
  ·obtain⟨v,h1,h2⟩:=o.val i d hi h
   exact⟨v,h1,h2.mono sg⟩
theorem Ok.pubStep(o:Ok K mg H0 own σd σ G H)(s0:Step G0 H0 G H):Step G0 H0 (gP own σd σ G H) H:=by
 refine⟨s0.g.trans o.pub.2,s0.h,o.pub.1.ext,fun b u h1 h2=>?_⟩
 unfold gP
 rw[xak fun z=>by rw[(o.ownLst z).2.2] at h1;cases h1]
 exact s0.c b u h1 h2
theorem Ok.drop(o:Ok K mg H0 own σd σ G H)(s:Same H H'):Ok K mg H0 own σd σ G H':=
 o.step (.heap o.ext s)
theorem Ok.hide(o:Ok K mg H0 own σd σ G H)(s:Step (gP own σd σ G H) H G' H'):Step G H (nI own σd σ G') H'/\pM G' (nI own σd σ G'):=by
 refine⟨⟨fun b u h=>?_,s.h,fun b u h=>?_,fun b u h1 h2=>?_⟩,fun b u h1 h2=>?_⟩
 ·unfold nI
  rw[xak (o.notOwn h)]
  exact s.g b u (o.pub.2 b u h)
 ·unfold nI at h
  split at h
  ·cases h
  ·exact s.e b u h
 ·unfold nI
  split
  ·rfl
  ·rename_i n
   refine s.c b u h1 ?_
   unfold gP
   rw[xak n];exact h2
 ·unfold nI
  rw[xak fun z=>?_]
  ·exact h1
  ·obtain⟨⟨vs,q⟩,_⟩:=o.ownLst z
   have:gP own σd σ G H b=some (.lst vs):=by unfold gP;rw[xal z];exact q
   have:=s.g b _ this
   rw[h1] at this;cases this
   exact h2 vs rfl
theorem pN{α:Type}{l:List (Option α)}{i:Nat}{x d:α}(h:(l.set i (some x))[i]? = some (some d)):d=x/\i<l.length:=by
 have hl:i<l.length:=by have:=(xaf.mp h).1;simpa using this
 rw[xat hl] at h
 cases h
 exact⟨rfl,hl⟩
theorem Ok.set{i:Nat}{d:D}{v:V}(o:Ok K mg H0 own σd σ G H)(hi:i∉own)(h:aR K mg G d v):Ok K mg H0 own (σd.set i (some d)) (σ.set i (some v)) G H:=by
 have ne:∀{j:Nat},j∈own->j≠i:=fun hj z=>hi (z▸hj)
 refine⟨o.ext,by simp[o.len],fun j e hj q=>?_,fun j e hj q=>?_,fun j k a d1 d2 h1 h2 h3 h4 h5 h6=>?_⟩
 ·by_cases hji:j=i
  ·subst hji
   obtain⟨rfl,hl⟩:=pN q
   exact⟨v,by rw[xat (by rw[<- o.len];exact hl)],h⟩
  ·rw[xae (xay hji)] at q ⊢
   exact o.val j e hj q
 ·rw[xae (xay (ne hj))] at q ⊢
  exact o.mine j e hj q
 ·rw[xae (xay (ne h1))] at h3 h5
  rw[xae (xay (ne h2))] at h4 h6
  exact o.dj j k a d1 d2 h1 h2 h3 h4 h5 h6
theorem Ok.setAll:∀{ks:List Nat} {us:List D} {ws:List V} {σd:DSt} {σ:St},Ok K mg H0 own σd σ G H->(∀k∈ks,k∉own)->Reps K mg G us ws->Ok K mg H0 own (DL.setAll σd ks us) (DL.setAll σ ks ws) G H
 |[],_,_,_,_,o,_,_=>by unfold DL.setAll;exact o
 |_::_,[],_,_,_,o,_,h=>by cases h;unfold DL.setAll;exact o
 |k::ks,_::_,_,_,_,o,hk,⟨v,r,h1,h2,h3⟩=>by
  subst h1;unfold DL.setAll
  exact Ok.setAll (o.set (hk k xa7) h2) (fun j hj=>hk j (xas _ hj)) h3
theorem Ok.new{i:Nat}{ds:List D}{vs:List V}{a:Addr}{own':List Nat}(o:Ok K mg H0 own σd σ G H)(s:Step G H G' H')(n:H a=none)(e:H' a=some (.lst vs))(g:G' a=none)(n0:H0 a=none)(r:Reps K mg G' ds vs)
  (hown:∀j,j∈own'↔j=i\/j∈own):Ok K mg H0 own' (σd.set i (some (.lst ds))) (σ.set i (some (.ref a))) G' H':=by
 have o':=o.step s
 have away:∀{j:Nat} {d:D},j∈own->j≠i->σd[j]? = some (some d)->σ[j]? = some (some (.ref a))->False:=fun {j d} hj _ hd hs=>by
  obtain⟨b,_,_,q1,_,q3,_⟩:=o.mine j d hj hd
  rw[q1] at hs;cases hs
  rw[n] at q3;cases q3
 refine⟨o'.ext,by simp[o.len],fun j d hj q=>?_,fun j d hj q=>?_,fun j k b d1 d2 h1 h2 h3 h4 h5 h6=>?_⟩
 ·have hji:j≠i:=fun z=>hj ((hown j).mpr (.inl z))
  rw[xae (xay hji)] at q ⊢
  exact o'.val j d (fun z=>hj ((hown j).mpr (.inr z))) q
 ·by_cases hji:j=i
  ·subst hji
   obtain⟨rfl,hl⟩:=pN q
   exact⟨a,ds,vs,by rw[xat (by rw[<- o.len];exact hl)],rfl,e,g,n0,r⟩
  ·rw[xae (xay hji)] at q ⊢
   exact o'.mine j d (((hown j).mp hj).resolve_left hji) q
 ·by_cases hji:j=i
  ·by_cases hki:k=i
   ·rw[hji,hki]
   ·subst hji
    obtain⟨rfl,hl⟩:=pN h3
    rw[xat (by rw[<- o.len];exact hl)] at h5
    cases h5
    rw[xae (xay hki)] at h4 h6
    exact(away (((hown k).mp h2).resolve_left hki) hki h4 h6).elim
  ·by_cases hki:k=i
   ·subst hki
    obtain⟨rfl,hl⟩:=pN h4
    rw[xat (by rw[<- o.len];exact hl)] at h6
    cases h6
    rw[xae (xay hji)] at h3 h5
    exact(away (((hown j).mp h1).resolve_left hji) hji h3 h5).elim
   ·rw[xae (xay hji)] at h3 h5
    rw[xae (xay hki)] at h4 h6
    exact o.dj j k b d1 d2 (((hown j).mp h1).resolve_left hji) (((hown k).mp h2).resolve_left hki) h3 h4 h5 h6
theorem Ok.write{i:Nat}{d:D}{ds:List D}{vs:List V}{a:Addr}(o:Ok K mg H0 own σd σ G H)(hi:i∈own)(hd:σd[i]? = some (some d))(ha:σ[i]? = some (some (.ref a)))(r:Reps K mg G ds vs) :
  Ok K mg H0 own (σd.set i (some (.lst ds))) σ G (aG H a (.lst vs)):=by
 obtain⟨b,ds0,vs0,q1,q2,q3,q4,q5,q6⟩:=o.mine i d hi hd
 rw[ha] at q1;cases q1
 have hl:i<σd.length:=(xaf.mp hd).1
 refine⟨fun b u h=>?_,by simp[o.len],fun j e hj q=>?_,fun j e hj q=>?_,fun j k b d1 d2 h1 h2 h3 h4 h5 h6=>?_⟩
 ·rw[aH (bC h q4)];exact o.ext b u h
 ·have hji:j≠i:=fun z=>hj (z▸hi)
  rw[xae (xay hji)] at q
  exact o.val j e hj q
 ·by_cases hji:j=i
  ·subst hji
   obtain⟨rfl,_⟩:=pN q
   exact⟨a,ds,vs,ha,rfl,aU,q4,q5,r⟩
  ·rw[xae (xay hji)] at q
   obtain⟨c,es,ws,p1,p2,p3,p4⟩:=o.mine j e hj q
   have hc:c≠a:=fun z=>by subst z;exact hji (o.dj j i c e d hj hi q hd p1 ha)
   exact⟨c,es,ws,p1,p2,by rw[aH hc];exact p3,p4⟩
 ·have back:∀{j:Nat} {e:D},(σd.set i (some (.lst ds)))[j]? = some (some e)->∃e',σd[j]? = some (some e'):=fun {j e} q=>by
   by_cases hji:j=i
   ·exact⟨d,hji▸hd⟩
   ·rw[xae (xay hji)] at q;exact⟨e,q⟩
  obtain⟨e1,h3⟩:=back h3
  obtain⟨e2,h4⟩:=back h4
  exact o.dj j k b e1 e2 h1 h2 h3 h4 h5 h6
theorem Step.write{a:Addr}{o u:HO}(s0:Step G0 H0 G H)(n:H0 a=none)(g:G a=none):Step G0 H0 G (aG H a u):=
 ⟨s0.g,fun b v h=>by rw[aH (bC h n)];exact s0.h b v h,fun b v h=>by rw[aH (bC h g)];exact s0.e b v h,s0.c⟩
theorem Ok.release{i:Nat}{own':List Nat}(o:Ok K mg H0 own σd σ G H)(s0:Step G0 H0 G H)(hi:i∈own)(hown:∀j,j∈own'↔j≠i/\j∈own):∃G',Ok K mg H0 own' σd σ G' H/\Step G0 H0 G' H/\Same G G':=by
 by_cases hb:∃d,σd[i]? = some (some d)
 ·obtain⟨d,hd⟩:=hb
  obtain⟨a,ds,vs,q1,rfl,q3,q4,q5,q6⟩:=o.mine i d hi hd
  have sg:Same G (aG G a (.lst vs)):=same_upd q4
  have eh:Same (aG G a (.lst vs)) H:=fun b u h=>by
   by_cases hb:b=a
   ·subst hb;rw[aU] at h;cases h;exact q3
   ·rw[aH hb] at h;exact o.ext b u h
  refine⟨aG G a (.lst vs),⟨eh,o.len,fun j e hj q=>?_,fun j e hj q=>?_,fun j k b d1 d2 h1 h2 h3 h4 h5 h6=>?_⟩,⟨s0.g.trans sg,s0.h,eh,fun b u h1 h2=>?_⟩,sg⟩
  ·by_cases hji:j=i
   ·subst hji
    rw[hd] at q;cases q
    exact⟨_,q1,a,vs,rfl,aY.of aU,q6.mono sg⟩
   ·obtain⟨v,h1,h2⟩:=o.val j e (fun z=>hj ((hown j).mpr ⟨hji,z⟩)) q
    exact⟨v,h1,h2.mono sg⟩
  ·obtain⟨hji,hj'⟩:=(hown j).mp hj
   obtain⟨c,es,ws,p1,p2,p3,p4,p5,p6⟩:=o.mine j e hj' q
   have hc:c≠a:=fun z=>by subst z;exact hji (o.dj j i c e _ hj' hi q hd p1 q1)
   exact⟨c,es,ws,p1,p2,p3,by rw[aH hc];exact p4,p5,p6.mono sg⟩
  ·exact o.dj j k b d1 d2 ((hown j).mp h1).2 ((hown k).mp h2).2 h3 h4 h5 h6
  ·rw[aH (bC h1 q5)];exact s0.c b u h1 h2
 ·refine⟨G,⟨o.ext,o.len,fun j e hj q=>?_,fun j e hj q=>o.mine j e ((hown j).mp hj).2 q,fun j k b d1 d2 h1 h2=>o.dj j k b d1 d2 ((hown j).mp h1).2 ((hown k).mp h2).2⟩,s0,Same.refl _⟩
  have hji:j≠i:=fun z=>hb ⟨e,z▸q⟩
  exact o.val j e (fun z=>hj ((hown j).mpr ⟨hji,z⟩)) q
end
inductive aE where
 |nx (σ:DSt)|rt (d:D)|bk (σ:DSt)|ct (σ:DSt)|rf (ds:List D)
section
variable(K:xFg)(mg:Str->Option Value)(E:XK)
def bJ(G0 H0:Hp)(own' ol:List Nat)(Dn:fM)(G:Hp):aE->Prop
 |.nx σd'=>∀σ' G' H',Ok K mg H0 own' σd' σ' G' H'->Step G0 H0 G' H'->Same G G'->Dn.nx σ' H'
 |.bk σd'=>∀σ' G' H',Ok K mg H0 ol σd' σ' G' H'->Step G0 H0 G' H'->Same G G'->Dn.bk σ' H'
 |.ct σd'=>∀σ' G' H',Ok K mg H0 ol σd' σ' G' H'->Step G0 H0 G' H'->Same G G'->Dn.ct σ' H'
 |.rt d=>∀v G' H',Step G0 H0 G' H'->aR K mg G' d v->Dn.rt v H'
 |.rf ds=>∀a vs G' H',Step G0 H0 G' H'->H0 a=none->H' a=some (.lst vs)->G' a=none->Reps K mg G' ds vs->Dn.rt (.ref a) H'
def tS(G0 H0:Hp)(own own' ol:List Nat)(f:DSt->R aE):TS:=fun Dn σ H=>∃G σd,Ok K mg H0 own σd σ G H/\Step G0 H0 G H/\RW (f σd) (bJ K mg G0 H0 own' ol Dn G) (aX K mg E G0 H0)
end
theorem bJ.shift{K:xFg}{mg:Str->Option Value}{G0 H0 G G':Hp}{own' ol:List Nat}{Dn:fM}(s:Same G G'){o:aE}(h:bJ K mg G0 H0 own' ol Dn G o):bJ K mg G0 H0 own' ol Dn G' o:=by
 cases o with
 |nx _=>exact fun a b c d e f=>h a b c d e (s.trans f)
 |bk _=>exact fun a b c d e f=>h a b c d e (s.trans f)
 |ct _=>exact fun a b c d e f=>h a b c d e (s.trans f)
 |rt _=>exact h
 |rf _=>exact h
def DS(X:Cx)(E:XK)(own own' ol:List Nat)(st:Stmt)(f:DSt->R aE):Prop:=∀G0,PS X st (tS X.K X.mg E G0 X.H₀ own own' ol f)
def dR(X:Cx)(E:XK)(own own' ol:List Nat)(st:List Stmt)(f:DSt->R aE):Prop:=∀G0,bQ X st (tS X.K X.mg E G0 X.H₀ own own' ol f)
def aV(f g:DSt->R aE):DSt->R aE:=fun σ=>(f σ).bind fun o=>match o with
 |.nx σ'=>g σ'
 |o=>.ok o
def eA:DSt->R aE:=fun σ=>.ok (.nx σ)
section
variable{X:Cx}{E:XK}{own own1 own2 own' ol:List Nat}{st:Stmt}{aN:List Stmt}{f g:DSt->R aE}{pos:Pos}
theorem jW:dR X E own own ol [] eA:=fun G0=>bQ.mono' mQ fun Dn σ H ⟨G,σd,ok,s0,q⟩=>(show bJ X.K X.mg G0 X.H₀ own ol Dn G (.nx σd) from q) σ G H ok s0 (Same.refl _)
theorem aW(h1:DS X E own own1 ol st f)(h2:dR X E own1 own2 ol aN g):dR X E own own2 ol (st::aN) (aV f g):=fun G0=>bQ.mono' (cP (h1 G0) (h2 G0)) fun Dn σ H ⟨G,σd,ok,s0,q⟩=>by
 refine⟨G,σd,ok,s0,q.of_bind.mono (fun o _ z=>?_) fun _ z=>z⟩
 cases o with
 |nx σ1=>
  intro σ' G' H' ok' s' e'
  exact⟨G',σ1,ok',s',(show RW (g σ1) _ _ from z).mono (fun o _ z=>z.shift e') fun _ z=>z⟩
 |rt d=>exact z
 |rf d=>exact z
 |bk d=>exact z
 |ct d=>exact z
theorem cX(h1:DS X E own own1 ol st f):dR X E own own1 ol [st] f:=fun G0=>iT (h1 G0)
theorem rS(i:Nat)(hi:own.contains i=true)(ho:own'=own.filter fun j=>j != i)(h:dR X E own' own2 ol aN g):dR X E own own2 ol aN g:=fun G0=>bQ.mono' (h G0) fun Dn σ H ⟨G,σd,ok,s0,q⟩=>by
 obtain⟨G',ok',s',e'⟩:=ok.release (i:=i) (own':=own') s0 (by simpa using hi) fun j=>by subst ho;simp[and_comm]
 exact⟨G',σd,ok',s',q.mono (fun o _ z=>z.shift e') fun _ z=>z⟩
def cE(fe:DSt->R D):DSt->R aE:=fun σ=>(fe σ).bind fun d=>.ok (.rt d)
theorem nJ{e:Expr}{fe:DSt->R D}(h:DE X E e fe):DS X E own own' ol (.Return (some e) pos) (cE fe):=fun G0=>PS.mono' (mR h) fun Dn σ H ⟨G,σd,ok,s0,q⟩=>by
 have s1:=ok.pubStep s0
 exact⟨_,σd,ok.pub.1,q.of_bind.mono (fun d _ z v G' H' s r=>(show bJ X.K X.mg G0 X.H₀ own' ol Dn G (.rt d) from z) v G' H' (s1.trans s) r) fun _ z=>z.step s1⟩
def dG(c:DSt->R Bool)(f g:DSt->R aE):DSt->R aE:=fun σ=>(c σ).bind fun k=>bif k then f σ else g σ
theorem gQ{c:Expr}{a b:List Stmt}{fc:DSt->R Bool}(hc:DT X E c fc)(ha:dR X E own own' ol a f)(hb:dR X E own own' ol b g):DS X E own own' ol (.If c a b pos) (dG fc f g):=fun G0=>
 PS.mono' (k9 hc (ha G0) (hb G0)) fun Dn σ H ⟨G,σd,ok,s0,q⟩=>by
 have s1:=ok.pubStep s0
 refine⟨_,σd,ok.pub.1,q.of_bind.mono (fun k _ z G' H' s=>?_) fun _ z=>z.step s1⟩
 have ok':=ok.drop s.h
 have s':Step G0 X.H₀ G H':=s0.trans (.heap ok.ext s.h)
 cases k with
 |true=>exact jS ⟨G,σd,ok',s',z⟩
 |false=>exact jR ⟨G,σd,ok',s',z⟩
def wF(fe:DSt->R D):DSt->R aE:=fun σ=>(fe σ).bind fun _=>.ok (.nx σ)
def jX(own:List Nat)(i:Nat)(fe:DSt->R D):DSt->R aE:=fun σ=>(fe (mask own σ)).bind fun d=>.ok (.nx (σ.set i (some d)))
def bP(i:Nat)(fe:DSt->R D):DSt->R aE:=fun σ=>(fe σ).bind fun d=>.ok (.nx (σ.set i (some d)))
def UY(i:Nat)(fe:DSt->R D):DSt->R aE:=fun σ=>(fe σ).bind fun d=>bif imm d then .ok (.nx (σ.set i (some d))) else .bad
theorem B3{own:List Nat}{i:Nat}(h:own.contains i=false):i∉own:=by simpa using h
theorem rT(σ:DSt):mask [] σ=σ:=by
 have:∀(σ:DSt) (k:Nat),gO [] k σ=σ:=fun σ=>by
  induction σ with
  |nil=>intro k;rfl
  |cons d ds ih=>intro k;unfold gO;rw[ih];rfl
 exact this σ 0
theorem B4{te:TE}{fe:DSt->R D}{i:Nat}{G0:Hp}(h:∀σ H Q,tE X.K X.mg E fe σ H Q->te σ H Q)(ho:own.contains i=false){Dn:fM}{σ:St}{H:Hp}(q:tS X.K X.mg E G0 X.H₀ own own ol (jX own i fe) Dn σ H):uU te (o6 i) Dn σ H:=by
 obtain⟨G,σd,ok,s0,q⟩:=q
 refine h σ H _ ⟨G,mask own σd,ok.masked,q.of_bind.mono (fun d _ z v G' H' s r=>?_) fun _ z=>z.step s0⟩
 exact(show bJ X.K X.mg G0 X.H₀ own ol Dn G (.nx (σd.set i (some d))) from z) _ G' H' ((ok.step s).set (B3 ho) r) (s0.trans s) s.g
def lP(own:List Nat)(i:Nat)(fe:DSt->R (List D)):DSt->R aE:=fun σ=>(fe (mask own σ)).bind fun ds=>.ok (.nx (σ.set i (some (.lst ds))))
def pO(own:List Nat)(i:Nat):List Nat:=if own.contains i then own else i::own
theorem UZ{own:List Nat}{i j:Nat}:j∈pO own i↔j=i\/j∈own:=by
 unfold pO
 split
 ·rename_i h
  have hi:i∈own:=by simpa using h
  exact⟨.inr,fun h=>h.elim (fun e=>e▸hi) id⟩
 ·simp
theorem U0{te:TE}{fe:DSt->R (List D)}{i:Nat}{G0:Hp}(h:∀σ H Q,vQ X.K X.mg E fe σ H Q->te σ H Q){Dn:fM}{σ:St}{H:Hp}(q:tS X.K X.mg E G0 X.H₀ own (pO own i) ol (lP own i fe) Dn σ H):uU te (o6 i) Dn σ H:=by
 obtain⟨G,σd,ok,s0,q⟩:=q
 refine h σ H _ ⟨G,mask own σd,ok.masked,q.of_bind.mono (fun ds _ z a vs G' H' s n e g r=>?_) fun _ z=>z.step s0⟩
 exact(show bJ X.K X.mg G0 X.H₀ (pO own i) ol Dn G (.nx (σd.set i (some (.lst ds)))) from z) _ G' H' (ok.new s n e g (s0.h.free n) r fun j=>UZ) (s0.trans s) s.g
variable{i:Nat}{x:Str}{e:Expr}{pos':Pos}{fe:DSt->R D}{fl:DSt->R (List D)}
theorem U1(i:Nat)(hN:X.N.Nodup)(he:DE X E e fe)(ho:own.contains i=false:=by rfl)(hi:X.N[i]? = some x:=by rfl)(hx:eM X.env.scope x:=by first|exact Or.inl rfl|exact Or.inr rfl)(hs:swapsWith e (some (.Name x pos')) pos.line X.env=pure false:=by rfl)
  (hf:X.fn x=true\/X.env.scope.names.lookup x=some .local:=by first|exact .inl rfl|exact .inr rfl|assumption):DS X E own own ol (.Assign [.Name x pos'] e pos) (jX own i fe):=fun G0=>
 PS.mono' (gH hN hi hx he hs hf) fun Dn σ H q=>B4 (fun _ _ _ z=>z) ho q
theorem rV(i:Nat)(hN:X.N.Nodup)(he:DE X E e fe)(hi:X.N[i]? = some x:=by rfl)(hx:eM X.env.scope x:=by first|exact Or.inl rfl|exact Or.inr rfl)(hs:swapsWith e (some (.Name x pos')) pos.line X.env=pure false:=by rfl)
  (hf:X.fn x=true\/X.env.scope.names.lookup x=some .local:=by first|exact .inl rfl|exact .inr rfl|assumption):DS X E [] [] ol (.Assign [.Name x pos'] e pos) (bP i fe):=fun G0=>by
 have:bP i fe=jX [] i fe:=by funext σ;unfold bP jX;rw[rT]
 rw[this]
 exact PS.mono' (gH hN hi hx he hs hf) fun Dn σ H q=>B4 (fun _ _ _ z=>z) rfl q
theorem U2(i:Nat)(hN:X.N.Nodup)(he:DF X E e fl)(hw:own'=pO own i:=by rfl)(hi:X.N[i]? = some x:=by rfl)(hx:eM X.env.scope x:=by first|exact Or.inl rfl|exact Or.inr rfl)(hs:swapsWith e (some (.Name x pos')) pos.line X.env=pure false:=by rfl)
  (hf:X.fn x=true\/X.env.scope.names.lookup x=some .local:=by first|exact .inl rfl|exact .inr rfl|assumption):DS X E own own' ol (.Assign [.Name x pos'] e pos) (lP own i fl):=fun G0=>by
 subst hw;exact PS.mono' (gH hN hi hx he hs hf) fun Dn σ H q=>U0 (fun _ _ _ z=>z) q
def cM(fl:DSt->R (List D)):DSt->R D:=fun σ=>(fl σ).bind fun ds=>.ok (.lst ds)
theorem DF.val(h:DF X E e fl):DE X E e (cM fl):=h.de
variable{tg elt iter:Expr}{ifs:List Expr}{scope:Scope}{NY:List Str}{k:Nat}{ks:List Nat}{fi:DSt->R (List D)}{gp:D->R (List D)}{fc:DSt->R Bool}{lpos:Pos}
def U3(own:List Nat)(ks:List Nat)(gp:D->R (List D))(fe:DSt->R D):DSt->R aE:=fun σ=>(fe (mask own σ)).bind fun d=>(gp d).noerr.bind fun us=>.ok (.nx (setAll σ ks us))
def U4(own:List Nat)(i j:Nat)(fs:DSt->R (List D)):DSt->R aE:=fun σ=>(fs (mask own σ)).bind fun ds=>match ds with
 |[a,b]=>.ok (.nx ((σ.set i (some a)).set j (some b)))
 |_=>.bad
def bL(σ:DSt)(i:Nat):R (List D):=match σ[i]? with
 |some (some (.lst ds))=>.ok ds
 |_=>.bad
def jY(own:List Nat)(i:Nat)(fe:DSt->R D):DSt->R aE:=fun σ=>(bL σ i).bind fun ds=>(fe (mask own σ)).bind fun d=>bif most ds.length then .ok (.nx (σ.set i (some (.lst (ds++[d]))))) else .bad
def U5(i:Nat)(fe:DSt->R D):DSt->R aE:=fun σ=>(bL σ i).bind fun ds=>(fe σ).bind fun d=>bif most ds.length&&imm d then .ok (.nx (σ.set i (some (.lst (ds++[d]))))) else .bad
theorem fO{σ:DSt}{i:Nat}{ds:List D}(h:bL σ i=.ok ds):σ[i]? = some (some (.lst ds)):=by
 unfold bL at h
 split at h
 ·cases h;assumption
 ·cases h
theorem i8{σ:DSt}{i:Nat}{e:D}:bL σ i≠.err e:=by
 unfold bL
 split<;>simp
theorem U6(i:Nat){apos cpos:Pos}{np:Pos}(he:DE X E e fe)(ho:own.contains i=true:=by rfl)(hN:X.N[i]? = some x:=by rfl)(hv:cB X.env.scope x:=by first|exact Or.inl rfl|exact Or.inr (Or.inl rfl)|exact Or.inr (Or.inr rfl))(hd:(x==("__debug__":Str))=false:=by decide)
  (hcd:(x==("__classdict__":Str))=false:=by decide)
  (hbase:attributeBase (.Name x np) "append" X.env (eval (.Name x np) X.env)=eval (.Name x np) X.env:=by rfl)
  (hfew:((backTo cpos (starEach [e] X.env)).all (fun x=>!x.1)&&(backToKw cpos (keywordEach [] X.env)).all (fun x=>x.1.isSome)&&decide ([e].length+([]:List Keyword).length+(if ([]:List Keyword).isEmpty then 0 else 1)<30))=true:=by rfl)
  (hline:(apos.endLine==cpos.line)=true:=by rfl) (hs:starEach [e] X.env=(false,eval e X.env)::starEach [] X.env:=by rfl) (hplain:(backTo cpos (starEach [] X.env)).any (·.1)=false:=by rfl)
  (hsw:swapsWith (.Call (.Attribute (.Name x np) "append" apos) [e] [] cpos) none pos.line X.env=pure false:=by rfl) :
  DS X E own own ol (.Expr (.Call (.Attribute (.Name x np) "append" apos) [e] [] cpos) pos) (jY own i fe):=fun G0=>
 PS.mono' (jN (jQ PySem.F.plainAttrs_list PySem.F.slot_list_append PySem.F.type_list_append lH (pv i hN hv hd hcd) (dQ he gN hs) hbase hfew hline hs hplain) hsw) fun Dn σ H ⟨G,σd,ok,s0,q⟩=>by
 have q1:=q.of_bind
 cases hL:bL σd i with
 |bad=>rw[hL] at q1;exact q1.elim
 |err e=>exact xaq hL i8
 |ok ds=>
  rw[hL] at q1
  have q2:RW ((fe (mask own σd)).bind fun d=>bif most ds.length then R.ok (.nx (σd.set i (some (.lst (ds++[d]))))) else .bad) (bJ X.K X.mg G0 X.H₀ own ol Dn G) (aX X.K X.mg E G0 X.H₀):=q1
  have hd:=fO hL
  have hi:i∈own:=by simpa using ho
  obtain⟨a,ds',vs,p1,p2,p3,p4,p5,p6⟩:=ok.mine i _ hi hd
  cases p2
  refine⟨_,p1,.inl ⟨rfl,_,aY.of p3⟩,?_⟩
  refine⟨G,mask own σd,ok.masked,(show RW ((aB fe aF) (mask own σd)) _ _ from ?_)⟩
  unfold aB
  have q3:=q2.of_bind
  cases hf:fe (mask own σd) with
  |bad=>rw[hf] at q3;exact q3.elim
  |err e=>rw[hf] at q3;exact(show aX X.K X.mg E G0 X.H₀ e from q3).step s0
  |ok d=>
   rw[hf] at q3
   rintro ws G' H' s ⟨v,_,e1,r1,r2⟩
   subst e1
   cases r2
   cases hm:most ds.length with
   |false=>rw[hm] at q3;exact(show False from q3).elim
   |true=>
    rw[hm] at q3
    have hlt:ds.length<sizeLine:=xau hm
    have ok':=ok.step s
    refine⟨a,vs,v,rfl,rfl,s.h _ _ p3,by rw[<- p6.length];exact hlt,?_⟩
    exact(show bJ X.K X.mg G0 X.H₀ own ol Dn G (.nx (σd.set i (some (.lst (ds++[d]))))) from q3) σ G' _ (ok'.write hi hd p1 ((p6.mono s.g).append (Reps.cons r1 Reps.nil))) ((s0.trans s).write (o:=.lst vs) p5 (s.c _ _ p3 p4)) s.g
end
def cY(ks:List Nat)(gp:D->R (List D))(fb:DSt->R aE):List D->DSt->R aE
 |[],σ=>.ok (.nx σ)
 |d::ds,σ=>(gp d).noerr.bind fun us=>(fb (setAll σ ks us)).bind fun o=>match o with
  |.nx σ'=>cY ks gp fb ds σ'
  |.ct σ'=>cY ks gp fb ds σ'
  |.bk σ'=>.ok (.nx σ')
  |.rt d=>.ok (.rt d)
  |.rf d=>.ok (.rf d)
def gR(own ks:List Nat)(gp:D->R (List D))(fi:DSt->R (List D))(fb:DSt->R aE):DSt->R aE:=fun σ=>(fi (mask own σ)).bind fun ds=>cY ks gp fb ds σ
structure XL(X:Cx):Prop where
 own:PassesOwn (model X.prog X.w) X.A X.env X.xe
section
variable{X:Cx}{E:XK}{own ol ks:List Nat}{tg iter:Expr}{body:List Stmt}{gp:D->R (List D)}{fi:DSt->R (List D)}{fb:DSt->R aE}{pos:Pos}
theorem lQ(L:XL X)(hc:X.calm=true)(hi:DI X E tg iter fi)(hg:DG X tg ks gp)(hb:dR X E own own own body fb)(ho:ks.all (fun i=>!own.contains i)=true:=by rfl)(hs:∀x,foldedSetIterable iter X.env x=pure x:=by intro _;rfl) :
  DS X E own own ol (.For tg iter body [] pos) (gR own ks gp fi fb):=fun G0=>PS.mono' (uV L.own hc hi hg (hb G0) hs) fun Dn σ H ⟨G,σd,ok,s0,q⟩=>by
 refine⟨G,mask own σd,ok.masked,q.of_bind.mono (fun ds _ z J G1 H1 s1 it=>?_) fun _ z=>z.step s0⟩
 have hko:∀k∈ks,k∉own:=fun k hk=>by simpa using xbh.mp ho k hk
 refine⟨fun i m σ' H'=>m=ds.length-i/\i<=ds.length/\∃G' σd',Ok X.K X.mg X.H₀ own σd' σ' G' H'/\Same G1 G'/\Step G0 X.H₀ G' H'/\RW (cY ks gp fb (ds.drop i) σd') (bJ X.K X.mg G0 X.H₀ own ol Dn G1) (aX X.K X.mg E G0 X.H₀),
  ⟨ds.length,by simp,xbc _,G1,σd,ok.step s1,Same.refl _,s0.trans s1,z.mono (fun _ _ z=>z.shift s1.g) fun _ z=>z⟩,?_⟩
 rintro i m σ' H' ⟨rfl,hi,G',σd',ok',e',s',w⟩
 by_cases hlt:i<ds.length
 ·right
  obtain⟨d,hd⟩:∃d,ds[i]? = some d:=⟨ds[i],by simp[hlt]⟩
  obtain⟨g1,g2⟩:=it.turn H' i d (e'.trans ok'.ext) hd
  have hdrop:ds.drop i=d::ds.drop (i+1):=by
   rw[xb9 hlt]
   congr 1
   exact xaw ((xa0 hlt).symm.trans hd)
  rw[hdrop] at w
  refine⟨g1,fun σ2 H2=>i+1<=ds.length/\∃G' σd',Ok X.K X.mg X.H₀ own σd' σ2 G' H2/\Same G1 G'/\Step G0 X.H₀ G' H2/\RW (cY ks gp fb (ds.drop (i+1)) σd') (bJ X.K X.mg G0 X.H₀ own ol Dn G1) (aX X.K X.mg E G0 X.H₀),
   fun σ2 H2 ⟨h1,h2⟩=>⟨ds.length-(i+1),by omega,rfl,h1,h2⟩,fun x H2 hy=>?_⟩
  obtain⟨G2,s2,r2⟩:=g2 x H2 hy G' e' ok'.ext
  unfold cY at w
  obtain⟨us,e1,w⟩:=nH w.of_bind
  refine⟨G2,d,s2.e,r2,RW.ok_of e1 fun ws rws=>?_⟩
  have ok2:=(ok'.step s2).setAll hko rws
  refine⟨G2,_,ok2,s'.trans s2,w.of_bind.mono (fun o _ z=>?_) fun _ z=>z⟩
  cases o with
  |nx σ3=>exact fun σ4 G4 H4 ok4 s4 e4=>⟨hlt,G4,σ3,ok4,(e'.trans s2.g).trans e4,s4,z⟩
  |ct σ3=>exact fun σ4 G4 H4 ok4 s4 e4=>⟨hlt,G4,σ3,ok4,(e'.trans s2.g).trans e4,s4,z⟩
  |bk σ3=>exact fun σ4 G4 H4 ok4 s4 e4=>(show bJ X.K X.mg G0 X.H₀ own ol Dn G1 (.nx σ3) from z) σ4 G4 H4 ok4 s4 ((e'.trans s2.g).trans e4)
  |rt d=>exact z
  |rf d=>exact z
 ·left
  have hi2:i=ds.length:=by omega
  subst hi2
  rw[List.drop_length] at w
  refine⟨it.stop H' (e'.trans ok'.ext),?_⟩
  unfold cY at w
  exact(show bJ X.K X.mg G0 X.H₀ own ol Dn G1 (.nx σd') from w) σ' G' H' ok' s' e'
def cI(c:DSt->R Bool)(fb:DSt->R aE):Nat->DSt->R aE
 |0,_=>.bad
 |n+1,σ=>(c σ).bind fun k=>bif k then (fb σ).bind fun o=>match o with
   |.nx σ'=>cI c fb n σ'
   |.ct σ'=>cI c fb n σ'
   |.bk σ'=>.ok (.nx σ')
   |.rt d=>.ok (.rt d)
   |.rf d=>.ok (.rf d)
  else .ok (.nx σ)
open Classical in
noncomputable def cV(c:DSt->R Bool)(fb:DSt->R aE):DSt->R aE:=fun σ=>if h:∃n,cI c fb n σ≠.bad then cI c fb (Classical.choose h) σ else .bad
theorem rW{c:DSt->R Bool}{fb:DSt->R aE}:∀(n:Nat) (σ:DSt) (r:R aE),cI c fb n σ=r->r≠.bad->∀k,cI c fb (n+k) σ=r
 |0,σ,r,h,hr,k=>xaq h.symm hr
 |n+1,σ,r,h,hr,k=>by
  rw[show n+1+k=(n+k)+1 by omega]
  unfold cI at h ⊢
  cases hc:c σ with
  |bad=>rw[hc] at h;exact xaq h.symm hr
  |err e=>rw[hc] at h;exact h
  |ok b=>
   rw[hc] at h
   cases b with
   |false=>exact h
   |true=>
    have h':(fb σ).bind (fun o=>match o with
     |.nx σ'=>cI c fb n σ'
     |.ct σ'=>cI c fb n σ'
     |.bk σ'=>.ok (.nx σ')
     |.rt d=>.ok (.rt d)
     |.rf d=>.ok (.rf d))=r:=h
    show (fb σ).bind (fun o=>match o with
     |.nx σ'=>cI c fb (n+k) σ'
     |.ct σ'=>cI c fb (n+k) σ'
     |.bk σ'=>.ok (.nx σ')
     |.rt d=>.ok (.rt d)
     |.rf d=>.ok (.rf d))=r
    cases hf:fb σ with
    |bad=>rw[hf] at h';exact xaq h'.symm hr
    |err e=>rw[hf] at h';exact h'
    |ok o=>
     rw[hf] at h'
     cases o with
     |nx σ'=>exact rW n σ' r h' hr k
     |ct σ'=>exact rW n σ' r h' hr k
     |bk σ'=>exact h'
     |rt d=>exact h'
     |rf d=>exact h'
theorem jZ{c:DSt->R Bool}{fb:DSt->R aE}{n:Nat}{σ:DSt}{r:R aE}(h:cI c fb n σ=r)(hr:r≠.bad):cV c fb σ=r:=by
 unfold cV
 have hx:∃n,cI c fb n σ≠.bad:=⟨n,by rw[h];exact hr⟩
 rw[dif_pos hx]
 have h1:=Classical.choose_spec hx
 have a:=rW _ σ _ rfl h1 n
 have b:=rW _ σ _ h hr (Classical.choose hx)
 rw[xcp] at b
 rw[<- a,b]
theorem B5(c:DSt->R Bool)(fb:DSt->R aE)(σ:DSt):cV c fb σ=(c σ).bind fun k=>bif k then (fb σ).bind fun o=>match o with
   |.nx σ'=>cV c fb σ'
   |.ct σ'=>cV c fb σ'
   |.bk σ'=>.ok (.nx σ')
   |.rt d=>.ok (.rt d)
   |.rf d=>.ok (.rf d)
  else .ok (.nx σ):=by
 cases hc:c σ with
 |bad=>
  unfold cV
  rw[dif_neg]
  ·rfl
  ·rintro⟨n,h⟩
   cases n with
   |zero=>exact h rfl
   |succ n=>unfold cI at h;rw[hc] at h;exact h rfl
 |err e=>exact jZ (n:=1) (by unfold cI;rw[hc];rfl) (by simp[R.bind])
 |ok b=>
  cases b with
  |false=>exact jZ (n:=1) (by unfold cI;rw[hc];rfl) (by simp[R.bind])
  |true=>
   show cV c fb σ=(fb σ).bind _
   cases hf:fb σ with
   |bad=>
    unfold cV
    rw[dif_neg]
    ·rfl
    ·rintro⟨n,h⟩
     cases n with
     |zero=>exact h rfl
     |succ n=>unfold cI at h;rw[hc] at h;simp only[R.bind,cond_true] at h;rw[hf] at h;exact h rfl
   |err e=>exact jZ (n:=1) (by unfold cI;rw[hc];show (fb σ).bind _=_;rw[hf];rfl) (by simp[R.bind])
   |ok o=>
    have go:∀σ',(∀n,cI c fb (n+1) σ=cI c fb n σ')->cV c fb σ=cV c fb σ':=fun σ' hn=>by
     by_cases hx:∃n,cI c fb n σ'≠.bad
     ·obtain⟨n,h⟩:=hx
      rw[jZ (n:=n) rfl h,jZ (n:=n+1) (hn n) h]
     ·have:cV c fb σ'=.bad:=by unfold cV;rw[dif_neg hx]
      rw[this]
      unfold cV
      rw[dif_neg]
      rintro⟨n,h⟩
      cases n with
      |zero=>exact h rfl
      |succ n=>rw[hn n] at h;exact hx ⟨n,h⟩
    cases o with
    |nx σ'=>exact go σ' fun n=>by unfold cI;rw[hc];show (fb σ).bind _=_;rw[hf];cases n<;>rfl
    |ct σ'=>exact go σ' fun n=>by unfold cI;rw[hc];show (fb σ).bind _=_;rw[hf];cases n<;>rfl
    |bk σ'=>exact jZ (n:=1) (by unfold cI;rw[hc];show (fb σ).bind _=_;rw[hf];rfl) (by simp[R.bind])
    |rt d=>exact jZ (n:=1) (by unfold cI;rw[hc];show (fb σ).bind _=_;rw[hf];rfl) (by simp[R.bind])
    |rf d=>exact jZ (n:=1) (by unfold cI;rw[hc];show (fb σ).bind _=_;rw[hf];rfl) (by simp[R.bind])
theorem wG{c:Expr}{fc:DSt->R Bool}(L:XL X)(hc:DT X E c fc)(hb:dR X E own own own body fb):DS X E own own ol (.While c body [] pos) (cV fc fb):=fun G0=>PS.mono' (PY L.own hc (hb G0)) fun Dn σ H ⟨G,σd,ok,s0,q⟩=>by
 have hx:∃n,cI fc fb n σd≠.bad:=by
  by_cases hx:∃n,cI fc fb n σd≠.bad
  ·exact hx
  ·unfold cV at q;rw[dif_neg hx] at q;exact(show False from q).elim
 obtain⟨n,hn⟩:=hx
 rw[jZ rfl hn] at q
 refine⟨fun m σ' H'=>∃G' σd',Ok X.K X.mg X.H₀ own σd' σ' G' H'/\Same G G'/\Step G0 X.H₀ G' H'/\RW (cI fc fb m σd') (bJ X.K X.mg G0 X.H₀ own ol Dn G) (aX X.K X.mg E G0 X.H₀),⟨n,G,σd,ok,Same.refl _,s0,q⟩,?_⟩
 rintro m σ1 H1 ⟨G1,σd1,ok1,e1,s1,w⟩
 cases m with
 |zero=>exact(show False from w).elim
 |succ m=>
  unfold cI at w
  have sp:=ok1.pubStep s1
  refine⟨_,σd1,ok1.pub.1,w.of_bind.mono (fun k _ z G' H' s=>?_) fun _ z=>z.step sp⟩
  have ok':=ok1.drop s.h
  have s':Step G0 X.H₀ G1 H':=s1.trans (.heap ok1.ext s.h)
  cases k with
  |true=>
   refine jS ?_
   refine⟨fun σ2 H2=>∃G' σd',Ok X.K X.mg X.H₀ own σd' σ2 G' H2/\Same G G'/\Step G0 X.H₀ G' H2/\RW (cI fc fb m σd') (bJ X.K X.mg G0 X.H₀ own ol Dn G) (aX X.K X.mg E G0 X.H₀),fun σ2 H2 h=>⟨m,xcg _,h⟩,?_⟩
   refine⟨G1,σd1,ok',s',(show RW ((fb σd1).bind _) _ _ from z).of_bind.mono (fun o _ z=>?_) fun _ z=>z⟩
   cases o with
   |nx σ3=>exact fun σ4 G4 H4 ok4 s4 e4=>⟨G4,σ3,ok4,e1.trans e4,s4,z⟩
   |ct σ3=>exact fun σ4 G4 H4 ok4 s4 e4=>⟨G4,σ3,ok4,e1.trans e4,s4,z⟩
   |bk σ3=>exact fun σ4 G4 H4 ok4 s4 e4=>(show bJ X.K X.mg G0 X.H₀ own ol Dn G (.nx σ3) from z) σ4 G4 H4 ok4 s4 (e1.trans e4)
   |rt d=>exact z
   |rf d=>exact z
  |false=>
   refine jR ?_
   exact(show bJ X.K X.mg G0 X.H₀ own ol Dn G (.nx σd1) from z) σ1 G1 H' ok' s' e1
end
def fG(n:Nat)(ds:List D):DSt:=ds.map some++List.replicate (n-ds.length) none
def fin:R aE->R D
 |.ok (.rt d)=>.ok d
 |.ok (.rf ds)=>.ok (.lst ds)
 |.ok (.nx _)=>.ok .non
 |.ok _=>.bad
 |.err e=>.err e
 |.bad=>.bad
def cG(n nN:Nat)(body:DSt->R aE):List D->R D:=fun ds=>bif ds.length==n then fin (body (fG nN ds)) else .bad
theorem Reps.startOk{K:xFg}{mg:Str->Option Value}{G H:Hp}(e:Same G H):∀{ds:List D} {vs:List V} (k:Nat),Reps K mg G ds vs->bH K mg (ds.map some++List.replicate k none) (vs.map some++List.replicate k none) G H
 |[],_,k,h=>by
  cases h
  have:=bH.nones (K:=K) (mg:=mg) (G:=G) (H:=H) (σd:=[]) (σ:=[]) ⟨e,rfl,fun i d q=>by simp at q⟩ k
  simpa using this
 |d::ds,_,k,⟨v,r,h1,h2,h3⟩=>by
  subst h1
  exact(Reps.startOk e k h3).cons (x:=some d) (y:=some v) fun d' q=>by cases q;exact⟨v,rfl,h2⟩
section
variable{P:Program}{w:World}{K:xFg}{mg:Str->Option Value}{base:Heap}
theorem bA.mk'{x qual:Str}{st:Stmt}{f:Addr}{fd:FuncData}{N ps:List Str}{k n nN:Nat}{own':List Nat}{body:DSt->R aE}(F:bT K x qual st f fd)(S:cD N ps (bB st))(hm:mg x=some (.ref f))(b:bR K fd ps [])
  (hn:ps.length=n) (hN:N.length=nN)
  (hb:∀(X:Cx) (E:XK),(∃cdv A outer s H,X=cZ (bM P w) P w K mg base N qual (bB st) f cdv A outer s H E)->XC X E k->XL X->dR X E [] own' [] (dZ st) body):bA P w K mg base (k+1) x (cG n nN body):=by
 refine⟨f,fd,ps,F.okX S (fun vs H Q E h=>?_) (fun cdv A outer s H vs Q E hr hsp=>?_),hm,F.kp,b⟩
 ·obtain⟨G,ds,e,r,q⟩:=h
  by_cases hd:ds.length=n
  ·rw[<- r.length,hd,hn]
  ·have:(ds.length==n)=false:=by simpa using hd
   unfold cG at q
   rw[this] at q
   exact(show False from q).elim
 ·obtain⟨G,ds,e,r,q⟩:=hsp
  have hd:ds.length=n:=by
   by_cases hd:ds.length=n
   ·exact hd
   ·have:(ds.length==n)=false:=by simpa using hd
    unfold cG at q
    rw[this] at q
    exact(show False from q).elim
  unfold cG at q
  rw[show (ds.length==n)=true by simpa using hd] at q
  have q':RW (fin (body (fG nN ds))) (aL K mg Q G H) (aX K mg E G H):=q
  refine⟨_,hb _ E ⟨cdv,A,outer,s,H,rfl⟩ ⟨rfl,hr,pG⟩ ⟨PassesOwn.leaving⟩ G,G,fG nN ds,?_,.refl e,?_⟩
  ·have:=Reps.startOk e (N.length-vs.length) r
   unfold L2.start fG
   rw[<- hN,r.length]
   exact .zero this
  ·cases hbd:body (fG nN ds) with
   |bad=>rw[hbd] at q';exact q'
   |err e=>rw[hbd] at q';exact q'
   |ok o=>
    rw[hbd] at q'
    cases o with
    |rt d=>exact fun v G' H' s r=>(show aL K mg Q G H d from q') v G' H' s r
    |rf es=>
     intro a vs G' H' s n e g r
     have q2:aL K mg Q G H (.lst es):=q'
     have sg:Same G' (aG G' a (.lst vs)):=same_upd g
     refine q2 (.ref a) (aG G' a (.lst vs)) H' ⟨s.g.trans sg,s.h,fun b u p=>?_,fun b u p1 p2=>?_⟩ ⟨a,vs,rfl,aY.of aU,r.mono sg⟩
     ·by_cases hb:b=a
      ·subst hb;rw[aU] at p;cases p;exact e
      ·rw[aH hb] at p;exact s.e b u p
     ·have hb:b≠a:=bC p1 n
      rw[aH hb];exact s.c b u p1 p2
    |nx σ=>exact fun σ' G' H' ok s _=>(show aL K mg Q G H .non from q') .non G' H' s rfl
    |bk σ=>exact(show False from q').elim
    |ct σ=>exact(show False from q').elim
end
theorem XC.lc{X:Cx}{E:XK}{k:Nat}(C:XC X E k)(scope:Scope)(NY:List Str)(s0:Shared)(H0:Hp)(Ca:Addr)(ex:List Addr):XC (c4 X scope NY s0 H0 Ca ex) E0 k:=⟨C.calm,C.room,BJ⟩
end DL
namespace DL
open L2
mutual
def aZ:D->D->Bool
 |.non,.non=>true
 |.bl a,.bl b=>a==b
 |.int a,.int b=>a==b
 |.str a,.str b=>a==b
 |.bl a,.int b=>(if a then (1:Int) else 0)==b
 |.int a,.bl b=>a==(if b then (1:Int) else 0)
 |.tup xs,.tup ys=>eqDs xs ys
 |.lst xs,.lst ys=>eqDs xs ys
 |_,_=>false
def eqDs:List D->List D->Bool
 |[],[]=>true
 |x::xs,y::ys=>aZ x y&&eqDs xs ys
 |_,_=>false
end
def bO:Nat->D->Bool
 |_,.non=>true
 |_,.bl _=>true
 |_,.int _=>true
 |_,.str _=>true
 |n+1,.tup xs=>xs.all (bO n)
 |n+1,.lst xs=>xs.all (bO n)
 |_,_=>false
theorem rX:∀(xs ys:List D),((List.range (min xs.length ys.length)).all (fun j=>aZ (xs.getD j .non) (ys.getD j .non))&&xs.length==ys.length)=eqDs xs ys
 |[],[]=>by unfold eqDs;rfl
 |[],_::_=>by unfold eqDs;simp
 |_::_,[]=>by unfold eqDs;simp
 |x::xs,y::ys=>by
  unfold eqDs
  rw[<- rX xs ys]
  simp only[xao,Nat.succ_min_succ,List.range_succ_eq_map,List.all_cons,List.getD_cons_zero,List.all_map,Bool.and_assoc]
  congr 2
  rw[Bool.eq_iff_iff];simp
theorem wH:∀(n:Nat) (d:D),bO n d=true->aZ d d=true:=by
 intro n
 induction n with
 |zero=>intro d h;cases d<;>first|(simp[bO] at h;done)|(unfold aZ;simp;done)
 |succ n ih=>
  have hl:∀xs:List D,xs.all (bO n)=true->eqDs xs xs=true:=fun xs=>by
   induction xs with
   |nil=>intro _;unfold eqDs;rfl
   |cons x xs ihx=>
    intro h
    rw[List.all_cons,xap] at h
    unfold eqDs
    rw[ih x h.1,ihx h.2];rfl
  intro d h
  cases d with
  |tup xs=>unfold aZ;exact hl xs (by unfold bO at h;exact h)
  |lst xs=>unfold aZ;exact hl xs (by unfold bO at h;exact h)
  |_=>first|(simp[bO] at h;done)|(unfold aZ;simp;done)
def dH:D->Option V
 |.non=>some .non
 |.bl b=>some (.bl b)
 |.int i=>some (.int i)
 |.str x=>some (.str x)
 |_=>none
theorem fP{K:xFg}{mg:Str->Option Value}{G:Hp}{d:D}{v x:V}(h:dH d=some v)(r:aR K mg G d x):x=v/\lG v=true:=by
 cases d<;>first|(simp[dH] at h;done)|(simp only[dH,Option.some.injEq] at h;subst h;simp only[aR] at r;exact⟨r,rfl⟩)
theorem U7{d d':D}{v v':V}(h:dH d=some v)(h':dH d'=some v'):aZ d d'=pC v v':=by
 cases d<;>first|(simp[dH] at h;done)|(simp only[dH,Option.some.injEq] at h;subst h;cases d'<;>first|(simp[dH] at h';done)|(simp only[dH,Option.some.injEq] at h';subst h';unfold aZ pC;first|rfl|simp))
theorem B6{d d':D}{v:V}(h:dH d=some v)(h':dH d'=some v):d=d':=by
 cases d<;>first|(simp[dH] at h;done)|(simp only[dH,Option.some.injEq] at h;subst h;cases d'<;>first|(simp[dH] at h';done)|(simp only[dH,Option.some.injEq] at h';cases h';rfl))
theorem gS{n:Nat}{d:D}(h:bO n d=true):(∃v,dH d=some v)\/(∃m xs,n=m+1/\d=.tup xs/\xs.all (bO m)=true)\/(∃m xs,n=m+1/\d=.lst xs/\xs.all (bO m)=true):=by
 cases d with
 |tup xs=>cases n with
  |zero=>simp[bO] at h
  |succ m=>exact .inr (.inl ⟨m,xs,rfl,rfl,by unfold bO at h;exact h⟩)
 |lst xs=>cases n with
  |zero=>simp[bO] at h
  |succ m=>exact .inr (.inr ⟨m,xs,rfl,rfl,by unfold bO at h;exact h⟩)
 |non=>exact .inl ⟨_,rfl⟩
 |bl b=>exact .inl ⟨_,rfl⟩
 |int i=>exact .inl ⟨_,rfl⟩
 |str x=>exact .inl ⟨_,rfl⟩
 |_=>simp[bO] at h
section
variable{X:Cx}{pins:List (Addr×Obj)}{σ:St}{G H:Hp}{s:Shared}
theorem B7(I:aD X pins σ H s){a:Addr}{xs ys:List V}(h1:bG X.K H a xs)(h2:aY X.K H a ys):False:=by
 obtain⟨_,_,⟨o,e,c,_⟩,_⟩:=I.tuple h1
 obtain⟨_,_,⟨o',_,e',c',_⟩,_⟩:=I.list h2
 rw[e] at e';cases e'
 rw[c] at c'
 exact xaq c' (by simp)
theorem rY{v:V}{a:Addr}(h:lG v=true):v≠.ref a:=by rintro rfl;cases h
theorem wI(I:aD X pins σ H s)(e:Same G H):∀(n:Nat) {d d':D} {v:V},bO n d=true->bO n d'=true->aR X.K X.mg G d v->aR X.K X.mg G d' v->d=d':=by
 intro n
 induction n with
 |zero=>
  intro d d' v h h' r r'
  rcases gS h with⟨w,hw⟩|⟨_,_,z,_⟩|⟨_,_,z,_⟩<;>try omega
  rcases gS h' with⟨w',hw'⟩|⟨_,_,z,_⟩|⟨_,_,z,_⟩<;>try omega
  have e1:=(fP hw r).1
  have e2:=(fP hw' r').1
  rw[<- e1] at hw;rw[<- e2] at hw'
  exact B6 hw hw'
 |succ n ih=>
  have hl:∀(xs ys:List D) (vs:List V),xs.all (bO n)=true->ys.all (bO n)=true->Reps X.K X.mg G xs vs->Reps X.K X.mg G ys vs->xs=ys:=by
   intro xs
   induction xs with
   |nil=>
    intro ys vs _ _ r r'
    cases r
    cases ys with
    |nil=>rfl
    |cons y ys=>obtain⟨_,_,z,_⟩:=r';cases z
   |cons x xs ihx=>
    intro ys vs h h' r r'
    obtain⟨v,t,rfl,r1,r2⟩:=r
    cases ys with
    |nil=>cases r'
    |cons y ys=>
     obtain⟨v',t',z,r1',r2'⟩:=r'
     cases z
     rw[List.all_cons,xap] at h h'
     rw[ih h.1 h'.1 r1 r1',ihx ys _ h.2 h'.2 r2 r2']
  intro d d' v h h' r r'
  rcases gS h with⟨w,hw⟩|⟨m,xs,hm,rfl,hx⟩|⟨m,xs,hm,rfl,hx⟩
  ·rcases gS h' with⟨w',hw'⟩|⟨m',ys,hm',rfl,hy⟩|⟨m',ys,hm',rfl,hy⟩
   ·have e1:=(fP hw r).1
    have e2:=(fP hw' r').1
    rw[<- e1] at hw;rw[<- e2] at hw'
    exact B6 hw hw'
   ·obtain⟨e1,e2⟩:=fP hw r
    obtain⟨a,vs,z,_⟩:=r'
    exact xaq (e1.symm.trans z) (rY e2)
   ·obtain⟨e1,e2⟩:=fP hw r
    obtain⟨a,vs,z,_⟩:=r'
    exact xaq (e1.symm.trans z) (rY e2)
  ·obtain rfl:n=m:=by omega
   obtain⟨a,vs,rfl,q1,q2⟩:=r
   rcases gS h' with⟨w',hw'⟩|⟨m',ys,hm',rfl,hy⟩|⟨m',ys,hm',rfl,hy⟩
   ·obtain⟨e1,e2⟩:=fP hw' r'
    exact xaq e1.symm (rY e2)
   ·obtain rfl:n=m':=by omega
    obtain⟨a',vs',z,q1',q2'⟩:=r'
    cases z
    have:=I.tuple_inj (Same.sqT e q1) (Same.sqT e q1')
    subst this
    rw[hl xs ys _ hx hy q2 q2']
   ·obtain⟨a',vs',z,q1',q2'⟩:=r'
    cases z
    exact(B7 I (Same.sqT e q1) (e.seq q1')).elim
  ·obtain rfl:n=m:=by omega
   obtain⟨a,vs,rfl,q1,q2⟩:=r
   rcases gS h' with⟨w',hw'⟩|⟨m',ys,hm',rfl,hy⟩|⟨m',ys,hm',rfl,hy⟩
   ·obtain⟨e1,e2⟩:=fP hw' r'
    exact xaq e1.symm (rY e2)
   ·obtain⟨a',vs',z,q1',q2'⟩:=r'
    cases z
    exact(B7 I (Same.sqT e q1') (e.seq q1)).elim
   ·obtain rfl:n=m':=by omega
    obtain⟨a',vs',z,q1',q2'⟩:=r'
    cases z
    have:=I.list_inj (e.seq q1) (e.seq q1')
    subst this
    rw[hl xs ys _ hx hy q2 q2']
theorem B8{α:Type}{us:List α}{j:Nat}(h:j<us.toArray.size):us.toArray[j]=us[j]'(by simpa using h):=by simp
theorem B9{α:Type}{xs:List α}{d:α}{j:Nat}(h:j<xs.length):xs.getD j d=xs[j]:=by simp[List.getD,h]
open SeqAt in
theorem rZ{A:Around}{n:Nat}(ih:∀{d d':D} {x x':V} {u u':Value},bO n d=true->bO n d'=true->aR X.K X.mg G d x->aM x u->aR X.K X.mg G d' x'->aM x' u'->EqAt A s u u' (aZ d d'))
  {xs ys:List D} {vs ws:List V} {us us':List Value} (h:xs.all (bO n)=true) (h':ys.all (bO n)=true) (r:Reps X.K X.mg G xs vs) (q:aP vs us) (r':Reps X.K X.mg G ys ws) (q':aP ws us') :
  ∀j (h1:j<us.toArray.size) (h2:j<us'.toArray.size),EqAt A s us.toArray[j] us'.toArray[j] (aZ (xs.getD j .non) (ys.getD j .non)):=by
 intro j h1 h2
 have l1:j<vs.length:=by rw[q.length];simpa using h1
 have l2:j<ws.length:=by rw[q'.length];simpa using h2
 have l3:j<xs.length:=by rw[r.length];exact l1
 have l4:j<ys.length:=by rw[r'.length];exact l2
 obtain⟨v,e1,e2⟩:=r.get (i:=j) (d:=xs[j]) (by simp[l3])
 obtain⟨w,e3,e4⟩:=r'.get (i:=j) (d:=ys[j]) (by simp[l4])
 obtain⟨u,e5,e6⟩:=q.get e1
 obtain⟨u',e7,e8⟩:=q'.get e3
 have z1:us.toArray[j]=u:=by rw[B8 h1];exact(xaf.mp e5).2
 have z2:us'.toArray[j]=u':=by rw[B8 h2];exact(xaf.mp e7).2
 rw[z1,z2,B9 l3,B9 l4]
 exact ih (xbh.mp h _ (xb5 l3)) (xbh.mp h' _ (xb5 l4)) e2 e6 e4 e8
theorem CA(A:Around):A.in1.units=A.units+1:=rfl
open SeqAt in
theorem U8{A:Around}{x x':V}{u u':Value}(q:aM x u)(q':aM x' u')(f:lG x=true)(f':lG x'=true):RcAt A s u u' (pC x x')/\RcNeAt A s u u' (!pC x x'):=by
 cases x with
 |non=>
  cases (show u=Value.none from q)
  cases x' with
  |non=>cases (show u'=Value.none from q');exact⟨RcAt.none_none,RcNeAt.none_none⟩
  |bl b=>cases (show u'=Value.bool b from q');exact⟨RcAt.none_bool b,RcNeAt.none_bool b⟩
  |int b=>obtain⟨tb,rfl⟩:=(show ∃t,u'=Value.int b t from q');exact⟨RcAt.none_int b tb,RcNeAt.none_int b tb⟩
  |str b=>obtain⟨tb,rfl⟩:=(show ∃t,u'=Value.str b t from q');exact⟨RcAt.none_str b tb,RcNeAt.none_str b tb⟩
  |_=>cases f'
 |bl a=>
  cases (show u=Value.bool a from q)
  cases x' with
  |non=>cases (show u'=Value.none from q');exact⟨RcAt.bool_none a,RcNeAt.bool_none a⟩
  |bl b=>cases (show u'=Value.bool b from q');exact⟨RcAt.bool_bool a b,RcNeAt.bool_bool a b⟩
  |int b=>obtain⟨tb,rfl⟩:=(show ∃t,u'=Value.int b t from q');exact⟨RcAt.bool_int a b tb,RcNeAt.bool_int a b tb⟩
  |str b=>obtain⟨tb,rfl⟩:=(show ∃t,u'=Value.str b t from q');exact⟨RcAt.bool_str a b tb,RcNeAt.bool_str a b tb⟩
  |_=>cases f'
 |int a=>
  obtain⟨ta,rfl⟩:=(show ∃t,u=Value.int a t from q)
  cases x' with
  |non=>cases (show u'=Value.none from q');exact⟨RcAt.int_none a ta,RcNeAt.int_none a ta⟩
  |bl b=>cases (show u'=Value.bool b from q');exact⟨RcAt.int_bool a ta b,RcNeAt.int_bool a ta b⟩
  |int b=>obtain⟨tb,rfl⟩:=(show ∃t,u'=Value.int b t from q');exact⟨RcAt.int_int a ta b tb,RcNeAt.int_int a ta b tb⟩
  |str b=>obtain⟨tb,rfl⟩:=(show ∃t,u'=Value.str b t from q');exact⟨RcAt.int_str a ta b tb,RcNeAt.int_str a ta b tb⟩
  |_=>cases f'
 |str a=>
  obtain⟨ta,rfl⟩:=(show ∃t,u=Value.str a t from q)
  cases x' with
  |non=>cases (show u'=Value.none from q');exact⟨RcAt.str_none a ta,RcNeAt.str_none a ta⟩
  |bl b=>cases (show u'=Value.bool b from q');exact⟨RcAt.str_bool a ta b,RcNeAt.str_bool a ta b⟩
  |int b=>obtain⟨tb,rfl⟩:=(show ∃t,u'=Value.int b t from q');exact⟨RcAt.str_int a ta b tb,RcNeAt.str_int a ta b tb⟩
  |str b=>obtain⟨tb,rfl⟩:=(show ∃t,u'=Value.str b t from q');exact⟨RcAt.str_str a ta b tb,RcNeAt.str_str a ta b tb⟩
  |_=>cases f'
 |_=>cases f
open SeqAt in
theorem sH{A:Around}{x:V}{u:Value}{b:Addr}{items:Array Value}(fx:lG x=true)(q:aM x u)(hA:A.units<cLine)(h:s.heap.IsTuple b items\/s.heap.IsList b items):EqAt A s u (.ref b) false/\EqAt A s (.ref b) u false/\RcAt A s u (.ref b) false/\RcAt A s (.ref b) u false/\RcNeAt A s u (.ref b) true/\RcNeAt A s (.ref b) u true:=by
 cases x with
 |non=>
  obtain rfl:u=Value.none:=q
  rcases h with h|h
  ·exact⟨EqAt.none_tuple h hA,EqAt.tuple_none h hA,RcAt.none_tuple h hA,RcAt.tuple_none h hA,RcNeAt.none_tuple h hA,RcNeAt.tuple_none h hA⟩
  ·exact⟨EqAt.none_list h hA,EqAt.list_none h hA,RcAt.none_list h hA,RcAt.list_none h hA,RcNeAt.none_list h hA,RcNeAt.list_none h hA⟩
 |bl a=>
  obtain rfl:u=Value.bool a:=q
  rcases h with h|h
  ·exact⟨EqAt.bool_tuple _ h hA,EqAt.tuple_bool _ h hA,RcAt.bool_tuple _ h hA,RcAt.tuple_bool _ h hA,RcNeAt.bool_tuple _ h hA,RcNeAt.tuple_bool _ h hA⟩
  ·exact⟨EqAt.bool_list _ h hA,EqAt.list_bool _ h hA,RcAt.bool_list _ h hA,RcAt.list_bool _ h hA,RcNeAt.bool_list _ h hA,RcNeAt.list_bool _ h hA⟩
 |int a=>
  obtain⟨t,rfl⟩:∃t,u=Value.int a t:=q
  rcases h with h|h
  ·exact⟨EqAt.int_tuple _ _ h hA,EqAt.tuple_int _ _ h hA,RcAt.int_tuple _ _ h hA,RcAt.tuple_int _ _ h hA,RcNeAt.int_tuple _ _ h hA,RcNeAt.tuple_int _ _ h hA⟩
  ·exact⟨EqAt.int_list _ _ h hA,EqAt.list_int _ _ h hA,RcAt.int_list _ _ h hA,RcAt.list_int _ _ h hA,RcNeAt.int_list _ _ h hA,RcNeAt.list_int _ _ h hA⟩
 |str a=>
  obtain⟨t,rfl⟩:∃t,u=Value.str a t:=q
  rcases h with h|h
  ·exact⟨EqAt.str_tuple _ _ h hA,EqAt.tuple_str _ _ h hA,RcAt.str_tuple _ _ h hA,RcAt.tuple_str _ _ h hA,RcNeAt.str_tuple _ _ h hA,RcNeAt.tuple_str _ _ h hA⟩
  ·exact⟨EqAt.str_list _ _ h hA,EqAt.list_str _ _ h hA,RcAt.str_list _ _ h hA,RcAt.list_str _ _ h hA,RcNeAt.str_list _ _ h hA,RcNeAt.list_str _ _ h hA⟩
 |_=>cases fx
theorem pP{xs ys:List D}:aZ (.tup xs) (.tup ys)=eqDs xs ys/\aZ (.lst xs) (.lst ys)=eqDs xs ys/\aZ (.tup xs) (.lst ys)=false/\aZ (.lst xs) (.tup ys)=false:=by
 refine⟨?_,?_,?_,?_⟩<;>(unfold aZ;rfl)
theorem sI{d:D}{v:V}{ys:List D}(h:dH d=some v):aZ d (.tup ys)=false/\aZ d (.lst ys)=false/\aZ (.tup ys) d=false/\aZ (.lst ys) d=false:=by
 cases d<;>first|(simp[dH] at h;done)|(refine⟨?_,?_,?_,?_⟩<;>(unfold aZ;rfl))
set_option maxHeartbeats 4000000 in
open SeqAt in
theorem wJ(I:aD X pins σ H s)(e:Same G H):∀(n:Nat) {A:Around} {d d':D} {x x':V} {u u':Value},A.units+n<cLine->bO n d=true->bO n d'=true->aR X.K X.mg G d x->aM x u->aR X.K X.mg G d' x'->aM x' u'->
  EqAt A s u u' (aZ d d')/\RcAt A s u u' (aZ d d')/\RcNeAt A s u u' (!aZ d d'):=by
 have ff:∀{A:Around} {d d':D} {v v' x x':V} {u u':Value},dH d=some v->dH d'=some v'->aR X.K X.mg G d x->aM x u->aR X.K X.mg G d' x'->aM x' u'->EqAt A s u u' (aZ d d')/\RcAt A s u u' (aZ d d')/\RcNeAt A s u u' (!aZ d d'):=by
  intro A d d' v v' x x' u u' hv hv' r q r' q'
  obtain⟨rfl,f1⟩:=fP hv r
  obtain⟨rfl,f2⟩:=fP hv' r'
  rw[U7 hv hv']
  exact⟨SF q q' f1 f2,U8 q q' f1 f2⟩
 have seq:∀{d:D} {m:Nat} {xs:List D} {x:V} {u:Value},d=.tup xs\/d=.lst xs->aR X.K X.mg G d x->aM x u->∃b items,u=.ref b/\(s.heap.IsTuple b items\/s.heap.IsList b items):=by
  intro d m xs x u hd r q
  rcases hd with rfl|rfl
  ·obtain⟨a,vs,rfl,q1,q2⟩:=r
   obtain⟨us,v1,t1,_⟩:=I.tuple (Same.sqT e q1)
   exact⟨a,_,q,.inl t1⟩
  ·obtain⟨a,vs,rfl,q1,q2⟩:=r
   obtain⟨us,v1,t1,_⟩:=I.list (e.seq q1)
   exact⟨a,_,q,.inr t1.isList⟩
 intro n
 induction n with
 |zero=>
  intro A d d' x x' u u' hu h h' r q r' q'
  rcases gS h with⟨w,hw⟩|⟨_,_,z,_⟩|⟨_,_,z,_⟩<;>try omega
  rcases gS h' with⟨w',hw'⟩|⟨_,_,z,_⟩|⟨_,_,z,_⟩<;>try omega
  exact ff hw hw' r q r' q'
 |succ n ih=>
  intro A d d' x x' u u' hu h h' r q r' q'
  have hA:A.units<cLine:=by omega
  have ih':∀{d d':D} {x x':V} {u u':Value},bO n d=true->bO n d'=true->aR X.K X.mg G d x->aM x u->aR X.K X.mg G d' x'->aM x' u'->EqAt A.in1 s u u' (aZ d d'):=
   fun a b c d e f=>(ih (A:=A.in1) (by rw[CA];omega) a b c d e f).1
  rcases gS h with⟨w,hw⟩|⟨m,xs,hm,rfl,hx⟩|⟨m,xs,hm,rfl,hx⟩
  ·rcases gS h' with⟨w',hw'⟩|⟨m',ys,hm',rfl,hy⟩|⟨m',ys,hm',rfl,hy⟩
   ·exact ff hw hw' r q r' q'
   ·obtain⟨rfl,f1⟩:=fP hw r
    obtain⟨b,items,rfl,hb⟩:=seq (m:=m') (.inl rfl) r' q'
    obtain⟨z1,_,z3,_,z5,_⟩:=sH f1 q hA hb
    rw[(sI hw).1];exact⟨z1,z3,z5⟩
   ·obtain⟨rfl,f1⟩:=fP hw r
    obtain⟨b,items,rfl,hb⟩:=seq (m:=m') (.inr rfl) r' q'
    obtain⟨z1,_,z3,_,z5,_⟩:=sH f1 q hA hb
    rw[(sI hw).2.1];exact⟨z1,z3,z5⟩
  ·obtain rfl:n=m:=by omega
   rcases gS h' with⟨w',hw'⟩|⟨m',ys,hm',rfl,hy⟩|⟨m',ys,hm',rfl,hy⟩
   ·obtain⟨rfl,f1⟩:=fP hw' r'
    obtain⟨b,items,rfl,hb⟩:=seq (m:=n) (.inl rfl) r q
    obtain⟨_,z2,_,z4,_,z6⟩:=sH f1 q' hA hb
    rw[(sI hw').2.2.1];exact⟨z2,z4,z6⟩
   ·obtain rfl:n=m':=by omega
    have hr:=r;have hr':=r'
    obtain⟨a,vs,rfl,q1,q2⟩:=r
    obtain rfl:u=Value.ref a:=q
    obtain⟨us,v1,t1,_⟩:=I.tuple (Same.sqT e q1)
    obtain⟨b,ws,rfl,q1',q2'⟩:=r'
    obtain rfl:u'=Value.ref b:=q'
    obtain⟨us',v1',t1',_⟩:=I.tuple (Same.sqT e q1')
    have t1:s.heap.IsTuple a us.toArray:=t1
    have t1':s.heap.IsTuple b us'.toArray:=t1'
    have z:=RcAt.tuples t1 t1' hA (rZ ih' hx hy q2 v1 q2' v1')
    have zn:=RcNeAt.tuples t1 t1' hA (rZ ih' hx hy q2 v1 q2' v1')
    have hz:((List.range (min us.toArray.size us'.toArray.size)).all (fun j=>aZ (xs.getD j .non) (ys.getD j .non))&&us.toArray.size==us'.toArray.size)=aZ (.tup xs) (.tup ys):=by
     rw[pP.1,<- rX]
     simp only[xaj,<- v1.length,<- v1'.length,<- q2.length,<- q2'.length]
    rw[hz] at z zn
    refine⟨?_,z,zn⟩
    by_cases hab:a=b
    ·subst hab
     have ed:=wI I e (n+1) h h' hr hr'
     rw[ed,wH _ _ h'];exact EqAt.same _
    ·exact EqAt.of_refs hab z
   ·obtain⟨a,vs,rfl,q1,q2⟩:=r
    obtain rfl:u=Value.ref a:=q
    obtain⟨us,v1,t1,_⟩:=I.tuple (Same.sqT e q1)
    obtain⟨b,ws,rfl,q1',q2'⟩:=r'
    obtain rfl:u'=Value.ref b:=q'
    obtain⟨us',v1',t1',_⟩:=I.list (e.seq q1')
    have t1:s.heap.IsTuple a us.toArray:=t1
    rw[pP.2.2.1]
    exact⟨EqAt.tuple_list t1 t1'.isList hA,RcAt.tuple_list t1 t1'.isList hA,RcNeAt.tuple_list t1 t1'.isList hA⟩
  ·obtain rfl:n=m:=by omega
   rcases gS h' with⟨w',hw'⟩|⟨m',ys,hm',rfl,hy⟩|⟨m',ys,hm',rfl,hy⟩
   ·obtain⟨rfl,f1⟩:=fP hw' r'
    obtain⟨b,items,rfl,hb⟩:=seq (m:=n) (.inr rfl) r q
    obtain⟨_,z2,_,z4,_,z6⟩:=sH f1 q' hA hb
    rw[(sI hw').2.2.2];exact⟨z2,z4,z6⟩
   ·obtain⟨a,vs,rfl,q1,q2⟩:=r
    obtain rfl:u=Value.ref a:=q
    obtain⟨us,v1,t1,_⟩:=I.list (e.seq q1)
    obtain⟨b,ws,rfl,q1',q2'⟩:=r'
    obtain rfl:u'=Value.ref b:=q'
    obtain⟨us',v1',t1',_⟩:=I.tuple (Same.sqT e q1')
    have t1':s.heap.IsTuple b us'.toArray:=t1'
    rw[pP.2.2.2]
    exact⟨EqAt.list_tuple t1.isList t1' hA,RcAt.list_tuple t1.isList t1' hA,RcNeAt.list_tuple t1.isList t1' hA⟩
   ·obtain rfl:n=m':=by omega
    have hr:=r;have hr':=r'
    obtain⟨a,vs,rfl,q1,q2⟩:=r
    obtain rfl:u=Value.ref a:=q
    obtain⟨us,v1,t1,_⟩:=I.list (e.seq q1)
    obtain⟨b,ws,rfl,q1',q2'⟩:=r'
    obtain rfl:u'=Value.ref b:=q'
    obtain⟨us',v1',t1',_⟩:=I.list (e.seq q1')
    have both:RcAt A s (.ref a) (.ref b) (aZ (.lst xs) (.lst ys))/\RcNeAt A s (.ref a) (.ref b) (!aZ (.lst xs) (.lst ys)):=by
     by_cases hl:us.toArray.size=us'.toArray.size
     ·have z:=RcAt.lists t1.isList t1'.isList hl hA (rZ ih' hx hy q2 v1 q2' v1')
      have zn:=RcNeAt.lists t1.isList t1'.isList hl hA (rZ ih' hx hy q2 v1 q2' v1')
      have hz:(List.range us.toArray.size).all (fun j=>aZ (xs.getD j .non) (ys.getD j .non))=aZ (.lst xs) (.lst ys):=by
       have hl':xs.length=ys.length:=by rw[q2.length,q2'.length,v1.length,v1'.length];simpa using hl
       rw[pP.2.1,<- rX,hl',Nat.min_self,xaj,<- v1.length,<- q2.length,hl']
       simp
      rw[hz] at z zn
      exact⟨z,zn⟩
     ·have z:=RcAt.lists_lengths t1.isList t1'.isList (by simpa using hl) hA
      have zn:=RcNeAt.lists_lengths t1.isList t1'.isList (by simpa using hl) hA
      have hz:aZ (.lst xs) (.lst ys)=false:=by
       have hl':¬xs.length=ys.length:=by rw[q2.length,q2'.length,v1.length,v1'.length];simpa using hl
       rw[pP.2.1,<- rX]
       simp[hl']
      rw[hz]
      exact⟨z,zn⟩
    refine⟨?_,both⟩
    by_cases hab:a=b
    ·subst hab
     have ed:=wI I e (n+1) h h' hr hr'
     rw[ed,wH _ _ h'];exact EqAt.same _
    ·exact EqAt.of_refs hab both.1
end
end DL
namespace DL
open L2 PyProof.Rows
def B(n:Nat)(i:Int):Prop:=i.natAbs<2^n
theorem B.of{n:Nat}{i:Int}{k:Nat}(h:i.natAbs<=k)(hk:k<2^n:=by decide +kernel):B n i:=xbf h hk
theorem B.log{n:Nat}{i:Int}(h:B n i)(hn:0<n):i.natAbs.log2<n:=BB hn h
def gT(i:Int):Bool:=decide (i.natAbs.log2<60000000)
theorem U9{n:Nat}{i:Int}(h:B n i)(hn:n<=60000000:=by decide):gT i=true:=by
 refine xah ?_
 cases n with
 |zero=>
  have:i.natAbs=0:=by unfold B at h;omega
  rw[this];decide
 |succ k=>exact xan (h.log (Nat.succ_pos _)) hn
theorem VA{i j:Int}(a:gT i=true)(b:gT j=true):IntMulOk i j:=by
 have h1:i.natAbs.log2<60000000:=xau a
 have h2:j.natAbs.log2<60000000:=xau b
 have bits:∀k:Int,k.natAbs.log2<60000000->Builtin.Int.intBits k<=60000000:=fun k h=>by
  unfold Builtin.Int.intBits
  split
  ·exact xbc _
  ·omega
 have b1:=bits i h1
 have b2:=bits j h2
 unfold IntMulOk
 intro z
 simp only[xap,decide_eq_true_eq,Builtin.Int.intTooBig] at z
 have e:=z.2
 have l:(bitsLine:Int)=134217728:=by decide
 rw[l] at e
 omega
def nK(i:Int):Bool:=decide (i≠0/\i.natAbs.log2<9000)
theorem VB{n:Nat}{i:Int}(h:B n i)(h0:i≠0)(hn:n<=9000:=by decide):nK i=true:=by
 refine xah ⟨h0,?_⟩
 cases n with
 |zero=>
  have:i.natAbs=0:=by unfold B at h;omega
  omega
 |succ k=>exact xan (h.log (Nat.succ_pos _)) hn
def wK(i j:Int):Bool:=decide (0<=j/\j<=1000000/\i.natAbs<2^64)
section
variable{X:Cx}{K:xFg}{mg:Str->Option Value}
def gI(C:Int->Int->Bool)(h:Int->Int->Int):D->D->R D
 |.int i,.int j=>bif C i j then .ok (.int (h i j)) else .bad
 |_,_=>.bad
def gB(h:Int->Int->Bool):D->D->R D
 |.int i,.int j=>.ok (.bl (h i j))
 |_,_=>.bad
theorem pQ{C:Int->Int->Bool}{h:Int->Int->Int}:eR (gI C h):=by
 intro a b e
 cases a<;>cases b<;>simp only[gI]<;>first|(intro z;cases z)|(intro z;revert z;cases C _ _<;>simp[cond])
theorem sJ{h:Int->Int->Bool}:eR (gB h):=by
 intro a b e
 cases a<;>cases b<;>simp only[gB]<;>(intro z;cases z)
theorem pR{C:Int->Int->Bool}{C':Int->Int->Prop}{h:Int->Int->Int}(hc:∀i j,C i j=true->C' i j):eQ K mg (rI C' fun i j=>.int (h i j)) (gI C h):=by
 intro G H a b x y Q e ra rb q
 cases a with
 |int i=>cases b with
  |int j=>
   cases ra;cases rb
   cases hC:C i j with
   |false=>simp only[gI,hC,cond_false] at q;exact q.elim
   |true=>
    simp only[gI,hC,cond_true] at q
    exact⟨i,j,rfl,rfl,hc i j hC,aL.now q e rfl⟩
  |_=>exact(show False from q).elim
 |_=>exact(show False from q).elim
theorem sK{h:Int->Int->Bool}:eQ K mg (iV fun i j=>.bl (h i j)) (gB h):=by
 intro G H a b x y Q e ra rb q
 cases a with
 |int i=>cases b with
  |int j=>cases ra;cases rb;exact⟨i,j,rfl,rfl,aL.now q e rfl⟩
  |_=>exact(show False from q).elim
 |_=>exact(show False from q).elim
theorem VC:bD X (binaryOp .Mult) (rI (fun i j=>gT i=true/\gT j=true) fun i j=>.int (i*j)):=lA fun _ _ _ _ _ _ _ hc q=>mul_int q (VA hc.1 hc.2)
theorem VD:bD X (binaryOp .FloorDiv) (rI (fun _ j=>nK j=true) fun i j=>.int (i.fdiv j)):=lA fun i j _ _ _ _ _ hc q=>by
 have h:=xau (p:=j≠0/\j.natAbs.log2<9000) hc
 exact floordiv_int h.1 q (.inl (PyProof.noPylong_of_log2 h.2))
def CB(K:xFg):R2:=fun x y H Q=>∃l b xs zs,x=.ref l/\y=.ref b/\aY K H l xs/\aY K H b zs/\xs.length+zs.length<=sizeLine/\∀p,H p=none->Q (.ref p) (aG H p (.lst (xs++zs)))
theorem VE:bD X (binaryOp .Add) (CB X.K):=by
 intro pins s σ H x y v u Q I rx ry h
 obtain⟨l,b,xs,zs,rfl,rfl,hH,hB,hz,q⟩:=h
 cases rx
 cases ry
 obtain⟨its,r,pl,_⟩:=I.list hH
 obtain⟨its2,r2,pl2,_⟩:=I.list hB
 obtain⟨⟨cls,dd,data,sl⟩,ho,hc,n,hd⟩:=id pl.isList
 obtain⟨⟨cls2,dd2,data2,sl2⟩,ho2,hc2,n2,hd2⟩:=id pl2.isList
 simp only at hc hd hc2 hd2
 subst hc hd hc2 hd2
 refine concat_meets ⟨_,ho,rfl⟩ ⟨_,ho2,rfl⟩ noFill_list_add seq_list_add PySem.F.slot_list_add PySem.F.entry_list_add (PySem.F.args_list_add_2 _ _) (list_addW l b its.toArray its2.toArray n n2 dd dd2 sl sl2 (by rw[xaj,xaj,<- r.length,<- r2.length];exact hz)) ⟨ho,ho2,?_⟩
 have ea:its.toArray++its2.toArray=(its++its2).toArray:=by simp
 rw[ea]
 exact⟨.ref _,_,I.lnew (t':=s.toks) (r.append r2) (by rw[xa2];exact hz),rfl,q _ I.fresh⟩
def cQ(n:Nat):Bool:=decide (n<=sizeLine)
def a7:D->D->R D
 |.int i,.int j=>.ok (.int (i+j))
 |.str x,.str y=>bif cQ (x.length+y.length) then .ok (.str (x++y)) else .bad
 |.lst xs,.lst ys=>bif cQ (xs.length+ys.length) then .ok (.lst (xs++ys)) else .bad
 |.tup xs,.tup ys=>bif cQ (xs.length+ys.length) && !xs.isEmpty then .ok (.tup (xs++ys)) else .bad
 |_,_=>.bad
theorem VF:eR a7:=by
 intro a b e
 cases a<;>cases b<;>simp only[a7]<;>first|(intro z;cases z;done)|(generalize cQ _=k;cases k<;>simp[cond]<;>(try (generalize List.isEmpty _=k2;cases k2<;>simp)))
abbrev VG(K:xFg):R2:=fun x y H Q=>iV (fun i j=>.int (i+j)) x y H Q\/((∃i j,x=.str i/\y=.str j/\i.length+j.length<=sizeLine/\Q (.str (i++j)) H)\/(CB K x y H Q\/AY K x y H Q))
theorem VH:eQ K mg (VG K) a7:=by
 intro G H a b x y Q e ra rb q
 cases a with
 |int i=>cases b with
  |int j=>cases ra;cases rb;exact .inl ⟨i,j,rfl,rfl,aL.now q e rfl⟩
  |_=>exact(show False from q).elim
 |str i=>cases b with
  |str j=>
   cases ra;cases rb
   cases hC:cQ (i.length+j.length) with
   |false=>simp only[a7,hC,cond_false] at q;exact q.elim
   |true=>
    simp only[a7,hC,cond_true] at q
    exact .inr (.inl ⟨i,j,rfl,rfl,xau hC,aL.now q e rfl⟩)
  |_=>exact(show False from q).elim
 |lst xs=>cases b with
  |lst ys=>
   obtain⟨p,vs,rfl,h1,h2⟩:=ra
   obtain⟨p',ws,rfl,h1',h2'⟩:=rb
   cases hC:cQ (xs.length+ys.length) with
   |false=>simp only[a7,hC,cond_false] at q;exact q.elim
   |true=>
    simp only[a7,hC,cond_true] at q
    refine .inr (.inr (.inl ⟨p,p',vs,ws,rfl,rfl,e.seq h1,e.seq h1',by rw[<- h2.length,<- h2'.length];exact xau hC,fun l hl=>?_⟩))
    have s:=Step.pub (o:=.lst (vs++ws)) e hl
    exact(show aL K mg Q G H (.lst (xs++ys)) from q) _ _ _ s ⟨l,_,rfl,aY.of aU,(h2.append h2').mono s.g⟩
  |_=>exact(show False from q).elim
 |tup xs=>cases b with
  |tup ys=>
   obtain⟨p,vs,rfl,h1,h2⟩:=ra
   obtain⟨p',ws,rfl,h1',h2'⟩:=rb
   cases hC:(cQ (xs.length+ys.length) && !xs.isEmpty) with
   |false=>simp only[a7,hC,cond_false] at q;exact q.elim
   |true=>
    simp only[a7,hC,cond_true] at q
    rw[xap] at hC
    have q':aL K mg Q G H (.tup (xs++ys)):=q
    refine .inr (.inr (.inr ⟨p,p',vs,ws,rfl,rfl,Same.sqT e h1,Same.sqT e h1',fun z=>?_,by rw[<- h2.length,<- h2'.length];exact xau hC.1,fun z=>?_,fun z l hl=>?_⟩))
    ·subst z
     have:=h2.length
     have hx:xs=[]:=List.length_eq_zero_iff.mp this
     subst hx;simp at hC
    ·subst z
     have:=h2'.length
     have hy:ys=[]:=List.length_eq_zero_iff.mp this
     subst hy
     rw[xbn] at q'
     exact q'.now e ⟨p,vs,rfl,h1,h2⟩
    ·have s:=Step.pub (o:=.tup (vs++ws)) e hl
     exact q' _ _ _ s ⟨l,_,rfl,bG.of aU,(h2.append h2').mono s.g⟩
  |_=>exact(show False from q).elim
 |_=>exact(show False from q).elim
abbrev gSub:D->D->R D:=gI (fun _ _=>true) fun i j=>i-j
abbrev iH:D->D->R D:=gI (fun i j=>gT i&&gT j) fun i j=>i*j
abbrev lR:D->D->R D:=gI (fun _ j=>nK j) fun i j=>i.fdiv j
abbrev cR:D->D->R D:=gI (fun _ j=>decide (j≠0)) fun i j=>i.fmod j
abbrev pS:D->D->R D:=gI wK fun i j=>i^j.toNat
abbrev VI:D->D->R D:=gI (fun _ j=>decide (0<=j)) fun i j=>i/2^j.toNat
variable{E:XK}{a b c:Expr}{fa fb fc:DSt->R D}{pos:Pos}
theorem CC(ha:DE X E a fa)(hb:DE X E b fb):DE X E (.BinOp a .Add b pos) (aC a7 fa fb):=nB (QE.or (QW.or (VE.or R8))) VH VF ha hb
theorem VJ(ha:DE X E a fa)(hb:DE X E b fb):DE X E (.BinOp a .Sub b pos) (aC gSub fa fb):=
 nB (r:=rI (fun _ _=>True) fun i j=>.int (i-j)) (lA fun _ _ _ _ _ _ _ _ q=>sub_int q) (pR fun _ _ _=>trivial) pQ ha hb
theorem VL(ha:DE X E a fa)(hb:DE X E b fb):DE X E (.BinOp a .Mult b pos) (aC iH fa fb):=nB VC (pR fun i j h=>by simpa using h) pQ ha hb
theorem VM(ha:DE X E a fa)(hb:DE X E b fb):DE X E (.BinOp a .FloorDiv b pos) (aC lR fa fb):=nB VD (pR fun i j h=>h) pQ ha hb
theorem VN(ha:DE X E a fa)(hb:DE X E b fb):DE X E (.BinOp a .Mod b pos) (aC cR fa fb):=nB QF (pR fun i j h=>xau h) pQ ha hb
theorem VO(ha:DE X E a fa)(hb:DE X E b fb):DE X E (.BinOp a .Pow b pos) (aC pS fa fb):=nB QG (pR fun i j h=>xau (p:=0<=j/\j<=1000000/\i.natAbs<2^64) h) pQ ha hb
def VP:D->R D
 |.int i=>.ok (.int (-i))
 |_=>.bad
structure eD(X:Cx)(op:CmpOp)(g:D->D->R D):Prop where
 ex:∃r,bD X (compareOp op) r/\eQ X.K X.mg r g/\eR g
abbrev lS:D->D->R D:=gB fun i j=>decide (i<j)
abbrev pT:D->D->R D:=gB fun i j=>decide (i<=j)
abbrev iI:D->D->R D:=gB fun i j=>decide (j<i)
abbrev gGe:D->D->R D:=gB fun i j=>decide (j<=i)
theorem pU:eD X .Lt lS:=⟨_,QL,sK,sJ⟩
theorem wL:eD X .LtE pT:=⟨_,QM,sK,sJ⟩
theorem kP:eD X .Gt iI:=⟨_,QN,sK,sJ⟩
theorem VQ:eD X .GtE gGe:=⟨_,QO,sK,sJ⟩
def eE(a b:D):Bool:=bO 9 a&&bO 9 b
def bX(a b:D):R D:=bif eE a b then .ok (.bl (aZ a b)) else .bad
def c7(a b:D):R D:=bif eE a b then .ok (.bl (!aZ a b)) else .bad
def CF(K:xFg)(mg:Str->Option Value)(neg:Bool):R2:=fun x y H Q=>∃G d d',Same G H/\aR K mg G d x/\aR K mg G d' y/\eE d d'=true/\Q (.bl (bif neg then !aZ d d' else aZ d d')) H
theorem VR{k:Nat}(r:bZ k X.A):bD X (compareOp .Eq) (CF X.K X.mg false):=by
 intro pins s σ H x y v u Q I rx ry h
 obtain⟨G,d,d',e,r1,r2,c,q⟩:=h
 unfold eE at c
 rw[xap] at c
 have hu:X.A.units+9<cLine:=by have:=r.un;omega
 exact(wJ I e 9 hu c.1 c.2 r1 rx r2 ry).2.1 _ _ _ _ ⟨.bl _,H,I,rfl,q⟩
theorem VS{k:Nat}(r:bZ k X.A):bD X (compareOp .NotEq) (CF X.K X.mg true):=by
 intro pins s σ H x y v u Q I rx ry h
 obtain⟨G,d,d',e,r1,r2,c,q⟩:=h
 unfold eE at c
 rw[xap] at c
 have hu:X.A.units+9<cLine:=by have:=r.un;omega
 exact(wJ I e 9 hu c.1 c.2 r1 rx r2 ry).2.2 _ _ _ _ ⟨.bl _,H,I,rfl,q⟩
theorem CG{k:Nat}(C:XC X E k):eD X .Eq bX:=⟨_,VR C.room,fun G H a b x y Q e ra rb q=>by
 unfold bX at q
 cases hc:eE a b with
 |false=>rw[hc] at q;exact q.elim
 |true=>rw[hc] at q;exact⟨G,a,b,e,ra,rb,hc,aL.now q e rfl⟩,fun a b e=>by unfold bX;cases eE a b<;>simp[cond]⟩
theorem wM{k:Nat}(C:XC X E k):eD X .NotEq c7:=⟨_,VS C.room,fun G H a b x y Q e ra rb q=>by
 unfold c7 at q
 cases hc:eE a b with
 |false=>rw[hc] at q;exact q.elim
 |true=>rw[hc] at q;exact⟨G,a,b,e,ra,rb,hc,aL.now q e rfl⟩,fun a b e=>by unfold c7;cases eE a b<;>simp[cond]⟩
def lT:D->Bool
 |.non=>true
 |_=>false
def sL:D->D->R D
 |d,.non=>.ok (.bl (lT d))
 |.bl a,.bl b=>.ok (.bl (a==b))
 |_,_=>.bad
def pV:D->D->R D
 |d,.non=>.ok (.bl (!lT d))
 |.bl a,.bl b=>.ok (.bl (a != b))
 |_,_=>.bad
theorem CH{G:Hp}{d:D}{x:V}(r:aR K mg G d x):decide (x=.non)=lT d:=by
 have nr:∀a:Addr,decide (V.ref a=V.non)=false:=fun a=>by simp
 cases d with
 |non=>cases r;rfl
 |bl b=>cases r;rfl
 |int i=>cases r;rfl
 |str y=>cases r;rfl
 |ty n=>cases r;rfl
 |cls c=>obtain⟨C,rfl,_⟩:=r;exact nr _
 |tup xs=>obtain⟨a,vs,rfl,_⟩:=r;exact nr _
 |lst xs=>obtain⟨a,vs,rfl,_⟩:=r;exact nr _
 |dct ks xs=>obtain⟨a,vs,rfl,_⟩:=r;exact nr _
 |exc c as=>obtain⟨a,C,dct,vs,rfl,_⟩:=r;exact nr _
theorem VT:eD X .Is sL:=⟨_,QQ.or TC,fun G H a b x y Q e ra rb q=>by
 cases b with
 |non=>cases rb;exact .inl ⟨rfl,by rw[CH ra];cases a<;>exact aL.now q e rfl⟩
 |bl k=>cases a with
  |bl k'=>cases ra;cases rb;exact .inr ⟨k',k,rfl,rfl,aL.now q e rfl⟩
  |_=>exact(show False from q).elim
 |_=>cases a<;>exact(show False from q).elim,fun a b e=>by cases a<;>cases b<;>simp[sL]⟩
theorem CI:eD X .IsNot pV:=⟨_,QR.or TD,fun G H a b x y Q e ra rb q=>by
 cases b with
 |non=>cases rb;exact .inl ⟨rfl,by rw[CH ra];cases a<;>exact aL.now q e rfl⟩
 |bl k=>cases a with
  |bl k'=>cases ra;cases rb;exact .inr ⟨k',k,rfl,rfl,aL.now q e rfl⟩
  |_=>exact(show False from q).elim
 |_=>cases a<;>exact(show False from q).elim,fun a b e=>by cases a<;>cases b<;>simp[pV]⟩
theorem CJ{op:CmpOp}{g:D->D->R D}(cf:eD X op g)(ha:DE X E a fa)(hb:DE X E b fb)(hm:behindInMarks op b=false:=by first|exact c5 _ (by decide) (by decide)|rfl):DE X E (.Compare a [op] [b] pos) (aC g fa fb):=by
 obtain⟨r,h1,h2,h3⟩:=cf.ex
 exact UF h1 h2 h3 ha hb hm
theorem fQ{op:CmpOp}{g:D->D->R D}(cf:eD X op g)(ha:DE X E a fa)(hb:DE X E b fb)(hm:behindInMarks op b=false:=by first|exact c5 _ (by decide) (by decide)|rfl):DT X E (.Compare a [op] [b] pos) (aS (aC g fa fb)):=by
 obtain⟨r,h1,h2,h3⟩:=cf.ex
 exact UG h1 h2 h3 ha hb hm
theorem VU{op op':CmpOp}{g g':D->D->R D}(cf:eD X op g)(cf':eD X op' g')(ha:DE X E a fa)(hb:DE X E b fb)(hc:DE X E c fc)(hm:lastMarks [op,op'] [b,c]=false:=by with_unfolding_all rfl):DE X E (.Compare a [op,op'] [b,c] pos) (jV g g' fa fb fc):=by
 obtain⟨r,h1,h2,h3⟩:=cf.ex
 obtain⟨r',h1',h2',h3'⟩:=cf'.ex
 exact UH h1 h2 h3 h1' h2' h3' ha hb hc hm
theorem VV{op op':CmpOp}{g g':D->D->R D}(cf:eD X op g)(cf':eD X op' g')(ha:DE X E a fa)(hb:DE X E b fb)(hc:DE X E c fc)(hm:lastMarks [op,op'] [b,c]=false:=by with_unfolding_all rfl):DT X E (.Compare a [op,op'] [b,c] pos) (aS (jV g g' fa fb fc)):=by
 obtain⟨r,h1,h2,h3⟩:=cf.ex
 obtain⟨r',h1',h2',h3'⟩:=cf'.ex
 exact UI h1 h2 h3 h1' h2' h3' ha hb hc hm
end
end DL
namespace DL
open L2 PyProof.Rows
section
variable{X:Cx}{E:XK}{K:xFg}{mg:Str->Option Value}{G H:Hp}
theorem VW:bootBuiltins "isinstance"=some (.builtin "isinstance"):=by rfl
theorem CK:bootBuiltins "int"=some (.type "int"):=by rfl
theorem VX:bootBuiltins "bool"=some (.type "bool"):=by rfl
theorem VY:bootBuiltins "str"=some (.type "str"):=by rfl
theorem CL:bootBuiltins "tuple"=some (.type "tuple"):=by rfl
theorem CM:bootBuiltins "list"=some (.type "list"):=by rfl
theorem VZ:bootBuiltins "ValueError"=some (.type "ValueError"):=by rfl
theorem Reps.one{d:D}{vs:List V}(h:Reps K mg G [d] vs):∃v,vs=[v]/\aR K mg G d v:=by
 obtain⟨v,r,rfl,h2,h3⟩:=h
 cases h3
 exact⟨v,rfl,h2⟩
theorem Reps.two{d d':D}{vs:List V}(h:Reps K mg G [d,d'] vs):∃v w,vs=[v,w]/\aR K mg G d v/\aR K mg G d' w:=by
 obtain⟨v,r,rfl,h2,h3⟩:=h
 obtain⟨w,rfl,h4⟩:=h3.one
 exact⟨v,w,rfl,h2,h4⟩
def g1{α:Type}(g:D->R α):List D->R α
 |[d]=>g d
 |_=>.bad
def g2{α:Type}(g:D->D->R α):List D->R α
 |[d,e]=>g d e
 |_=>.bad
theorem wN{r:List V->Hp->VK->Prop}{g:D->R D}(h:∀(G H:Hp) (d:D) (v:V) (Q:VK),Same G H->aR K mg G d v->RW (g d) (aL K mg Q G H) (fun _=>False)->r [v] H Q):i6 K mg r (g1 g):=by
 intro G H ds vs Q e rp q
 match ds,rp,q with
 |[],rp,q=>exact(show False from q).elim
 |[d],rp,q=>obtain⟨v,rfl,h1⟩:=rp.one;exact h G H d v Q e h1 q
 |_::_::_,rp,q=>exact(show False from q).elim
theorem wO{r:List V->Hp->VK->Prop}{g:D->D->R D}(h:∀(G H:Hp) (d d':D) (v v':V) (Q:VK),Same G H->aR K mg G d v->aR K mg G d' v'->RW (g d d') (aL K mg Q G H) (fun _=>False)->r [v,v'] H Q):i6 K mg r (g2 g):=by
 intro G H ds vs Q e rp q
 match ds,rp,q with
 |[],rp,q=>exact(show False from q).elim
 |[d],rp,q=>exact(show False from q).elim
 |[d,d'],rp,q=>obtain⟨v,w,rfl,h1,h2⟩:=rp.two;exact h G H d d' v w Q e h1 h2 q
 |_::_::_::_,rp,q=>exact(show False from q).elim
variable{x:Str}{p pos:Pos}{e:Expr}{es:List Expr}{fs:DSt->R (List D)}
def wP:D->R D
 |.lst xs=>.ok (.int xs.length)
 |.tup xs=>.ok (.int xs.length)
 |.str y=>bif cQ y.length then .ok (.int y.length) else .bad
 |_=>.bad
abbrev cA:=g1 wP
theorem V0:i6 K mg (fun xs H Q=>(∃p ys,xs=[.ref p]/\(aY K H p ys\/bG K H p ys)/\Q (.int ys.length) H)\/(∃z,xs=[.str z]/\z.length<=sizeLine/\Q (.int z.length) H)) cA:=wN fun G H d v Q e r q=>by
 cases d with
 |lst xs=>
  obtain⟨a,vs,rfl,h1,h2⟩:=r
  exact .inl ⟨a,vs,rfl,.inl (e.seq h1),by rw[<- h2.length];exact aL.now q e rfl⟩
 |tup xs=>
  obtain⟨a,vs,rfl,h1,h2⟩:=r
  exact .inl ⟨a,vs,rfl,.inr (Same.sqT e h1),by rw[<- h2.length];exact aL.now q e rfl⟩
 |str y=>
  cases r
  cases hC:cQ y.length with
  |false=>simp only[wP,hC,cond_false] at q;exact q.elim
  |true=>simp only[wP,hC,cond_true] at q;exact .inr ⟨y,rfl,xau hC,aL.now q e rfl⟩
 |_=>exact(show False from q).elim
theorem V1(hm:X.mg "len"=none)(ha:DA X E (e::es) fs)(hg:Gl X "len":=by rfl)(he:starEach (e::es) X.env=(false,eval e X.env)::starEach es X.env:=by rfl)(hpl:(backTo pos (starEach es X.env)).any (·.1)=false:=by rfl):DE X E (.Call (.Name "len" p) (e::es) [] pos) (aK cA fs):=
 rP (SH.or SI) V0 hm PySem.boot_len ha hg (by decide) (by decide) he hpl
def V2:D->R D
 |.int i=>.ok (.int (i.natAbs:Int))
 |_=>.bad
abbrev V3:=g1 V2
def V4:D->D->R D
 |.int i,.int j=>.ok (.int (min i j))
 |_,_=>.bad
def V5:D->D->R D
 |.int i,.int j=>.ok (.int (max i j))
 |_,_=>.bad
abbrev pW:=g2 V4
abbrev nM:=g2 V5
theorem V6:i6 K mg (fun xs H Q=>∃i j,xs=[.int i,.int j]/\Q (.int (if j<i then j else i)) H) pW:=wO fun G H d d' v v' Q e r r' q=>by
 cases d with
 |int i=>cases d' with
  |int j=>
   cases r;cases r'
   have ea:(if j<i then j else i)=min i j:=by split<;>omega
   exact⟨i,j,rfl,by rw[ea];exact aL.now q e rfl⟩
  |_=>exact(show False from q).elim
 |_=>exact(show False from q).elim
theorem V7:i6 K mg (fun xs H Q=>∃i j,xs=[.int i,.int j]/\Q (.int (if j>i then j else i)) H) nM:=wO fun G H d d' v v' Q e r r' q=>by
 cases d with
 |int i=>cases d' with
  |int j=>
   cases r;cases r'
   have ea:(if j>i then j else i)=max i j:=by split<;>omega
   exact⟨i,j,rfl,by rw[ea];exact aL.now q e rfl⟩
  |_=>exact(show False from q).elim
 |_=>exact(show False from q).elim
theorem V8(hc:X.calm=true)(hm:X.mg "min"=none)(ha:DA X E (e::es) fs)(hg:Gl X "min":=by rfl)(he:starEach (e::es) X.env=(false,eval e X.env)::starEach es X.env:=by rfl)(hpl:(backTo pos (starEach es X.env)).any (·.1)=false:=by rfl):DE X E (.Call (.Name "min" p) (e::es) [] pos) (aK pW fs):=
 rP (Q0 hc) V6 hm PyProof.Rows.boot_min ha hg (by decide) (by decide) he hpl
theorem V9(hc:X.calm=true)(hm:X.mg "max"=none)(ha:DA X E (e::es) fs)(hg:Gl X "max":=by rfl)(he:starEach (e::es) X.env=(false,eval e X.env)::starEach es X.env:=by rfl)(hpl:(backTo pos (starEach es X.env)).any (·.1)=false:=by rfl):DE X E (.Call (.Name "max" p) (e::es) [] pos) (aK nM fs):=
 rP (QZ hc) V7 hm PyProof.Rows.boot_max ha hg (by decide) (by decide) he hpl
def pX:List D->Option (List Int)
 |[]=>some []
 |.int i::r=>(pX r).map (i::·)
 |_=>none
theorem CN:∀{ds:List D} {ns:List Int},pX ds=some ns->ds=ns.map D.int
 |[],ns,h=>by simp only[pX,Option.some.injEq] at h;subst h;rfl
 |.int i::r,ns,h=>by
  simp only[pX,xbp] at h
  obtain⟨ms,h1,rfl⟩:=h
  rw[CN h1];rfl
def WA:D->R D
 |.int i=>.ok (.int i)
 |.bl b=>.ok (.int (if b then 1 else 0))
 |_=>.bad
abbrev cT:=g1 WA
theorem WB:i6 K mg (fun xs H Q=>(∃i,xs=[.int i]/\Q (.int i) H)\/∃k,xs=[.bl k]/\Q (.int (if k then 1 else 0)) H) cT:=wN fun G H d v Q e r q=>by
 cases d with
 |int i=>cases r;exact .inl ⟨i,rfl,aL.now q e rfl⟩
 |bl b=>cases r;exact .inr ⟨b,rfl,aL.now q e rfl⟩
 |_=>exact(show False from q).elim
theorem WC(hm:X.mg "int"=none)(ha:DA X E (e::es) fs)(hg:Gl X "int":=by rfl)(he:starEach (e::es) X.env=(false,eval e X.env)::starEach es X.env:=by rfl)(hpl:(backTo pos (starEach es X.env)).any (·.1)=false:=by rfl):DE X E (.Call (.Name "int" p) (e::es) [] pos) (aK cT fs):=
 vY Q1 WB hm ha CK hg (by decide) (by decide) he hpl
def WD(g:List D->R (List D))(fs:DSt->R (List D)):DSt->R (List D):=fun σ=>(fs σ).bind fun ds=>(g ds).noerr
def wQ:D->Option String
 |.non=>some "NoneType"
 |.bl _=>some "bool"
 |.int _=>some "int"
 |.str _=>some "str"
 |.tup _=>some "tuple"
 |.lst _=>some "list"
 |.dct _ _=>some "dict"
 |_=>none
def pY(T:String):Bool:=["int","bool","str","tuple","list","dict"].contains T
def sM(t T:String):Bool:=t==T||(t=="bool"&&T=="int")
theorem lU(t T:String)(ht:["NoneType","bool","int","str","tuple","list","dict"].contains t=true)(hT:pY T=true):PySem.W.kitOne K (.type t) (.type T)=some (sM t T):=by
 simp only[List.contains_eq_mem,xa1,xbi,or_false,decide_eq_true_eq] at ht
 simp only[pY,List.contains_eq_mem,xa1,xbi,or_false,decide_eq_true_eq] at hT
 rcases ht with rfl|rfl|rfl|rfl|rfl|rfl|rfl<;>rcases hT with rfl|rfl|rfl|rfl|rfl|rfl<;>rfl
end
end DL
namespace DL
open L2 PyProof.Rows
section
variable{X:Cx}{E:XK}{K:xFg}{mg:Str->Option Value}{G H:Hp}
variable{x:Str}{p pos:Pos}{e:Expr}{es:List Expr}{fs:DSt->R (List D)}
def CO(K:xFg)(mg:Str->Option Value):List V->Hp->VK->Prop:=fun xs H Q=>∃G d T v b,xs=[v,.ty T]/\Same G H/\aR K mg G d v/\(∃t,wQ d=some t/\pY T=true/\b=sM t T)/\Q (.bl b) H
theorem WE:dL X (.builtin "isinstance") (CO X.K X.mg):=by
 intro pins s σ H xs us Q I r h
 obtain⟨G,d,T,v,b,rfl,e,rp,⟨t,ht,hT,rfl⟩,q⟩:=h
 obtain⟨u,w',rfl,ru,rw'⟩:=rH r
 cases (show w'=Value.type T from rw')
 have fin:∀tk,EP X pins σ Q (.bool (sM t T)) { s with toks:=tk }:=fun tk=>⟨.bl _,H,I.tok tk,rfl,q⟩
 cases d with
 |non=>cases ht;cases rp;cases (show u=Value.none from ru);exact PySem.W.kia_one PySem.W.kitx_none I.kIn True.intro (lU _ _ rfl hT) (fun z=>nomatch z) fin
 |bl y=>cases ht;cases rp;cases (show u=Value.bool y from ru);exact PySem.W.kia_one PySem.W.kitx_bool I.kIn True.intro (lU _ _ rfl hT) (fun z=>nomatch z) fin
 |int i=>cases ht;cases rp;obtain⟨tk,rfl⟩:=(show ∃tk,u=Value.int i tk from ru);exact PySem.W.kia_one PySem.W.kitx_int I.kIn True.intro (lU _ _ rfl hT) (fun z=>nomatch z) fin
 |str y=>cases ht;cases rp;obtain⟨tk,rfl⟩:=(show ∃tk,u=Value.str y tk from ru);exact PySem.W.kia_one PySem.W.kitx_str I.kIn True.intro (lU _ _ rfl hT) (fun z=>nomatch z) fin
 |tup ds=>
  cases ht
  obtain⟨a,vs,rfl,h1,h2⟩:=rp
  cases (show u=Value.ref a from ru)
  obtain⟨_,_,⟨o,h3,h4,_⟩,_⟩:=I.tuple (Same.sqT e h1)
  exact PySem.W.kia_one PySem.W.kitx_tuple I.kIn ⟨o,h3,h4⟩ (lU _ _ rfl hT) (fun z=>nomatch z) fin
 |lst ds=>
  cases ht
  obtain⟨a,vs,rfl,h1,h2⟩:=rp
  cases (show u=Value.ref a from ru)
  obtain⟨_,_,⟨o,n,h3,h4,_⟩,_⟩:=I.list (e.seq h1)
  exact PySem.W.kia_one PySem.W.kitx_list I.kIn ⟨o,h3,h4⟩ (lU _ _ rfl hT) (fun z=>nomatch z) fin
 |dct ks ds=>
  cases ht
  obtain⟨a,vs,rfl,h1,_⟩:=rp
  cases (show u=Value.ref a from ru)
  obtain⟨_,_,_,_,p⟩:=(show cW X.prog X.w H s.heap a (.dK (ks.zip vs)) from (Same.rd e h1).ok I.hok)
  obtain⟨o,es,ep,h3,h4,_⟩:=p
  exact PySem.W.kia_one PySem.W.kitx_dict I.kIn ⟨o,h3,h4.1⟩ (lU _ _ rfl hT) (fun z=>nomatch z) fin
 |_=>cases ht
abbrev WF(K:xFg):List V->Hp->VK->Prop:=fun xs H Q=>∃(a C:Addr) (c:V) (cv:Value) (b:Bool),xs=[.ref a,c]/\H a=some (iY a C none)/\((∃D,c=.ref D/\cv=.ref D)\/∃T,c=.ty T/\cv=.type T)/\lK K C/\PySem.W.kitOne K (.ref C) cv=some b/\Q (.bl b) H
def bE:D->D->R D
 |d,.ty T=>match wQ d with
  |some t=>bif pY T then .ok (.bl (sM t T)) else .bad
  |none=>match d with
   |.exc _ []=>bif T=="ValueError" then .ok (.bl true) else .bad
   |_=>.bad
 |.exc c [],.cls d=>match cH c d with
  |some b=>.ok (.bl b)
  |none=>.bad
 |_,_=>.bad
theorem WG:i6 K mg (fun xs H Q=>CO K mg xs H Q\/WF K xs H Q) (g2 bE):=wO fun G H d d' v v' Q e r r' q=>by
 have exc:∀{c as},d=.exc c as->as=[]->∃a C,v=.ref a/\H a=some (iY a C none)/\iZ K mg c C:=fun {c as} hd ha=>by
  subst hd;subst ha
  obtain⟨a,C,dct,vs,rfl,h2,h3,h4,h5⟩:=r
  cases h5
  rcases h4 with⟨rfl,_⟩|⟨dx,w,_,z,_⟩
  ·exact⟨a,C,rfl,e _ _ h2,h3⟩
  ·cases z
 cases d' with
 |ty T=>
  cases r'
  cases ht:wQ d with
  |some t=>
   cases hT:pY T with
   |false=>simp only[bE,ht,hT,cond_false] at q;exact q.elim
   |true=>simp only[bE,ht,hT,cond_true] at q;exact .inl ⟨G,d,T,v,_,rfl,e,r,⟨t,ht,hT,rfl⟩,aL.now q e rfl⟩
  |none=>
   cases d with
   |exc c as=>
    cases as with
    |nil=>
     cases hT:T=="ValueError" with
     |false=>simp only[bE,ht,hT,cond_false] at q;exact q.elim
     |true=>
      simp only[bE,ht,hT,cond_true] at q
      obtain⟨a,C,rfl,h1,h2⟩:=exc rfl rfl
      have:=eq_of_beq hT
      subst this
      exact .inr ⟨a,C,_,_,true,rfl,h1,.inr ⟨_,rfl,rfl⟩,h2.exc,h2.val,aL.now q e rfl⟩
    |cons b bs=>simp only[bE,ht] at q;exact q.elim
   |_=>simp only[bE,ht] at q;exact q.elim
 |cls c'=>
  cases d with
  |exc c as=>
   cases as with
   |nil=>
    obtain⟨Dd,rfl,hD⟩:=r'
    cases hs:cH c c' with
    |none=>simp only[bE,hs] at q;exact q.elim
    |some b=>
     simp only[bE,hs] at q
     obtain⟨a,C,rfl,h1,h2⟩:=exc rfl rfl
     exact .inr ⟨a,C,_,_,b,rfl,h1,.inl ⟨Dd,rfl,rfl⟩,h2.exc,h2.isi c' Dd b hs hD,aL.now q e rfl⟩
   |cons b bs=>exact(show False from q).elim
  |_=>exact(show False from q).elim
 |_=>cases d<;>first|exact(show False from q).elim|(rename_i as;cases as<;>exact(show False from q).elim)
theorem lV(hm:X.mg "isinstance"=none)(ha:DA X E (e::es) fs)(hg:Gl X "isinstance":=by rfl)(he:starEach (e::es) X.env=(false,eval e X.env)::starEach es X.env:=by rfl)(hpl:(backTo pos (starEach es X.env)).any (·.1)=false:=by rfl):DE X E (.Call (.Name "isinstance" p) (e::es) [] pos) (aK (g2 bE) fs):=
 rP (WE.or T9) WG hm VW ha hg (by decide) (by decide) he hpl
def tO(K:xFg)(mg:Str->Option Value)(E:XK)(f:DSt->R (Option Int)):TO:=fun σ H Q=>∃G σd,bH K mg σd σ G H/\RW (f σd) (fun o=>∀G' H',Step G H G' H'->Q o H') (aX K mg E G H)
def DO(X:Cx)(E:XK)(e:Option Expr)(f:DSt->R (Option Int)):Prop:=PO X e (tO X.K X.mg E f)
def fV:DSt->R (Option Int):=fun _=>.ok none
def asI:D->R (Option Int)
 |.int i=>.ok (some i)
 |_=>.bad
def dS(f:DSt->R D):DSt->R (Option Int):=fun σ=>(f σ).bind asI
theorem PO.mono'{e:Option Expr}{t t':TO}(h:PO X e t)(m:∀σ H Q,t' σ H Q->t σ H Q):PO X e t':=fun pins s σ H Q I q=>h pins s σ H Q I (m σ H Q q)
theorem CP:DO X E none fV:=PO.mono' R0 fun σ H Q ⟨G,σd,ok,q⟩=>(show ∀G' H',Step G H G' H'->Q none H' from q) G H (.refl ok.ext)
theorem WI{f:DSt->R D}(h:DE X E e f):DO X E (some e) (dS f):=PO.mono' (R3 h) fun σ H Q ⟨G,σd,ok,q⟩=>⟨G,σd,ok,q.of_bind.mono (fun d _ z v G' H' s r=>by
 cases d with
 |int i=>cases r;exact⟨i,rfl,(show ∀G' H',Step G H G' H'->Q (some i) H' from z) G' H' s⟩
 |_=>exact(show False from z).elim) fun _ z=>z⟩
def i9{α:Type}(xs:List α)(lo hi:Option Int):List α:=(xs.drop (HT.sIx xs.length 0 lo)).take (HT.sIx xs.length xs.length hi-HT.sIx xs.length 0 lo)
def CQ{α:Type}(xs:List α)(lo hi:Option Int):Bool:=decide (HT.sIx xs.length 0 lo=0/\HT.sIx xs.length xs.length hi=xs.length)
def wR:D->Option Int->Option Int->R D
 |.lst xs,lo,hi=>.ok (.lst (i9 xs lo hi))
 |.tup xs,lo,hi=>bif CQ xs lo hi then .bad else .ok (.tup (i9 xs lo hi))
 |_,_,_=>.bad
def eU(fe:DSt->R D)(fl fh:DSt->R (Option Int)):DSt->R D:=fun σ=>(fe σ).bind fun d=>(fl σ).bind fun lo=>(fh σ).bind fun hi=>wR d lo hi
theorem Reps.cut{ds:List D}{vs:List V}(h:Reps K mg G ds vs)(lo hi:Option Int):Reps K mg G (i9 ds lo hi) (iW vs lo hi):=by
 unfold i9 iW
 rw[h.length]
 exact(h.drop _).take _
theorem CT{fe:DSt->R D}{lo hi:Option Expr}{fl fh:DSt->R (Option Int)}{p2:Pos}(he:DE X E e fe)(hl:DO X E lo fl)(hh:DO X E hi fh):DE X E (.Subscript e (.Slice lo hi none p2) pos) (eU fe fl fh):=by
 refine PE.mono' (R5 (SE.or R7) he hl hh) fun σ H Q ⟨G,σd,ok,q⟩=>?_
 refine gM (P:=aL X.K X.mg Q) ok q fun d v G1 H1 s1 ok1 r1 q1=>?_
 refine⟨G1,σd,ok1,q1.of_bind.mono (fun l _ q2 G2 H2 s2=>?_) fun _ z=>z⟩
 refine⟨G2,σd,ok1.step s2,q2.of_bind.mono (fun u _ q3 G3 H3 s3=>?_) fun _ z=>z.step s2⟩
 have s:=(s1.trans s2).trans s3
 have r3:=r1.mono (s2.g.trans s3.g)
 cases d with
 |lst xs=>
  obtain⟨a,vs,rfl,h1,h2⟩:=r3
  refine .inl ⟨a,vs,rfl,s3.e.seq h1,fun pp hp=>?_⟩
  have sp:=Step.pub (o:=.lst (iW vs l u)) s3.e hp
  exact(show aL X.K X.mg Q G H (.lst (i9 xs l u)) from q3) _ _ _ (s.trans sp) ⟨pp,_,rfl,aY.of aU,(h2.cut l u).mono sp.g⟩
 |tup xs=>
  obtain⟨a,vs,rfl,h1,h2⟩:=r3
  cases hw:CQ xs l u with
  |true=>simp only[wR,hw,cond_true] at q3;exact q3.elim
  |false=>
   simp only[wR,hw,cond_false] at q3
   refine .inr ⟨a,vs,rfl,Same.sqT s3.e h1,by rw[<- h2.length];exact of_decide_eq_false hw,fun pp hp=>?_⟩
   have sp:=Step.pub (o:=.tup (iW vs l u)) s3.e hp
   exact(show aL X.K X.mg Q G H (.tup (i9 xs l u)) from q3) _ _ _ (s.trans sp) ⟨pp,_,rfl,bG.of aU,(h2.cut l u).mono sp.g⟩
 |_=>exact(show False from q3).elim
end
def CU(c:Str)(fs:DSt->R (List D)):DSt->R aE:=fun σ=>(fs σ).bind fun ds=>bif i0 ds.length then .err (.exc c []) else .bad
section
variable{P:Program}{w:World}{K:xFg}{mg:Str->Option Value}{base:Heap}{N:List Str}{qual:Str}{scope:Scope}{f:Addr}{cdv:Value}{A:Around}{outer:List Env}{s0:Shared}{H0:Hp}{E:XK}{own own' ol:List Nat}
theorem WJ{x:Str}{C:Addr}{e0:Expr}{aN:List Expr}{np cpos pos:Pos}{fs:DSt->R (List D)}(q:PySem.W.excIn K C [.type "ValueError",.type "Exception",.type "BaseException",.type "object"] "ValueError.__new__"=true)(hx:iZ K mg x C)
  (ha:DA (cZ (bM P w) P w K mg base N qual scope f cdv A outer s0 H0 E) E (e0::aN) fs) (hg:Gl (cZ (bM P w) P w K mg base N qual scope f cdv A outer s0 H0 E) x:=by rfl)
  (hdb:(x==("__debug__":Str))=false:=by decide)
  (he:starEach (e0::aN) (envOfC qual scope s0.heap.objs.size f cdv)=(false,eval e0 (envOfC qual scope s0.heap.objs.size f cdv))::starEach aN (envOfC qual scope s0.heap.objs.size f cdv):=by rfl)
  (hpl:(backTo cpos (starEach aN (envOfC qual scope s0.heap.objs.size f cdv))).any (·.1)=false:=by rfl) :
  DS (cZ (bM P w) P w K mg base N qual scope f cdv A outer s0 H0 E) E own own' ol (.Raise (some (.Call (.Name x np) (e0::aN) [] cpos)) none pos) (CU x fs):=fun G0=>
 PS.mono' (T1 q hg hx.here ha hdb he hpl) fun Dn σ H ⟨G,σd,ok,s1,z⟩=>by
 have sp:=ok.pubStep s1
 refine⟨_,σd,ok.pub.1,z.of_bind.mono (fun ds _ z vs G' H' s r=>?_) fun _ z=>z.step sp⟩
 cases hf:i0 ds.length with
 |false=>rw[hf] at z;exact(show False from z).elim
 |true=>
  rw[hf] at z
  refine⟨by rw[<- r.length];exact vX hf,?_⟩
  exact(show aX K mg E G0 H0 (.exc x []) from z) G' H' C none (sp.trans s) ⟨x,[],[],rfl,hx,.inl ⟨rfl,rfl⟩,Reps.nil⟩
end
def wS(c:Str):DSt->R aE:=fun _=>.err (.exc c [])
theorem WK{P:Program}{w:World}{K:xFg}{mg:Str->Option Value}{base:Heap}{N:List Str}{qual:Str}{scope:Scope}{f:Addr}{cdv:Value}{A:Around}{outer:List Env}{s0:Shared}{H0:Hp}{E:XK}{own own' ol:List Nat}{x t:Str}{C:Addr}{np cpos pos tp:Pos}{j}(q:PySem.W.excIn K C [.type "ValueError",.type "Exception",.type "BaseException",.type "object"] "ValueError.__new__"=true)(hx:iZ K mg x C)
  (hg:Gl (cZ (bM P w) P w K mg base N qual scope f cdv A outer s0 H0 E) x:=by rfl) (hdb:(x==("__debug__":Str))=false:=by decide) :
  DS (cZ (bM P w) P w K mg base N qual scope f cdv A outer s0 H0 E) E own own' ol (.Raise (some (.Call (.Name x np) [.Constant (.str t) j tp] [] cpos)) none pos) (wS x):=
 WJ (fs:=aB (eC (.str t)) aF) q hx (dQ rN gN) hg hdb
section
variable(K:xFg)(mg:Str->Option Value)
def tSX(G0 H0:Hp)(f:DSt->R aE):kK:=fun Dn E σ H=>∃G σd,bH K mg σd σ G H/\Step G0 H0 G H/\RW (f σd) (bJ K mg G0 H0 [] [] Dn G) (aX K mg E G H)
end
def DSX(X:Cx)(st:Stmt)(f:DSt->R aE):Prop:=∀G0,lL X (bM X.prog X.w) st (tSX X.K X.mg G0 X.H₀ f)
def CY(X:Cx)(st:List Stmt)(f:DSt->R aE):Prop:=∀G0,vM X (bM X.prog X.w) st (tSX X.K X.mg G0 X.H₀ f)
theorem lL.mono'{X:Cx}{CX:dC}{st:Stmt}{t t':kK}(h:lL X CX st t)(m:∀D E σ H,t' D E σ H->t D E σ H):lL X CX st t':=fun pins s σ H D E I q=>h pins s σ H D E I (m D E σ H q)
section
variable{X:Cx}{ol:List Nat}{k:Nat}{x y:Str}{m:List D->R D}{p pos cpos npos:Pos}{e:Expr}{es:List Expr}{fs:DSt->R (List D)}{f g:DSt->R aE}
theorem WL{st:Stmt}(h:DSX X st f):CY X [st] f:=fun G0=>T6 (h G0)
def sN(m:List D->R D)(fs:DSt->R (List D)):DSt->R D:=fun σ=>(fs σ).noerr.bind m
theorem WM{G0 G H:Hp}{σd:DSt}{σ:L2.St}{Q:VK}{E:XK}{S:D->R aE}{PO:aE->Prop}(ok:bH X.K X.mg σd σ G H)(q:RW ((sN m fs σd).bind S) PO (aX X.K X.mg E G H))
  (h:∀d v G' H',Step G H G' H'->aR X.K X.mg G' d v->RW (S d) PO (aX X.K X.mg E G H)->Q v H'):BL (lO X.K X.mg m) [] (vP X.K X.mg E0 fs) σ H Q E:=by
 obtain⟨ds,e1,q⟩:=nH q.of_bind.of_bind
 refine⟨G,σd,ok,RW.ok_of e1 fun vs G' H' s r=>?_⟩
 show lO X.K X.mg m (vs++[]) H' _ E
 rw[xbn]
 exact⟨G',ds,s.e,r,q.mono (fun d _ z v G2 H2 s2 r2=>h d v G2 H2 (s.trans s2) r2 z) fun _ z=>z.step s⟩
theorem WN(hr:bZ k X.A)(F:bA X.prog X.w X.K X.mg X.base k x m)(ha:DA X.nox E0 (e::es) fs)(hg:Gl X x:=by rfl)(hdb:(x==("__debug__":Str))=false:=by decide)
  (he:starEach (e::es) X.env=(false,eval e X.env)::starEach es X.env:=by rfl) (hpl:(backTo cpos (starEach es X.env)).any (·.1)=false:=by rfl) (hs:swapsWith (.Call (.Name x p) (e::es) [] cpos) none pos.line X.env=pure false:=by rfl) :
  DSX X (.Expr (.Call (.Name x p) (e::es) [] cpos) pos) (wF (sN m fs)):=fun G0=>by
 obtain⟨fa,fd,ps,h1,h2,h3,h4⟩:=F.ex
 refine lL.mono' (T5 (T2 (dvs:=[]) (ds:=[]) h1 hr hg h2 h3 h4 .nil ha hdb he hpl) hs) fun Dn E σ H ⟨G,σd,ok,s0,q⟩=>?_
 exact WM (G0:=G0) ok q fun d v G' H' s r z=>(show bJ X.K X.mg G0 X.H₀ [] [] Dn G (.nx σd) from z) σ G' H' (.zero (ok.step s)) (s0.trans s) s.g
def sO(i:Nat)(c:Str)(body hnd:DSt->R aE):DSt->R aE:=fun σ=>match body σ with
 |.ok o=>.ok o
 |.err (.exc cc as)=>bif cH cc c==some true then (hnd (σ.set i (some (.exc cc as)))).noerr.bind fun o=>match o with
   |.nx σ'=>.ok (.nx (σ'.set i none))
   |_=>.bad
  else .bad
 |_=>.bad
theorem Ok.unset{K:xFg}{mg:Str->Option Value}{H0 G H:Hp}{σd:DSt}{σ:L2.St}{i:Nat}{own:List Nat}(o:Ok K mg H0 own σd σ G H)(hi:i∉own):Ok K mg H0 own (σd.set i none) (σ.set i none) G H:=by
 have back:∀{j:Nat} {d:D},(σd.set i none)[j]? = some (some d)->j≠i/\σd[j]? = some (some d):=fun {j d} q=>by
  by_cases hj:j=i
  ·subst hj
   have hl:j<σd.length:=by have:=(xaf.mp q).1;simpa using this
   rw[xat hl] at q;cases q
  ·rw[xae (xay hj)] at q;exact⟨hj,q⟩
 refine⟨o.ext,by simp[o.len],fun j d hj q=>?_,fun j d hj q=>?_,fun j l a d1 d2 h1 h2 h3 h4 h5 h6=>?_⟩
 ·obtain⟨hj',q'⟩:=back q
  rw[xae (xay hj')];exact o.val j d hj q'
 ·obtain⟨hj',q'⟩:=back q
  rw[xae (xay hj')];exact o.mine j d hj q'
 ·obtain⟨hj',q3⟩:=back h3
  obtain⟨hl',q4⟩:=back h4
  rw[xae (xay hj')] at h5
  rw[xae (xay hl')] at h6
  exact o.dj j l a d1 d2 h1 h2 q3 q4 h5 h6
theorem WO(i:Nat){E:XK}{body:List Stmt}{c n:Str}{np hpos:Pos}{b0:Stmt}{suite:List Stmt}{Dc:Addr}(hst:X.stack=X.env::X.outer)(hf:X.env.frame=some X.env.locals)(hN:X.N.Nodup)
  (hm:X.mg c=some (.ref Dc)) (hb:CY X body f) (hh:∀x,dR (hdl X x) E0 [] [] [] (b0::suite) g) (hi:X.N[i]? = some n:=by rfl) (hn:X.env.scope.names.lookup n=some .local:=by rfl) (hg:Gl X c:=by rfl)
  (hdb:(c==("__debug__":Str))=false:=by decide):DS X E [] [] [] (.Try body [.ExceptHandler (some (.Name c np)) (some n) (b0::suite) hpos] [] [] pos) (sO i c f g):=fun G0=>
 PS.mono' (T8 (th:=tS X.K X.mg E0 G0 X.H₀ [] [] [] g) hst hf hN hi hn hg hm (hb G0) (fun x=>hh x G0) hdb) fun Dn σ H ⟨G,σd,ok,s0,q⟩=>by
 have ok0:bH X.K X.mg σd σ G H:=by have:=ok.masked;rw[rT] at this;exact this
 unfold sO at q
 cases hbd:f σd with
 |bad=>rw[hbd] at q;exact(show False from q).elim
 |ok o=>
  rw[hbd] at q
  exact⟨fun _ _ _=>False,⟨G,σd,ok0,s0,RW.ok_of hbd q⟩,fun C dct H' x z=>z.elim⟩
 |err ex=>
  rw[hbd] at q
  cases ex with
  |exc cc as=>
   cases hsub:(cH cc c==some true) with
   |false=>simp only[hsub,cond_false] at q;exact q.elim
   |true=>
    simp only[hsub,cond_true] at q
    obtain⟨o,ho1,q⟩:=nH q.of_bind
    refine⟨fun cv dct H'=>∃C G',cv=.ref C/\Step G H G' H'/\BM X.K X.mg G' (.exc cc as) C dct,⟨G,σd,ok0,s0,?_⟩,?_⟩
    ·rw[hbd]
     exact fun G' H' C dct s r=>⟨C,G',rfl,s,r⟩
    ·rintro C dct H' x ⟨C',G',e1,s',hr⟩ nx
     cases e1
     obtain⟨c2,as2,vs,e2,hxc,hd,hrs⟩:=hr
     cases e2
     refine⟨hxc.ctc c Dc (eq_of_beq hsub) hm,?_⟩
     have sp:=Step.pub (o:=iY x C dct) s'.e nx
     have st:=s'.trans sp
     refine⟨_,σd.set i (some (.exc cc as)),.zero ((ok0.step st).set ⟨x,C,dct,vs,rfl,aU,hxc,hd.mono sp.g,hrs.mono sp.g⟩),s0.trans st,RW.ok_of ho1 ?_⟩
     cases o with
     |nx σ1=>
      have q':bJ X.K X.mg G0 X.H₀ [] [] Dn G (.nx (σ1.set i none)):=q
      exact fun σ2 G2 H2 ok2 s2 e2=>q' _ G2 H2 (ok2.unset (by simp)) s2 (st.g.trans e2)
     |_=>exact(show False from q).elim
  |_=>exact(show False from q).elim
end
end DL
namespace DL
open L2 PyProof.Rows
theorem eV{n nN:Nat}{b:DSt->R aE}{ds:List D}{σ:DSt}(hl:ds.length=n)(hs:fG nN ds=σ):cG n nN b ds=fin (b σ):=by
 subst hl;subst hs;unfold cG;rw[beq_self_eq_true];rfl
theorem XC.nox{X:Cx}{E:XK}{k:Nat}(C:XC X E k):XC X.nox E0 k:=⟨C.calm,C.room,BJ⟩
theorem WP{X:Cx}{E:XK}{x:Str}{d:D}{pos:Pos}(h:∃u v,X.mg x=some u/\aM v u/\∀G,aR X.K X.mg G d v)(hg:Gl X x:=by rfl)(hd:(x==("__debug__":Str))=false:=by decide):DE X E (.Name x pos) (eC d):=by
 obtain⟨u,v,h1,h2,h3⟩:=h
 exact BP h1 h2 h3 hg hd
section
variable{K:xFg}{mg:Str->Option Value}
def lW(c d:Str):Bool:=c==d||d=="ChalkError"
def kQ(K:xFg)(mg:Str->Option Value)(C:Addr)(d:Str)(b:Bool):Prop:=
 (∀D,mg d=some (.ref D)->PySem.W.kitOne K (.ref C) (.ref D)=some b)/\(b=true->∀D,mg d=some (.ref D)->PySem.W.exmOne K (.ref C) (.ref D)=some true)
theorem iZ.mk'{c:Str}{C:Addr}(here:mg c=some (.ref C))(exc:lK K C)(val:PySem.W.kitOne K (.ref C) (.type "ValueError")=some true)(rows:∀d∈kM,kQ K mg C d (lW c d)):iZ K mg c C:=by
 have sub:∀d b,cH c d=some b->d∈kM/\b=lW c d:=fun d b h=>by
  unfold cH at h
  cases hc:(kM.contains c&&kM.contains d) with
  |false=>rw[hc] at h;cases h
  |true=>
   rw[hc] at h
   have h':some (c==d||d=="ChalkError")=some b:=h
   rw[xap] at hc
   exact⟨by simpa using hc.2,by cases h';rfl⟩
 refine⟨here,exc,fun d Dd b h hd=>?_,val,fun d Dd h hd=>?_⟩
 ·obtain⟨h1,rfl⟩:=sub d b h
  exact(rows d h1).1 Dd hd
 ·obtain⟨h1,h2⟩:=sub d true h
  exact(rows d h1).2 h2.symm Dd hd
theorem kQ.of{C D0:Addr}{d:Str}{b:Bool}(h:mg d=some (.ref D0))(t:PySem.W.kitOne K (.ref C) (.ref D0)=some b)(u:b=true->PySem.W.exmOne K (.ref C) (.ref D0)=some true):kQ K mg C d b:=
 ⟨fun D hD=>by rw[h] at hD;cases hD;exact t,fun hb D hD=>by rw[h] at hD;cases hD;exact u hb⟩
theorem kQ.no{C:Addr}{d:Str}{b:Bool}(h:mg d=none):kQ K mg C d b:=⟨fun D hD=>(by rw[h] at hD;cases hD),fun _ D hD=>(by rw[h] at hD;cases hD)⟩
end
section
variable{P:Program}{w:World}{K:xFg}{mg:Str->Option Value}{base:Heap}
theorem WQ{x qual:Str}{st:Stmt}{f:Addr}{fd:FuncData}{N ps:List Str}{k n nN:Nat}{own':List Nat}{body:DSt->R aE}(F:bT K x qual st f fd)(S:cD N ps (bB st))
  (hn:ps.length=n) (hN:N.length=nN)
  (hb:∀(X:Cx) (E:XK),(∃cdv A outer s H,X=cZ (bM P w) P w K mg base N qual (bB st) f cdv A outer s H E)->XC X E k->XL X->dR X E [] own' [] (dZ st) body):cF P w K mg base (bM P w) (k+1) f fd ps (lO K mg (cG n nN body)):=by
 refine F.okX S (fun vs H Q E h=>?_) (fun cdv A outer s H vs Q E hr hsp=>?_)
 ·obtain⟨G,ds,e,r,q⟩:=h
  by_cases hd:ds.length=n
  ·rw[<- r.length,hd,hn]
  ·have:(ds.length==n)=false:=by simpa using hd
   unfold cG at q
   rw[this] at q
   exact(show False from q).elim
 ·obtain⟨G,ds,e,r,q⟩:=hsp
  have hd:ds.length=n:=by
   by_cases hd:ds.length=n
   ·exact hd
   ·have:(ds.length==n)=false:=by simpa using hd
    unfold cG at q
    rw[this] at q
    exact(show False from q).elim
  unfold cG at q
  rw[show (ds.length==n)=true by simpa using hd] at q
  have q':RW (fin (body (fG nN ds))) (aL K mg Q G H) (aX K mg E G H):=q
  refine⟨_,hb _ E ⟨cdv,A,outer,s,H,rfl⟩ ⟨rfl,hr,pG⟩ ⟨PassesOwn.leaving⟩ G,G,fG nN ds,?_,.refl e,?_⟩
  ·have:=Reps.startOk e (N.length-vs.length) r
   unfold L2.start fG
   rw[<- hN,r.length]
   exact .zero this
  ·cases hbd:body (fG nN ds) with
   |bad=>rw[hbd] at q';exact q'
   |err e=>rw[hbd] at q';exact q'
   |ok o=>
    rw[hbd] at q'
    cases o with
    |rt d=>exact fun v G' H' s r=>(show aL K mg Q G H d from q') v G' H' s r
    |rf es=>
     intro a vs G' H' s n e g r
     have q2:aL K mg Q G H (.lst es):=q'
     have sg:Same G' (aG G' a (.lst vs)):=same_upd g
     refine q2 (.ref a) (aG G' a (.lst vs)) H' ⟨s.g.trans sg,s.h,fun b u p=>?_,fun b u p1 p2=>?_⟩ ⟨a,vs,rfl,aY.of aU,r.mono sg⟩
     ·by_cases hb:b=a
      ·subst hb;rw[aU] at p;cases p;exact e
      ·rw[aH hb] at p;exact s.e b u p
     ·have hb:b≠a:=bC p1 n
      rw[aH hb];exact s.c b u p1 p2
    |nx σ=>exact fun σ' G' H' ok s _=>(show aL K mg Q G H .non from q') .non G' H' s rfl
    |bk σ=>exact(show False from q').elim
    |ct σ=>exact(show False from q').elim
def sP(K:xFg):Sp:=fun vs H Q _=>∃(a:Addr) (ns:List Int),vs=[.ref a]/\aY K H a (ns.map V.int)/\ns.length<=63/\∀H',Q (.bl true) H'
theorem WR{k:Nat}{f:Addr}{fd:FuncData}{m:List D->R D}(F:cF P w K mg base (bM P w) k f fd ["_law_script"] (lO K mg m))(hm:∀ns:List Int,ns.length<=63->m [.lst (ns.map .int)]=.ok (.bl true)) :
  cF P w K mg base (bM P w) k f fd ["_law_script"] (sP K):=F.imp fun vs H Q E h=>by
 obtain⟨a,ns,rfl,hS,hl,q⟩:=h
 refine⟨H,[.lst (ns.map .int)],Same.refl _,Reps.cons ⟨a,_,rfl,hS,Reps.ints ns⟩ Reps.nil,RW.ok_of (hm ns hl) fun v G' H' s r=>?_⟩
 cases r;exact q H'
end
theorem walkD{l:PySem.W.OpenLaw}{q:Program}{loose:List Str}{XP:(Str->Option Value)->Heap->Prop}{YP:World->Heap->Prop}{d:DefRec}{K:Params->xFg}(k:Nat)(hr:bZ k callerA)(hn:l.most=some 63)(hdf:d.params.defaults=[])
  (hY:∀(w:World) (h:Heap),YP w h->(K w.params).In h)
  (F : ∀ (w : World) (mg : Str -> Option Value) (fa : Addr) (h : Heap), (K w.params).In h -> h.Ns mainGlobals mg -> mg d.name = some (.ref fa) ->
   ∃fd:FuncData,(∀(s:Shared) (u:Value),BindsTo s fd ⟨[u],[]⟩ [("_law_script",u)])/\∀base:Heap,(K w.params).In base->base.Ns mainGlobals mg->cF l.prog w (K w.params) mg base (bM l.prog w) k fa fd ["_law_script"] (sP (K w.params))) :
  PySem.W.WalkO q loose XP YP l.row.toRowW d [] (fun f vs=>PySem.call f vs):=
 L2.walk_of (n:=63) (k:=k) (x:="_law_script") (CX:=fun w=>bM l.prog w) (sp:=fun w=>sP (K w.params)) hn (by decide) hdf hr hY F (fun _ _ a ns hl _ hS=>⟨a,ns,rfl,hS,hl,fun _=>rfl⟩) fun w H s e s' z=>by
  obtain⟨_,_,_,_,_,_,_,_,_,_,_,_,_,z⟩:=z
  exact z.elim
end DL
namespace DL
open L2
def j0(r:R aE)(g:DSt->R aE):R aE:=r.bind fun o=>match o with
 |.nx σ'=>g σ'
 |o=>.ok o
theorem c8(f g:DSt->R aE)(σ:DSt):aV f g σ=j0 (f σ) g:=rfl
theorem eW(σ:DSt)(g:DSt->R aE):j0 (.ok (.nx σ)) g=g σ:=rfl
theorem CZ(d:D)(g:DSt->R aE):j0 (.ok (.rt d)) g=.ok (.rt d):=rfl
theorem C0(σ:DSt)(g:DSt->R aE):j0 (.ok (.bk σ)) g=.ok (.bk σ):=rfl
theorem C1(σ:DSt)(g:DSt->R aE):j0 (.ok (.ct σ)) g=.ok (.ct σ):=rfl
theorem C2(e:D)(g:DSt->R aE):j0 (.err e) g=.err e:=rfl
theorem nO(σ:DSt):eA σ=.ok (.nx σ):=rfl
theorem C3(d:D)(σ:DSt):aA 0 (some d::σ)=.ok d:=rfl
theorem C4(n:Nat)(x:Option D)(σ:DSt):aA (n+1) (x::σ)=aA n σ:=rfl
theorem C5(d:D)(σ:DSt):eC d σ=.ok d:=rfl
def lX(g:D->D->R D)(a b:R D):R D:=a.bind fun x=>b.bind fun y=>g x y
theorem sQ(g:D->D->R D)(fa fb:DSt->R D)(σ:DSt):aC g fa fb σ=lX g (fa σ) (fb σ):=rfl
theorem nQ(g:D->D->R D)(x y:D):lX g (.ok x) (.ok y)=g x y:=rfl
def unK(g:D->R D)(a:R D):R D:=a.bind g
theorem C7(g:D->R D)(fa:DSt->R D)(σ:DSt):eUn g fa σ=unK g (fa σ):=rfl
theorem C8(g:D->R D)(x:D):unK g (.ok x)=g x:=rfl
def wT(m:List D->R D)(a:R (List D)):R D:=a.bind m
theorem C9(m:List D->R D)(fs:DSt->R (List D))(σ:DSt):bI m fs σ=wT m (fs σ):=rfl
theorem DB(m:List D->R D)(ds:List D):wT m (.ok ds)=m ds:=rfl
theorem DC(m:List D->R D)(e:D):wT m (.err e)=.err e:=rfl
def DD(m:List D->R D)(a:R (List D)):R D:=a.noerr.bind m
theorem DH(m:List D->R D)(fs:DSt->R (List D))(σ:DSt):sN m fs σ=DD m (fs σ):=rfl
theorem DJ(m:List D->R D)(ds:List D):DD m (.ok ds)=m ds:=rfl
def DK(g:List D->R D)(a:R (List D)):R D:=a.bind fun ds=>(g ds).noerr
theorem wU(g:List D->R D)(fs:DSt->R (List D))(σ:DSt):aK g fs σ=DK g (fs σ):=rfl
theorem DM(g:List D->R D)(ds:List D):DK g (.ok ds)=(g ds).noerr:=rfl
def DN(g:List D->R (List D))(a:R (List D)):R (List D):=a.bind fun ds=>(g ds).noerr
theorem DP(g:List D->R (List D))(fs:DSt->R (List D))(σ:DSt):WD g fs σ=DN g (fs σ):=rfl
theorem DQ(g:List D->R (List D))(ds:List D):DN g (.ok ds)=(g ds).noerr:=rfl
theorem DR{α:Type}(a:α):(R.ok a).noerr=.ok a:=rfl
theorem DU(σ:DSt):aF σ=.ok []:=rfl
def pZ(a:R D)(b:R (List D)):R (List D):=a.bind fun x=>b.bind fun xs=>.ok (x::xs)
theorem wV(fa:DSt->R D)(fs:DSt->R (List D))(σ:DSt):aB fa fs σ=pZ (fa σ) (fs σ):=rfl
theorem DV(x:D)(xs:List D):pZ (.ok x) (.ok xs)=.ok (x::xs):=rfl
theorem DX(e:D)(b:R (List D)):pZ (.err e) b=.err e:=rfl
def j1(a:R (List D)):R D:=a.bind fun ds=>bif i0 ds.length then .ok (.tup ds) else .bad
theorem DY(fs:DSt->R (List D))(σ:DSt):kN fs σ=j1 (fs σ):=rfl
theorem DZ:j1 (.ok [])=.ok (.tup []):=rfl
theorem D1(a:D):j1 (.ok [a])=.ok (.tup [a]):=rfl
theorem D2(a b:D):j1 (.ok [a,b])=.ok (.tup [a,b]):=rfl
theorem D3(a b c:D):j1 (.ok [a,b,c])=.ok (.tup [a,b,c]):=rfl
theorem D4(a b c d:D):j1 (.ok [a,b,c,d])=.ok (.tup [a,b,c,d]):=rfl
theorem D5(a b c d e:D):j1 (.ok [a,b,c,d,e])=.ok (.tup [a,b,c,d,e]):=rfl
theorem D6(a b c d e f:D):j1 (.ok [a,b,c,d,e,f])=.ok (.tup [a,b,c,d,e,f]):=rfl
theorem D7(a b c d e f g h i:D):j1 (.ok [a,b,c,d,e,f,g,h,i])=.ok (.tup [a,b,c,d,e,f,g,h,i]):=rfl
def j2(a:R (List D)):R (List D):=a.bind fun ds=>bif i0 ds.length then .ok ds else .bad
theorem D8(fs:DSt->R (List D))(σ:DSt):cS fs σ=j2 (fs σ):=rfl
theorem D9:j2 (.ok [])=.ok []:=rfl
theorem EA(a:D):j2 (.ok [a])=.ok [a]:=rfl
theorem EB(a b:D):j2 (.ok [a,b])=.ok [a,b]:=rfl
theorem EC(a b c:D):j2 (.ok [a,b,c])=.ok [a,b,c]:=rfl
theorem ED(a b c d:D):j2 (.ok [a,b,c,d])=.ok [a,b,c,d]:=rfl
theorem EF(a b c d e:D):j2 (.ok [a,b,c,d,e])=.ok [a,b,c,d,e]:=rfl
theorem EG(a b c d e f:D):j2 (.ok [a,b,c,d,e,f])=.ok [a,b,c,d,e,f]:=rfl
def EH(a:R (List D)):R D:=a.bind fun ds=>.ok (.lst ds)
theorem nR(fl:DSt->R (List D))(σ:DSt):cM fl σ=EH (fl σ):=rfl
theorem EI(ds:List D):EH (.ok ds)=.ok (.lst ds):=rfl
def lY(a:R D):R Bool:=a.bind iE
theorem wW(f:DSt->R D)(σ:DSt):aS f σ=lY (f σ):=rfl
theorem EJ(b:Bool):lY (.ok (.bl b))=.ok b:=rfl
def sR(a:R Bool)(fb:DSt->R Bool)(σ:DSt):R Bool:=a.bind fun k=>bif k then fb σ else .ok false
theorem EK(fa fb:DSt->R Bool)(σ:DSt):rO fa fb σ=sR (fa σ) fb σ:=rfl
theorem EL(fb:DSt->R Bool)(σ:DSt):sR (.ok true) fb σ=fb σ:=rfl
theorem EM(fb:DSt->R Bool)(σ:DSt):sR (.ok false) fb σ=.ok false:=rfl
def wX(a:R Bool)(fb:DSt->R Bool)(σ:DSt):R Bool:=a.bind fun k=>bif k then .ok true else fb σ
theorem nU(fa fb:DSt->R Bool)(σ:DSt):fD fa fb σ=wX (fa σ) fb σ:=rfl
theorem EN(fb:DSt->R Bool)(σ:DSt):wX (.ok true) fb σ=.ok true:=rfl
theorem nV(fb:DSt->R Bool)(σ:DSt):wX (.ok false) fb σ=fb σ:=rfl
def nW(a:R Bool):R Bool:=a.bind fun k=>.ok (!k)
theorem EO(fa:DSt->R Bool)(σ:DSt):dB fa σ=nW (fa σ):=rfl
theorem EQ(b:Bool):nW (.ok b)=.ok (!b):=rfl
def wY(a:R D)(fb:DSt->R D)(σ:DSt):R D:=a.bind fun x=>(iE x).bind fun k=>bif k then fb σ else .ok (.bl false)
theorem ER(fa fb:DSt->R D)(σ:DSt):lN fa fb σ=wY (fa σ) fb σ:=rfl
theorem ES(fb:DSt->R D)(σ:DSt):wY (.ok (.bl true)) fb σ=fb σ:=rfl
theorem ET(fb:DSt->R D)(σ:DSt):wY (.ok (.bl false)) fb σ=.ok (.bl false):=rfl
def wZ(a:R D)(fb:DSt->R D)(σ:DSt):R D:=a.bind fun x=>(iE x).bind fun k=>bif k then .ok (.bl true) else fb σ
theorem EU(fa fb:DSt->R D)(σ:DSt):vOr fa fb σ=wZ (fa σ) fb σ:=rfl
theorem EV(fb:DSt->R D)(σ:DSt):wZ (.ok (.bl true)) fb σ=.ok (.bl true):=rfl
theorem EW(fb:DSt->R D)(σ:DSt):wZ (.ok (.bl false)) fb σ=fb σ:=rfl
def EY(a:R D):R D:=a.bind fun x=>(iE x).bind fun k=>.ok (.bl !k)
theorem EZ(fa:DSt->R D)(σ:DSt):vV fa σ=EY (fa σ):=rfl
theorem E1(b:Bool):EY (.ok (.bl b))=.ok (.bl !b):=rfl
def w9(c:R Bool)(fa fb:DSt->R D)(σ:DSt):R D:=c.bind fun k=>bif k then fa σ else fb σ
theorem E2(c:DSt->R Bool)(fa fb:DSt->R D)(σ:DSt):eIf c fa fb σ=w9 (c σ) fa fb σ:=rfl
theorem E3(fa fb:DSt->R D)(σ:DSt):w9 (.ok true) fa fb σ=fa σ:=rfl
theorem E4(fa fb:DSt->R D)(σ:DSt):w9 (.ok false) fa fb σ=fb σ:=rfl
def sT(c:R Bool)(f g:DSt->R aE)(σ:DSt):R aE:=c.bind fun k=>bif k then f σ else g σ
theorem kR(c:DSt->R Bool)(f g:DSt->R aE)(σ:DSt):dG c f g σ=sT (c σ) f g σ:=rfl
theorem E5(f g:DSt->R aE)(σ:DSt):sT (.ok true) f g σ=f σ:=rfl
theorem nX(f g:DSt->R aE)(σ:DSt):sT (.ok false) f g σ=g σ:=rfl
def E6(g g':D->D->R D)(a b c:R D):R D:=a.bind fun x=>b.bind fun y=>(g x y).bind fun z=>(iE z).bind fun k=>bif k then c.bind fun w=>g' y w else .ok (.bl false)
theorem E7(g g':D->D->R D)(fa fb fc:DSt->R D)(σ:DSt):jV g g' fa fb fc σ=E6 g g' (fa σ) (fb σ) (fc σ):=rfl
theorem E8(p q:Int->Int->Bool)(i j k:Int):E6 (gB p) (gB q) (.ok (.int i)) (.ok (.int j)) (.ok (.int k))=.ok (.bl (p i j&&q j k)):=by
 show (bif p i j then R.ok (D.bl (q j k)) else R.ok (D.bl false))=_
 cases p i j<;>rfl
def E9(i:Nat)(l:R (List D))(a:R D)(σ:DSt):R aE:=l.bind fun ds=>a.bind fun d=>bif most ds.length then .ok (.nx (σ.set i (some (.lst (ds++[d]))))) else .bad
theorem sU(own:List Nat)(i:Nat)(fe:DSt->R D)(σ:DSt):jY own i fe σ=E9 i (bL σ i) (fe (mask own σ)) σ:=rfl
theorem FB{n:Nat}(h:n<=1000000):most n=true:=xah (xbf h (by decide))
theorem xA(i:Nat)(ds:List D)(d:D)(σ:DSt)(h:ds.length<=1000000):E9 i (.ok ds) (.ok d) σ=.ok (.nx (σ.set i (some (.lst (ds++[d]))))):=by
 show (bif most ds.length then _ else _)=_
 rw[FB h];rfl
def FC(i:Nat)(l:R (List D))(a:R D)(σ:DSt):R aE:=l.bind fun ds=>a.bind fun d=>bif most ds.length&&imm d then .ok (.nx (σ.set i (some (.lst (ds++[d]))))) else .bad
theorem FE(i:Nat)(fe:DSt->R D)(σ:DSt):U5 i fe σ=FC i (bL σ i) (fe σ) σ:=rfl
theorem WS(i:Nat)(ds:List D)(d:D)(σ:DSt)(h:ds.length<=1000000)(h':imm d=true):FC i (.ok ds) (.ok d) σ=.ok (.nx (σ.set i (some (.lst (ds++[d]))))):=by
 show (bif most ds.length&&imm d then _ else _)=_
 rw[FB h,h'];rfl
theorem FF(ds:List D)(σ:DSt):bL (some (.lst ds)::σ) 0=.ok ds:=rfl
theorem FG(x:Option D)(σ:DSt)(n:Nat):bL (x::σ) (n+1)=bL σ n:=rfl
theorem fW{i:Int}(h1:-(10^100)<=i)(h2:i<=10^100):gT i=true:=U9 (n:=400) (B.of (k:=10^100) (by omega))
theorem FH{i:Int}(h1:-(10^100)<=i)(h2:i<=10^100)(h:i≠0):nK i=true:=VB (n:=400) (B.of (k:=10^100) (by omega)) h
def xB(a:R D):R aE:=a.bind fun d=>.ok (.rt d)
theorem FI(fe:DSt->R D)(σ:DSt):cE fe σ=xB (fe σ):=rfl
theorem FJ(d:D):xB (.ok d)=.ok (.rt d):=rfl
theorem FK(e:D):xB (.err e)=.err e:=rfl
def xC(a:R D)(σ:DSt):R aE:=a.bind fun _=>.ok (.nx σ)
theorem FL(fe:DSt->R D)(σ:DSt):wF fe σ=xC (fe σ) σ:=rfl
theorem FM(d:D)(σ:DSt):xC (.ok d) σ=.ok (.nx σ):=rfl
theorem FN(e:D)(σ:DSt):xC (.err e) σ=.err e:=rfl
def qA(i:Nat)(a:R D)(σ:DSt):R aE:=a.bind fun d=>.ok (.nx (σ.set i (some d)))
theorem lZ(i:Nat)(fe:DSt->R D)(σ:DSt):bP i fe σ=qA i (fe σ) σ:=rfl
theorem xD(own:List Nat)(i:Nat)(fe:DSt->R D)(σ:DSt):jX own i fe σ=qA i (fe (mask own σ)) σ:=rfl
theorem qB(i:Nat)(d:D)(σ:DSt):qA i (.ok d) σ=.ok (.nx (σ.set i (some d))):=rfl
theorem FP(i:Nat)(e:D)(σ:DSt):qA i (.err e) σ=.err e:=rfl
def FR(i:Nat)(a:R D)(σ:DSt):R aE:=a.bind fun d=>bif imm d then .ok (.nx (σ.set i (some d))) else .bad
theorem WT(i:Nat)(fe:DSt->R D)(σ:DSt):UY i fe σ=FR i (fe σ) σ:=rfl
theorem WU(i:Nat)(d:D)(σ:DSt)(h:imm d=true):FR i (.ok d) σ=.ok (.nx (σ.set i (some d))):=by
 show (bif imm d then _ else _)=_
 rw[h];rfl
def FU(i:Nat)(a:R (List D))(σ:DSt):R aE:=a.bind fun ds=>.ok (.nx (σ.set i (some (.lst ds))))
theorem FV(own:List Nat)(i:Nat)(fe:DSt->R (List D))(σ:DSt):lP own i fe σ=FU i (fe (mask own σ)) σ:=rfl
theorem FW(i:Nat)(ds:List D)(σ:DSt):FU i (.ok ds) σ=.ok (.nx (σ.set i (some (.lst ds)))):=rfl
def qC(ks:List Nat)(gp:D->R (List D))(a:R D)(σ:DSt):R aE:=a.bind fun d=>(gp d).noerr.bind fun us=>.ok (.nx (setAll σ ks us))
theorem FX(own ks:List Nat)(gp:D->R (List D))(fe:DSt->R D)(σ:DSt):U3 own ks gp fe σ=qC ks gp (fe (mask own σ)) σ:=rfl
theorem FY(i j:Nat)(a b:D)(σ:DSt):qC [i,j] (fE 2) (.ok (.tup [a,b])) σ=.ok (.nx ((σ.set i (some a)).set j (some b))):=rfl
theorem FZ(i j:Nat)(a b:D)(σ:DSt):qC [i,j] (fE 2) (.ok (.lst [a,b])) σ=.ok (.nx ((σ.set i (some a)).set j (some b))):=rfl
theorem GA(i j k:Nat)(a b c:D)(σ:DSt):qC [i,j,k] (fE 3) (.ok (.tup [a,b,c])) σ=.ok (.nx (((σ.set i (some a)).set j (some b)).set k (some c))):=rfl
theorem GB(i j k:Nat)(a b c:D)(σ:DSt):qC [i,j,k] (fE 3) (.ok (.lst [a,b,c])) σ=.ok (.nx (((σ.set i (some a)).set j (some b)).set k (some c))):=rfl
def GC(i j:Nat)(a:R (List D))(σ:DSt):R aE:=a.bind fun ds=>match ds with
 |[a,b]=>.ok (.nx ((σ.set i (some a)).set j (some b)))
 |_=>.bad
theorem GD(own:List Nat)(i j:Nat)(fs:DSt->R (List D))(σ:DSt):U4 own i j fs σ=GC i j (fs (mask own σ)) σ:=rfl
theorem GF(i j:Nat)(a b:D)(σ:DSt):GC i j (.ok [a,b]) σ=.ok (.nx ((σ.set i (some a)).set j (some b))):=rfl
def GG(c:Str)(a:R (List D)):R aE:=a.bind fun ds=>bif i0 ds.length then .err (.exc c []) else .bad
theorem GH(c:Str)(fs:DSt->R (List D))(σ:DSt):CU c fs σ=GG c (fs σ):=rfl
theorem GI(c:Str)(a:D):GG c (.ok [a])=.err (.exc c []):=rfl
theorem GJ(c:Str)(σ:DSt):wS c σ=.err (.exc c []):=rfl
def xE(i:Nat)(c:Str)(r:R aE)(hnd:DSt->R aE)(σ:DSt):R aE:=match r with
 |.ok o=>.ok o
 |.err (.exc cc as)=>bif cH cc c==some true then (hnd (σ.set i (some (.exc cc as)))).noerr.bind fun o=>match o with
   |.nx σ'=>.ok (.nx (σ'.set i none))
   |_=>.bad
  else .bad
 |_=>.bad
theorem GK(i:Nat)(c:Str)(body hnd:DSt->R aE)(σ:DSt):sO i c body hnd σ=xE i c (body σ) hnd σ:=rfl
theorem GM(i:Nat)(c:Str)(o:aE)(hnd:DSt->R aE)(σ:DSt):xE i c (.ok o) hnd σ=.ok o:=rfl
def GN(i:Nat)(r:R aE):R aE:=r.noerr.bind fun o=>match o with
 |.nx σ'=>.ok (.nx (σ'.set i none))
 |_=>.bad
theorem GO(i:Nat)(σ:DSt):GN i (.ok (.nx σ))=.ok (.nx (σ.set i none)):=rfl
theorem WV(i:Nat)(c cc:Str)(as:List D)(hnd:DSt->R aE)(σ:DSt)(h:cH cc c=some true):xE i c (.err (.exc cc as)) hnd σ=GN i (hnd (σ.set i (some (.exc cc as)))):=by
 show (bif cH cc c==some true then _ else _)=_
 rw[h];rfl
theorem GQ(d:D):fin (.ok (.rt d))=.ok d:=rfl
theorem GR(σ:DSt):fin (.ok (.nx σ))=.ok .non:=rfl
theorem GU(e:D):fin (.err e)=.err e:=rfl
theorem xF(i j:Int):a7 (.int i) (.int j)=.ok (.int (i+j)):=rfl
theorem GV(i j:Int):gSub (.int i) (.int j)=.ok (.int (i-j)):=rfl
theorem j3(i j:Int)(hi:gT i=true)(hj:gT j=true):iH (.int i) (.int j)=.ok (.int (i*j)):=by
 show (bif gT i&&gT j then _ else _)=_
 rw[hi,hj];rfl
theorem xG(i j:Int)(h:nK j=true)(h0:0<j):lR (.int i) (.int j)=.ok (.int (i/j)):=by
 show (bif nK j then R.ok (D.int (i.fdiv j)) else .bad)=_
 rw[h,Int.fdiv_eq_ediv_of_nonneg _ (Int.le_of_lt h0)];rfl
theorem jA(i j:Int)(h0:0<j):cR (.int i) (.int j)=.ok (.int (i%j)):=by
 have:decide (j≠0)=true:=xah (by omega)
 show (bif decide (j≠0) then R.ok (D.int (i.fmod j)) else .bad)=_
 rw[this,Int.fmod_eq_emod_of_nonneg _ (Int.le_of_lt h0)];rfl
theorem WW(i j:Int)(h:wK i j=true):pS (.int i) (.int j)=.ok (.int (i^j.toNat)):=by
 show (bif wK i j then _ else _)=_
 rw[h];rfl
theorem WX(i j:Int)(h:0<=j):VI (.int i) (.int j)=.ok (.int (i/2^j.toNat)):=by
 show (bif decide (0<=j) then _ else _)=_
 rw[xah h];rfl
theorem GW(i:Int):VP (.int i)=.ok (.int (-i)):=rfl
theorem GX(i j:Int):lS (.int i) (.int j)=.ok (.bl (decide (i<j))):=rfl
theorem GY(i j:Int):pT (.int i) (.int j)=.ok (.bl (decide (i<=j))):=rfl
theorem GZ(i j:Int):iI (.int i) (.int j)=.ok (.bl (decide (j<i))):=rfl
theorem HA(i j:Int):gGe (.int i) (.int j)=.ok (.bl (decide (j<=i))):=rfl
theorem nY{a b:D}(h:eE a b=true):bX a b=.ok (.bl (aZ a b)):=by unfold bX;rw[h];rfl
theorem xH{a b:D}(h:eE a b=true):c7 a b=.ok (.bl (!aZ a b)):=by unfold c7;rw[h];rfl
theorem xI(i j:Int):aZ (.int i) (.int j)=decide (i=j):=by unfold aZ;rfl
theorem HB(i j:Int):bX (.int i) (.int j)=.ok (.bl (decide (i=j))):=by rw[nY rfl,xI]
theorem HC(i j:Int):c7 (.int i) (.int j)=.ok (.bl (!decide (i=j))):=by rw[xH rfl,xI]
theorem HD(i j:Bool):bX (.bl i) (.bl j)=.ok (.bl (i==j)):=by rw[nY rfl];unfold aZ;rfl
theorem HE(i j:Bool):c7 (.bl i) (.bl j)=.ok (.bl (!(i==j))):=by rw[xH rfl];unfold aZ;rfl
abbrev t3(x y z:Int):D:=.tup [.int x,.int y,.int z]
abbrev l3(x y z:Int):D:=.lst [.int x,.int y,.int z]
theorem HF:∀(ns ms:List Int),eqDs (ns.map D.int) (ms.map D.int)=decide (ns=ms)
 |[],[]=>by unfold eqDs;rfl
 |[],_::_=>by unfold eqDs;rfl
 |_::_,[]=>by unfold eqDs;rfl
 |n::ns,m::ms=>by
  show eqDs (D.int n::ns.map D.int) (D.int m::ms.map D.int)=_
  unfold eqDs
  rw[HF ns ms,xI,Bool.eq_iff_iff]
  simp
theorem xJ(a b c x y z:Int):aZ (t3 a b c) (t3 x y z)=decide (a=x/\b=y/\c=z):=by
 have:=HF [a,b,c] [x,y,z]
 unfold aZ
 rw[show ([D.int a,.int b,.int c]:List D)=[a,b,c].map D.int from rfl,show ([D.int x,.int y,.int z]:List D)=[x,y,z].map D.int from rfl,this,Bool.eq_iff_iff]
 simp
theorem WY(a b c x y z:Int):aZ (l3 a b c) (l3 x y z)=decide (a=x/\b=y/\c=z):=by
 have:=xJ a b c x y z
 unfold aZ at this ⊢
 exact this
theorem HG(a b c x y z:Int):bX (t3 a b c) (t3 x y z)=.ok (.bl (decide (a=x/\b=y/\c=z))):=by rw[nY rfl,xJ]
theorem HH(a b c x y z:Int):c7 (t3 a b c) (t3 x y z)=.ok (.bl (!decide (a=x/\b=y/\c=z))):=by rw[xH rfl,xJ]
theorem HI(a b c x y z:Int):bX (l3 a b c) (l3 x y z)=.ok (.bl (decide (a=x/\b=y/\c=z))):=by rw[nY rfl,WY]
theorem HJ(a b:Bool):sL (.bl a) (.bl b)=.ok (.bl (a==b)):=rfl
theorem HK(a b:Bool):pV (.bl a) (.bl b)=.ok (.bl (a != b)):=rfl
theorem HL(d:D):sL d .non=.ok (.bl (lT d)):=by cases d<;>rfl
theorem HM(d:D):pV d .non=.ok (.bl (!lT d)):=by cases d<;>rfl
theorem HN(a b c:D):aI (.tup [a,b,c]) (.int 0)=.ok a:=rfl
theorem HP(a b c:D):aI (.tup [a,b,c]) (.int 1)=.ok b:=rfl
theorem HQ(a b c:D):aI (.tup [a,b,c]) (.int 2)=.ok c:=rfl
theorem HR(a b c:D):aI (.lst [a,b,c]) (.int 0)=.ok a:=rfl
theorem HS(a b c:D):aI (.lst [a,b,c]) (.int 1)=.ok b:=rfl
theorem HU(a b c:D):aI (.lst [a,b,c]) (.int 2)=.ok c:=rfl
theorem qD{xs:List D}{j:Nat}{d:D}(h:xs[j]? = some d):aI (.lst xs) (.int (j:Int))=.ok d:=by
 show (match eP xs (j:Int) with|some d=>R.ok d|none=>.bad)=_
 rw[SA h]
theorem HV(xs:List D):cA [.lst xs]=.ok (.int xs.length):=rfl
theorem HW:cA [.tup []]=.ok (.int 0):=rfl
theorem HX(a:D):cA [.tup [a]]=.ok (.int 1):=rfl
theorem HY(a b:D):cA [.tup [a,b]]=.ok (.int 2):=rfl
theorem HZ(a b c:D):cA [.tup [a,b,c]]=.ok (.int 3):=rfl
theorem H9(a b c d:D):cA [.tup [a,b,c,d]]=.ok (.int 4):=rfl
theorem IA(i:Int):V3 [.int i]=.ok (.int (i.natAbs:Int)):=rfl
theorem IB(i j:Int):pW [.int i,.int j]=.ok (.int (min i j)):=rfl
theorem IC(i j:Int):nM [.int i,.int j]=.ok (.int (max i j)):=rfl
theorem ID(b:Bool):cT [.bl b]=.ok (.int (if b then 1 else 0)):=rfl
theorem IE(i:Int):g2 bE [.int i,.ty "int"]=.ok (.bl true):=rfl
theorem IF(i:Int):g2 bE [.int i,.ty "bool"]=.ok (.bl false):=rfl
theorem IG(i:Bool):g2 bE [.bl i,.ty "bool"]=.ok (.bl true):=rfl
theorem IH(i:Bool):g2 bE [.bl i,.ty "int"]=.ok (.bl true):=rfl
theorem II(xs:List D):g2 bE [.tup xs,.ty "tuple"]=.ok (.bl true):=rfl
theorem IJ(xs:List D):g2 bE [.lst xs,.ty "list"]=.ok (.bl true):=rfl
theorem IK(xs:List D):g2 bE [.lst xs,.ty "tuple"]=.ok (.bl false):=rfl
theorem IL(xs:List D):g2 bE [.tup xs,.ty "list"]=.ok (.bl false):=rfl
theorem eF{c d:Str}{b:Bool}(h:cH c d=some b):g2 bE [.exc c [],.cls d]=.ok (.bl b):=by
 show (match cH c d with|some b=>R.ok (D.bl b)|none=>.bad)=_
 rw[h]
theorem IM(c:Str):g2 bE [.exc c [],.ty "ValueError"]=.ok (.bl true):=rfl
theorem WZ(j:Int)(h:dF j=true):i7 [.int j]=.ok (dE 0 j.toNat):=by
 show (bif dF j then _ else _)=_
 rw[h];rfl
theorem W0(i j:Int)(h:dF i=true)(h':dF j=true):kO [.int i,.int j]=.ok (dE i (j-i).toNat):=by
 show (bif dF i&&dF j then _ else _)=_
 rw[h,h'];rfl
theorem W1{i:Int}(h:-1000000000<=i)(h':i<=1000000000):dF i=true:=by
 unfold dF
 rw[xcn]
 omega
def IN(g:List D->R (List D))(a:R (List D)):R (List D):=a.bind g
theorem IP(g:List D->R (List D))(fs:DSt->R (List D))(σ:DSt):iF g fs σ=IN g (fs σ):=(rfl)
theorem IQ(g:List D->R (List D))(ds:List D):IN g (.ok ds)=g ds:=(rfl)
def xK(a:R D):R (List D):=a.bind wB
theorem IR(f:DSt->R D)(σ:DSt):c6 f σ=xK (f σ):=rfl
theorem IS(xs:List D):xK (.ok (.tup xs))=.ok xs:=rfl
theorem IT(xs:List D):xK (.ok (.lst xs))=.ok xs:=rfl
def xL(ks:List Nat)(gp:D->R (List D))(fb:DSt->R aE)(a:R (List D))(σ:DSt):R aE:=a.bind fun ds=>cY ks gp fb ds σ
theorem xM(own ks:List Nat)(gp:D->R (List D))(fi:DSt->R (List D))(fb:DSt->R aE)(σ:DSt):gR own ks gp fi fb σ=xL ks gp fb (fi (mask own σ)) σ:=rfl
theorem xN(ks:List Nat)(gp:D->R (List D))(fb:DSt->R aE)(ds:List D)(σ:DSt):xL ks gp fb (.ok ds) σ=cY ks gp fb ds σ:=rfl
def gU(r:R aE)(k:DSt->R aE):R aE:=r.bind fun o=>match o with
 |.nx σ'=>k σ'
 |.ct σ'=>k σ'
 |.bk σ'=>.ok (.nx σ')
 |.rt d=>.ok (.rt d)
 |.rf d=>.ok (.rf d)
theorem l0(σ:DSt)(k:DSt->R aE):gU (.ok (.nx σ)) k=k σ:=rfl
theorem IU(σ:DSt)(k:DSt->R aE):gU (.ok (.ct σ)) k=k σ:=rfl
theorem IV(σ:DSt)(k:DSt->R aE):gU (.ok (.bk σ)) k=.ok (.nx σ):=rfl
theorem IW(d:D)(k:DSt->R aE):gU (.ok (.rt d)) k=.ok (.rt d):=rfl
theorem IX(d:D)(k:DSt->R aE):gU (.err d) k=.err d:=rfl
theorem sV(ks:List Nat)(gp:D->R (List D))(fb:DSt->R aE)(σ:DSt):cY ks gp fb [] σ=.ok (.nx σ):=rfl
theorem qE(i:Nat)(fb:DSt->R aE)(d:D)(ds:List D)(σ:DSt):cY [i] bN fb (d::ds) σ=gU (fb (σ.set i (some d))) (cY [i] bN fb ds):=by
 show (fb (σ.set i (some d))).bind _=_
 unfold gU
 cases fb (σ.set i (some d)) with
 |ok o=>cases o<;>rfl
 |err e=>rfl
 |bad=>rfl
theorem xO{i:Nat}{fb:DSt->R aE}(I:DSt->Prop):∀(ds:List D),(∀d∈ds,∀σ,I σ->∃σ',(fb (σ.set i (some d))=.ok (.nx σ')\/fb (σ.set i (some d))=.ok (.ct σ'))/\I σ')->∀σ,I σ->∃σ',cY [i] bN fb ds σ=.ok (.nx σ')/\I σ'
 |[],_,σ,h=>⟨σ,rfl,h⟩
 |d::ds,hs,σ,h=>by
  obtain⟨σ1,h1,h2⟩:=hs d xa7 σ h
  obtain⟨σ2,h3,h4⟩:=xO I ds (fun d' hd=>hs d' (xas _ hd)) σ1 h2
  refine⟨σ2,?_,h4⟩
  rw[qE]
  rcases h1 with h1|h1<;>rw[h1]
  ·exact h3
  ·exact h3
theorem xP{i:Nat}{fb:DSt->R aE}(I:Nat->DSt->Prop)(ds:List D)(hs:∀(k:Nat) (d:D) (σ:DSt),ds[k]? = some d->I k σ->∃σ',(fb (σ.set i (some d))=.ok (.nx σ')\/fb (σ.set i (some d))=.ok (.ct σ'))/\I (k+1) σ')(σ:DSt)(h:I 0 σ):∃σ',cY [i] bN fb ds σ=.ok (.nx σ')/\I ds.length σ':=by
 have go:∀(ds:List D) (n:Nat),(∀(k:Nat) (d:D) (σ:DSt),ds[k]? = some d->I (n+k) σ->∃σ',(fb (σ.set i (some d))=.ok (.nx σ')\/fb (σ.set i (some d))=.ok (.ct σ'))/\I (n+k+1) σ')->∀σ,I n σ->∃σ',cY [i] bN fb ds σ=.ok (.nx σ')/\I (n+ds.length) σ':=by
  intro ds
  induction ds with
  |nil=>intro n _ σ h;exact⟨σ,rfl,h⟩
  |cons d ds ih=>
   intro n hs σ h
   obtain⟨σ1,h1,h2⟩:=hs 0 d σ rfl h
   obtain⟨σ2,h3,h4⟩:=ih (n+1) (fun k d' σ hd hI=>by
    have:=hs (k+1) d' σ (by simpa using hd) (by rw[show n+(k+1)=n+1+k by omega];exact hI)
    rw[show n+(k+1)+1=n+1+k+1 by omega] at this
    exact this) σ1 h2
   refine⟨σ2,?_,by rw[xao,show n+(ds.length+1)=n+1+ds.length by omega];exact h4⟩
   rw[qE]
   rcases h1 with h1|h1<;>rw[h1]
   ·exact h3
   ·exact h3
 obtain⟨σ',h1,h2⟩:=go ds 0 (fun k d σ hd hI=>by
  rw[xco] at hI ⊢
  exact hs k d σ hd hI) σ h
 exact⟨σ',h1,by rw[xco] at h2;exact h2⟩
theorem sW{c:DSt->R Bool}{fb:DSt->R aE}{σ σ':DSt}(h:c σ=.ok true)(h':fb σ=.ok (.nx σ')):cV c fb σ=cV c fb σ':=by rw[B5,h];show (fb σ).bind _=_;rw[h'];rfl
theorem xQ{c:DSt->R Bool}{fb:DSt->R aE}{σ:DSt}(h:c σ=.ok false):cV c fb σ=.ok (.nx σ):=by rw[B5,h];rfl
def sX(k:Nat)(ks:List Nat)(a:R (List D))(gp:D->R (List D))(c:DSt->R Bool)(e:DSt->R D)(σ:DSt):R (List D):=a.bind fun ds=>bif most ds.length then (eS ks gp c e (List.replicate k none++σ) ds).noerr else .bad
theorem nZ(k:Nat)(ks:List Nat)(fi:DSt->R (List D))(gp:D->R (List D))(c:DSt->R Bool)(e:DSt->R D)(σ:DSt):fN k ks fi gp c e σ=sX k ks (fi σ) gp c e σ:=rfl
theorem j4{n:Nat}(h:n<=1000000):most n=true:=xah (xbf h (by decide))
theorem W2{ds:List D}{e:DSt->R D}{σ:DSt}{g:D->D}(hl:ds.length<=1000000)(h:∀d∈ds,e (some d::σ)=.ok (g d)):sX 1 [0] (.ok ds) bN iG e σ=.ok (ds.map g):=by
 have go:∀ds:List D,(∀d∈ds,e (some d::σ)=.ok (g d))->eS [0] bN iG e (List.replicate 1 none++σ) ds=.ok (ds.map g):=by
  intro ds
  induction ds with
  |nil=>intro _;rfl
  |cons d ds ih=>
   intro h
   show (e (some d::σ)).bind (fun y=>(eS [0] bN iG e (List.replicate 1 none++σ) ds).bind fun ys=>.ok (y::ys))=_
   rw[h d xa7,ih fun d' hd=>h d' (xas _ hd)];rfl
 show (bif most ds.length then _ else _)=_
 rw[j4 hl,go ds h];rfl
end DL
namespace DL
open L2 PyProof.Rows
section
variable{X:Cx}{E:XK}{e:Expr}{te:TE}{pos:Pos}
theorem Reps.reverse{K:xFg}{mg:Str->Option Value}{G:Hp}:∀{ds:List D} {vs:List V},Reps K mg G ds vs->Reps K mg G ds.reverse vs.reverse
 |[],_,h=>by cases h;exact rfl
 |d::ds,_,⟨v,r,h1,h2,h3⟩=>by
  subst h1
  rw[xbm,xbm]
  exact(Reps.reverse h3).append (Reps.cons h2 Reps.nil)
def putK(i:Nat)(l:R (List D))(a k:R D)(σ:DSt):R aE:=l.bind fun ds=>a.bind fun d=>k.bind fun kd=>match kd with
 |.int n=>match jP ds.length n with
  |some j=>.ok (.nx (σ.set i (some (.lst (ds.set j d)))))
  |none=>.bad
 |_=>.bad
variable{own ol:List Nat}{x:Str}{k:Expr}{fk fe:DSt->R D}{np tpos:Pos}
end
section
variable{X:Cx}{E:XK}{K:xFg}{mg:Str->Option Value}{p pos:Pos}{e:Expr}{es:List Expr}{fs:DSt->R (List D)}
def sY:D->R D
 |.int i=>bif decide (i.natAbs.log2<1920) then .ok (.str (toString i)) else .bad
 |_=>.bad
abbrev sZ:=g1 sY
theorem W3:i6 K mg (fun xs H Q=>∃i,xs=[.int i]/\i.natAbs.log2<1920/\Q (.str (toString i)) H) sZ:=wN fun G H d v Q e r q=>by
 cases d with
 |int i=>
  cases r
  cases hC:decide (i.natAbs.log2<1920) with
  |false=>simp only[sY,hC,cond_false] at q;exact q.elim
  |true=>simp only[sY,hC,cond_true] at q;exact⟨i,rfl,xau hC,aL.now q e rfl⟩
 |_=>exact(show False from q).elim
theorem W4(hm:X.mg "str"=none)(ha:DA X E (e::es) fs)(hg:Gl X "str":=by rfl)(he:starEach (e::es) X.env=(false,eval e X.env)::starEach es X.env:=by rfl)(hpl:(backTo pos (starEach es X.env)).any (·.1)=false:=by rfl):DE X E (.Call (.Name "str" p) (e::es) [] pos) (aK sZ fs):=
 vY Q2 W3 hm ha VY hg (by decide) (by decide) he hpl
end
end DL
namespace DL
open L2 PyProof.Rows
def jB(d:D)(xs:List D):Bool:=xs.any fun y=>aZ y d
def dU(d:D)(xs:List D):Bool:=bO 9 d&&xs.all (bO 9)
def eX:D->D->R D
 |d,.lst xs=>bif dU d xs then .ok (.bl (jB d xs)) else .bad
 |d,.tup xs=>bif dU d xs then .ok (.bl (jB d xs)) else .bad
 |.str i,.str j=>.ok (.bl (!(Builtin.Str.occurrences j i 0 j.length 1).isEmpty))
 |_,_=>.bad
def dN:D->D->R D
 |d,.lst xs=>bif dU d xs then .ok (.bl (!jB d xs)) else .bad
 |d,.tup xs=>bif dU d xs then .ok (.bl (!jB d xs)) else .bad
 |.str i,.str j=>.ok (.bl (!(!(Builtin.Str.occurrences j i 0 j.length 1).isEmpty)))
 |_,_=>.bad
section
variable{X:Cx}{E:XK}
theorem IY{K:xFg}{mg:Str->Option Value}{G:Hp}{d:D}(f:Value->Bool):∀{ds:List D} {vs:List V} {its:List Value},(∀d' v' u,d'∈ds->aR K mg G d' v'->aM v' u->f u=aZ d' d)->Reps K mg G ds vs->aP vs its->its.any f=ds.any fun y=>aZ y d
 |[],_,_,_,r,t=>by cases r;cases t;rfl
 |d'::ds,_,_,h,⟨v,vs,e,r1,r2⟩,t=>by
  subst e
  cases t with
  |cons q t=>
   rw[xb7,xb7,h d' _ _ xa7 r1 q,IY f (fun d'' v'' u hd=>h d'' v'' u (xas _ hd)) r2 t]
theorem IZ{K:xFg}{mg:Str->Option Value}{G:Hp}:∀{ds:List D} {vs:List V} {its:List Value},Reps K mg G ds vs->aP vs its->∀u∈its,∃d' v',d'∈ds/\aR K mg G d' v'/\aM v' u
 |[],_,_,r,t,u,hu=>by cases r;cases t;cases hu
 |d'::ds,_,_,⟨v,vs,e,r1,r2⟩,t,u,hu=>by
  subst e
  cases t with
  |cons q t=>
   rcases xa1.mp hu with rfl|hu
   ·exact⟨d',v,xa7,r1,q⟩
   ·obtain⟨d'',v'',h1,h2,h3⟩:=IZ r2 t u hu
    exact⟨d'',v'',xas _ h1,h2,h3⟩
def I0(K:xFg)(mg:Str->Option Value)(neg:Bool):R2:=fun x y H Q=>∃G d ds p vs,Same G H/\aR K mg G d x/\y=.ref p/\(aY K G p vs\/bG K G p vs)/\Reps K mg G ds vs/\dU d ds=true/\Q (.bl (bif neg then !jB d ds else jB d ds)) H
open Classical in
theorem s9{pins:List (Addr×Obj)}{σ:L2.St}{G H:Hp}{s:Shared}(I:aD X pins σ H s){k:Nat}(r:bZ k X.A)(e:Same G H){d:D}{x:V}{v:Value}{ds:List D}{vs:List V}{its:List Value}(rx:aR X.K X.mg G d x)(qx:aM x v)(rs:Reps X.K X.mg G ds vs)(t:aP vs its)(h:dU d ds=true) :
  ∃f:Value->Bool,(∀u∈its,SeqAt.EqAt X.A.in1 s u v (f u))/\its.any f=jB d ds:=by
 unfold dU at h
 rw[xap,xbh] at h
 obtain⟨h1,h2⟩:=h
 have key:∀d' v' u,d'∈ds->aR X.K X.mg G d' v'->aM v' u->decide (∃d'' v'',d''∈ds/\aR X.K X.mg G d'' v''/\aM v'' u/\aZ d'' d=true)=aZ d' d:=by
  intro d' v' u hd r1 q1
  by_cases hq:aZ d' d=true
  ·rw[hq];exact xah ⟨d',v',hd,r1,q1,hq⟩
  ·rw[Bool.not_eq_true] at hq
   rw[hq]
   refine xax ?_
   rintro⟨d'',v'',hd',r2,q2,hq'⟩
   have ev:=q1.inj q2
   subst ev
   have:=wI I e 9 (h2 _ hd) (h2 _ hd') r1 r2
   subst this
   rw[hq] at hq';cases hq'
 refine⟨fun u=>decide (∃d'' v'',d''∈ds/\aR X.K X.mg G d'' v''/\aM v'' u/\aZ d'' d=true),fun u hu=>?_,IY _ key rs t⟩
 obtain⟨d',v',hd,r1,q1⟩:=IZ rs t u hu
 show SeqAt.EqAt X.A.in1 s u v (decide _)
 rw[key d' v' u hd r1 q1]
 exact(wJ I e 9 (by rw[CA];have:=r.un;omega) (h2 _ hd) h1 r1 q1 rx qx).1
theorem W5{k:Nat}(r:bZ k X.A):bD X (compareOp .In) (I0 X.K X.mg false):=by
 intro pins s σ H x y v u Q I rx ry h
 obtain⟨G,d,ds,p,vs,e,r1,rfl,hq,rs,c,q⟩:=h
 cases ry
 rcases hq with hq|hq
 ·obtain⟨its,t,pl,hz⟩:=I.list (e.seq hq)
  obtain⟨f,h1,h2⟩:=s9 I r e r1 rx rs t c
  refine SeqAt.in_listAt f pl.isList (fun w hw=>h1 w (by simpa using hw)) ⟨.bl _,H,I,rfl,?_⟩
  rw[show its.toArray.any f=its.any f by simp,h2];exact q
 ·obtain⟨its,t,pl,hz⟩:=I.tuple (Same.sqT e hq)
  obtain⟨f,h1,h2⟩:=s9 I r e r1 rx rs t c
  refine SeqAt.in_tupleAt f pl (fun w hw=>h1 w (by simpa using hw)) ⟨.bl _,H,I,rfl,?_⟩
  rw[show its.toArray.any f=its.any f by simp,h2];exact q
theorem W6{k:Nat}(r:bZ k X.A):bD X (compareOp .NotIn) (I0 X.K X.mg true):=by
 intro pins s σ H x y v u Q I rx ry h
 obtain⟨G,d,ds,p,vs,e,r1,rfl,hq,rs,c,q⟩:=h
 cases ry
 rcases hq with hq|hq
 ·obtain⟨its,t,pl,hz⟩:=I.list (e.seq hq)
  obtain⟨f,h1,h2⟩:=s9 I r e r1 rx rs t c
  refine SeqAt.notIn_listAt f pl.isList (fun w hw=>h1 w (by simpa using hw)) ⟨.bl _,H,I,rfl,?_⟩
  rw[show its.toArray.any f=its.any f by simp,h2];exact q
 ·obtain⟨its,t,pl,hz⟩:=I.tuple (Same.sqT e hq)
  obtain⟨f,h1,h2⟩:=s9 I r e r1 rx rs t c
  refine SeqAt.notIn_tupleAt f pl (fun w hw=>h1 w (by simpa using hw)) ⟨.bl _,H,I,rfl,?_⟩
  rw[show its.toArray.any f=its.any f by simp,h2];exact q
abbrev JA(neg:Bool):R2:=fun x y H Q=>∃i j,x=.str i/\y=.str j/\Q (.bl (bif neg then !(!(Builtin.Str.occurrences j i 0 j.length 1).isEmpty) else !(Builtin.Str.occurrences j i 0 j.length 1).isEmpty)) H
theorem W7{k:Nat}(C:XC X E k):eD X .In eX:=⟨_,(W5 C.room).or (QP:bD X _ (JA false)),fun G H a b x y Q e ra rb q=>by
 cases b with
 |lst xs=>
  obtain⟨p,vs,rfl,h1,h2⟩:=rb
  cases hc:dU a xs with
  |false=>simp only[eX,hc,cond_false] at q;exact q.elim
  |true=>simp only[eX,hc,cond_true] at q;exact .inl ⟨G,a,xs,p,vs,e,ra,rfl,.inl h1,h2,hc,aL.now q e rfl⟩
 |tup xs=>
  obtain⟨p,vs,rfl,h1,h2⟩:=rb
  cases hc:dU a xs with
  |false=>simp only[eX,hc,cond_false] at q;exact q.elim
  |true=>simp only[eX,hc,cond_true] at q;exact .inl ⟨G,a,xs,p,vs,e,ra,rfl,.inr h1,h2,hc,aL.now q e rfl⟩
 |str j=>cases a with
  |str i=>cases ra;cases rb;exact .inr ⟨i,j,rfl,rfl,aL.now q e rfl⟩
  |_=>exact(show False from q).elim
 |_=>cases a<;>exact(show False from q).elim,fun a b e=>by
  cases b with
  |lst xs=>simp only[eX];cases dU a xs<;>simp[cond]
  |tup xs=>simp only[eX];cases dU a xs<;>simp[cond]
  |_=>cases a<;>simp[eX]⟩
theorem W8{k:Nat}(C:XC X E k):eD X .NotIn dN:=⟨_,(W6 C.room).or (SG:bD X _ (JA true)),fun G H a b x y Q e ra rb q=>by
 cases b with
 |lst xs=>
  obtain⟨p,vs,rfl,h1,h2⟩:=rb
  cases hc:dU a xs with
  |false=>simp only[dN,hc,cond_false] at q;exact q.elim
  |true=>simp only[dN,hc,cond_true] at q;exact .inl ⟨G,a,xs,p,vs,e,ra,rfl,.inl h1,h2,hc,aL.now q e rfl⟩
 |tup xs=>
  obtain⟨p,vs,rfl,h1,h2⟩:=rb
  cases hc:dU a xs with
  |false=>simp only[dN,hc,cond_false] at q;exact q.elim
  |true=>simp only[dN,hc,cond_true] at q;exact .inl ⟨G,a,xs,p,vs,e,ra,rfl,.inr h1,h2,hc,aL.now q e rfl⟩
 |str j=>cases a with
  |str i=>cases ra;cases rb;exact .inr ⟨i,j,rfl,rfl,aL.now q e rfl⟩
  |_=>exact(show False from q).elim
 |_=>cases a<;>exact(show False from q).elim,fun a b e=>by
  cases b with
  |lst xs=>simp only[dN];cases dU a xs<;>simp[cond]
  |tup xs=>simp only[dN];cases dU a xs<;>simp[cond]
  |_=>cases a<;>simp[dN]⟩
end
theorem W9{d:D}{xs:List D}(h:dU d xs=true):dN d (.lst xs)=.ok (.bl (!jB d xs)):=by
 cases d<;>(simp only[dN];rw[h];rfl)
end DL
namespace DL
open L2 PyProof.Rows
def fX(c:Nat):Str:=⟨#[c]⟩
def tD(z:Str):It:=⟨fun i _=>i<z.cps.size,fun i H x H'=>H'=H/\∃c,z.cps[i]? = some c/\x=.str (fX c),fun i _=>z.cps.size<=i⟩
theorem JB{P:Program}{w:World}{K:xFg}{tg:Expr}(z:Str)(it:Addr)(nm:String)(t:Tok)(hnm:nm="str_ascii_iterator"\/nm="str_iterator"):kG P w K tg (tD z) [it] it (fun i h=>h.IsStrIter it nm z t i) where
 mem:=by simp
 obj:=fun i h st b hb=>by
  have e:b=it:=by simpa using hb
  subst e
  obtain⟨o,e,c,d⟩:=st
  exact⟨o,e,fun v z=>by rw[d] at z;cases z⟩
 keep:=fun i h h' st k=>by
  obtain⟨o,e,r⟩:=st
  exact⟨o,k it (by simp) o e,r⟩
 item:=by
  intro X hP hw hK hc i pins s σ H E I hf st hg
  subst hP hw hK
  obtain⟨f0,f1,f2,f3,f4,f5⟩:=hf it (by simp)
  have go:∀(W:Walks X.prog X.w X.A it [it] [it] z.cps.size (SignAt z) (fun i h=>h.IsStrIter it nm z t i)),wpAny (model X.prog X.w) X.A (pyNext (.ref it)) (fun r s1=>∃u,r=some u/\wpAny (model X.prog X.w) X.A (letOwnedTupleGo tg (.ref it) u) (fun _ s2=>∃x H',aD X pins σ H' s2/\aM x u/\(tD z).yld i H x H'/\s2.heap.IsStrIter it nm z t (i+1)/\∀b∈[it],H' b=none) E s1) E s:=by
   intro W
   refine W.item i s _ _ hg st fun v h' tk hv st' kk=>?_
   obtain⟨c,u,hc',rfl⟩:=hv
   have I1:aD X pins σ H { s with heap:=h',toks:=tk }:=I.turned (fun b o hb e=>kk b o (by simpa using hb) e) f0 f1 f3 f4 f5
   obtain⟨o,e,cl,d⟩:=id st'
   exact⟨_,rfl,o7 (s:={ s with heap:=h',toks:=tk }) e cl d (by rcases hnm with rfl|rfl<;>decide) ⟨.str (fX c),H,I1,⟨u,rfl⟩,⟨rfl,c,hc',rfl⟩,st',fun b hb=>(hf b hb).1⟩⟩
  rcases hnm with rfl|rfl
  ·exact go (Walks.strAscii (I.ok.hd hc) it z t)
  ·exact go (Walks.strWide (I.ok.hd hc) it z t)
 done:=by
  intro X hP hw hK hc i pins s σ H E I hf st hg
  subst hP hw hK
  obtain⟨f0,f1,f2,f3,f4,f5⟩:=hf it (by simp)
  rcases hnm with rfl|rfl
  ·exact wpAny_pyNext_ascii_end (I.ok.hd hc) st (by have:z.cps.size<=i:=hg;simp;omega) fun h' eb=>⟨rfl,I.turned (t':=s.toks) (fun b o hb e=>eb b o hb e) f0 f1 f3 f4 f5⟩
  ·exact wpAny_pyNext_wide_end (I.ok.hd hc) st (by have:z.cps.size<=i:=hg;simp;omega) fun h' eb=>⟨rfl,I.turned (t':=s.toks) (fun b o hb e=>eb b o hb e) f0 f1 f3 f4 f5⟩
 self:=fun A i s Q E st h=>by
  rcases hnm with rfl|rfl
  ·exact wpAny_pyIter_striter_ascii st h
  ·exact wpAny_pyIter_striter_wide st h
section
variable{X:Cx}{E:XK}{tg:Expr}
def JC(tl:TE):TI:=fun σ H R=>tl σ H fun x H1=>∃z,x=.str z/\R (tD z) H1
theorem XA{l:Expr}{tl:TE}(hl:PE X l tl):PI X tg l (JC tl):=by
 intro pins s σ H R I h
 refine aJ (hl pins s σ H _ I h) fun v s1 ⟨x,H1,I1,r1,q1⟩=>?_
 obtain⟨z,e,q⟩:=q1
 subst e
 obtain⟨t,rfl⟩:=r1
 have fpo:∀b∈[s1.heap.objs.size],fU X pins H1 b:=fun b hb=>by
  have e:b=s1.heap.objs.size:=by simpa using hb
  subst e
  exact I1.fpOk (xag _) (I1.hok.fresh (xag _))
 cases ha:z.cps.all (· < 128)
 ·exact wpAny_pyIter_wide ha ⟨s1.heap.objs.size,[s1.heap.objs.size],_,_,H1,rfl,I1.kept (t':=s1.toks) fun b o e=>xad _ e,JB z _ "str_iterator" t (.inr rfl),⟨_,xav _ rfl,rfl,rfl⟩,fpo,q⟩
 ·exact wpAny_pyIter_ascii ha ⟨s1.heap.objs.size,[s1.heap.objs.size],_,_,H1,rfl,I1.kept (t':=s1.toks) fun b o e=>xad _ e,JB z _ "str_ascii_iterator" t (.inl rfl),⟨_,xav _ rfl,rfl,rfl⟩,fpo,q⟩
def jC(z:Str):List D:=z.cps.toList.map fun c=>.str (fX c)
def XB:D->R (List D)
 |.str z=>.ok (jC z)
 |_=>.bad
def xR(f:DSt->R D):DSt->R (List D):=fun σ=>(f σ).bind XB
theorem fF.text{K:xFg}{mg:Str->Option Value}{G:Hp}(z:Str):fF K mg (tD z) G (jC z):=by
 have hl:(jC z).length=z.cps.size:=by simp[jC]
 refine⟨fun H e=>by rw[hl];exact xag _,fun H i d e hd=>?_⟩
 have hi:i<z.cps.size:=by have:=(xaf.mp hd).1;omega
 refine⟨hi,fun x H' y G1 e1 e2=>?_⟩
 obtain⟨rfl,c,hc,rfl⟩:=y
 have:d=.str (fX c):=by
  unfold jC at hd
  rw[xbd,Array.getElem?_toList,hc] at hd
  simpa using hd.symm
 subst this
 exact⟨G1,.refl e2,rfl⟩
theorem XE{l:Expr}{f:DSt->R D}(hl:DE X E l f):DI X E tg l (xR f):=by
 have hT:PI X tg l (JC (tE X.K X.mg E f)):=XA hl
 intro pins s σ H R I ⟨G,σd,ok,q⟩
 refine hT pins s σ H R I ⟨G,σd,ok,?_⟩
 refine q.of_bind.mono (fun d _ z=>?_) fun _ z=>z
 rintro v G' H' st r
 cases d with
 |str y=>
  cases r
  exact⟨y,rfl,(show ∀J G' H',Step G H G' H'->fF X.K X.mg J G' (jC y)->R J H' from z) _ G' H' st (.text y)⟩
 |_=>exact(show False from z).elim
variable{a b:Expr}{fa fb:DSt->R D}{pos:Pos}
def fH:D->D->R D
 |.str z,.int i=>bif decide (0<=i)&&Nat.blt i.natAbs 1073741824 then (match z.cps[i.toNat]? with
  |some c=>.ok (.str (fX c))
  |none=>.bad) else .bad
 |_,_=>.bad
abbrev rIxS:R2:=fun x y H Q=>∃z i c,x=.str z/\y=.int i/\0<=i/\i<2^63/\i<z.length/\z.cps[i.toNat]? = some c/\Q (.str ⟨#[c]⟩) H
theorem XF:eR fH:=by
 intro a b e h
 cases a with
 |str z=>cases b with
  |int i=>
   cases hC:(decide (0<=i)&&Nat.blt i.natAbs 1073741824) with
   |false=>simp only[fH,hC,cond_false] at h;cases h
   |true=>
    simp only[fH,hC,cond_true] at h
    split at h<;>cases h
  |_=>cases h
 |_=>cases b<;>cases h
theorem XG{K:xFg}{mg:Str->Option Value}:eQ K mg rIxS fH:=by
 intro G H a b x y Q e ra rb q
 cases a with
 |str z=>cases b with
  |int i=>
   cases ra;cases rb
   cases hC:(decide (0<=i)&&Nat.blt i.natAbs 1073741824) with
   |false=>simp only[fH,hC,cond_false] at q;exact q.elim
   |true=>
    simp only[fH,hC,cond_true] at q
    rw[xap,decide_eq_true_eq,xcn] at hC
    cases hc:z.cps[i.toNat]? with
    |none=>rw[hc] at q;exact q.elim
    |some c=>
     rw[hc] at q
     have hlt:i.toNat<z.cps.size:=(xbr.mp hc).1
     have hlt':i<(z.length:Int):=by
      show i<(z.cps.size:Int)
      omega
     exact⟨z,i,c,rfl,rfl,hC.1,by omega,hlt',hc,aL.now q e rfl⟩
  |_=>exact(show False from q).elim
 |_=>cases b<;>exact(show False from q).elim
theorem XH(ha:DE X E a fa)(hb:DE X E b fb)(hs:AC b:=by intro _ _;rfl):DE X E (.Subscript a b pos) (aC fH fa fb):=
 PE.mono' (QX ha hb hs) fun _ _ _ h=>pI XG XF h
def jD(sep:Str):List Str->Str
 |[y]=>y
 |ys=>Builtin.Str.glued sep ys
def dW:List D->Option (List Str)
 |[]=>some []
 |.str y::ds=>(dW ds).map (y::·)
 |_=>none
theorem Reps.strs{K:xFg}{mg:Str->Option Value}{G:Hp}:∀{ds:List D} {ys:List Str} {vs:List V},dW ds=some ys->Reps K mg G ds vs->vs=ys.map V.str
 |[],_,_,h,r=>by cases h;cases r;rfl
 |.str y::ds,_,_,h,⟨v,t,e1,r1,r2⟩=>by
  subst e1
  cases hd:dW ds with
  |none=>simp[dW,hd] at h
  |some ys'=>
   simp[dW,hd] at h
   subst h
   rw[Reps.strs hd r2]
   have:v=V.str y:=r1
   rw[this];rfl
 |.non::_,_,_,h,_=>by simp[dW] at h
 |.bl _::_,_,_,h,_=>by simp[dW] at h
 |.int _::_,_,_,h,_=>by simp[dW] at h
 |.ty _::_,_,_,h,_=>by simp[dW] at h
 |.cls _::_,_,_,h,_=>by simp[dW] at h
 |.tup _::_,_,_,h,_=>by simp[dW] at h
 |.lst _::_,_,_,h,_=>by simp[dW] at h
 |.dct _ _::_,_,_,h,_=>by simp[dW] at h
 |.exc _ _::_,_,_,h,_=>by simp[dW] at h
theorem JD:∀{ys:List Str} {us:List Value},aP (ys.map V.str) us->∃l:List (Str×Tok),us=strValues l/\l.map (·.1)=ys
 |[],_,h=>by cases h;exact⟨[],rfl,rfl⟩
 |y::ys,_,h=>by
  cases h with
  |cons q t=>
   obtain⟨l,rfl,hl⟩:=JD t
   obtain⟨tk,rfl⟩:=q
   exact⟨(y,tk)::l,rfl,by rw[xa5,hl]⟩
def n4(sep:Str)(ys:List Str):Nat:=ys.toArray.foldl (· + ·.length+sep.length) 0
def XI(K:xFg):V->List V->Hp->VK->Prop:=fun x vs H Q=>∃sep b ys,x=.str sep/\vs=[.ref b]/\aY K H b (ys.map V.str)/\n4 sep ys<=sizeLine/\(jD sep ys).length<=sizeLine/\Q (.str (jD sep ys)) H
theorem XJ:pE X "str.join" (XI X.K):=by
 intro pins s σ H x vs v us Q I rx rv h
 obtain⟨sep,b,ys,rfl,rfl,hB,hz,hz2,q⟩:=h
 obtain⟨t,rfl⟩:=rx
 obtain⟨u,rfl,ru⟩:=rv.one
 cases ru
 obtain⟨its,r,pl,_⟩:=I.list hB
 obtain⟨l,rfl,hl⟩:=JD r
 subst hl
 refine call_meets F.slot_str_join (typeIs_str s sep t) F.entry_str_join (F.args_str_join_2 _ _) (meets_str_join_list sep t b l (xax (by show ¬sizeLine<_;exact Nat.not_lt.mpr hz))) ⟨pl.isList,?_⟩
 match l,hz2,q with
 |[],hz2,q=>exact⟨hz2,.str _,H,I.tok _,⟨_,rfl⟩,q⟩
 |[p],hz2,q=>exact⟨.str _,H,I,⟨_,rfl⟩,q⟩
 |_::_::_,hz2,q=>exact⟨hz2,.str _,H,I.tok _,⟨_,rfl⟩,q⟩
def jE(sep:D)(d:D):R D:=match sep,d with
 |.str z,.lst ds=>match dW ds with
  |some ys=>bif cQ (n4 z ys)&&cQ (jD z ys).length then .ok (.str (jD z ys)) else .bad
  |none=>.bad
 |_,_=>.bad
def XM(fe:DSt->R D)(σ:DSt):D->R D
 |.str z=>(fe σ).bind fun d=>jE (.str z) d
 |_=>.bad
def xS(fo fe:DSt->R D):DSt->R D:=fun σ=>(fo σ).bind fun z=>XM fe σ z
theorem XN{o e:Expr}{fo fe:DSt->R D}{apos cpos:Pos}(ho:DE X E o fo)(he:DE X E e fe)
  (hbase:attributeBase o "join" X.env (eval o X.env)=eval o X.env:=by rfl)
  (hfew:((backTo cpos (starEach [e] X.env)).all (fun x=>!x.1)&&(backToKw cpos (keywordEach [] X.env)).all (fun x=>x.1.isSome)&&decide ([e].length+([]:List Keyword).length+(if ([]:List Keyword).isEmpty then 0 else 1)<30))=true:=by rfl)
  (hline:(apos.endLine==cpos.line)=true:=by rfl) (hs:starEach [e] X.env=(false,eval e X.env)::starEach [] X.env:=by rfl) (hplain:(backTo cpos (starEach [] X.env)).any (·.1)=false:=by rfl) :
  DE X E (.Call (.Attribute o "join" apos) [e] [] cpos) (xS fo fe):=by
 refine PE.mono' (jQ PySem.F.plainAttrs_str PySem.F.slot_str_join PySem.F.type_str_join XJ ho (dQ he gN hs) hbase hfew hline hs hplain) fun σ H Q ⟨G,σd,ok,q⟩=>?_
 refine gM (P:=aL X.K X.mg Q) ok q fun z x G1 H1 s1 ok1 r1 q1=>?_
 cases z with
 |str y=>
  cases r1
  refine⟨rfl,G1,σd,ok1,(show RW ((aB fe aF) σd) _ _ from ?_)⟩
  unfold aB
  have q2:=(show RW ((fe σd).bind fun d=>jE (.str y) d) _ _ from q1).of_bind
  cases hf:fe σd with
  |bad=>rw[hf] at q2;exact q2.elim
  |err e=>rw[hf] at q2;exact(show aX X.K X.mg E G1 H1 e from q2)
  |ok d=>
   rw[hf] at q2
   have q3:RW (jE (.str y) d) (aL X.K X.mg Q G H) (aX X.K X.mg E G1 H1):=q2
   rintro ws G2 H2 s2 ⟨v,_,e1,r3,r4⟩
   subst e1
   cases r4
   cases d with
   |lst ds=>
    obtain⟨b,vs,rfl,hb,hv⟩:=r3
    cases hs':dW ds with
    |none=>simp only[jE,hs'] at q3;exact q3.elim
    |some ys=>
     have ev:=Reps.strs hs' hv
     subst ev
     cases hC:(cQ (n4 y ys)&&cQ (jD y ys).length) with
     |false=>simp only[jE,hs',hC,cond_false] at q3;exact q3.elim
     |true=>
      simp only[jE,hs',hC,cond_true] at q3
      rw[xap] at hC
      exact⟨y,b,ys,rfl,rfl,s2.e.seq hb,xau hC.1,xau hC.2,aL.now ((show aL X.K X.mg Q G H (.str (jD y ys)) from q3).step (s1.trans s2)) s2.e rfl⟩
   |_=>exact(show False from q3).elim
 |_=>exact(show False from q1).elim
theorem JE:∀l:List (Str×Tok),aP (l.map fun p=>V.str p.1) (strValues l)
 |[]=>.nil
 |p::l=>.cons ⟨p.2,rfl⟩ (JE l)
theorem JG{K:xFg}{mg:Str->Option Value}{G:Hp}:∀l:List (Str×Tok),Reps K mg G (l.map fun p=>D.str p.1) (l.map fun p=>V.str p.1)
 |[]=>Reps.nil
 |p::l=>Reps.cons rfl (JG l)
theorem XO{K:xFg}{mg:Str->Option Value}{G:Hp}{a:Addr}{its:Array Value}{n:Nat}{sl:Array (Option Value)}{l:List (Str×Tok)}(lk:K.lookup a=some ⟨.type "tuple",none,.seq its n,sl⟩)(h:its.toList=strValues l)(hz:l.length<=100):aR K mg G (.tup (l.map fun p=>D.str p.1)) (.ref a):=by
 refine⟨a,_,rfl,.inr ⟨_,its,n,lk,rfl,rfl,?_,by rw[h];exact JE l,rfl⟩,JG l⟩
 rw[<- xb0,h]
 unfold strValues
 rw[xai]
 exact xaz hz (by decide)
end
end DL
namespace DL
open L2 PyProof.Rows
section
variable{prog:Program}{w:World}{A:Around}{E:Value->Shared->Prop}{s:Shared}
theorem items_int{ks:List Int}{vs:List Value}(h:ItemsAre (intKind prog w) ks vs):∀v∈vs,∃i t,v=.int i t:=by
 induction h with
 |nil=>intro v hv;cases hv
 |cons q _ ih=>
  intro v hv
  rcases xa1.mp hv with rfl|hv
  ·cases v with
   |int i t=>exact⟨i,t,rfl⟩
   |_=>cases q
  ·exact ih v hv
structure TSet(prog:Program)(w:World)(h:Heap)(a:Addr)(o:Obj)(es:Array (Int×Value))(ep:Nat)(t:SetTable)(kss:List (List Int)):Prop where
 get:h.get? a=some o
 ex:o.ExactSet
 dat:o.data=.set es ep t
 dm:t.dummies=#[]
 pl:t.place.size=es.size
 msk:(t.mask=7/\es.size<=4)\/(t.mask=31/\es.size<=18)
 n:es.size=kss.length
 el:∀e∈es.toList,∃c ls,e.2=.ref c/\IsTupleKey (intKind prog w) h ls c/\ls∈kss
variable{h:Heap}{a:Addr}{o:Obj}{es:Array (Int×Value)}{ep:Nat}{t:SetTable}{kss:List (List Int)}
end
end DL
namespace L2
open PyProof.Rows
section
variable{prog:Program}{w:World}{A:Around}{E:Value->Shared->Prop}{s:Shared}
def tp2(a b:Value):Obj:={ cls:=.type "tuple",data:=.seq #[a,b] }
end
section
variable{X:Cx}{pins:List (Addr×Obj)}{σ:St}{H:Hp}{s:Shared}{h':Heap}
theorem aD.turnedL{t':Nat}{ch:List Addr}(I:aD X pins σ H s)(k:∀b o,b∉ch->s.heap.get? b=some o->h'.get? b=some o)(f:∀b∈ch,fU X pins H b):aD X pins σ H { s with heap:=h',toks:=t' }:=by
 have nit:∀b u,H b=some u->b∉ch:=fun b u e z=>by rw[(f b z).1] at e;cases e
 refine I.step (g':=s.gens) (d':=s.drawn) (ch:=ch) (fun b hb=>?_) (fun b o _ _ hc e _=>k b o hc e) (fun b o _ _ hc e _=>⟨o.slots,k b o hc e⟩) (fun _ _ _ _ n=>n) (fun b o hc e=>⟨o,k b o hc e⟩) (fun _ _ e=>e) (fun _ _ _ e=>e) (fun b ps e=>⟨#[],by rw[e];simp⟩) (fun m hm=>?_) (fun b u e=>?_) I.bare
 ·obtain⟨_,f1,_,f3,f4,f5⟩:=f b hb
  exact⟨f3,f1,f4,f5⟩
 ·obtain⟨o,es,ep,ho,r⟩:=hm
  exact⟨o,es,ep,k _ o (fun z=>(f _ z).2.1 rfl) ho,r⟩
 ·refine(I.hok b u e).stay (fun c v hc q=>k c v ?_ q) (fun _ q=>q) fun _ _ q=>q
  rcases hc with z|z
  ·rw[z];exact nit b u e
  ·exact nit c _ z
end
end L2
namespace DL
open PySem.Spec PyProof.Rows L2
variable{K:xFg}{mg:Str->Option Value}{X:Cx}{e:Expr}{es:List Expr}{p pos:Pos}
theorem JI:∀l:List (Int×Tok),aP (l.map fun p=>V.int p.1) (l.map fun p=>Value.int p.1 p.2)
 |[]=>.nil
 |p::l=>.cons ⟨p.2,rfl⟩ (JI l)
theorem JJ{G:Hp}:∀l:List (Int×Tok),Reps K mg G (l.map fun p=>D.int p.1) (l.map fun p=>V.int p.1)
 |[]=>Reps.nil
 |p::l=>Reps.cons rfl (JJ l)
theorem XQ{G:Hp}{a:Addr}{its:Array Value}{n:Nat}{sl:Array (Option Value)}{l:List (Int×Tok)}(lk:K.lookup a=some ⟨.type "tuple",none,.seq its n,sl⟩)(h:its.toList=l.map fun p=>Value.int p.1 p.2)(hz:l.length<=100):aR K mg G (.tup (l.map fun p=>D.int p.1)) (.ref a):=by
 refine⟨a,_,rfl,.inr ⟨_,its,n,lk,rfl,rfl,?_,by rw[h];exact JI l,rfl⟩,JJ l⟩
 rw[<- xb0,h,xai]
 exact xaz hz (by decide)
end DL
namespace DL
open L2 PyProof.Rows
section
variable{X:Cx}{E:XK}
theorem XR:bootBuiltins "enumerate"=some (.type "enumerate"):=by decide +kernel
def fY(k:Nat):List D->List D
 |[]=>[]
 |d::ds=>.tup [.int k,d]::fY (k+1) ds
theorem xT:∀(ds:List D) (k:Nat),(fY k ds).length=ds.length
 |[],_=>rfl
 |_::ds,k=>by rw[fY,xao,xao,xT ds]
theorem JK:∀(ds:List D) (k i:Nat) (d:D),(fY k ds)[i]? = some d->∃x,ds[i]? = some x/\d=.tup [.int ((k+i:Nat):Int),x]
 |[],_,i,d,h=>by cases i<;>cases h
 |y::ds,k,0,d,h=>⟨y,rfl,(xaw h).symm⟩
 |y::ds,k,i+1,d,h=>by
  obtain⟨x,h1,h2⟩:=JK ds (k+1) i d h
  exact⟨x,h1,by rw[h2,show k+1+i=k+(i+1) by omega]⟩
end
end DL
namespace DL
open L2 PyProof.Rows
section
variable{K:xFg}{mg:Str->Option Value}{G G' G0 H H' H0:Hp}{own:List Nat}{x j:Nat}{σd:DSt}{σ:L2.St}
theorem Ok.dropX{v:V}(o:Ok K mg H0 own σd σ G H)(hx:x∉own):Ok K mg H0 own (σd.set x none) (σ.set x (some v)) G H:=by
 have ne:∀{i:Nat} {d:D},(σd.set x none)[i]? = some (some d)->i≠x:=fun {i d} h z=>by
  subst z
  by_cases hl:i<σd.length
  ·rw[xat hl] at h;cases h
  ·rw[List.getElem?_eq_none (by simpa using Nat.le_of_not_lt hl)] at h;cases h
 have nb:∀{i:Nat} {d:D},(h:(σd.set x none)[i]? = some (some d))->σd[i]? = some (some d):=fun {i d} h=>by
  rw[xae (xay (ne h))] at h;exact h
 refine⟨o.ext,by simp[o.len],fun i d hi h=>?_,fun i d hi h=>?_,fun i k a d1 d2 h1 h2 h3 h4 h5 h6=>?_⟩
 ·rw[xae (xay (ne h))];exact o.val i d hi (nb h)
 ·rw[xae (xay (ne h))];exact o.mine i d hi (nb h)
 ·rw[xae (xay (ne h3))] at h5
  rw[xae (xay (ne h4))] at h6
  exact o.dj i k a d1 d2 h1 h2 (nb h3) (nb h4) h5 h6
end
def JL(x:Nat)(g:DSt->R aE):DSt->R aE:=fun σ=>g (σ.set x none)
end DL
namespace DL
open L2 PyProof.Rows
def sSeqP(f:DSt->R aE)(g:DSt->R (List D×List D)):DSt->R (List D×List D):=fun σ=>(f σ).bind fun o=>match o with
 |.nx σ'=>g σ'
 |_=>.bad
def XS(r:R aE):R aE:=r.bind fun o=>match o with
 |.nx _=>.bad
 |o=>.ok o
def xU(x:Nat)(c:DSt->R Bool)(f g:DSt->R aE):DSt->R aE:=fun σ=>(c σ).bind fun k=>bif k then XS (f (σ.set x none)) else g σ
end DL
namespace DL
open L2 PyProof.Rows
section
variable{P:Program}{w:World}{K:xFg}{mg:Str->Option Value}{base:Heap}{x:Str}{st:Stmt}{f:Addr}{fd:FuncData}{N ps:List Str}{k n nN:Nat}{own':List Nat}{body:DSt->R aE}
structure FD(K:xFg)(x:Str)(st:Stmt):Prop where
 ex:∃f fd,PySem.W.nsIn K mainGlobals x=some (some (.ref f))/\bT K x x st f fd
theorem FD.mk'{oc:Value}{od an:Option Addr}{osl:Array (Option Value)}{kV doc pm cdv ct:Value}(a:PySem.W.nsIn K mainGlobals x=some (some (.ref f)))(l:K.lookup f=some ⟨oc,od,.func (PySem.W.fnOf x x (iX st) (dZ st) (bB st) .none kV doc pm an cdv ct),osl⟩)
  (c:PySem.W.codeIn K cdv x=true) (k:PySem.W.keepIn K (.ref f)=true):FD K x st:=⟨f,_,a,vG l c k⟩
structure FA(K:xFg)(mg:Str->Option Value)(x:Str)(st:Stmt)(ps:List Str)(f:Addr)(fd:FuncData):Prop where
 F:bT K x x st f fd
 m:mg x=some (.ref f)
 b:bR K fd ps []
theorem FD.go{h:Heap}(d:FD K x st)(X:K.In h)(G:h.Ns mainGlobals mg)(ps:List Str)
  (b:∀(kV doc pm:Value) (an:Option Addr) (cdv ct:Value) (us:List Value),us.length=ps.length->bindArgs (PySem.W.fnOf x x (iX st) (dZ st) (bB st) .none kV doc pm an cdv ct) ⟨us,[]⟩=pure (ps.zip us)):∃f fd,FA K mg x st ps f fd:=by
 obtain⟨f,fd,a,F⟩:=d.ex
 exact⟨f,fd,F,xa3 X G a,F.binds b⟩
abbrev XX(P:Program)(w:World)(K:xFg)(mg:Str->Option Value)(base:Heap)(x:Str)(st:Stmt)(f:Addr)(N:List Str)(k:Nat)(D:Cx->XK->Prop):Prop:=
 ∀cdv A outer s H E,XC (cZ (bM P w) P w K mg base N x (bB st) f cdv A outer s H E) E k->XL (cZ (bM P w) P w K mg base N x (bB st) f cdv A outer s H E)->N.Nodup->D (cZ (bM P w) P w K mg base N x (bB st) f cdv A outer s H E) E
theorem FA.ok(F:FA K mg x st ps f fd)(S:cD N ps (bB st))(hn:ps.length=n)(hN:N.length=nN)
  (hb:XX P w K mg base x st f N k fun X E=>dR X E [] own' [] (dZ st) body):bA P w K mg base (k+1) x (cG n nN body):=
 bA.mk' F.F S F.m F.b hn hN fun X E hX C L=>by
  obtain⟨cdv,A,outer,s,H,rfl⟩:=hX
  exact hb cdv A outer s H E C L S.nd
end
end DL
namespace DL
open L2 PyProof.Rows
section
variable{K:xFg}{mg:Str->Option Value}{G G' H H':Hp}
def kS(K:xFg)(mg:Str->Option Value)(Q:VK)(G H:Hp)(r:List D×Int):Prop:=∀t a vs G' H',Step G H G' H'->H t=none->H a=none->H' t=some (.tup [.ref a,.int r.2])->H' a=some (.lst vs)->G' t=none->G' a=none->Reps K mg G' r.1 vs->Q (.ref t) H'
def spL(K:xFg)(mg:Str->Option Value)(m:List D->R (List D×Int)):Sp:=fun vs H Q E=>∃G ds,Same G H/\Reps K mg G ds vs/\RW (m ds) (kS K mg Q G H) (aX K mg E G H)
structure gW(P:Program)(w:World)(K:xFg)(mg:Str->Option Value)(base:Heap)(k:Nat)(x:Str)(m:List D->R (List D×Int)):Prop where
 ex:∃(f:Addr) (fd:FuncData) (ps:List Str),cF P w K mg base (bM P w) k f fd ps (spL K mg m)/\mg x=some (.ref f)/\PySem.W.keepIn K (.ref f)=true/\bR K fd ps []
theorem gW.mono{P:Program}{w:World}{base:Heap}{j k:Nat}{x:Str}{m:List D->R (List D×Int)}(F:gW P w K mg base j x m)(h:j<=k):gW P w K mg base k x m:=by
 obtain⟨f,fd,ps,h1,h2⟩:=F.ex
 exact⟨f,fd,ps,h1.mono h,h2⟩
def l5(m:List D->R (List D×Int)):List D->R D:=fun ds=>(m ds).bind fun r=>.ok (.tup [.lst r.1,.int r.2])
theorem kS.of_after{Q:VK}{r:List D×Int}(h:aL K mg Q G H (.tup [.lst r.1,.int r.2])):kS K mg Q G H r:=fun t a vs G' H' s n1 n2 h3 h4 g1 g2 r1=>by
 have ta:a≠t:=fun e=>by rw[e,h3] at h4;cases h4
 have e:Same G' (aG (aG G' a (.lst vs)) t (.tup [.ref a,.int r.2])):=fun c u h=>by
  rw[aH (bC h g1),aH (bC h g2)];exact h
 have eh:Same (aG (aG G' a (.lst vs)) t (.tup [.ref a,.int r.2])) H':=fun c u h=>by
  by_cases c1:c=t
  ·subst c1;rw[aU] at h;cases h;exact h3
  ·rw[aH c1] at h
   by_cases c3:c=a
   ·subst c3;rw[aU] at h;cases h;exact h4
   ·rw[aH c3] at h;exact s.e c u h
 have ea:aG (aG G' a (.lst vs)) t (.tup [.ref a,.int r.2]) a=some (.lst vs):=by rw[aH ta,aU]
 refine h (.ref t) _ H' ⟨s.g.trans e,s.h,eh,fun c u q1 q2=>?_⟩ ⟨t,[.ref a,.int r.2],rfl,bG.of aU,Reps.cons ⟨a,vs,rfl,aY.of ea,r1.mono e⟩ (Reps.cons rfl Reps.nil)⟩
 rw[aH (bC q1 n1),aH (bC q1 n2)];exact s.c c u q1 q2
theorem gW.pub{P:Program}{w:World}{base:Heap}{k:Nat}{x:Str}{m:List D->R (List D×Int)}(F:gW P w K mg base k x m):bA P w K mg base k x (l5 m):=by
 obtain⟨f,fd,ps,h1,h2⟩:=F.ex
 exact⟨f,fd,ps,h1.imp fun vs H Q E ⟨G,ds,e,r,q⟩=>⟨G,ds,e,r,q.of_bind.mono (fun r _ z=>kS.of_after z) fun _ z=>z⟩,h2⟩
end
def tF(X:Cx)(E:XK)(st:List Stmt)(f:DSt->R (List D×Int)):Prop:=∀G0,bQ X st (fun Dn σ H=>∃G σd,Ok X.K X.mg X.H₀ [] σd σ G H/\Step G0 X.H₀ G H/\RW (f σd) (kS X.K X.mg Dn.rt G0 X.H₀) (aX X.K X.mg E G0 X.H₀))
def n5(n nN:Nat)(body:DSt->R (List D×Int)):List D->R (List D×Int):=fun ds=>bif ds.length==n then body (fG nN ds) else .bad
theorem XU{n nN:Nat}{b:DSt->R (List D×Int)}{ds:List D}{σ:DSt}(h:ds.length=n)(hσ:fG nN ds=σ):n5 n nN b ds=b σ:=by
 subst h hσ
 show (bif ds.length==ds.length then _ else _)=_
 rw[beq_self_eq_true];rfl
section
variable{X:Cx}{E:XK}{own' ol:List Nat}{x:Nat}{aN:List Stmt}{f g:DSt->R aE}{pos p3:Pos}{e1 e2:Expr}{fl:DSt->R (List D)}{fe:DSt->R D}{kt:Nat}
structure j5(K:xFg)(mg:Str->Option Value)(H0:Hp)(x:Nat)(σd:DSt)(σ:L2.St)(G H:Hp):Prop where
 ok:Ok K mg H0 [] (σd.set x none) σ G H
 pr:∃t a ds n vs,σd[x]? = some (some (.tup [.lst ds,.int n]))/\σ[x]? = some (some (.ref t))/\(H t=some (.tup [.ref a,.int n])/\H a=some (.lst vs))/\(G t=none/\G a=none)/\(H0 t=none/\H0 a=none)/\Reps K mg G ds vs
theorem j5.step{K:xFg}{mg:Str->Option Value}{G G' H H' H0:Hp}{σd:DSt}{σ:L2.St}(o:j5 K mg H0 x σd σ G H)(s:Step G H G' H'):j5 K mg H0 x σd σ G' H':=by
 obtain⟨t,a,ds,n,vs,h1,h2,⟨h3,h4⟩,⟨g1,g2⟩,z,r⟩:=o.pr
 exact⟨o.ok.step s,t,a,ds,n,vs,h1,h2,⟨s.h _ _ h3,s.h _ _ h4⟩,⟨s.c _ _ h3 g1,s.c _ _ h4 g2⟩,z,r.mono s.g⟩
theorem j5.pub{K:xFg}{mg:Str->Option Value}{G G0 H H0:Hp}{σd:DSt}{σ:L2.St}(o:j5 K mg H0 x σd σ G H)(s0:Step G0 H0 G H):∃G1,bH K mg σd σ G1 H/\Step G0 H0 G1 H:=by
 obtain⟨t,a,ds,n,vs,h1,h2,⟨h3,h4⟩,⟨g1,g2⟩,⟨z1,z2⟩,r⟩:=o.pr
 have ta:a≠t:=fun e=>by rw[e,h3] at h4;cases h4
 have e:Same G (aG (aG G a (.lst vs)) t (.tup [.ref a,.int n])):=fun c u h=>by
  rw[aH (bC h g1),aH (bC h g2)];exact h
 have eh:Same (aG (aG G a (.lst vs)) t (.tup [.ref a,.int n])) H:=fun c u h=>by
  by_cases c1:c=t
  ·subst c1;rw[aU] at h;cases h;exact h3
  ·rw[aH c1] at h
   by_cases c3:c=a
   ·subst c3;rw[aU] at h;cases h;exact h4
   ·rw[aH c3] at h;exact o.ok.ext c u h
 have ea:aG (aG G a (.lst vs)) t (.tup [.ref a,.int n]) a=some (.lst vs):=by rw[aH ta,aU]
 refine⟨_,⟨eh,by have:=o.ok.len;simpa using this,fun i d h=>?_⟩,s0.g.trans e,s0.h,eh,fun c u q1 q2=>?_⟩
 ·by_cases hx:i=x
  ·subst hx
   rw[h1] at h;cases h
   exact⟨_,h2,t,[.ref a,.int n],rfl,bG.of aU,Reps.cons ⟨a,vs,rfl,aY.of ea,r.mono e⟩ (Reps.cons rfl Reps.nil)⟩
  ·obtain⟨v,q1,q2⟩:=o.ok.val i d (by simp) (by rw[xae (xay hx)];exact h)
   exact⟨v,q1,q2.mono e⟩
 ·rw[aH (bC q1 z1),aH (bC q1 z2)];exact s0.c c u q1 q2
def kT(X:Cx)(E:XK)(own' ol:List Nat)(x:Nat)(st:List Stmt)(f:DSt->R aE):Prop:=∀G0,bQ X st (fun Dn σ H=>∃G σd,j5 X.K X.mg X.H₀ x σd σ G H/\Step G0 X.H₀ G H/\RW (f σd) (bJ X.K X.mg G0 X.H₀ own' ol Dn G) (aX X.K X.mg E G0 X.H₀))
theorem XV{c:Expr}{a:List Stmt}{fc:DSt->R Bool}(hc:DT X E c fc)(ha:dR X E [] own' ol a f)(hr:kT X E own' ol x aN g):kT X E own' ol x (.If c a [] pos::aN) (xU x fc f g):=fun G0=>
 bQ.mono' (cP (k9 hc (ha G0) mQ) (hr G0)) fun Dn σ H ⟨G,σd,ok,s0,q⟩=>by
 obtain⟨G1,ok1,s1⟩:=ok.pub s0
 refine⟨_,σd,ok1,q.of_bind.mono (fun k _ z G' H' s=>?_) fun _ z=>z.step s1⟩
 have s2:=Step.heap ok.ok.ext s.h
 cases k with
 |true=>
  refine jS ⟨G,σd.set x none,ok.ok.step s2,s0.trans s2,(RW.of_bind (show RW ((f (σd.set x none)).bind _) _ _ from z)).mono (fun o _ z=>?_) fun _ z=>z⟩
  cases o with
  |nx σ1=>exact(show False from z).elim
  |rt d=>exact z
  |rf d=>exact z
  |bk d=>exact z
  |ct d=>exact z
 |false=>exact jR ⟨G,σd,ok.step s2,s0.trans s2,z⟩
end
section
variable{P:Program}{w:World}{K:xFg}{mg:Str->Option Value}{base:Heap}{x:Str}{st:Stmt}{f:Addr}{fd:FuncData}{N ps:List Str}{k n nN:Nat}{body:DSt->R (List D×Int)}
theorem FA.okL(F:FA K mg x st ps f fd)(S:cD N ps (bB st))(hn:ps.length=n)(hN:N.length=nN)
  (hb:XX P w K mg base x st f N k fun X E=>tF X E (dZ st) body):gW P w K mg base (k+1) x (n5 n nN body):=by
 refine⟨f,fd,ps,F.F.okX S (fun vs H Q E h=>?_) (fun cdv A outer s H vs Q E hr hsp=>?_),F.m,F.F.kp,F.b⟩
 ·obtain⟨G,ds,e,r,q⟩:=h
  by_cases hd:ds.length=n
  ·rw[<- r.length,hd,hn]
  ·have:(ds.length==n)=false:=by simpa using hd
   unfold n5 at q
   rw[this] at q
   exact(show False from q).elim
 ·obtain⟨G,ds,e,r,q⟩:=hsp
  have hd:ds.length=n:=by
   by_cases hd:ds.length=n
   ·exact hd
   ·have:(ds.length==n)=false:=by simpa using hd
    unfold n5 at q
    rw[this] at q
    exact(show False from q).elim
  unfold n5 at q
  rw[show (ds.length==n)=true by simpa using hd] at q
  have q':RW (body (fG nN ds)) (kS K mg Q G H) (aX K mg E G H):=q
  refine⟨_,hb cdv A outer s H E ⟨rfl,hr,pG⟩ ⟨PassesOwn.leaving⟩ S.nd G,G,fG nN ds,?_,.refl e,q'⟩
  have:=Reps.startOk e (N.length-vs.length) r
  unfold L2.start fG
  rw[<- hN,r.length]
  exact .zero this
end
end DL
namespace DL
open PySem.W PyProof.Rows
section
variable{n:Nat}{lt:Nat->Nat->Bool}
abbrev sg(p:Array Nat)(i:Nat):Nat:=p.getD i 0
def Dn(lt:Nat->Nat->Bool)(p:Array Nat)(m:Nat):Prop:=∀i j,i<j->j<m->lt (sg p j) (sg p i)=true
end
end DL
namespace DL
open L2 PyProof.Rows
section
variable{K:xFg}{mg:Str->Option Value}{c d:Str}{C D0:Addr}
def NR(K:xFg)(C:Addr)(c d:Str):Prop:=PySem.W.nsIn K mainGlobals d=some none\/∃D0,PySem.W.nsIn K mainGlobals d=some (some (.ref D0))/\PySem.W.kitOne K (.ref C) (.ref D0)=some (lW c d)/\(lW c d=true->PySem.W.exmOne K (.ref C) (.ref D0)=some true)
theorem NR.no(a:PySem.W.nsIn K mainGlobals d=some none):NR K C c d:=.inl a
theorem NR.ff(h:lW c d=false)(a:PySem.W.nsIn K mainGlobals d=some (some (.ref D0)))(t:PySem.W.kitOne K (.ref C) (.ref D0)=some false):NR K C c d:=.inr ⟨D0,a,by rw[h];exact t,fun z=>by rw[h] at z;cases z⟩
theorem NR.tt(h:lW c d=true)(a:PySem.W.nsIn K mainGlobals d=some (some (.ref D0)))(t:PySem.W.kitOne K (.ref C) (.ref D0)=some true)(u:PySem.W.exmOne K (.ref C) (.ref D0)=some true):NR K C c d:=.inr ⟨D0,a,by rw[h];exact t,fun _=>u⟩
theorem NR.row{h:Heap}(r:NR K C c d)(X:K.In h)(G:h.Ns mainGlobals mg):kQ K mg C d (lW c d):=by
 rcases r with a|⟨D0,a,t,u⟩
 ·exact kQ.no (xa8 X G a)
 ·exact kQ.of (xa3 X G a) t u
structure XD(K:xFg)(c:Str):Prop where
 ex:∃C,PySem.W.nsIn K mainGlobals c=some (some (.ref C))/\PySem.W.excIn K C [.type "ValueError",.type "Exception",.type "BaseException",.type "object"] "ValueError.__new__"=true/\lK K C/\PySem.W.kitOne K (.ref C) (.type "ValueError")=some true/\∀d∈kM,NR K C c d
theorem XD.mk'(e:PySem.W.nsIn K mainGlobals c=some (some (.ref C)))(y:PySem.W.excIn K C [.type "ValueError",.type "Exception",.type "BaseException",.type "object"] "ValueError.__new__"=true)
  (ga:PySem.W.findIn K (.ref C) "__getattribute__"=some (some (.builtin "BaseException.__getattribute__"))) (gh:PySem.W.findIn K (.ref C) "__getattr__"=some none) (bs:PySem.W.mroIn K C (.type "BaseException")=some true) (ob:PySem.W.mroIn K C (.type "object")=some true) (ca:PySem.W.findIn K (.ref C) "__class__"=some (some (.builtin "object.__class__")))
  (cg:PySem.W.specialIn K (.builtin "object.__class__") "__get__"=some (some (.builtin "getset_descriptor.__get__"))) (ct:PySem.W.takesIn K (.builtin "object.__class__")=some true) (vv:PySem.W.kitOne K (.ref C) (.type "ValueError")=some true)
  (r0:NR K C c "ChalkError") (r1:NR K C c "NoPlace") (r2:NR K C c "Same") (r3:NR K C c "NoFloor") (r4:NR K C c "Endless") (r5:NR K C c "NoDeed") (r6:NR K C c "NoText") (r7:NR K C c "NoName") (r8:NR K C c "TooMany") (r9:NR K C c "NoChange") (r10:NR K C c "NoFrame") (r11:NR K C c "NoValue") (r12:NR K C c "Unlike") (r13:NR K C c "NoRatio") (r14:NR K C c "NoBow") (r15:NR K C c "NoRow"):XD K c:=by
 refine⟨C,e,y,⟨by (obtain⟨_,hc,_⟩:=PySem.W.kw_along ga;rw[hc];rfl),ga,gh,bs,ob,ca,cg,ct⟩,vv,fun d hd=>?_⟩
 simp only[kM,xa1,xbi,or_false] at hd
 rcases hd with rfl|rfl|rfl|rfl|rfl|rfl|rfl|rfl|rfl|rfl|rfl|rfl|rfl|rfl|rfl|rfl<;>assumption
theorem XD.go{h:Heap}(x:XD K c)(X:K.In h)(G:h.Ns mainGlobals mg):∃C,mg c=some (.ref C)/\PySem.W.excIn K C [.type "ValueError",.type "Exception",.type "BaseException",.type "object"] "ValueError.__new__"=true/\iZ K mg c C:=by
 obtain⟨C,e,y,ec,vv,r⟩:=x.ex
 exact⟨C,xa3 X G e,y,iZ.mk' (xa3 X G e) ec vv fun d hd=>(r d hd).row X G⟩
end
end DL
namespace DL
open PySem
theorem us0{P:List Value->Prop}(h:P []):∀us:List Value,us.length=0->P us:=fun us hl=>by
 cases us with
 |nil=>exact h
 |cons=>cases hl
theorem j6{P:List Value->Prop}(h:∀a,P [a]):∀us:List Value,us.length=1->P us:=fun us hl=>by
 cases us with
 |nil=>cases hl
 |cons a us=>exact us0 (P:=fun l=>P (a::l)) (h a) us (Nat.succ.inj hl)
theorem n8{P:List Value->Prop}(h:∀a b,P [a,b]):∀us:List Value,us.length=2->P us:=fun us hl=>by
 cases us with
 |nil=>cases hl
 |cons a us=>exact j6 (P:=fun l=>P (a::l)) (h a) us (Nat.succ.inj hl)
theorem gX{P:List Value->Prop}(h:∀a b c,P [a,b,c]):∀us:List Value,us.length=3->P us:=fun us hl=>by
 cases us with
 |nil=>cases hl
 |cons a us=>exact n8 (P:=fun l=>P (a::l)) (h a) us (Nat.succ.inj hl)
theorem us4{P:List Value->Prop}(h:∀a b c d,P [a,b,c,d]):∀us:List Value,us.length=4->P us:=fun us hl=>by
 cases us with
 |nil=>cases hl
 |cons a us=>exact gX (P:=fun l=>P (a::l)) (h a) us (Nat.succ.inj hl)
theorem us5{P:List Value->Prop}(h:∀a b c d e,P [a,b,c,d,e]):∀us:List Value,us.length=5->P us:=fun us hl=>by
 cases us with
 |nil=>cases hl
 |cons a us=>exact us4 (P:=fun l=>P (a::l)) (h a) us (Nat.succ.inj hl)
end DL
namespace DL
open L2 PyProof.Rows
variable{X:Cx}{E:XK}{own ol:List Nat}{x y:Str}{pos pos' np:Pos}
def n9(i j:Nat):DSt->R aE:=fun σ=>(bL σ i).bind fun ds=>match ds[ds.length-1]? with
 |some d=>.ok (.nx ((σ.set i (some (.lst ds.dropLast))).set j (some d)))
 |none=>.bad
theorem Reps.dropLast{K:xFg}{mg:Str->Option Value}{G:Hp}{ds:List D}{vs:List V}(h:Reps K mg G ds vs):Reps K mg G ds.dropLast vs.dropLast:=by
 rw[List.dropLast_eq_take,List.dropLast_eq_take,h.length];exact h.take _
theorem xV(i j:Nat){apos cpos:Pos}(hN:X.N.Nodup)(ho:own.contains i=true:=by rfl)(ho':own.contains j=false:=by rfl)(hi:X.N[i]? = some x:=by rfl)(hj:X.N[j]? = some y:=by rfl)(hv:cB X.env.scope x:=by first|exact Or.inl rfl|exact Or.inr (Or.inl rfl)|exact Or.inr (Or.inr rfl))(hd:(x==("__debug__":Str))=false:=by decide)
  (hcd:(x==("__classdict__":Str))=false:=by decide) (hy:eM X.env.scope y:=by first|exact Or.inl rfl|exact Or.inr rfl)
  (hbase:attributeBase (.Name x np) "pop" X.env (eval (.Name x np) X.env)=eval (.Name x np) X.env:=by rfl) (hline:(apos.endLine==cpos.line)=true:=by rfl)
  (hs:swapsWith (.Call (.Attribute (.Name x np) "pop" apos) [] [] cpos) (some (.Name y pos')) pos.line X.env=pure false:=by rfl)
  (hf:X.fn y=true\/X.env.scope.names.lookup y=some .local:=by first|exact .inl rfl|exact .inr rfl|assumption) :
  DS X E own own ol (.Assign [.Name y pos'] (.Call (.Attribute (.Name x np) "pop" apos) [] [] cpos) pos) (n9 i j):=fun G0=>
 PS.mono' (gH hN hj hy (mY PySem.F.plainAttrs_list PySem.F.slot_list_pop PySem.F.type_list_pop rJ (pv i hi hv hd hcd) hbase hline) hs hf) fun Dn σ H ⟨G,σd,ok,s0,q⟩=>by
 have q1:=q.of_bind
 cases hL:bL σd i with
 |bad=>rw[hL] at q1;exact q1.elim
 |err e=>exact xaq hL i8
 |ok ds=>
  rw[hL] at q1
  have hd:=fO hL
  have hm:i∈own:=by simpa using ho
  obtain⟨a,ds',vs,p1,p2,p3,p4,p5,p6⟩:=ok.mine i _ hm hd
  cases p2
  cases hg:ds[ds.length-1]? with
  |none=>
   have q2:RW (match ds[ds.length-1]? with
    |some d=>R.ok (.nx ((σd.set i (some (.lst ds.dropLast))).set j (some d)))
    |none=>.bad) (bJ X.K X.mg G0 X.H₀ own ol Dn G) (aX X.K X.mg E G0 X.H₀):=q1
   rw[hg] at q2;exact(show False from q2).elim
  |some d=>
   have q2:RW (match ds[ds.length-1]? with
    |some d=>R.ok (.nx ((σd.set i (some (.lst ds.dropLast))).set j (some d)))
    |none=>.bad) (bJ X.K X.mg G0 X.H₀ own ol Dn G) (aX X.K X.mg E G0 X.H₀):=q1
   rw[hg] at q2
   obtain⟨v,hv',r⟩:=p6.get hg
   rw[p6.length] at hv'
   refine⟨_,p1,.inl ⟨rfl,_,aY.of p3⟩,a,vs,v,rfl,rfl,p3,hv',?_⟩
   exact(show bJ X.K X.mg G0 X.H₀ own ol Dn G (.nx ((σd.set i (some (.lst ds.dropLast))).set j (some d))) from q2) _ G _ ((ok.write hm hd p1 p6.dropLast).set (B3 ho') r) (s0.write (o:=.lst vs) p5 p4) (Same.refl _)
end DL
namespace DL
open L2 PyProof.Rows
variable{P:Program}{w:World}{K:xFg}{mg:Str->Option Value}{base:Heap}{x:Str}{st:Stmt}{ps N:List Str}{f:Addr}{fd:FuncData}{k n nN:Nat}{own':List Nat}
def JO:List D->R D:=fun _=>.bad
def oA(g:(List D->R D)->List D->R D):Nat->List D->R D
 |0=>JO
 |n+1=>g (oA g n)
theorem FA.bad(F:FA K mg x st ps f fd)(S:cD N ps (bB st)):bA P w K mg base (k+1) x JO:=by
 refine⟨f,fd,ps,F.F.okX S (fun vs H Q E h=>?_) (fun cdv A outer s H vs Q E hr hsp=>?_),F.m,F.F.kp,F.b⟩
 ·obtain⟨G,ds,e,r,q⟩:=h
  exact(show False from q).elim
 ·obtain⟨G,ds,e,r,q⟩:=hsp
  exact(show False from q).elim
theorem FA.deep(F:FA K mg x st ps f fd)(S:cD N ps (bB st))(hn:ps.length=n)(hN:N.length=nN){body:(List D->R D)->DSt->R aE}
  (hb:∀(j:Nat) (m:List D->R D),bA P w K mg base (k+1+j) x m->XX P w K mg base x st f N (k+1+j) fun X E=>dR X E [] own' [] (dZ st) (body m)) :
  ∀j,bA P w K mg base (k+1+j) x (oA (fun m=>cG n nN (body m)) j)
 |0=>FA.bad F S
 |j+1=>F.ok S hn hN (hb j _ (FA.deep F S hn hN hb j))
end DL
section
namespace L2
open PySem.Spec PyProof.Rows PySem.Calls
variable{X:Cx}
theorem JP:∀{xs:List V} {its:List Value},aP xs its->aP xs.reverse its.reverse
 |_,_,.nil=>.nil
 |_,_,.cons r t=>by
  rw[xbm,xbm]
  exact(JP t).append (.cons r .nil)
def XY:V->List V->Hp->VK->Prop:=fun x vs H Q=>∃l xs,x=.ref l/\vs=[]/\H l=some (.lst xs)/\Q .non (aG H l (.lst xs.reverse))
theorem XZ:pE X "list.reverse" XY:=by
 intro pins s σ H x vs v us Q I rx rv h
 obtain⟨l,xs,rfl,rfl,hH,q⟩:=h
 cases rx
 have hus:=rv.zero
 subst hus
 obtain⟨z,its,n,r,hl,e⟩:=I.lstM hH
 refine call_meets F.slot_list_reverse ⟨_,e,rfl⟩ F.entry_list_reverse (F.args_list_reverse_1 _) (AutoSeq1.list_reverse_list_0 l its.toArray n (by rw[xaj];omega)) ⟨e,?_⟩
 exact⟨.non,_,I.lset (its':=its.reverse) hH e (by simp) (JP r) (by rw[List.length_reverse];omega),rfl,q⟩
end L2
namespace DL
open L2 PyProof.Rows
variable{X:Cx}{E:XK}{own ol:List Nat}{x y:Str}{pos pos' np:Pos}
def JQ(i:Nat):DSt->R aE:=fun σ=>(bL σ i).bind fun ds=>.ok (.nx (σ.set i (some (.lst ds.reverse))))
theorem X0(i:Nat){apos cpos:Pos}(ho:own.contains i=true:=by rfl)(hN:X.N[i]? = some x:=by rfl)(hv:cB X.env.scope x:=by first|exact Or.inl rfl|exact Or.inr (Or.inl rfl)|exact Or.inr (Or.inr rfl))(hd:(x==("__debug__":Str))=false:=by decide)
  (hcd:(x==("__classdict__":Str))=false:=by decide) (hbase:attributeBase (.Name x np) "reverse" X.env (eval (.Name x np) X.env)=eval (.Name x np) X.env:=by rfl) (hline:(apos.endLine==cpos.line)=true:=by rfl)
  (hsw:swapsWith (.Call (.Attribute (.Name x np) "reverse" apos) [] [] cpos) none pos.line X.env=pure false:=by rfl) :
  DS X E own own ol (.Expr (.Call (.Attribute (.Name x np) "reverse" apos) [] [] cpos) pos) (JQ i):=fun G0=>
 PS.mono' (jN (mY PySem.F.plainAttrs_list PySem.F.slot_list_reverse PySem.F.type_list_reverse XZ (pv i hN hv hd hcd) hbase hline) hsw) fun Dn σ H ⟨G,σd,ok,s0,q⟩=>by
 have q1:=q.of_bind
 cases hL:bL σd i with
 |bad=>rw[hL] at q1;exact q1.elim
 |err e=>exact xaq hL i8
 |ok ds=>
  rw[hL] at q1
  have hd:=fO hL
  have hi:i∈own:=by simpa using ho
  obtain⟨a,ds',vs,p1,p2,p3,p4,p5,p6⟩:=ok.mine i _ hi hd
  cases p2
  refine⟨_,p1,.inl ⟨rfl,_,aY.of p3⟩,a,vs,rfl,rfl,p3,?_⟩
  exact(show bJ X.K X.mg G0 X.H₀ own ol Dn G (.nx (σd.set i (some (.lst ds.reverse)))) from q1) σ G _ (ok.write hi hd p1 p6.reverse) (s0.write (o:=.lst vs) p5 p4) (Same.refl _)
end DL
end
namespace DL
open L2 PyProof.Rows
variable{X:Cx}{E:XK}{own ol:List Nat}{x y:Str}{pos np nq:Pos}{e1 e2:Expr}{f1 f2:DSt->R D}
def qF(own:List Nat)(i j:Nat)(f1 f2:DSt->R D):DSt->R aE:=fun σ=>(bL σ i).bind fun _=>(f1 (mask own σ)).bind fun d1=>(bL σ j).bind fun ds=>match ds[ds.length-1]? with
 |some d=>(f2 (mask own (σ.set j (some (.lst ds.dropLast))))).bind fun d2=>(bL (σ.set j (some (.lst ds.dropLast))) i).bind fun xs=>bif most xs.length then .ok (.nx ((σ.set j (some (.lst ds.dropLast))).set i (some (.lst (xs++[.tup [d1,d,d2]]))))) else .bad
 |none=>.bad
theorem X1(i j:Nat){apos bpos cpos dpos tpos:Pos}{x1}(h1:DE X E e1 f1)(h2:DE X E e2 f2)(ho:own.contains i=true:=by rfl)(ho':own.contains j=true:=by rfl)(hN:X.N[i]? = some x:=by rfl)(hM:X.N[j]? = some y:=by rfl)
  (hv:cB X.env.scope x:=by first|exact Or.inl rfl|exact Or.inr (Or.inl rfl)|exact Or.inr (Or.inr rfl)) (hd:(x==("__debug__":Str))=false:=by decide) (hcd:(x==("__classdict__":Str))=false:=by decide)
  (hv':cB X.env.scope y:=by first|exact Or.inl rfl|exact Or.inr (Or.inl rfl)|exact Or.inr (Or.inr rfl)) (hd':(y==("__debug__":Str))=false:=by decide) (hcd':(y==("__classdict__":Str))=false:=by decide)
  (hbase:attributeBase (.Name x np) "append" X.env (eval (.Name x np) X.env)=eval (.Name x np) X.env:=by rfl) (hbase':attributeBase (.Name y nq) "pop" X.env (eval (.Name y nq) X.env)=eval (.Name y nq) X.env:=by rfl)
  (hfew:((backTo cpos (starEach [.Tuple [e1,.Call (.Attribute (.Name y nq) "pop" bpos) [] [] dpos,e2] x1 tpos] X.env)).all (fun x=>!x.1)&&(backToKw cpos (keywordEach [] X.env)).all (fun x=>x.1.isSome)&&decide ([Expr.Tuple [e1,.Call (.Attribute (.Name y nq) "pop" bpos) [] [] dpos,e2] x1 tpos].length+([]:List Keyword).length+(if ([]:List Keyword).isEmpty then 0 else 1)<30))=true:=by rfl)
  (hline:(apos.endLine==cpos.line)=true:=by rfl) (hline':(bpos.endLine==dpos.line)=true:=by rfl)
  (hs:starEach [.Tuple [e1,.Call (.Attribute (.Name y nq) "pop" bpos) [] [] dpos,e2] x1 tpos] X.env=(false,eval (.Tuple [e1,.Call (.Attribute (.Name y nq) "pop" bpos) [] [] dpos,e2] x1 tpos) X.env)::starEach [] X.env:=by rfl) (hplain:(backTo cpos (starEach [] X.env)).any (·.1)=false:=by rfl)
  (hs1:starEach [e1,.Call (.Attribute (.Name y nq) "pop" bpos) [] [] dpos,e2] X.env=(false,eval e1 X.env)::starEach [.Call (.Attribute (.Name y nq) "pop" bpos) [] [] dpos,e2] X.env:=by rfl)
  (hs2:starEach [.Call (.Attribute (.Name y nq) "pop" bpos) [] [] dpos,e2] X.env=(false,eval (.Call (.Attribute (.Name y nq) "pop" bpos) [] [] dpos) X.env)::starEach [e2] X.env:=by rfl)
  (hs3:starEach [e2] X.env=(false,eval e2 X.env)::starEach [] X.env:=by rfl)
  (hsw:swapsWith (.Call (.Attribute (.Name x np) "append" apos) [.Tuple [e1,.Call (.Attribute (.Name y nq) "pop" bpos) [] [] dpos,e2] x1 tpos] [] cpos) none pos.line X.env=pure false:=by rfl) :
  DS X E own own ol (.Expr (.Call (.Attribute (.Name x np) "append" apos) [.Tuple [e1,.Call (.Attribute (.Name y nq) "pop" bpos) [] [] dpos,e2] x1 tpos] [] cpos) pos) (qF own i j f1 f2):=fun G0=>
 PS.mono' (jN (jQ PySem.F.plainAttrs_list PySem.F.slot_list_append PySem.F.type_list_append lH (pv i hN hv hd hcd)
  (cL (mW (cL h1 (cL (mY PySem.F.plainAttrs_list PySem.F.slot_list_pop PySem.F.type_list_pop rJ (pv j hM hv' hd' hcd') hbase' hline') (cL h2 dM hs3) hs2) hs1)) dM hs) hbase hfew hline hs hplain) hsw) fun Dn σ H ⟨G,σd,ok,s0,q⟩=>by
 have hi:i∈own:=by simpa using ho
 have hj:j∈own:=by simpa using ho'
 have q0:=q.of_bind
 cases hL:bL σd i with
 |bad=>rw[hL] at q0;exact q0.elim
 |err e=>exact xaq hL i8
 |ok xs0=>
  rw[hL] at q0
  obtain⟨a,_,vs0,p1,_,p0,_⟩:=ok.mine i _ hi (fO hL)
  refine⟨_,p1,.inl ⟨rfl,_,aY.of p0⟩,?_⟩
  refine⟨G,mask own σd,ok.masked,(show RW ((f1 (mask own σd)).bind _) (bJ X.K X.mg G0 X.H₀ own ol Dn G) (aX X.K X.mg E G0 X.H₀) from q0).of_bind.mono (fun d1 _ q1 v1 G1 H1 st1 r1=>?_) fun _ z=>z.step s0⟩
  have ok1:=ok.step st1
  have s1:=s0.trans st1
  have q2:=q1.of_bind
  cases hJ:bL σd j with
  |bad=>rw[hJ] at q2;exact q2.elim
  |err e=>exact xaq hJ i8
  |ok ds=>
   rw[hJ] at q2
   obtain⟨b,ds',vs,p3,p4,p5,p6,p7,p8⟩:=ok1.mine j _ hj (fO hJ)
   cases p4
   cases hg:ds[ds.length-1]? with
   |none=>
    have q3:RW (match ds[ds.length-1]? with
     |some d=>(f2 (mask own (σd.set j (some (.lst ds.dropLast))))).bind fun d2=>(bL (σd.set j (some (.lst ds.dropLast))) i).bind fun xs=>bif most xs.length then R.ok (.nx ((σd.set j (some (.lst ds.dropLast))).set i (some (.lst (xs++[.tup [d1,d,d2]]))))) else .bad
     |none=>.bad) (bJ X.K X.mg G0 X.H₀ own ol Dn G) (aX X.K X.mg E G0 X.H₀):=q2
    rw[hg] at q3;exact(show False from q3).elim
   |some d=>
    have q3:RW (match ds[ds.length-1]? with
     |some d=>(f2 (mask own (σd.set j (some (.lst ds.dropLast))))).bind fun d2=>(bL (σd.set j (some (.lst ds.dropLast))) i).bind fun xs=>bif most xs.length then R.ok (.nx ((σd.set j (some (.lst ds.dropLast))).set i (some (.lst (xs++[.tup [d1,d,d2]]))))) else .bad
     |none=>.bad) (bJ X.K X.mg G0 X.H₀ own ol Dn G) (aX X.K X.mg E G0 X.H₀):=q2
    rw[hg] at q3
    obtain⟨v,hv1,rv⟩:=p8.get hg
    rw[p8.length] at hv1
    refine⟨_,p3,.inl ⟨rfl,_,aY.of p5⟩,b,vs,v,rfl,rfl,p5,hv1,?_⟩
    have ok2:=ok1.write hj (fO hJ) p3 p8.dropLast
    have s2:=s1.write (o:=.lst vs) (u:=.lst vs.dropLast) p7 p6
    refine⟨G1,mask own (σd.set j (some (.lst ds.dropLast))),ok2.masked,(show RW ((f2 (mask own (σd.set j (some (.lst ds.dropLast))))).bind _) (bJ X.K X.mg G0 X.H₀ own ol Dn G) (aX X.K X.mg E G0 X.H₀) from q3).of_bind.mono (fun d2 _ q4 v2 G3 H3 st3 r3=>?_) fun _ z=>z.step s2⟩
    refine⟨by show 3<=sizeLine;decide,fun p hp=>?_⟩
    have ok3:=ok2.step st3
    have sp:Step G3 H3 (aG G3 p (.tup [v1,v,v2])) (aG H3 p (.tup [v1,v,v2])):=.pub ok3.ext hp
    have ok4:=ok3.step sp
    have q5:=q4.of_bind
    cases hI:bL (σd.set j (some (.lst ds.dropLast))) i with
    |bad=>rw[hI] at q5;exact q5.elim
    |err e=>exact xaq hI i8
    |ok xs=>
     rw[hI] at q5
     have q6:RW (bif most xs.length then R.ok (.nx ((σd.set j (some (.lst ds.dropLast))).set i (some (.lst (xs++[.tup [d1,d,d2]]))))) else .bad) (bJ X.K X.mg G0 X.H₀ own ol Dn G) (aX X.K X.mg E G0 X.H₀):=q5
     obtain⟨a',xs',ws,p9,p10,p11,p12,p13,p14⟩:=ok4.mine i _ hi (fO hI)
     cases p10
     rw[p1] at p9
     cases p9
     cases hm:most xs.length with
     |false=>rw[hm] at q6;exact(show False from q6).elim
     |true=>
      rw[hm] at q6
      have hlt:xs.length<sizeLine:=xau hm
      refine⟨a,ws,.ref p,rfl,rfl,p11,by rw[<- p14.length];exact hlt,?_⟩
      have rt:aR X.K X.mg (aG G3 p (.tup [v1,v,v2])) (.tup [d1,d,d2]) (.ref p):=⟨p,[v1,v,v2],rfl,bG.of aU,Reps.cons (r1.mono (st3.g.trans sp.g)) (Reps.cons (rv.mono (st3.g.trans sp.g)) (Reps.cons (r3.mono sp.g) Reps.nil))⟩
      exact(show bJ X.K X.mg G0 X.H₀ own ol Dn G (.nx ((σd.set j (some (.lst ds.dropLast))).set i (some (.lst (xs++[.tup [d1,d,d2]]))))) from q6) σ _ _ (ok4.write hi (fO hI) p1 (p14.append (Reps.cons rt Reps.nil))) ((s2.trans (st3.trans sp)).write (o:=.lst ws) p13 p12) (st1.g.trans (st3.g.trans sp.g))
end DL
namespace L2
open PySem.Spec PyProof.Rows
section
variable{κ:Type}[DecidableEq κ]
def bW(kvs:List (κ×V))(k:κ):Option V:=(kvs.find? fun kv=>decide (kv.1=k)).map (·.2)
def putK(kvs:List (κ×V))(k:κ)(v:V):List (κ×V):=
 if (kvs.any fun kv=>decide (kv.1=k))=true then kvs.map (fun kv=>if kv.1=k then (kv.1,v) else kv) else kvs++[(k,v)]
theorem gY{p:κ×V}{r:List (κ×V)}{k:κ}(e:p.1=k):bW (p::r) k=some p.2:=by simp[bW,xb2,e]
theorem fZ{p:κ×V}{r:List (κ×V)}{k:κ}(e:¬p.1=k):bW (p::r) k=bW r k:=by simp[bW,xb2,e]
theorem qG(k:κ):∀kvs:List (κ×V),(kvs.any fun kv=>decide (kv.1=k))=(bW kvs k).isSome
 |[]=>rfl
 |p::r=>by
  rw[xb7]
  by_cases e:p.1=k
  ·simp only[gY e,xah e,Bool.true_or,Option.isSome_some]
  ·rw[fZ e,xax e,Bool.false_or];exact qG k r
theorem JR(k j:κ)(y:V):∀kvs:List (κ×V),bW (kvs.map fun kv=>if kv.1=k then (kv.1,y) else kv) j=(bW kvs j).map fun x=>if j=k then y else x
 |[]=>rfl
 |p::r=>by
  have ih:=JR k j y r
  rw[xa5]
  by_cases h:p.1=k
  ·rw[xal h]
   by_cases e:p.1=j
   ·rw[gY (p:=(p.1,y)) e,gY e,xca,xal (e.symm.trans h)]
   ·rw[fZ (p:=(p.1,y)) e,fZ e,ih]
  ·rw[xak h]
   by_cases e:p.1=j
   ·rw[gY (p:=p) e,gY e,xca,xak (fun z=>h (e.trans z))]
   ·rw[fZ (p:=p) e,fZ e,ih]
theorem JT(k j:κ)(y:V):∀kvs:List (κ×V),bW kvs k=none->bW (kvs++[(k,y)]) j=if j=k then some y else bW kvs j
 |[],_=>by
  by_cases e:k=j
  ·rw[xal e.symm];exact gY (p:=(k,y)) e
  ·rw[xak (fun z=>e z.symm)];exact fZ (p:=(k,y)) e
 |p::r,hn=>by
  rw[xch]
  have hk:¬p.1=k:=fun z=>by rw[gY z] at hn;cases hn
  rw[fZ hk] at hn
  have ih:=JT k j y r hn
  by_cases e:p.1=j
  ·rw[gY e,gY e,xak (fun z=>hk (e.trans z))]
  ·rw[fZ e,fZ e,ih]
theorem oB(kvs:List (κ×V))(k j:κ)(y:V):bW (putK kvs k y) j=if j=k then some y else bW kvs j:=by
 unfold putK
 by_cases a:(kvs.any fun kv=>decide (kv.1=k))=true
 ·rw[xal a,JR]
  rw[qG] at a
  by_cases e:j=k
  ·obtain⟨x,hx⟩:=xbv.mp a
   rw[xal e,e,hx,xca,xal rfl]
  ·rw[xak e]
   cases bW kvs j with
   |none=>rfl
   |some x=>rw[xca,xak e]
 ·rw[xak a]
  refine JT k j y kvs ?_
  rw[qG] at a
  cases q:bW kvs k with
  |none=>rfl
  |some x=>rw[q] at a;exact(a rfl).elim
theorem JU(kvs:List (κ×V))(k:κ)(v:V):(putK kvs k v).length<=kvs.length+1:=by
 unfold putK
 split
 ·rw[xai];omega
 ·rw[xa2,xao,xbo];omega
theorem putK_new{kvs:List (κ×V)}{k:κ}(v:V)(h:bW kvs k=none):putK kvs k v=kvs++[(k,v)]:=by
 unfold putK
 rw[qG,h]
 exact xak (by decide)
theorem eL.isSome_eq{o:Option V}{u:Option Value}(r:eL o u):o.isSome=u.isSome:=by
 cases o with
 |none=>cases u with
  |none=>rfl
  |some _=>exact(show False from r).elim
 |some _=>cases u with
  |none=>exact(show False from r).elim
  |some _=>rfl
theorem KV.val{kvs:List (κ×V)}{vs:List (κ×Value)}(r:KV kvs vs)(k:κ):eL (bW kvs k) (valueAt vs k):=by
 unfold KV at r
 induction r with
 |nil=>exact True.intro
 | @cons p q ps qs h t ih=>
  obtain⟨h1,h2⟩:=h
  by_cases e:p.1=k
  ·have e':q.1=k:=h1.symm.trans e
   have b:valueAt (q::qs) k=some q.2:=by simp[valueAt,xb2,e']
   rw[gY e,b];exact h2
  ·have e':¬q.1=k:=fun z=>e (h1.trans z)
   have b:valueAt (q::qs) k=valueAt qs k:=by simp[valueAt,xb2,e']
   rw[fZ e,b];exact ih
theorem KV.any{kvs:List (κ×V)}{vs:List (κ×Value)}(r:KV kvs vs)(k:κ):(kvs.any fun kv=>decide (kv.1=k))=vs.any fun kv=>decide (kv.1=k):=by
 unfold KV at r
 induction r with
 |nil=>rfl
 |cons h t ih=>rw[xb7,xb7,ih,h.1]
theorem KV.repl{kvs:List (κ×V)}{vs:List (κ×Value)}(r:KV kvs vs)(k:κ){y:V}{u:Value}(ry:aM y u) :
  KV (kvs.map fun kv=>if kv.1=k then (kv.1,y) else kv) (vs.map fun kv=>if kv.1=k then (kv.1,u) else kv):=by
 unfold KV at r ⊢
 induction r with
 |nil=>exact .nil
 | @cons p q ps qs h t ih=>
  rw[xa5,xa5]
  refine .cons ?_ ih
  obtain⟨h1,h2⟩:=h
  by_cases e:p.1=k
  ·rw[xal e,xal (h1.symm.trans e)];exact⟨h1,ry⟩
  ·rw[xak e,xak (fun z=>e (h1.trans z))];exact⟨h1,h2⟩
theorem KV.put{kvs:List (κ×V)}{vs:List (κ×Value)}(r:KV kvs vs)(k:κ){y:V}{u:Value}(ry:aM y u):KV (putK kvs k y) (stored vs k u):=by
 unfold putK stored
 rw[r.any k]
 by_cases e:(vs.any fun kv=>decide (kv.1=k))=true
 ·rw[xal e,xal e];exact r.repl k ry
 ·rw[xak e,xak e];exact Paired.snoc r ⟨rfl,ry⟩
theorem KV.length{kvs:List (κ×V)}{vs:List (κ×Value)}(r:KV kvs vs):kvs.length=vs.length:=Paired.length r
end
theorem oC{P:Program}{w:World}{k:Key}{u:Value}(r:aM (kV k) u):(fC P w).is k u=true:=by
 cases k with
 |inl i=>obtain⟨t,e⟩:=(show ∃t,u=Value.int i t from r);subst e;exact OD P w i t
 |inr x=>obtain⟨t,e⟩:=(show ∃t,u=Value.str x t from r);subst e;exact OE P w x t
theorem JV{P:Program}{w:World}:∀{ks:List Key} {us:List Value},aP (ks.map kV) us->ItemsAre (fC P w) ks us
 |[],_,r=>by rw[xcc] at r;cases r;exact .nil
 |k::ks,_,r=>by
  rw[xa5] at r
  cases r with
  |cons h t=>exact .cons (oC h) (JV t)
abbrev KT(H:Hp):List (List Key×V)->List (List Key×Addr×Value)->Prop:=Paired fun p q=>p.1=q.1/\H q.2.1=some (.tup (p.1.map kV))/\aM p.2 q.2.2
theorem KT.val{H:Hp}{kvs:List (List Key×V)}{xs:List (List Key×Addr×Value)}(r:KT H kvs xs)(k:List Key):eL (bW kvs k) ((atKey xs k).map (·.2)):=by
 induction r with
 |nil=>exact True.intro
 | @cons p q ps qs h t ih=>
  obtain⟨h1,_,h2⟩:=h
  by_cases e:p.1=k
  ·have e':q.1=k:=h1.symm.trans e
   have b:atKey (q::qs) k=some q.2:=by simp[atKey,xb2,e']
   rw[gY e,b];exact h2
  ·have e':¬q.1=k:=fun z=>e (h1.trans z)
   have b:atKey (q::qs) k=atKey qs k:=by simp[atKey,xb2,e']
   rw[fZ e,b];exact ih
theorem KT.repl{H:Hp}{kvs:List (List Key×V)}{xs:List (List Key×Addr×Value)}(r:KT H kvs xs)(k:List Key){y:V}{u:Value}(ry:aM y u) :
  KT H (kvs.map fun kv=>if kv.1=k then (kv.1,y) else kv) (xs.map (putAt k u)):=by
 induction r with
 |nil=>exact .nil
 | @cons p q ps qs h t ih=>
  rw[xa5,xa5]
  refine .cons ?_ ih
  obtain⟨h1,h2,h3⟩:=h
  unfold putAt
  by_cases e:p.1=k
  ·rw[xal e,xal (h1.symm.trans e)];exact⟨h1,h2,ry⟩
  ·rw[xak e,xak (fun z=>e (h1.trans z))];exact⟨h1,h2,h3⟩
theorem KT.put{H:Hp}{kvs:List (List Key×V)}{xs:List (List Key×Addr×Value)}(r:KT H kvs xs)(k:List Key){b:Addr}{y:V}{u:Value}(hb:H b=some (.tup (k.map kV)))(ry:aM y u) :
  KT H (putK kvs k y) (storedH xs k b u):=by
 have e:(kvs.any fun kv=>decide (kv.1=k))=(atKey xs k).isSome:=by
  rw[qG,(r.val k).isSome_eq,xcf]
 unfold putK storedH
 rw[e]
 by_cases q:(atKey xs k).isSome=true
 ·rw[xal q,xal q];exact r.repl k ry
 ·rw[xak q,xak q];exact Paired.snoc r ⟨rfl,hb,ry⟩
theorem KT.keeps{H H':Hp}{kvs:List (List Key×V)}{xs:List (List Key×Addr×Value)}(r:KT H kvs xs)(ht:∀b ys,H b=some (.tup ys)->H' b=some (.tup ys)):KT H' kvs xs:=
 Paired.mapP r fun _ _ z=>⟨z.1,ht _ _ z.2.1,z.2.2⟩
section
variable{P:Program}{w:World}{H:Hp}{h:Heap}{a:Addr}
theorem JW{u:HO}(ok:bY P w H h)(e:Rd H a u):cW P w H h a u:=e.ok ok
theorem qH{kvs:List (Key×V)}(ok:bY P w H h)(e:Rd H a (.dK kvs)):kvs.length<=sizeLine/\(a==sysModules)=false/\∃vs,KV kvs vs/\h.DictOf (fC P w) a vs:=
 show cW P w H h a (.dK kvs) from JW ok e
theorem X2{kvs:List (Key×V)}(ok:bY P w H h)(e:H a=some (.dK kvs)):kvs.length<=sizeLine/\(a==sysModules)=false/\∃vs,KV kvs vs/\h.DictOf (fC P w) a vs:=qH ok (.inl e)
theorem qI{ks:List Key}(ok:bY P w H h)(e:H a=some (.tup (ks.map kV))):(tupleKind (fC P w)).is h ks a:=by
 obtain⟨_,its,r,o,h1,h2,⟨n,h3⟩,_⟩:=(show cW P w H h a (.tup (ks.map kV)) from ok a _ e)
 exact⟨o,its.toArray,n,h1,h2,h3,by simpa using JV r⟩
theorem qJ{kvs:List (List Key×V)}(ok:bY P w H h)(e:Rd H a (.dT kvs)):kvs.length<=sizeLine/\(a==sysModules)=false/\
  ∃xs,KT H kvs xs/\h.DictOfH (tupleKind (fC P w)) a xs:=by
 obtain⟨z,y,xs,r,o,es,ep,h1,h2,h3,h4,h5⟩:=(show cW P w H h a (.dT kvs) from JW ok e)
 refine⟨z,y,xs,r,o,es,ep,h1,h2,h3,h4,fun x hx=>?_,h5⟩
 have all:∀{l:List (List Key×V)} {m:List (List Key×Addr×Value)},KT H l m->∀x∈m,(tupleKind (fC P w)).is h x.1 x.2.1:=by
  intro l m q
  induction q with
  |nil=>intro x hx;exact nomatch hx
  | @cons p q ps qs hq t ih=>
   intro x hx
   rcases xa1.mp hx with e|hx
   ·subst e
    exact qI ok (by rw[<- hq.1];exact hq.2.1)
   ·exact ih x hx
 exact all r x hx
theorem X3{kvs:List (List Key×V)}(ok:bY P w H h)(e:H a=some (.dT kvs)):kvs.length<=sizeLine/\(a==sysModules)=false/\
  ∃xs,KT H kvs xs/\h.DictOfH (tupleKind (fC P w)) a xs:=qJ ok (.inl e)
end
def fR(H:Hp)(a:Addr)(y:V)(r:Option V):Prop:=
 (∃kvs k,Rd H a (.dK kvs)/\y=kV k/\r=bW kvs k)\/∃kvs k b,Rd H a (.dT kvs)/\y=.ref b/\H b=some (.tup (k.map kV))/\r=bW kvs k
def oE(H:Hp)(a:Addr)(y v:V)(H':Hp):Prop:=
 (∃kvs k,H a=some (.dK kvs)/\y=kV k/\kvs.length<sizeLine/\H'=aG H a (.dK (putK kvs k v)))\/
 ∃kvs k b,H a=some (.dT kvs)/\y=.ref b/\H b=some (.tup (k.map kV))/\kvs.length<sizeLine/\H'=aG H a (.dT (putK kvs k v))
theorem fR.t{H:Hp}{a b:Addr}{kvs:List (List Key×V)}{k:List Key}(e:H a=some (.dT kvs))(eb:H b=some (.tup (k.map kV))):fR H a (.ref b) (bW kvs k):=.inr ⟨kvs,k,b,.inl e,rfl,eb,rfl⟩
theorem oE.t{H:Hp}{a b:Addr}{kvs:List (List Key×V)}{k:List Key}{v:V}(e:H a=some (.dT kvs))(eb:H b=some (.tup (k.map kV)))(hl:kvs.length<sizeLine) :
  oE H a (.ref b) v (aG H a (.dT (putK kvs k v))):=.inr ⟨kvs,k,b,e,rfl,eb,hl,rfl⟩
section
variable{X:Cx}{pins:List (Addr×Obj)}{σ:St}{H:Hp}{s:Shared}{a:Addr}{y v:V}{u r:Value}{o:Option V}{A:Around}{E:Value->Shared->Prop}
theorem aD.big(I:aD X pins σ H s):sysModules<s.heap.objs.size:=by
 have h:mainGlobals<s.heap.objs.size:=(I.mod.glob.keeps I.bk).lt
 exact Nat.lt_trans (by decide) h
theorem X4{Q:Value->Shared->Prop}(hu:A.units+1<cLine)(I:aD X pins σ H s)(g:fR H a y (some v))(ry:aM y u)(h:∀w' s',aD X pins σ H s'->aM v w'->Q w' s') :
  wpAny (model X.prog X.w) A (getItem (.ref a) u) Q E s:=by
 rcases g with⟨kvs,k,e,ey,l⟩|⟨kvs,k,b,e,ey,eb,l⟩
 ·subst ey
  obtain⟨z,hd,vs,rel,dd⟩:=qH I.hok e
  obtain⟨w',hw,rw'⟩:=eL.some_of (v:=v) (o:=valueAt vs k) (by rw[l];exact rel.val k)
  exact wpAny_getItem_of (oC ry) dd.mapOf hw (h w' _ (I.tok _) rw')
 ·subst ey
  cases (show u=Value.ref b from ry)
  obtain⟨z,hd,xs,rel,dd⟩:=qJ I.hok e
  obtain⟨w',hw,rw'⟩:=eL.some_of (v:=v) (o:=(atKey xs k).map (·.2)) (by rw[l];exact rel.val k)
  obtain⟨p,hp,hp2⟩:=xbp.mp hw
  refine wpAny_getItem_heap (tupleKind_room_in1 hu) (qI I.hok eb) dd hp ?_
  rw[hp2]
  exact h w' _ (I.tok _) rw'
theorem X5{Q:Value->Shared->Prop}(hu:A.units+1<cLine)(I:aD X pins σ H s)(g:fR H a y o)(ry:aM y u)(h:∀s',aD X pins σ H s'->Q (.bool o.isSome) s') :
  wpAny (model X.prog X.w) A (compareOp .In u (.ref a)) Q E s:=by
 rcases g with⟨kvs,k,e,ey,l⟩|⟨kvs,k,b,e,ey,eb,l⟩
 ·subst ey
  obtain⟨z,hd,vs,rel,dd⟩:=qH I.hok e
  refine wpAny_in_of (oC ry) hd dd.mapOf ?_
  rw[<- (rel.val k).isSome_eq,<- l]
  exact h _ (I.tok _)
 ·subst ey
  cases (show u=Value.ref b from ry)
  obtain⟨z,hd,xs,rel,dd⟩:=qJ I.hok e
  refine wpAny_in_heap (tupleKind_room_in1 hu) (qI I.hok eb) hd dd ?_
  have q:=(rel.val k).isSome_eq
  rw[xcf] at q
  rw[<- q,<- l]
  exact h _ (I.tok _)
theorem X6{Q:Value->Shared->Prop}(hu:A.units+1<cLine)(I:aD X pins σ H s)(g:fR H a y o)(ry:aM y u)(h:∀s',aD X pins σ H s'->Q (.bool (!o.isSome)) s') :
  wpAny (model X.prog X.w) A (compareOp .NotIn u (.ref a)) Q E s:=by
 rcases g with⟨kvs,k,e,ey,l⟩|⟨kvs,k,b,e,ey,eb,l⟩
 ·subst ey
  obtain⟨z,hd,vs,rel,dd⟩:=qH I.hok e
  refine wpAny_notIn_of (oC ry) hd dd.mapOf ?_
  rw[<- (rel.val k).isSome_eq,<- l]
  exact h _ (I.tok _)
 ·subst ey
  cases (show u=Value.ref b from ry)
  obtain⟨z,hd,xs,rel,dd⟩:=qJ I.hok e
  refine wpAny_notIn_heap (tupleKind_room_in1 hu) (qI I.hok eb) hd dd ?_
  have q:=(rel.val k).isSome_eq
  rw[xcf] at q
  rw[<- q,<- l]
  exact h _ (I.tok _)
theorem JX{h':Heap}{t':Nat}{ob:HO}(I:aD X pins σ H s)(mu:o5 (H a))(hs:Heap.SameBut a s.heap h')(he:∃q,h'.get? a=some q)(new:cW X.prog X.w (aG H a ob) h' a ob) :
  aD X pins σ (aG H a ob) { s with heap:=h',toks:=t' }:=
 I.write (x:=a) (e:=a) mu (.inl rfl) (fun b q hb z=>(hs.2 b hb).trans z) he new
theorem JY{P:Program}{w:World}{H':Hp}{h':Heap}{kvs:List (Key×V)}{vs:List (Key×Value)}(z:kvs.length<=sizeLine)(hd:(a==sysModules)=false)(rel:KV kvs vs)(dd:h'.DictOf (fC P w) a vs) :
  cW P w H' h' a (.dK kvs):=⟨z,hd,vs,rel,dd⟩
theorem X7{H':Hp}{Q:Unit->Shared->Prop}(hu:A.units+1<cLine)(I:aD X pins σ H s)(g:oE H a y v H')(ry:aM y u)(rv:aM v r)(h:∀s',aD X pins σ H' s'->Q () s') :
  wpAny (model X.prog X.w) A (setItem (.ref a) u r) Q E s:=by
 rcases g with⟨kvs,k,e,ey,l,eH⟩|⟨kvs,k,b,e,ey,eb,l,eH⟩
 ·subst ey eH
  obtain⟨z,hd,vs,rel,dd⟩:=X2 I.hok e
  have hz:vs.length<=sizeLine:=by rw[<- rel.length];exact z
  have hl:(putK kvs k v).length<=sizeLine:=by have:=JU kvs k v;omega
  refine wpAny_setItem_pairs (hsz:=hz) (oC ry) dd fun h' dd' hs=>h _ ?_
  have he:∃q,h'.get? a=some q:=let⟨q,_,_,hq,_⟩:=dd';⟨q,hq⟩
  exact JX I (by rw[e];exact True.intro) hs he (JY hl hd (rel.put k rv) dd')
 ·subst ey eH
  cases (show u=Value.ref b from ry)
  obtain⟨z,hd,xs,rel,dd⟩:=X3 I.hok e
  have hz:xs.length<=sizeLine:=by rw[<- Paired.length rel];exact z
  have hl:(putK kvs k v).length<=sizeLine:=by have:=JU kvs k v;omega
  refine wpAny_setItem_heap (hsz:=hz) (tupleKind_room_in1 hu) (qI I.hok eb) dd fun h' dd' hs=>h _ ?_
  obtain⟨q,es,ep,hq,h2,h3,h4,_,h5⟩:=dd'
  refine JX I (by rw[e];exact True.intro) hs ⟨q,hq⟩ ⟨hl,hd,_,(rel.put k eb rv).keeps fun c ys ec=>?_,q,es,ep,hq,h2,h3,h4,h5⟩
  rw[aH (iR ec e (fun z=>nomatch z))]
  exact ec
end
def xW(i:Expr):Prop:=∀ov iv,subscripted i false ov iv=operate [ov,iv] (getItem ov iv)
theorem X8{prog:Program}{w:World}{A:Around}{E:Value->Shared->Prop}{s:Shared}{env:Env}{value slice:Expr}{pos:Pos}{T id:String}{Q:Value->Shared->Prop}
  (hl:typeLookup (.type T) "__getitem__"=pure (some (.builtin id))) (hs:xW slice)
  (h:wpAny (model prog w) A (eval value env) (fun o s₁=>wpAny (model prog w) A (eval slice env) (fun i s₂=>s₂.TypeIs o T/\wpAny (model prog w) A (getItem o i) Q E s₂) E s₁) E s) :
  wpAny (model prog w) A (eval (.Subscript value slice pos) env) Q E s:=by
 refine Subscript_ (wpAny_mono h (fun o s₁ h₁=>wpAny_mono h₁ (fun i s₂ h₂=>?_) fun _ _ x=>x) fun _ _ x=>x)
 obtain⟨hT,h₂⟩:=h₂
 unfold subscriptTail
 refine xab ?_
 rw[getitemInPython_of_ne hT.not_modules]
 refine xab (wpAny_specialOf hT hl ?_)
 have fin:wpAny (model prog w) A (subscripted slice false o i) (fun r s₃=>wpAny (model prog w) A (letTemporaryGo value o r >>= fun _=>pure r) Q E s₃) E s₂:=by
  rw[hs o i]
  exact wpAny_operating (wpAny_mono h₂ (fun r s₃ h₃=>xab (wpAny_letTemporaryGo (xar h₃))) fun _ _ x=>x)
 first
  |exact xar (xab fin)
  |exact xab (xar (xab fin))
  |exact xab fin
theorem X9{X:Cx}{pins:List (Addr×Obj)}{σ:St}{H:Hp}{s:Shared}{a:Addr}{y:V}{o:Option V}(I:aD X pins σ H s)(g:fR H a y o):s.TypeIs (.ref a) "dict":=by
 rcases g with⟨kvs,k,e,_,_⟩|⟨kvs,k,b,e,_,_,_⟩
 ·obtain⟨_,_,vs,_,dd⟩:=qH I.hok e
  exact dd.typeIs
 ·obtain⟨_,_,xs,_,dd⟩:=qJ I.hok e
  exact dd.typeIs
def YA(td ty:TE):TE:=fun σ H Q=>td σ H fun x H1=>ty σ H1 fun y H2=>∃a v,x=.ref a/\fR H2 a y (some v)/\Q v H2
def YB(ty td:TE):TE:=fun σ H Q=>ty σ H fun y H1=>td σ H1 fun x H2=>∃a o,x=.ref a/\fR H2 a y o/\Q (.bl (!o.isSome)) H2
def YC(td ty tv:TE):TS:=fun D σ H=>tv σ H fun v H1=>td σ H1 fun x H2=>ty σ H2 fun y H3=>∃a H4,x=.ref a/\oE H3 a y v H4/\D.nx σ H4
section
variable{X:Cx}{o i e value:Expr}{pos pos' tpos:Pos}{td ty tv:TE}
theorem xX(hu:X.A.units+1<cLine)(ho:PE X o td)(hi:PE X i ty)(hs:xW i):PE X (.Subscript o i pos) (YA td ty):=by
 intro pins s σ H Q I h
 refine X8 PySem.F.slot_dict_getitem.lookup hs (aJ (ho pins s σ H _ I h) fun u s1 ⟨x,H1,I1,rx,q1⟩=>aJ (hi pins s1 σ H1 _ I1 q1) fun iv s2 ⟨y,H2,I2,ry,a,v,ex,g,q2⟩=>?_)
 subst ex
 obtain rfl:u=Value.ref a:=rx
 exact⟨X9 I2 g,X4 hu I2 g ry fun w' s3 I3 rw'=>⟨v,H2,I3,rw',q2⟩⟩
theorem JZ(hu:X.A.units+1<cLine)(hi:PE X i ty)(ho:PE X o td):PC X .NotIn i o (YB ty td):=by
 intro pins s σ H Q I h
 refine aJ (hi pins s σ H _ I h) fun iv s1 ⟨y,H1,I1,ry,q1⟩=>aJ (ho pins s1 σ H1 _ I1 q1) fun u s2 ⟨x,H2,I2,rx,a,ov,ex,g,q2⟩=>?_
 subst ex
 obtain rfl:u=Value.ref a:=rx
 exact X6 hu I2 g ry fun s3 I3=>⟨.bl (!ov.isSome),H2,I3,rfl,q2⟩
theorem J0(hu:X.A.units+1<cLine)(ho:PE X o td)(hi:PE X i ty)(hv:PE X value tv)(hs:swapsWith value (some (.Subscript o i pos')) pos.line X.env=pure false) :
  PS X (.Assign [.Subscript o i pos'] value pos) (YC td ty tv):=by
 intro pins s σ H D I h
 refine wpAny_Assign_Subscript (aJ (hv pins s σ H _ I h) fun r s1 ⟨v,H1,I1,rv,q1⟩=>aJ (ho pins s1 σ H1 _ I1 q1) fun u s2 ⟨x,H2,I2,rx,q2⟩=>aJ (hi pins s2 σ H2 _ I2 q2) fun iv s3 ⟨y,H3,I3,ry,a,H4,ex,g,q3⟩=>?_) hs
 subst ex
 obtain rfl:u=Value.ref a:=rx
 exact X7 hu I3 g ry rv fun s4 I4=>⟨σ,H4,I4,q3⟩
end
theorem YD{P:Program}{w:World}{H:Hp}(h:Heap)(hb:sysModules<h.objs.size):cW P w H (h.push { cls:=.type "dict",data:=.dict #[] }) h.objs.size (.dT []):=
 ⟨xbc _,beq_eq_false_iff_ne.mpr (xay (xa6 hb)),[],.nil,_,#[],0,xav _ rfl,⟨rfl,rfl,rfl⟩,rfl,rfl,List.nodup_nil⟩
def YE:TE:=fun _ H Q=>∀p,H p=none->Q (.ref p) (aG H p (.dT []))
section
variable{X:Cx}{pos:Pos}
theorem YF:PE X (.Dict [] [] pos) YE:=fun pins s σ H Q I h=>
 wpAny_Dict_empty ⟨.ref s.heap.objs.size,_,I.laid (a:=s.heap.objs.size) (o:=.dT []) (t':=s.toks) (fun _ _ q=>xad _ q) (xag _) (YD s.heap I.big),rfl,h _ (I.hok.fresh (xag _))⟩
end
end L2
section
set_option maxHeartbeats 2000000
namespace DL
open L2 PyProof.Rows
def eY:List Key->List D->Key->Option D
 |k::ks,d::ds,x=>if k=x then some d else eY ks ds x
 |_,_,_=>none
section
variable{K:xFg}{mg:Str->Option Value}{G:Hp}
theorem xY:∀{ks:List Key} {ds:List D} {vs:List V} {x:Key} {d:D},Reps K mg G ds vs->ks.length=vs.length->eY ks ds x=some d->∃v,bW (ks.zip vs) x=some v/\aR K mg G d v
 |[],_,_,_,_,_,_,h=>by unfold eY at h;cases h
 |_::_,[],_,_,_,_,_,h=>by unfold eY at h;cases h
 |k::ks,d'::ds,_,x,d,⟨v,r,h1,h2,h3⟩,hl,h=>by
  subst h1
  unfold eY at h
  rw[List.zip_cons_cons]
  by_cases e:k=x
  ·rw[xal e] at h;cases h
   exact⟨v,gY (p:=(k,v)) e,h2⟩
  ·rw[xak e] at h
   obtain⟨u,q1,q2⟩:=xY h3 (by simpa using hl) h
   exact⟨u,by rw[fZ (p:=(k,v)) e];exact q1,q2⟩
theorem J2:∀{ks:List Key} {ds:List D} {vs:List V} {x:Key},Reps K mg G ds vs->ks.length=vs.length->eY ks ds x=none->bW (ks.zip vs) x=none
 |[],_,_,_,_,_,_=>by rw[List.zip_nil_left];rfl
 |_::_,[],_,_,h,hl,_=>by cases h;simp at hl
 |k::ks,d'::ds,_,x,⟨v,r,h1,h2,h3⟩,hl,h=>by
  subst h1
  unfold eY at h
  rw[List.zip_cons_cons]
  by_cases e:k=x
  ·rw[xal e] at h;cases h
  ·rw[xak e] at h
   rw[fZ (p:=(k,v)) e]
   exact J2 h3 (by simpa using hl) h
end
def l6:D->D->R D
 |.dct ks ds,.str x=>match eY ks ds (.inr x) with
  |some d=>.ok d
  |none=>.bad
 |_,_=>.bad
def qK:D->D->R D
 |.str x,.dct ks ds=>.ok (.bl (eY ks ds (.inr x)).isSome)
 |_,_=>.bad
section
variable{X:Cx}{E:XK}{K:xFg}{mg:Str->Option Value}{j:Nat}{a b:Expr}{fa fb:DSt->R D}{pos:Pos}
theorem rdH{G H:Hp}{p:Addr}{u:HO}(e:Same G H)(h:Rd G p u):Rd H p u:=Same.rd e h
theorem YG(C:XC X E j)(ha:DE X E a fa)(hb:DE X E b fb)(hs:xW b:=by intro _ _;rfl):DE X E (.Subscript a b pos) (aC l6 fa fb):=
 PE.mono' (xX (by have:=C.room.un;omega) ha hb hs) fun σ H Q ⟨G,σd,ok,q⟩=>by
 refine gM (P:=aL X.K X.mg Q) ok q fun d x G1 H1 s1 ok1 r1 q1=>?_
 refine gM (P:=fun _ _=>aL X.K X.mg Q G H) ok1 q1 fun d' y G2 H2 s2 ok2 r2 q2=>?_
 cases d with
 |dct ks ds=>cases d' with
  |str z=>
   cases r2
   obtain⟨p,vs,rfl,h1,h2,h3⟩:=r1.mono s2.g
   simp only[l6] at q2
   cases hv:eY ks ds (.inr z) with
   |none=>rw[hv] at q2;exact(show False from q2).elim
   |some u=>
    rw[hv] at q2
    obtain⟨v,e1,e2⟩:=xY h3 h2 hv
    exact⟨p,v,rfl,.inl ⟨_,.inr z,rdH ok2.ext h1,rfl,e1.symm⟩,(show aL X.K X.mg Q G H u from q2) v G2 H2 (s1.trans s2) e2⟩
  |_=>exact(show False from q2).elim
 |_=>cases d'<;>exact(show False from q2).elim
abbrev YH:R2:=fun x y H Q=>∃p kvs k,y=.ref p/\Rd H p (.dK kvs)/\x=kV k/\Q (.bl (bW kvs k).isSome) H
theorem YI(C:XC X E j):eD X .In qK:=⟨YH,(fun pins s σ H x y v u Q I rx ry ⟨p,kvs,k,e1,e2,e3,q⟩=>by
 subst e1 e3
 obtain rfl:u=Value.ref p:=ry
 exact X5 (by have:=C.room.un;omega) I (.inl ⟨kvs,k,e2,rfl,rfl⟩) rx fun s' I'=>⟨.bl _,H,I',rfl,q⟩),fun G H d d' x y Q e ra rb q=>by
 cases d with
 |str z=>cases d' with
  |dct ks ds=>
   cases ra
   obtain⟨p,vs,rfl,h1,h2,h3⟩:=rb
   refine⟨p,_,.inr z,rfl,rdH e h1,rfl,?_⟩
   have q':aL X.K X.mg Q G H (.bl (eY ks ds (.inr z)).isSome):=q
   cases hv:eY ks ds (.inr z) with
   |none=>rw[J2 h3 h2 hv];rw[hv] at q';exact aL.now q' e rfl
   |some u=>obtain⟨v,e1,_⟩:=xY h3 h2 hv;rw[e1];rw[hv] at q';exact aL.now q' e rfl
  |_=>exact(show False from q).elim
 |_=>cases d'<;>exact(show False from q).elim,fun d d' e h=>by
  cases d<;>cases d'<;>simp[qK] at h⟩
end
end DL
end
namespace DL
open L2 PyProof.Rows
variable{X:Cx}{E:XK}{own ol:List Nat}{x y:Str}{pos np nq:Pos}{e1 e2:Expr}{f1 f2:DSt->R D}
def qL(own:List Nat)(i j:Nat)(f1 f2:DSt->R D):DSt->R aE:=fun σ=>(bL σ i).bind fun _=>(f1 σ).bind fun d1=>bif imm d1 then (bL σ j).bind fun ds=>match ds[ds.length-1]? with
 |some d=>(f2 (mask own (σ.set j (some (.lst ds.dropLast))))).bind fun d2=>(bL (σ.set j (some (.lst ds.dropLast))) i).bind fun xs=>bif most xs.length then .ok (.nx ((σ.set j (some (.lst ds.dropLast))).set i (some (.lst (xs++[.tup [d1,d,d2]]))))) else .bad
 |none=>.bad
 else .bad
theorem YJ(i j:Nat){apos bpos cpos dpos tpos:Pos}{x1}(h1:DE X E e1 f1)(h2:DE X E e2 f2)(ho:own.contains i=true:=by rfl)(ho':own.contains j=true:=by rfl)(hN:X.N[i]? = some x:=by rfl)(hM:X.N[j]? = some y:=by rfl)
  (hv:cB X.env.scope x:=by first|exact Or.inl rfl|exact Or.inr (Or.inl rfl)|exact Or.inr (Or.inr rfl)) (hd:(x==("__debug__":Str))=false:=by decide) (hcd:(x==("__classdict__":Str))=false:=by decide)
  (hv':cB X.env.scope y:=by first|exact Or.inl rfl|exact Or.inr (Or.inl rfl)|exact Or.inr (Or.inr rfl)) (hd':(y==("__debug__":Str))=false:=by decide) (hcd':(y==("__classdict__":Str))=false:=by decide)
  (hbase:attributeBase (.Name x np) "append" X.env (eval (.Name x np) X.env)=eval (.Name x np) X.env:=by rfl) (hbase':attributeBase (.Name y nq) "pop" X.env (eval (.Name y nq) X.env)=eval (.Name y nq) X.env:=by rfl)
  (hfew:((backTo cpos (starEach [.Tuple [e1,.Call (.Attribute (.Name y nq) "pop" bpos) [] [] dpos,e2] x1 tpos] X.env)).all (fun x=>!x.1)&&(backToKw cpos (keywordEach [] X.env)).all (fun x=>x.1.isSome)&&decide ([Expr.Tuple [e1,.Call (.Attribute (.Name y nq) "pop" bpos) [] [] dpos,e2] x1 tpos].length+([]:List Keyword).length+(if ([]:List Keyword).isEmpty then 0 else 1)<30))=true:=by rfl)
  (hline:(apos.endLine==cpos.line)=true:=by rfl) (hline':(bpos.endLine==dpos.line)=true:=by rfl)
  (hs:starEach [.Tuple [e1,.Call (.Attribute (.Name y nq) "pop" bpos) [] [] dpos,e2] x1 tpos] X.env=(false,eval (.Tuple [e1,.Call (.Attribute (.Name y nq) "pop" bpos) [] [] dpos,e2] x1 tpos) X.env)::starEach [] X.env:=by rfl) (hplain:(backTo cpos (starEach [] X.env)).any (·.1)=false:=by rfl)
  (hs1:starEach [e1,.Call (.Attribute (.Name y nq) "pop" bpos) [] [] dpos,e2] X.env=(false,eval e1 X.env)::starEach [.Call (.Attribute (.Name y nq) "pop" bpos) [] [] dpos,e2] X.env:=by rfl)
  (hs2:starEach [.Call (.Attribute (.Name y nq) "pop" bpos) [] [] dpos,e2] X.env=(false,eval (.Call (.Attribute (.Name y nq) "pop" bpos) [] [] dpos) X.env)::starEach [e2] X.env:=by rfl)
  (hs3:starEach [e2] X.env=(false,eval e2 X.env)::starEach [] X.env:=by rfl)
  (hsw:swapsWith (.Call (.Attribute (.Name x np) "append" apos) [.Tuple [e1,.Call (.Attribute (.Name y nq) "pop" bpos) [] [] dpos,e2] x1 tpos] [] cpos) none pos.line X.env=pure false:=by rfl) :
  DS X E own own ol (.Expr (.Call (.Attribute (.Name x np) "append" apos) [.Tuple [e1,.Call (.Attribute (.Name y nq) "pop" bpos) [] [] dpos,e2] x1 tpos] [] cpos) pos) (qL own i j f1 f2):=fun G0=>
 PS.mono' (jN (jQ PySem.F.plainAttrs_list PySem.F.slot_list_append PySem.F.type_list_append lH (pv i hN hv hd hcd)
  (cL (mW (cL h1 (cL (mY PySem.F.plainAttrs_list PySem.F.slot_list_pop PySem.F.type_list_pop rJ (pv j hM hv' hd' hcd') hbase' hline') (cL h2 dM hs3) hs2) hs1)) dM hs) hbase hfew hline hs hplain) hsw) fun Dn σ H ⟨G,σd,ok,s0,q⟩=>by
 have hi:i∈own:=by simpa using ho
 have hj:j∈own:=by simpa using ho'
 have q0:=q.of_bind
 cases hL:bL σd i with
 |bad=>rw[hL] at q0;exact q0.elim
 |err e=>exact xaq hL i8
 |ok xs0=>
  rw[hL] at q0
  obtain⟨a,_,vs0,p1,_,p0,_⟩:=ok.mine i _ hi (fO hL)
  refine⟨_,p1,.inl ⟨rfl,_,aY.of p0⟩,?_⟩
  refine⟨_,σd,ok.pub.1,(show RW ((f1 σd).bind _) (bJ X.K X.mg G0 X.H₀ own ol Dn G) (aX X.K X.mg E G0 X.H₀) from q0).of_bind.mono (fun d1 _ q1 v1 Gp H1 stp rp=>?_) fun _ z=>z.step (ok.pubStep s0)⟩
  cases him:imm d1 with
  |false=>rw[him] at q1;exact(show False from q1).elim
  |true=>
  rw[him] at q1
  obtain⟨G1,st1,r1⟩:∃G1,Step G H G1 H1/\aR X.K X.mg G1 d1 v1:=⟨_,(ok.hide stp).1,rp.imm (ok.hide stp).2 him⟩
  have ok1:=ok.step st1
  have s1:=s0.trans st1
  have q1:RW ((bL σd j).bind _) (bJ X.K X.mg G0 X.H₀ own ol Dn G) (aX X.K X.mg E G0 X.H₀):=q1
  have q2:=q1.of_bind
  cases hJ:bL σd j with
  |bad=>rw[hJ] at q2;exact q2.elim
  |err e=>exact xaq hJ i8
  |ok ds=>
   rw[hJ] at q2
   obtain⟨b,ds',vs,p3,p4,p5,p6,p7,p8⟩:=ok1.mine j _ hj (fO hJ)
   cases p4
   cases hg:ds[ds.length-1]? with
   |none=>
    have q3:RW (match ds[ds.length-1]? with
     |some d=>(f2 (mask own (σd.set j (some (.lst ds.dropLast))))).bind fun d2=>(bL (σd.set j (some (.lst ds.dropLast))) i).bind fun xs=>bif most xs.length then R.ok (.nx ((σd.set j (some (.lst ds.dropLast))).set i (some (.lst (xs++[.tup [d1,d,d2]]))))) else .bad
     |none=>.bad) (bJ X.K X.mg G0 X.H₀ own ol Dn G) (aX X.K X.mg E G0 X.H₀):=q2
    rw[hg] at q3;exact(show False from q3).elim
   |some d=>
    have q3:RW (match ds[ds.length-1]? with
     |some d=>(f2 (mask own (σd.set j (some (.lst ds.dropLast))))).bind fun d2=>(bL (σd.set j (some (.lst ds.dropLast))) i).bind fun xs=>bif most xs.length then R.ok (.nx ((σd.set j (some (.lst ds.dropLast))).set i (some (.lst (xs++[.tup [d1,d,d2]]))))) else .bad
     |none=>.bad) (bJ X.K X.mg G0 X.H₀ own ol Dn G) (aX X.K X.mg E G0 X.H₀):=q2
    rw[hg] at q3
    obtain⟨v,hv1,rv⟩:=p8.get hg
    rw[p8.length] at hv1
    refine⟨_,p3,.inl ⟨rfl,_,aY.of p5⟩,b,vs,v,rfl,rfl,p5,hv1,?_⟩
    have ok2:=ok1.write hj (fO hJ) p3 p8.dropLast
    have s2:=s1.write (o:=.lst vs) (u:=.lst vs.dropLast) p7 p6
    refine⟨G1,mask own (σd.set j (some (.lst ds.dropLast))),ok2.masked,(show RW ((f2 (mask own (σd.set j (some (.lst ds.dropLast))))).bind _) (bJ X.K X.mg G0 X.H₀ own ol Dn G) (aX X.K X.mg E G0 X.H₀) from q3).of_bind.mono (fun d2 _ q4 v2 G3 H3 st3 r3=>?_) fun _ z=>z.step s2⟩
    refine⟨by show 3<=sizeLine;decide,fun p hp=>?_⟩
    have ok3:=ok2.step st3
    have sp:Step G3 H3 (aG G3 p (.tup [v1,v,v2])) (aG H3 p (.tup [v1,v,v2])):=.pub ok3.ext hp
    have ok4:=ok3.step sp
    have q5:=q4.of_bind
    cases hI:bL (σd.set j (some (.lst ds.dropLast))) i with
    |bad=>rw[hI] at q5;exact q5.elim
    |err e=>exact xaq hI i8
    |ok xs=>
     rw[hI] at q5
     have q6:RW (bif most xs.length then R.ok (.nx ((σd.set j (some (.lst ds.dropLast))).set i (some (.lst (xs++[.tup [d1,d,d2]]))))) else .bad) (bJ X.K X.mg G0 X.H₀ own ol Dn G) (aX X.K X.mg E G0 X.H₀):=q5
     obtain⟨a',xs',ws,p9,p10,p11,p12,p13,p14⟩:=ok4.mine i _ hi (fO hI)
     cases p10
     rw[p1] at p9
     cases p9
     cases hm:most xs.length with
     |false=>rw[hm] at q6;exact(show False from q6).elim
     |true=>
      rw[hm] at q6
      have hlt:xs.length<sizeLine:=xau hm
      refine⟨a,ws,.ref p,rfl,rfl,p11,by rw[<- p14.length];exact hlt,?_⟩
      have rt:aR X.K X.mg (aG G3 p (.tup [v1,v,v2])) (.tup [d1,d,d2]) (.ref p):=⟨p,[v1,v,v2],rfl,bG.of aU,Reps.cons (r1.mono (st3.g.trans sp.g)) (Reps.cons (rv.mono (st3.g.trans sp.g)) (Reps.cons (r3.mono sp.g) Reps.nil))⟩
      exact(show bJ X.K X.mg G0 X.H₀ own ol Dn G (.nx ((σd.set j (some (.lst ds.dropLast))).set i (some (.lst (xs++[.tup [d1,d,d2]]))))) from q6) σ _ _ (ok4.write hi (fO hI) p1 (p14.append (Reps.cons rt Reps.nil))) ((s2.trans (st3.trans sp)).write (o:=.lst ws) p13 p12) (st1.g.trans (st3.g.trans sp.g))
end DL
namespace DL
open L2 PyProof.Rows
theorem YK(l:Addr)(items:Array Value)(n:Nat)(b:Addr)(items2:Array Value)(n2:Nat)(dd:Option Addr)(sl:Array (Option Value))(hc0:¬(!items.isEmpty&&Builtin.List.listTooLong (items.size+items2.size))=true)(hc1:items.size<=sizeLine)(hs2:items.size+items2.size<=sizeLine+1) :
  Meets (Builtin.«list.extend» ⟨[.ref l,.ref b],[]⟩) (fun _ R s=>s.heap.get? l=some { cls:=.type "list",dict:=none,data:=.seq items n,slots:=#[] }/\s.heap.get? b=some { cls:=.type "tuple",dict:=dd,data:=.seq items2 n2,slots:=sl }/\R (.ok (.ret Value.none)) { s with heap:=s.heap.update l (Obj.mapSeq fun x=>x++items2),toks:=s.toks }):=
 .of_wp fun _ _ _ _ s q=>by
  obtain⟨hp,gg,dr,tk,os⟩:=s
  obtain⟨e1,e2,q⟩:=q
  have i1:=AutoSeq1.idx_int
  have i2:=AutoSeq1.sub_tuple_tuple
  have i3:=AutoSeq1.sub_list_list
  have i4:=AutoSeq1.sub_tuple_list
  have i5:=AutoSeq1.sub_list_tuple
  have room:(items++items2).size<=sizeLine+1:=by
   rw[Array.size_append]
   exact hs2
  wp_walk using (wpAny_updateSeq e1 rfl (hz:=hc1) (_hz':=room)),wpAny_loadPart' e1,wpAny_loadPart' e2
  exact⟨_,rfl,q⟩
section
variable{X:Cx}
def YL(K:xFg):V->List V->Hp->VK->Prop:=fun x vs H Q=>∃l b xs zs,x=.ref l/\vs=[.ref b]/\H l=some (.lst xs)/\bG K H b zs/\xs.length+zs.length<=sizeLine/\Q .non (aG H l (.lst (xs++zs)))
theorem YM:pE X "list.extend" (YL X.K):=by
 intro pins s σ H x vs v us Q I rx rv h
 obtain⟨l,b,xs,zs,rfl,rfl,hH,hB,hz,q⟩:=h
 cases rx
 obtain⟨u,rfl,ru⟩:=rv.one
 cases ru
 obtain⟨z,its,n,r,hl,e⟩:=I.lstM hH
 obtain⟨its2,r2,pl2,z2⟩:=I.tuple hB
 have hl2:=r2.length
 obtain⟨⟨cls2,dd2,data2,sl2⟩,ho2,hc2,n2,hd2⟩:=id pl2
 simp only at hc2 hd2
 subst hc2 hd2
 have hsz:its.toArray.size+its2.toArray.size<=sizeLine:=by rw[xaj,xaj];omega
 have hlong:¬(!its.toArray.isEmpty&&Builtin.List.listTooLong (its.toArray.size+its2.toArray.size))=true:=by
  rw[SQ hsz,Bool.and_false]
  exact xa4
 refine call_meets F.slot_list_extend ⟨_,e,rfl⟩ F.entry_list_extend (F.args_list_extend_2 _ _)
  (YK l its.toArray n b its2.toArray n2 dd2 sl2 hlong (by rw[xaj];omega) (by omega)) ⟨e,ho2,?_⟩
 refine⟨.non,_,I.lset (its':=its++its2) hH e (by simp) (r.append r2) ?_,rfl,q⟩
 rw[xa2]
 omega
end
def oF(ds:List D)(i:Nat)(σ:DSt):D->R aE
 |.tup es=>bif cQ (ds.length+es.length) then .ok (.nx (σ.set i (some (.lst (ds++es))))) else .bad
 |_=>.bad
def xZ(own:List Nat)(i:Nat)(fe:DSt->R D):DSt->R aE:=fun σ=>(bL σ i).bind fun ds=>(fe (mask own σ)).bind fun d=>oF ds i σ d
section
variable{X:Cx}{E:XK}{own ol:List Nat}{e:Expr}{fe:DSt->R D}{x:Str}{pos:Pos}
theorem YN(i:Nat){apos cpos:Pos}{np:Pos}(he:DE X E e fe)(ho:own.contains i=true:=by rfl)(hN:X.N[i]? = some x:=by rfl)(hv:cB X.env.scope x:=by first|exact Or.inl rfl|exact Or.inr (Or.inl rfl)|exact Or.inr (Or.inr rfl))(hd:(x==("__debug__":Str))=false:=by decide)
  (hcd:(x==("__classdict__":Str))=false:=by decide)
  (hbase:attributeBase (.Name x np) "extend" X.env (eval (.Name x np) X.env)=eval (.Name x np) X.env:=by rfl)
  (hfew:((backTo cpos (starEach [e] X.env)).all (fun x=>!x.1)&&(backToKw cpos (keywordEach [] X.env)).all (fun x=>x.1.isSome)&&decide ([e].length+([]:List Keyword).length+(if ([]:List Keyword).isEmpty then 0 else 1)<30))=true:=by rfl)
  (hline:(apos.endLine==cpos.line)=true:=by rfl) (hs:starEach [e] X.env=(false,eval e X.env)::starEach [] X.env:=by rfl) (hplain:(backTo cpos (starEach [] X.env)).any (·.1)=false:=by rfl)
  (hsw:swapsWith (.Call (.Attribute (.Name x np) "extend" apos) [e] [] cpos) none pos.line X.env=pure false:=by rfl) :
  DS X E own own ol (.Expr (.Call (.Attribute (.Name x np) "extend" apos) [e] [] cpos) pos) (xZ own i fe):=fun G0=>
 PS.mono' (jN (jQ PySem.F.plainAttrs_list PySem.F.slot_list_extend PySem.F.type_list_extend YM (pv i hN hv hd hcd) (dQ he gN hs) hbase hfew hline hs hplain) hsw) fun Dn σ H ⟨G,σd,ok,s0,q⟩=>by
 have q1:=q.of_bind
 cases hL:bL σd i with
 |bad=>rw[hL] at q1;exact q1.elim
 |err e=>exact xaq hL i8
 |ok ds=>
  rw[hL] at q1
  have q2:RW ((fe (mask own σd)).bind fun d=>oF ds i σd d) (bJ X.K X.mg G0 X.H₀ own ol Dn G) (aX X.K X.mg E G0 X.H₀):=q1
  have hd:=fO hL
  have hi:i∈own:=by simpa using ho
  obtain⟨a,ds',vs,p1,p2,p3,p4,p5,p6⟩:=ok.mine i _ hi hd
  cases p2
  refine⟨_,p1,.inl ⟨rfl,_,aY.of p3⟩,?_⟩
  refine⟨G,mask own σd,ok.masked,(show RW ((aB fe aF) (mask own σd)) _ _ from ?_)⟩
  unfold aB
  have q3:=q2.of_bind
  cases hf:fe (mask own σd) with
  |bad=>rw[hf] at q3;exact q3.elim
  |err e=>rw[hf] at q3;exact(show aX X.K X.mg E G0 X.H₀ e from q3).step s0
  |ok d=>
   rw[hf] at q3
   have q3:RW (oF ds i σd d) (bJ X.K X.mg G0 X.H₀ own ol Dn G) (aX X.K X.mg E G0 X.H₀):=q3
   rintro ws G' H' s ⟨v,_,e1,r1,r2⟩
   subst e1
   cases r2
   cases d with
   |tup es=>
    obtain⟨b,ys,rfl,hb,hy⟩:=r1
    cases hm:cQ (ds.length+es.length) with
    |false=>simp only[oF,hm,cond_false] at q3;exact(show False from q3).elim
    |true=>
     simp only[oF,hm,cond_true] at q3
     have hle:ds.length+es.length<=sizeLine:=xau hm
     have ok':=ok.step s
     refine⟨a,b,vs,ys,rfl,rfl,s.h _ _ p3,Same.sqT s.e hb,by rw[<- p6.length,<- hy.length];exact hle,?_⟩
     exact(show bJ X.K X.mg G0 X.H₀ own ol Dn G (.nx (σd.set i (some (.lst (ds++es))))) from q3) σ G' _ (ok'.write hi hd p1 ((p6.mono s.g).append hy)) ((s0.trans s).write (o:=.lst vs) p5 (s.c _ _ p3 p4)) s.g
   |_=>exact(show False from q3).elim
end
def J4(i:Nat)(l:R (List D))(a:R D)(σ:DSt):R aE:=l.bind fun ds=>a.bind fun d=>oF ds i σ d
theorem YO(own:List Nat)(i:Nat)(fe:DSt->R D)(σ:DSt):xZ own i fe σ=J4 i (bL σ i) (fe (mask own σ)) σ:=rfl
theorem YQ(i:Nat)(ds es:List D)(σ:DSt)(h:ds.length+es.length<=1000000):J4 i (.ok ds) (.ok (.tup es)) σ=.ok (.nx (σ.set i (some (.lst (ds++es))))):=by
 show (bif cQ (ds.length+es.length) then R.ok _ else .bad)=_
 rw[show cQ (ds.length+es.length)=true from xah (xaz h (by decide))];rfl
end DL
section
set_option maxHeartbeats 2000000
namespace DL
open L2 PyProof.Rows
def J5(a b:Addr)(H:Hp):Hp:=fun c=>if c=a\/c=b then none else H c
structure In2(K:xFg)(mg:Str->Option Value)(i j:Nat)(ds:List D)(vs:List V)(a b:Addr)(xs ys:List D)(G H:Hp):Prop where
 ext:Same G H
 ab:a≠b
 ij:i≠j
 ga:G a=none
 gb:G b=none
 la:∃us,H a=some (.lst us)/\Reps K mg G xs us
 lb:∃us,H b=some (.lst us)/\Reps K mg G ys us
 len:ds.length=vs.length
 di:ds[i]? = some (.lst xs)
 dj:ds[j]? = some (.lst ys)
 vi:vs[i]? = some (.ref a)
 vj:vs[j]? = some (.ref b)
 oth:∀k d,k≠i->k≠j->ds[k]? = some d->∃v,vs[k]? = some v/\aR K mg G d v
def YS(K:xFg)(mg:Str->Option Value)(i j:Nat)(a b:Addr)(G H:Hp)(Q:VK)(σ':DSt):Prop:=
 ∀xs' ys',σ'[i]? = some (some (.lst xs'))->σ'[j]? = some (some (.lst ys'))->∀G' H' us ws,H' a=some (.lst us)->H' b=some (.lst ws)->G' a=none->G' b=none->Reps K mg G' xs' us->Reps K mg G' ys' ws->Step G (J5 a b H) G' H'->Q .non H'
def spO(K:xFg)(mg:Str->Option Value)(i j:Nat)(m:List D->R DSt):Sp:=fun vs H Q E=>∃G ds a b xs ys,In2 K mg i j ds vs a b xs ys G H/\RW (m ds) (YS K mg i j a b G H Q) (aX K mg E G (J5 a b H))
end DL
end
section
set_option maxHeartbeats 2000000
namespace L2
open PySem.Spec PyProof.Rows
theorem YT:typeLookup (.type "list") "keys"=pure none:=am_miss_of_fast (by decide +kernel)
theorem J6:entryFor table "dict.update.loop"=some Builtin.«dict.update.loop»:=entryFor_of_tree (by kernel_rfl)
theorem tH:plainId "dict.update.loop"=true:=by decide +kernel
section
variable{P:Program}{w:World}{A:Around}{E:Value->Shared->Prop}{s:Shared}
theorem YU{a:Addr}{o:Obj}{xs:Array Value}{k:Nat}{Q:Option Value->Shared->Prop}(hx:s.heap.get? a=some o)(hc:o.cls=.type "list")(hdat:o.data=.seq xs k)(hd:o.dict=none)(hA:A.handled=none)
  (h:∀h' tk,(∀b ob,s.heap.get? b=some ob->h'.get? b=some ob)->Q none { s with heap:=h',toks:=tk }):wpAny (model P w) A (getAttr? (.ref a) "keys") Q E s:=by
 obtain⟨c,dct,dat,sl⟩:=o
 simp only at hc hdat hd
 subst hc hdat hd
 obtain⟨hp,g,d,tk,os⟩:=s
 have hT:∀tk',(⟨hp,g,d,tk',os⟩:Shared).TypeIs (.ref a) "list":=fun _=>⟨_,hx,rfl⟩
 have f1:=sub_AttributeError
 have f3:=F.slot_list_getattribute.lookup
 have f4:=F.slot_list_getattribute.bind (.ref a)
 have f5:=am_list_getattr_none
 unfold getAttr? getAttrBy? getAttrBy
 repeat (any_goals (first|assumption|exact hT _|((with_reducible show wpAny _ _ (call (Value.builtin "list.__getattribute__") _ _) _ _ _);refine call_meets F.slot_list_getattribute (hT _) am_entry_list_getattribute (F.args_list_getattribute_2 _ _) (meets_getattribute_miss_list a xs k sl "keys" _ YT (by decide +kernel) (by decide +kernel)) ⟨hx,hA,fun h' tk' e hx'=>?_⟩)|wp_step))
 obtain⟨t',u',he⟩:=hx'.there
 show wpAny _ _ (getattributeRaised _ _ _ _ _ _ _) _ _ _
 unfold getattributeRaised
 repeat (any_goals (first|assumption|wp_step))
 exact h _ _ hx'.keeps
end
section
variable{P:Program}{w:World}{K:Type}[DecidableEq K]{knd:KeyKind P w K}
structure gA(knd:KeyKind P w K)(h:Heap)(l:Addr)(items:Array Value)(kvs:List (K×Value)):Prop where
 l:h.IsList l items
 n:items.size=kvs.length
 p:∀(i:Nat) (kv:K×Value),kvs[i]? = some kv->∃t key,items[i]? = some (.ref t)/\h.IsTuple t #[key,kv.2]/\knd.is kv.1 key=true
theorem gA.mono{h h':Heap}{l:Addr}{items:Array Value}{kvs:List (K×Value)}(x:gA knd h l items kvs)(k:∀b o,h.get? b=some o->h'.get? b=some o):gA knd h' l items kvs:=by
 obtain⟨⟨o,ho,r⟩,n,p⟩:=x
 refine⟨⟨o,k _ _ ho,r⟩,n,fun i kv e=>?_⟩
 obtain⟨t,key,h1,⟨ot,hot,rt⟩,h3⟩:=p i kv e
 exact⟨t,key,h1,⟨ot,k _ _ hot,rt⟩,h3⟩
theorem gA.but{h h':Heap}{l d:Addr}{items:Array Value}{kvs:List (K×Value)}{od:Obj}(x:gA knd h l items kvs)(hd:h.get? d=some od)(n1:od.cls≠.type "list")(n2:od.cls≠.type "tuple")(k:∀b o,b≠d->h.get? b=some o->h'.get? b=some o):gA knd h' l items kvs:=by
 obtain⟨⟨o,ho,c,r⟩,n,p⟩:=x
 refine⟨⟨o,k _ _ (fun e=>?_) ho,c,r⟩,n,fun i kv e=>?_⟩
 ·subst e;rw[hd] at ho;cases ho;exact n1 c
 ·obtain⟨t,key,h1,⟨ot,hot,ct,rt⟩,h3⟩:=p i kv e
  refine⟨t,key,h1,⟨ot,k _ _ (fun e=>?_) hot,ct,rt⟩,h3⟩
  subst e;rw[hd] at hot;cases hot;exact n2 ct
theorem YV{A:Around}{E:Value->Shared->Prop}{s:Shared}{t:Addr}{x y:Value}{Q:List Value->Shared->Prop}(h:s.heap.IsTuple t #[x,y])(q:Q [x,y] s):wpAny (model P w) A (Builtin.Dict.pairItems (.ref t)) Q E s:=by
 obtain⟨o,ho,c,n,hd⟩:=h
 unfold Builtin.Dict.pairItems
 refine xab (wpAny_typeOf ⟨o,ho,c⟩ ?_)
 rw[xal (by decide)]
 exact xab (wpAny_seqItems ho hd (xar q))
theorem YW{A:Around}{R:Result->Shared->Prop}{d it l:Addr}{items:Array Value}{kvs:List (K×Value)}(hA:A.in1.handled=none)(hz:kvs.length<=sizeLine)(ne:d≠it) :
  ∀(k i:Nat) (s:Shared),kvs.length-i=k->i<=kvs.length->s.heap.DictOf knd d (merged [] (kvs.take i))->s.heap.IsListIter it l i->gA knd s.heap l items kvs->
   (∀h' tk,h'.DictOf knd d (merged [] kvs)->(∀b o,b≠d->b≠it->s.heap.get? b=some o->h'.get? b=some o)->R (.ok (.ret .none)) { s with heap:=h',toks:=tk })->
   codeAny (model P w) A (.builtin "dict.update.loop" ⟨[.ref d,.ref it,.int i 0,.none],[]⟩) R s:=by
 intro k
 induction k with
 |zero=>
  intro i s hk hi hd hit hp hR
  have hin:i=kvs.length:=by omega
  subst hin
  rw[List.take_length] at hd
  refine codeAny_builtin J6 ?_
  rw[Around.under_plainId tH _]
  show wpAny _ A.in1 (pyNext (.ref it) >>= _) _ _ s
  refine xab (wpAny_pyNext_list_end hA hit hp.l (by rw[<- hp.n];simp) fun h' e=>?_)
  show wpAny _ A.in1 (Builtin.Dict.addKeywords d [] >>= fun _=>ret Value.none) _ _ _
  refine xab (xar (xar ?_))
  exact hR h' s.toks (hd.extBut e ne) fun b o _ n2 hb=>e b o n2 hb
 |succ k ih=>
  intro i s hk hi hd hit hp hR
  have hlt:i<kvs.length:=by omega
  obtain⟨t,key,h1,h2,h3⟩:=hp.p i kvs[i] (xa0 hlt)
  refine codeAny_builtin J6 ?_
  rw[Around.under_plainId tH _]
  show wpAny _ A.in1 (pyNext (.ref it) >>= _) _ _ s
  refine xab (wpAny_pyNext_list_item hit hp.l h1 fun g git sb=>?_)
  obtain⟨oi,hoi,ci,di⟩:=hit
  have hp1:gA knd g l items kvs:=hp.but hoi (by rw[ci];decide) (by rw[ci];decide) fun b o n hb=>(sb.2 b n).trans hb
  have hd1:g.DictOf knd d (merged [] (kvs.take i)):=hd.sameBut sb ne
  obtain⟨t',key',h1',h2',h3'⟩:=hp1.p i kvs[i] (xa0 hlt)
  rw[h1] at h1';cases h1'
  show wpAny _ A.in1 (holding [Value.ref t] _ >>= _) _ _ _
  refine xab (wpAny_holding (xab (wpAny_tryCatch (YV h2' ?_))))
  show wpAny _ A.in1 (holding [key',(kvs[i]).2] (dictSet d key' (kvs[i]).2)) _ _ _
  refine wpAny_holding (wpAny_dictSet_pairs h3' hd1 (fun g2 hd2 sb2=>?_) ?_)
  ·rw[<- merged_take_succ [] kvs i kvs[i] (xa0 hlt)] at hd2
   have git2:g2.IsListIter it l (i+1):=by
    obtain⟨o,ho,r⟩:=git
    exact⟨o,(sb2.2 it (xay ne)).trans ho,r⟩
   obtain⟨od,_,_,hod,cd,_⟩:=hd1
   have hp2:gA knd g2 l items kvs:=hp1.but hod (by rw[cd.1];decide) (by rw[cd.1];decide) fun b o n hb=>(sb2.2 b n).trans hb
   refine xar ⟨plainId_quiet tH _,?_⟩
   refine ih (i+1) _ (by omega) hlt hd2 git2 hp2 fun h' tk a b=>hR h' tk a fun c o n1 n2 hc=>b c o n1 n2 ((sb2.2 c n1).trans ((sb.2 c n2).trans hc))
  ·have:=merged_length_le [] (kvs.take i)
   simp at this
   omega
theorem YX{A:Around}{E:Value->Shared->Prop}{s:Shared}{l:Addr}{ol:Obj}{items:Array Value}{kvs:List (K×Value)}{Q:Value->Shared->Prop}(hA:A.handled=none)(hz:kvs.length<=sizeLine)(ho:s.heap.get? l=some ol)(hn:ol.dict=none)(hp:gA knd s.heap l items kvs)
  (h:∀h' tk,h'.DictOf knd s.heap.objs.size (merged [] kvs)->(∀b o,s.heap.get? b=some o->h'.get? b=some o)->Q (.ref s.heap.objs.size) { s with heap:=h',toks:=tk }) :
  wpAny (model P w) A (call (.type "dict") [.ref l]) Q E s:=by
 refine callType_codes (Q₁:=fun obj s₁=>obj=.ref s.heap.objs.size/\s₁={ s with heap:=s.heap.push { cls:=.type "dict",data:=.dict #[] } }) F.kt_called_dict (F.kt_typeCall_dict_1 _) F.entry_dict_init (kt_code_dict_new _ ⟨rfl,rfl⟩) ?_
 rintro obj s₁ ⟨rfl,rfl⟩
 have hnew:(s.heap.push { cls:=.type "dict",data:=.dict #[] }).DictOf knd s.heap.objs.size []:=Heap.DictOf.new s.heap
 have hp':gA knd (s.heap.push { cls:=.type "dict",data:=.dict #[] }) l items kvs:=hp.mono fun b o e=>xad _ e
 obtain⟨o',ho',cl,nn,dat⟩:=hp.l
 rw[ho] at ho';cases ho'
 refine⟨hnew.typeIs,F.args_dict_init_2 _ _,?_⟩
 unfold Builtin.«dict.__init__»
 refine xab ?_
 unfold Builtin.Dict.selfAndRest
 refine xab (wpAny_notOrdered_dict hnew.typeIs ?_)
 show wpAny _ _ (pure (s.heap.objs.size,[Value.ref l])) _ _ _
 refine xar ?_
 show wpAny _ _ (Builtin.Dict.updateFrom "dict.__init__" s.heap.objs.size (.ref l) [] .none) _ _ _
 unfold Builtin.Dict.updateFrom
 refine xab (wpAny_typeOf hp'.l.typeIs ?_)
 rw[xal (by decide)]
 refine xab (YU (xad _ ho) cl dat hn hA fun h1 tk1 k1=>?_)
 rw[xal (by rfl)]
 refine xab (wpAny_rule (xab ?_))
 have hp1:gA knd h1 l items kvs:=hp'.mono k1
 refine wpAny_pyIter_list hp1.l ?_
 have hd1:h1.DictOf knd s.heap.objs.size []:=by
  obtain⟨o,es,ep,ho,r⟩:=hnew
  exact⟨o,es,ep,k1 _ _ ho,r⟩
 have ne:s.heap.objs.size≠h1.objs.size:=by
  obtain⟨o,es,ep,ho,r⟩:=hd1
  exact xa6 (xam ho)
 refine xar ⟨plainId_quiet tH _,?_⟩
 have hd2:(h1.push { cls:=.type "list_iterator",data:=.fields #[.ref l,.int 0 0] }).DictOf knd s.heap.objs.size (merged [] (kvs.take 0)):=hd1.push _
 have hp2:gA knd (h1.push { cls:=.type "list_iterator",data:=.fields #[.ref l,.int 0 0] }) l items kvs:=hp1.mono fun b o e=>xad _ e
 refine YW (A:=A.in1) (knd:=knd) (l:=l) (items:=items) (kvs:=kvs) hA hz ne kvs.length 0 { s with heap:=h1.push { cls:=.type "list_iterator",data:=.fields #[.ref l,.int 0 0] },toks:=tk1 } (by omega) (xbc _) hd2 ⟨_,xav _ rfl,rfl,rfl⟩ hp2 fun h2 tk2 a b=>?_
 refine⟨rfl,h h2 tk2 a fun c o hc=>?_⟩
 have lc:=xam hc
 have c1:=k1 c o (xad _ hc)
 exact b c o (xa6 lc) (xa6 (xam c1)) (xad _ c1)
end
end L2
end
section
set_option maxHeartbeats 2000000
namespace L2
open PyProof.Rows
theorem YY(a b:Value):checkTypeCall "enumerate" ⟨[a],[("start",b)]⟩=pure ():=by kernel_rfl
theorem YZ(a b:Value):checkBuiltinCall "enumerate.__new__" ⟨[.type "enumerate",a],[("start",b)]⟩=pure ():=by kernel_rfl
theorem Y0(a b c:Value):argsOk "object.__init__" ⟨[a,b],[("start",c)]⟩:=by kernel_rfl
section
variable{P:Program}{w:World}{A:Around}{E:Value->Shared->Prop}{s:Shared}
theorem Y1(l:Addr)(items:Array Value)(k:Nat)(dct:Option Addr)(sl:Array (Option Value))(tk:Tok) :
  Meets (Builtin.«enumerate.__new__» ⟨[.type "enumerate",.ref l],[("start",.int 4 tk)]⟩) (fun _ R s=>s.heap.get? l=some { cls:=.type "list",dict:=dct,data:=.seq items k,slots:=sl }/\
   R (.ok (.ret (.ref (s.heap.push { cls:=.type "list_iterator",data:=.fields #[.ref l,.int 0 0] }).objs.size)))
    { s with heap:=(s.heap.push { cls:=.type "list_iterator",data:=.fields #[.ref l,.int 0 0] }).push { cls:=.type "enumerate",data:=.fields #[.none,.bool false,.ref s.heap.objs.size,rawInt 4,.none,.none] } }):=
 .of_wp fun prog w A R s h=>by
  obtain⟨hp,g,d,t,os⟩:=s
  obtain⟨hl,h⟩:=h
  have f1:=sub_enumerate
  have hL:Heap.IsList (Shared.heap ⟨hp,g,d,t,os⟩) l items:=⟨_,hl,rfl,k,rfl⟩
  wp_walk using AutoSeq1.wpAny_loadPart' hl
  refine wpAny_stack_any fun st=>xar ?_
  split
  ·rename_i c _ _ _ _ _
   cases (c==Value.type "enumerate")
   ·wp_walk using AutoSeq1.wpAny_loadPart' hl,wpAny_pyIter_list hL
    exact⟨_,rfl,h⟩
   ·wp_walk using AutoSeq1.wpAny_loadPart' hl,wpAny_pyIter_list hL
    exact⟨_,rfl,h⟩
  ·wp_walk using AutoSeq1.wpAny_loadPart' hl,wpAny_pyIter_list hL
   exact⟨_,rfl,h⟩
theorem Y2(self:Value)(l b:Value) :
  Meets (Builtin.«object.__init__» ⟨[self,l],[("start",b)]⟩) (fun _ R s=>s.TypeIs self "enumerate"/\R (.ok (.ret .none)) s):=by
 refine Meets.of_wp fun prog w A R s hs=>?_
 obtain⟨hT,hq⟩:=hs
 have hl:=F.called_enumerate.init.lookup
 have hm:=F.called_enumerate.made
 repeat (any_goals (first|assumption|wp_step))
 exact⟨_,rfl,hq⟩
theorem J7(args:List Value)(kw:List (Str×Value)):(Code.builtin "type.__call__" ⟨.type "enumerate"::args,kw⟩).weight=0/\(Code.builtin "type.__call__" ⟨.type "enumerate"::args,kw⟩).cUnits=1:=⟨rfl,rfl⟩
theorem Y3{l:Addr}{items:Array Value}{tk:Tok}{Q:Value->Shared->Prop}(hL:s.heap.IsList l items)
  (h : ∀ h', IsEnum h' (s.heap.objs.size + 1) s.heap.objs.size 4 .none -> h'.IsListIter s.heap.objs.size l 0 ->
   (∀b o,s.heap.get? b=some o->h'.get? b=some o)->Q (.ref (s.heap.objs.size+1)) { s with heap:=h' }) :
  wpAny (model P w) A (call (.type "enumerate") [.ref l] [("start",.int 4 tk)]) Q E s:=by
 obtain⟨⟨c,dct,dt,sl⟩,hl,hc,n,hd⟩:=hL
 replace hc:c=.type "list":=hc
 replace hd:dt=.seq items n:=hd
 subst hc hd
 obtain⟨c,tl,hmro⟩:=F.called_enumerate.mro
 have hmade:=F.called_enumerate.made
 have hsub:=F.called_enumerate.sub
 have h1:=F.called_enumerate.notType
 have h2:=F.called_enumerate.canCreate
 have hct:=YY (.ref l) (.int 4 tk)
 refine wpAny_call (codeAny_of_tree ?_)
 show wpAny _ _ (callAny (.type "enumerate") _) _ _ _
 refine xar ⟨Code.quiet_builtin _ (by decide +kernel),codeAny_builtin F.entry_type_call ?_⟩
 rw[Around.under_plain (J7 _ _).1 (J7 _ _).2]
 repeat (any_goals (first|assumption|wp_step))
 have hz:(s.heap.push { cls:=.type "list_iterator",data:=.fields #[.ref l,.int 0 0] }).objs.size=s.heap.objs.size+1:=xcu ..
 have k1:codeAny (model P w) A.in1 (.call (.builtin "enumerate.__new__") ⟨[.type "enumerate",.ref l],[("start",.int 4 tk)]⟩) (fun r s₁=>r=.ok (.ret (.ref (s.heap.objs.size+1)))/\s₁={ s with heap:=(s.heap.push { cls:=.type "list_iterator",data:=.fields #[.ref l,.int 0 0] }).push { cls:=.type "enumerate",data:=.fields #[.none,.bool false,.ref s.heap.objs.size,rawInt 4,.none,.none] } }) s:=
  codeAny_call_builtin F.called_enumerate.plain F.entry_enumerate_new (wpAny_of_eq (YZ _ _) (Y1 l items n dct sl tk P w A.in1 (fun r s₁=>r=.ok (.ret (.ref (s.heap.objs.size+1)))/\s₁=_) s ⟨hl,by rw[hz],rfl⟩))
 refine codeAny_mono k1 fun r s₁ hr=>?_
 obtain⟨rfl,rfl⟩:=hr
 have he:IsEnum ((s.heap.push { cls:=.type "list_iterator",data:=.fields #[.ref l,.int 0 0] }).push { cls:=.type "enumerate",data:=.fields #[.none,.bool false,.ref s.heap.objs.size,rawInt 4,.none,.none] }) (s.heap.objs.size+1) s.heap.objs.size 4 .none:=by
  rw[<- hz];exact xav _ rfl
 have hT:Shared.TypeIs { s with heap:=(s.heap.push { cls:=.type "list_iterator",data:=.fields #[.ref l,.int 0 0] }).push { cls:=.type "enumerate",data:=.fields #[.none,.bool false,.ref s.heap.objs.size,rawInt 4,.none,.none] } } (.ref (s.heap.objs.size+1)) "enumerate":=⟨_,he,rfl⟩
 have hli:=F.called_enumerate.init.lookup
 have hbi:=F.called_enumerate.init.bind (.ref (s.heap.objs.size+1))
 repeat (any_goals (first|assumption|wp_step))
 have k2:codeAny (model P w) A.in1 (.call (.builtin "object.__init__") ⟨[.ref (s.heap.objs.size+1),.ref l],[("start",.int 4 tk)]⟩) (fun r s₁=>r=.ok (.ret .none)/\s₁={ s with heap:=(s.heap.push { cls:=.type "list_iterator",data:=.fields #[.ref l,.int 0 0] }).push { cls:=.type "enumerate",data:=.fields #[.none,.bool false,.ref s.heap.objs.size,rawInt 4,.none,.none] } }) { s with heap:=(s.heap.push { cls:=.type "list_iterator",data:=.fields #[.ref l,.int 0 0] }).push { cls:=.type "enumerate",data:=.fields #[.none,.bool false,.ref s.heap.objs.size,rawInt 4,.none,.none] } }:=
  codeAny_call_builtin F.called_enumerate.init.plain F.entry_object_init (F.called_enumerate.init.check _ _ _ _ _ _ _ _ hT (Y0 _ _ _) (Y2 _ _ _ P w A.in1 (fun r s₁=>r=.ok (.ret .none)/\s₁=_) _ ⟨hT,rfl,rfl⟩))
 refine codeAny_mono k2 fun r₂ s₂ hr₂=>?_
 obtain⟨rfl,rfl⟩:=hr₂
 repeat (any_goals (first|assumption|wp_step))
 exact h _ he ⟨_,xad _ (xav _ rfl),rfl,rfl⟩ fun b o x=>xad _ (xad _ x)
end
def x0(K:xFg)(a:Addr):It:=
 ⟨fun i H => ∃ xs x, aY K H a xs /\ xs[i]? = some x,
  fun i H v H'=>∃T x,v=.ref T/\H T=none/\H'=aG H T (.tup [.int (i+4:Nat),x])/\∀xs,aY K H a xs->xs[i]? = some x,
  fun i H=>∃xs,aY K H a xs/\xs.length<=i⟩
structure EL4(e it a:Addr)(k:Nat)(h:Heap):Prop where
 e:∃old,IsEnum h e it ((k+4:Nat):Int) old
 it:h.IsListIter it a k
theorem Y4{P:Program}{w:World}{A:Around}{it l:Addr}{items:Array Value}(hA:A.handled=none)(ne:l≠it):Draws P w A it [it,l] (items.size+4) (fun j x=>items[j-4]? = some x) (fun j h=>4<=j/\h.IsListIter it l (j-4)/\h.IsList l items) where
 live:=fun i h ⟨_,⟨o,ho,_⟩,_⟩=>⟨o,ho⟩
 frame:=fun i h h' ⟨h4,⟨o,ho,r⟩,⟨p,hp,r'⟩⟩ k=>⟨h4,⟨o,k it (by simp) o ho,r⟩,⟨p,k l (by simp) p hp,r'⟩⟩
 item:=fun i s Q E hi ⟨h4,h1,h2⟩ hQ=>by
  have hx:items[i-4]? = some items[i-4]:=Array.getElem?_eq_getElem (by omega)
  refine wpAny_nextOf_list_item h1 h2 hx fun h' a sb=>hQ _ h' s.toks hx ⟨by omega,?_,?_⟩ sb
  ·rw[show i+1-4=i-4+1 by omega];exact a
  ·obtain⟨o,ho,r⟩:=h2
   exact⟨o,(sb.2 l ne).trans ho,r⟩
 done:=fun s Q E ⟨h4,h1,h2⟩ hE=>wpAny_nextOf_list_end hA h1 h2 (by simp) hE
theorem Y5{P:Program}{w:World}{A:Around}{it l:Addr}{items:Array Value}{i:Nat}(hA:A.handled=none)(hi:items.size<=i):Draws P w A it [it,l] (i+4) (fun _ _=>True) (fun j h=>j=i+4/\h.IsListIter it l i/\h.IsList l items) where
 live:=fun i h ⟨_,⟨o,ho,_⟩,_⟩=>⟨o,ho⟩
 frame:=fun i h h' ⟨h4,⟨o,ho,r⟩,⟨p,hp,r'⟩⟩ k=>⟨h4,⟨o,k it (by simp) o ho,r⟩,⟨p,k l (by simp) p hp,r'⟩⟩
 item:=fun i s Q E hi ⟨h4,h1,h2⟩ hQ=>xaq hi (by omega)
 done:=fun s Q E ⟨h4,h1,h2⟩ hE=>wpAny_nextOf_list_end hA h1 h2 (by simpa using hi) hE
theorem J9{P:Program}{w:World}{K:xFg}{es:List Expr}{ct:Nat}{ps:Pos}{e it a:Addr}(ne:e≠it):kG P w K (.Tuple es ct ps) (x0 K a) [e,it] e (EL4 e it a) where
 mem:=by simp
 obj:=fun i h st c hc=>by
  simp only[xa1,xbi,or_false] at hc
  rcases hc with rfl|rfl
  ·obtain⟨old,q⟩:=st.e
   exact⟨_,q,fun v q=>by cases q⟩
  ·obtain⟨o,e,c,d⟩:=st.it
   exact⟨o,e,fun v q=>by rw[d] at q;cases q⟩
 keep:=fun i h h' st k=>by
  obtain⟨old,q⟩:=st.e
  exact⟨⟨old,k _ (by simp) _ q⟩,st.it.at fun o e=>k _ (by simp) o e⟩
 item:=by
  intro X hP hw hK hc i pins s σ H E I hf st hg
  subst hP hw hK
  obtain⟨xs,x,h1,hx⟩:=hg
  obtain⟨its,rv,p,_⟩:=I.list h1
  obtain⟨u,hu,ru⟩:=rv.get hx
  obtain⟨old,q0⟩:=st.e
  obtain⟨oi,qi,ci,di⟩:=st.it
  obtain⟨ol,ql,cl,dl⟩:=p.isList
  have nal:a≠it:=fun z=>by subst z;rw[qi] at ql;cases ql;rw[ci] at cl;exact xaq cl (by decide)
  have nel:e≠a:=fun z=>by subst z;rw[q0] at ql;cases ql;exact xaq (show Value.type "enumerate"=Value.type "list" from cl) (by decide)
  have hlt:i<its.length:=(xaf.mp hu).1
  refine wpAny_pyNext_enum_itemD (i:=i+4) (Y4 (items:=its.toArray) (I.ok.hd hc) nal) q0 ⟨by omega,by rw[Nat.add_sub_cancel];exact st.it,p.isList⟩ (by simpa using hlt) ne (by simp[ne,nel]) fun y g tk hy Zz Zi pg sg kg=>⟨_,rfl,?_⟩
  rw[Nat.add_sub_cancel] at hy
  obtain rfl:y=u:=by
   have z:its.toArray[i]? = some u:=by simpa using hu
   rw[z] at hy;exact(xaw hy).symm
  refine wpAny_letOwnedTupleGo_enum Zz fun g' zg sb=>?_
  have I1:aD X pins σ (aG H s.heap.objs.size (.tup [.int (i+4:Nat),x])) { s with heap:=s.heap.push (tp2 (.int (i+4:Nat) tk) y),toks:=s.toks }:=
   I.laid (fun _ _ q=>xad _ q) (xag _) ⟨by show 2<=sizeLine;decide,[.int (i+4:Nat) tk,y],.cons ⟨tk,rfl⟩ (.cons ru .nil),⟨_,xav _ rfl,rfl,⟨0,rfl⟩,rfl⟩⟩
  have fr:∀c∈[e,it],c≠s.heap.objs.size:=fun c hc ec=>by
   simp only[xa1,xbi,or_false] at hc
   rcases hc with rfl|rfl
   ·exact xa6 (xam q0) ec
   ·exact xa6 (xam qi) ec
  have I2:aD X pins σ (aG H s.heap.objs.size (.tup [.int (i+4:Nat),x])) { s with heap:=g',toks:=tk+1 }:=by
   refine aD.turnedL (s:={ s with heap:=s.heap.push (tp2 (.int (i+4:Nat) tk) y),toks:=s.toks }) (h':=g') (t':=tk+1) (ch:=[e,it]) I1 (fun c o hc ec=>?_) fun c hc=>?_
   ·have cz:c≠e:=fun q=>hc (by simp[q])
    rcases Heap.get?_push_cases ec with⟨rfl,rfl⟩|ec
    ·exact sb.extBut _ _ cz pg
    ·exact sb.extBut _ _ cz (kg c o cz (fun q=>hc (by simp[q])) ec)
   ·exact⟨by rw[aH (fr c hc)];exact(hf c hc).1,(hf c hc).2⟩
  have Zi':g.IsListIter it a (i+1):=by
   have:=Zi.2.1
   rw[show i+4+1-4=i+1 by omega] at this
   exact this
  refine⟨.ref s.heap.objs.size,_,I2,rfl,⟨_,x,rfl,I.fresh,rfl,fun zs hz=>by rw[I.list_inj hz h1];exact hx⟩,⟨⟨_,by rw[show ((i+1+4:Nat):Int)=((i+4:Nat):Int)+1 by omega];exact zg⟩,Zi'.at fun o eo=>sb.extBut _ _ ne.symm eo⟩,fun c hc=>by rw[aH (fr c hc)];exact(hf c hc).1⟩
 done:=by
  intro X hP hw hK hc i pins s σ H E I hf st hg
  subst hP hw hK
  obtain⟨xs,h1,hx⟩:=hg
  obtain⟨its,rv,p,_⟩:=I.list h1
  obtain⟨old,q0⟩:=st.e
  obtain⟨oi,qi,ci,di⟩:=st.it
  obtain⟨ol,ql,cl,dl⟩:=p.isList
  have hl:=rv.length
  refine wpAny_pyNext_enum_endD (Y5 (i:=i) (items:=its.toArray) (I.ok.hd hc) (by simp;omega)) q0 ⟨rfl,st.it,p.isList⟩ fun g kg=>⟨rfl,I.turnedL (t':=s.toks) (ch:=[e,it]) (fun c o hc ec=>?_) hf⟩
  exact kg c o (fun q=>hc (by simp[q])) ec
 self:=fun A i s Q E st h=>by
  obtain⟨old,q0⟩:=st.e
  exact wpAny_pyIter_enum q0 h
end L2
namespace DL
open L2 PyProof.Rows
section
variable{X:Cx}{E:XK}
def Y6(K:xFg)(ta tb:TA):TI:=fun σ H R=>ta σ H fun vs H1=>tb σ H1 fun ws H2=>∃a,vs=[.ref a]/\ws=[.int 4]/\(∃xs,aY K H2 a xs)/\R (x0 K a) H2
theorem Y7{a b:Expr}{ta tb:TA}{p pos ps kpos:Pos}{es:List Expr}{ct:Nat}(hg:Gl X "enumerate")(hm:X.mg "enumerate"=none)(ha:PA X [a] ta)(hb:PK X [⟨some "start",b,kpos⟩] tb)(hs:backTo pos (starEach [a] X.env)=(false,eval a X.env)::backTo pos (starEach [] X.env):=by rfl)
  (hpl:(backTo pos (starEach [a] X.env)).any (·.1)=false:=by rfl) (hall:(backToKw pos (keywordEach [⟨some "start",b,kpos⟩] X.env)).all (·.1.isSome)=true:=by rfl) (hkw:(backToKw pos (keywordEach [⟨some "start",b,kpos⟩] X.env)).any (·.1.isNone)=false:=by rfl)
  (hn:(backToKw pos (keywordEach [⟨some "start",b,kpos⟩] X.env)).filterMap (·.1)=[("start":Str)]:=by rfl) :
  PI X (.Tuple es ct ps) (.Call (.Name "enumerate" p) [a] [⟨some "start",b,kpos⟩] pos) (Y6 X.K ta tb):=by
 intro pins s σ H R I h
 refine wpAny_Call_Name_kw (k8 I hg hm XR ?_)
 unfold callWith
 have hA:=ha pos pins s σ H _ I h
 rw[hs] at hA
 rw[hs]
 refine xab (wpAny_holding (evalArgs_kw hall (aJ hA fun us s1 ⟨vs,H1,I1,r1,q1⟩=>aJ (hb pos pins s1 σ H1 _ I1 q1) fun ks s2 ⟨ws,H2,I2,r2,q2⟩=>xab (wpAny_standAt ?_))))
 rw[hs] at hpl
 simp only[hpl,hkw,hn,Bool.or_false]
 refine xab (xar ?_)
 obtain⟨a,e1,e2,⟨xs,hx⟩,q⟩:=q2
 subst e1 e2
 cases r1 with
 |cons r rr=>
  cases rr
  cases r
  cases r2 with
  |cons r' rr'=>
   cases rr'
   obtain⟨tk,rfl⟩:=r'
   obtain⟨its,_,p1,_⟩:=I2.list hx
   refine xab (Y3 p1.isList fun g zz zi kg=>xab (wpAny_holding (wpAny_point (xar ?_))))
   have st:EL4 (s2.heap.objs.size+1) s2.heap.objs.size a 0 g:=⟨⟨_,zz⟩,zi⟩
   have ne:s2.heap.objs.size+1≠s2.heap.objs.size:=xcm (xcg _)
   refine(J9 (P:=X.prog) (w:=X.w) (K:=X.K) (es:=es) (ct:=ct) (ps:=ps) ne).self X.A 0 { s2 with heap:=g } _ _ st ?_
   refine⟨_,[s2.heap.objs.size+1,s2.heap.objs.size],_,_,H2,rfl,I2.kept (t':=s2.toks) kg,J9 ne,st,fun c hc=>?_,q⟩
   have hc:s2.heap.objs.size<=c:=by
    simp only[xa1,xbi,or_false] at hc
    rcases hc with rfl|rfl
    ·exact Nat.le_add_right _ _
    ·exact xag _
   exact I2.fpOk hc (I2.hok.fresh hc)
def qM(fa:DSt->R (List D))(fb:DSt->R D):DSt->R (List D):=fun σ=>(fa σ).bind fun ds=>(fb σ).bind fun d=>match ds,d with
 |[.lst xs],.int n=>bif n==4 then .ok (fY 4 xs) else .bad
 |_,_=>.bad
theorem fF.enum4{K:xFg}{mg:Str->Option Value}{G:Hp}{a:Addr}{vs:List V}{xs:List D}(h:aY K G a vs)(r:Reps K mg G xs vs):fF K mg (x0 K a) G (fY 4 xs):=by
 refine⟨fun H e=>⟨vs,e.seq h,by rw[xT,r.length];exact xag _⟩,fun H i d e hd=>?_⟩
 obtain⟨x,hx,rfl⟩:=JK xs 4 i d hd
 obtain⟨v,hv,rv⟩:=r.get hx
 refine⟨⟨vs,v,e.seq h,hv⟩,?_⟩
 rintro _ H' ⟨T,v',rfl,hn,rfl,q1⟩ G1 e1 e2
 have z1:=q1 _ (e.seq h)
 rw[hv] at z1;cases z1
 have st:=Step.pub (o:=.tup [.int (i+4:Nat),v]) e2 hn
 exact⟨aG G1 T (.tup [.int (i+4:Nat),v]),st,T,[.int (i+4:Nat),v],rfl,bG.of aU,.cons (by rw[xcp 4 i];rfl) (.cons (rv.mono (e1.trans st.g)) rfl)⟩
theorem Y8{a b:Expr}{fs:DSt->R (List D)}{fb:DSt->R D}{p pos ps kpos:Pos}{es:List Expr}{ct:Nat}(hm:X.mg "enumerate"=none)(ha:DA X E [a] fs)(hb:DE X E b fb)(hg:Gl X "enumerate":=by rfl)(hs:backTo pos (starEach [a] X.env)=(false,eval a X.env)::backTo pos (starEach [] X.env):=by rfl)
  (hpl:(backTo pos (starEach [a] X.env)).any (·.1)=false:=by rfl) (hall:(backToKw pos (keywordEach [⟨some "start",b,kpos⟩] X.env)).all (·.1.isSome)=true:=by rfl) (hkw:(backToKw pos (keywordEach [⟨some "start",b,kpos⟩] X.env)).any (·.1.isNone)=false:=by rfl)
  (hn:(backToKw pos (keywordEach [⟨some "start",b,kpos⟩] X.env)).filterMap (·.1)=[("start":Str)]:=by rfl) :
  DI X E (.Tuple es ct ps) (.Call (.Name "enumerate" p) [a] [⟨some "start",b,kpos⟩] pos) (qM fs fb):=by
 refine PI.mono' (Y7 hg hm ha (RO hb RN) hs hpl hall hkw hn) fun σ H R ⟨G,σd,ok,q⟩=>?_
 refine⟨G,σd,ok,q.of_bind.mono (fun ds c1 z1 vs G1 H1 s1 r1=>?_) fun _ z=>z⟩
 refine⟨G1,σd,ok.step s1,z1.of_bind.mono (fun d c2 z v G2 H2 s2 r2=>?_) fun _ z=>z.step s1⟩
 clear c1 c2 z1 q
 split at z
 ·rename_i xs n
  cases hn:n==4 with
  |false=>rw[hn] at z;exact(show False from z).elim
  |true=>
   rw[hn] at z
   obtain rfl:n=4:=eq_of_beq hn
   cases r2
   obtain⟨v,r1,rfl,⟨a,as,rfl,h1,k1⟩,r3⟩:=r1
   cases r3
   have h1':=s2.g.seq h1
   exact⟨a,rfl,rfl,⟨as,s2.e.seq h1'⟩,(show ∀J G' H',Step G H G' H'->fF X.K X.mg J G' (fY 4 xs)->R J H' from z) _ G2 H2 (s1.trans s2) (.enum4 h1' (k1.mono s2.g))⟩
 ·exact(show False from z).elim
end
end DL
end
section
set_option maxHeartbeats 2000000
namespace DL
open L2 PyProof.Rows
def PV(K:xFg)(H:Hp):List V->List Str->List V->Prop
 |[],[],[]=>True
 |v::vs,k::ks,u::us=>(∃t,v=.ref t/\bG K H t [.str k,u])/\PV K H vs ks us
 |_,_,_=>False
theorem PV.kvs{X:Cx}{pins:List (Addr×Obj)}{σ:L2.St}{H:Hp}{s:Shared}(I:aD X pins σ H s):∀{vs:List V} {ks:List Str} {us:List V} {its:List Value},PV X.K H vs ks us->aP vs its->
  ∃kvs:List (Key×Value),KV ((ks.map Sum.inr).zip us) kvs/\its.length=kvs.length/\kvs.map (·.1)=ks.map Sum.inr/\∀(i:Nat) (kv:Key×Value),kvs[i]? = some kv->∃t key,its[i]? = some (.ref t)/\s.heap.IsTuple t #[key,kv.2]/\(fC X.prog X.w).is kv.1 key=true
 |[],[],[],_,_,.nil=>⟨[],.nil,rfl,rfl,fun i kv e=>by simp at e⟩
 |v::vs,k::ks,u::us,_,⟨⟨t,e1,e2⟩,h⟩,.cons (l₂:=its) r rr=>by
  subst e1
  cases r
  obtain⟨kvs,h1,h2,h3,h4⟩:=PV.kvs I h rr
  obtain⟨is,q1,q2,_⟩:=I.tuple e2
  cases q1 with
  | @cons _ a _ _ ra q1=>
   cases q1 with
   | @cons _ b _ _ rb q1=>
    cases q1
    refine⟨(.inr k,b)::kvs,.cons ⟨rfl,rb⟩ h1,by simp[h2],by simp[h3],fun i kv e=>?_⟩
    cases i with
    |zero=>
     cases e
     exact⟨t,a,rfl,q2,oC (k:=.inr k) ra⟩
    |succ i=>exact h4 i kv e
 |[],_::_,_,_,h,_=>h.elim
 |[],[],_::_,_,h,_=>h.elim
 |_::_,[],_,_,h,_=>h.elim
 |_::_,_::_,[],_,h,_=>h.elim
def j7:List Str->Bool
 |[]=>true
 |k::ks=>!ks.contains k&&j7 ks
theorem KA:∀{ks:List Str},j7 ks=true->(ks.map (Sum.inr:Str->Key)).Nodup
 |[],_=>List.nodup_nil
 |k::ks,h=>by
  unfold j7 at h
  rw[xap] at h
  rw[xa5,xbz]
  refine⟨fun z=>?_,KA h.2⟩
  obtain⟨k',z1,z2⟩:=xby.mp z
  cases z2
  have:=h.1
  rw[List.contains_iff_mem.mpr z1] at this
  cases this
theorem Y9{X:Cx}(hc:X.calm=true):dL X (.type "dict") (fun xs H Q=>∃l vs ks us,xs=[.ref l]/\aY X.K H l vs/\PV X.K H vs ks us/\j7 ks=true/\∀z,H z=none->Q (.ref z) (aG H z (.dK ((ks.map Sum.inr).zip us)))):=by
 intro pins s σ H xs us Q I r h
 obtain⟨l,vs,ks,ws,rfl,hl,hp,hn,q⟩:=h
 obtain⟨u,rfl,ru⟩:=kH r
 cases ru
 obtain⟨its,r1,⟨o,n,ho,cl,dc,dt⟩,hz⟩:=I.list hl
 obtain⟨kvs,k1,k2,k3,k4⟩:=PV.kvs I hp r1
 have hzz:kvs.length<=sizeLine:=by rw[<- k2,<- r1.length];exact hz
 refine YX (knd:=fC X.prog X.w) (items:=its.toArray) (kvs:=kvs) (I.ok.hd hc) hzz ho dc ⟨⟨o,ho,cl,n,dt⟩,by simpa using k2,fun i kv e=>?_⟩ fun h' tk dd kp=>?_
 ·obtain⟨t,key,a,b,c⟩:=k4 i kv e
  exact⟨t,key,by simpa using a,b,c⟩
 ·rw[merged_nil_of_nodup kvs (by rw[k3];exact KA hn)] at dd
  refine⟨.ref s.heap.objs.size,_,I.laid (a:=s.heap.objs.size) (o:=.dK ((ks.map Sum.inr).zip ws)) (t':=tk) kp (xag _) (JY (by rw[k1.length];exact hzz) (beq_eq_false_iff_ne.mpr (xay (xa6 I.big))) k1 dd),rfl,q _ (I.hok.fresh (xag _))⟩
def tK:D->Option (Str×D)
 |.tup [.str k,d]=>some (k,d)
 |_=>none
theorem ZA{x d:D}{k:Str}(h:tK x=some (k,d)):x=.tup [.str k,d]:=by
 unfold tK at h
 split at h
 ·cases h;rfl
 ·cases h
def l7:List D->Option (List Str×List D)
 |[]=>some ([],[])
 |p::ps=>(tK p).bind fun x=>(l7 ps).bind fun r=>some (x.1::r.1,x.2::r.2)
def oG:List D->R D
 |[.lst ps]=>match l7 ps with
  |some (ks,ds)=>bif j7 ks then .ok (.dct (ks.map Sum.inr) ds) else .bad
  |none=>.bad
 |_=>.bad
theorem KB{K:xFg}{mg:Str->Option Value}{G:Hp}:∀{ps:List D} {vs:List V} {ks:List Str} {ds:List D},Reps K mg G ps vs->l7 ps=some (ks,ds)->∃us,PV K G vs ks us/\Reps K mg G ds us/\ks.length=us.length
 |[],vs,ks,ds,r,h=>by
  unfold l7 at h
  cases h;cases r
  exact⟨[],trivial,Reps.nil,rfl⟩
 |p::ps,vs,ks,ds,r,h=>by
  unfold l7 at h
  obtain⟨⟨k,d⟩,h0,h⟩:=xaa.mp h
  obtain⟨⟨ks',ds'⟩,h1,h2⟩:=xaa.mp h
  cases h2
  rw[ZA h0] at r
  obtain⟨v,vs',rfl,⟨t,ws,rfl,ht,rw'⟩,r'⟩:=r
  obtain⟨us,q1,q2,q3⟩:=KB r' h1
  obtain⟨_,_,rfl,rfl,u,_,rfl,ru,rfl⟩:=rw'
  exact⟨u::us,⟨⟨t,rfl,ht⟩,q1⟩,Reps.cons ru q2,by simp[q3]⟩
theorem PV.mono{K:xFg}{G H:Hp}(e:Same G H):∀{vs:List V} {ks:List Str} {us:List V},PV K G vs ks us->PV K H vs ks us
 |[],[],[],_=>trivial
 |_::_,_::_,_::_,⟨⟨t,e1,e2⟩,h⟩=>⟨⟨t,e1,Same.sqT e e2⟩,PV.mono e h⟩
 |[],_::_,_,h=>h.elim
 |[],[],_::_,h=>h.elim
 |_::_,[],_,h=>h.elim
 |_::_,_::_,[],h=>h.elim
section
variable{X:Cx}{E:XK}{a b:Expr}{fa fb:DSt->R D}{pos:Pos}
theorem ZB{p:Pos}(hc:X.calm=true)(hm:X.mg "dict"=none)(ha:DA X E [a] (aB fa aF))(hg:Gl X "dict":=by rfl)(he:starEach [a] X.env=(false,eval a X.env)::starEach [] X.env:=by rfl)(hpl:(backTo pos (starEach [] X.env)).any (·.1)=false:=by rfl) :
  DE X E (.Call (.Name "dict" p) [a] [] pos) (aK oG (aB fa aF)):=
 vY (Y9 hc) (fun G H ds vs Q e r q=>by
  unfold oG at q
  split at q
  ·rename_i ps
   obtain⟨v,_,rfl,⟨l,us,rfl,hl,hr⟩,rfl⟩:=r
   split at q
   ·rename_i ks ds hp
    cases hn:j7 ks with
    |false=>rw[hn] at q;exact(show False from q).elim
    |true=>
     rw[hn] at q
     obtain⟨ws,p1,p2,p3⟩:=KB hr hp
     refine⟨l,us,ks,ws,rfl,e.seq hl,p1.mono e,hn,fun z hz=>?_⟩
     have sp:=Step.pub (o:=.dK ((ks.map Sum.inr).zip ws)) e hz
     exact(show aL X.K X.mg Q G H (.dct (ks.map Sum.inr) ds) from q) _ _ _ sp ⟨z,ws,rfl,.inl aU,by simpa using p3,p2.mono sp.g⟩
   ·exact(show False from q).elim
  ·exact(show False from q).elim) hm ha (by rfl) hg (by decide) (by decide) he hpl
end
end DL
end
namespace Sk
open PySem
def top(i:Nat):Stmt:=PySem.Challenge.pw_chalkline_k61_names_that_lack.main.body.getD i (.Pass ⟨0,0,0,0⟩)
abbrev sCls:Stmt:=top 19
abbrev sDrawn:Stmt:=top 26
end Sk
namespace Sk
open L2 PyProof.Rows
abbrev x2:Stmt:=aO sCls 1
structure SK where
 e:Int
 n:Int
 c:Int
 t:Int
 pegs:Int
 lines:Int
 plan:List (Str×Int×Int)
 drawn:List (List Key×V)
def c9(sk:SK)(l d:Addr):List (Str×V):=[("east",.int sk.e),("north",.int sk.n),("corner",.int sk.c),("top",.int sk.t),("pegs",.int sk.pegs),("lines",.int sk.lines),("plan",.ref l),("drawn",.ref d)]
theorem KC(sk:SK)(l d:Addr):(c9 sk l d).lookup ("lines":Str)=some (.int sk.lines):=by rfl
theorem kU(sk:SK)(l d:Addr):(c9 sk l d).lookup ("drawn":Str)=some (.ref d):=by rfl
theorem x3(sk:SK)(l d:Addr):(c9 sk l d).lookup ("plan":Str)=some (.ref l):=by rfl
theorem ZC(sk:SK)(l d:Addr)(z:Int):cC "lines" (.int z) (c9 sk l d)=c9 { sk with lines:=z } l d:=by rfl
abbrev deedD(x:Str×Int×Int):DL.D:=.tup [.str x.1,.int x.2.1,.int x.2.2]
abbrev bK(w:Str)(a b:Int):List Key:=[.inr w,.inl a,.inl b]
variable{P:Program}{w:World}{K:xFg}{mg:Str->Option Value}{base:Heap}
structure SkAt(K:xFg)(mg:Str->Option Value)(C:Addr)(G H:Hp)(p l d:Addr)(sk:SK):Prop where
 hp:∃dx,H p=some (.ins C dx (c9 sk l d))
 hl:∃vs,H l=some (.lst vs)/\DL.Reps K mg G (sk.plan.map deedD) vs
 hd:H d=some (.dT sk.drawn)
 gp:G p=none
 gl:G l=none
 gd:G d=none
 vi:∀kv∈sk.drawn,∃i,kv.2=.int i
def fI(sk:SK)(a b:Int):Int×SK:=match bW sk.drawn (bK "line" a b) with
 |some (.int r)=>(r,sk)
 |_=>(sk.lines,{ sk with lines:=sk.lines+1,plan:=sk.plan++[(("line":Str),a,b)],drawn:=L2.putK sk.drawn (bK "line" a b) (.int sk.lines) })
structure StepO(G H G' H':Hp)(p l d:Addr):Prop where
 g:Same G G'
 e:Same G' H'
 h:∀b o,H b=some o->b≠p->b≠l->b≠d->H' b=some o
 c:∀a o,H a=some o->G a=none->G' a=none
structure qN(K:xFg)(mg:Str->Option Value)(C:Addr):Prop where
 cl:eN K C
 nL:eO K C "lines"
 nD:eO K C "drawn"
 nP:eO K C "plan"
 nG:eO K C "pegs"
def small(sk:SK):Prop:=sk.plan.length<=100000/\sk.drawn.length<=100000
def ZD(K:xFg)(mg:Str->Option Value)(C:Addr):Sp:=fun vs H Q _=>∃(G:Hp) (p l d:Addr) (sk:SK) (a b:Int),vs=[.ref p,.int a,.int b]/\Same G H/\SkAt K mg C G H p l d sk/\small sk/\
 ∀G' H',StepO G H G' H' p l d->SkAt K mg C G' H' p l d (fI sk a b).2->Q (.int (fI sk a b).1) H'
theorem KD:cD ["self","one","other","deed"] ["self","one","other"] (bB x2):=⟨rfl,rfl,rfl,by decide +kernel,rfl,by decide +kernel,by decide +kernel⟩
theorem ZE{f C:Addr}{fd:FuncData}{k:Nat}(F:bT K "line" "Sketch.line" x2 f fd)(T:qN K mg C):cF P w K mg base (bM P w) (k+1) f fd ["self","one","other"] (ZD K mg C):=by
 refine F.okX KD (fun vs H Q E h=>?_) (fun cdv A outer s H vs Q E hr h=>?_)
 ·obtain⟨G,p,l,d,sk,a,b,rfl,_⟩:=h
  rfl
 ·obtain⟨G,p,l,d,sk,a,b,rfl,e,S,sm,q⟩:=h
  have hu:=A7 hr
  refine⟨_,cP (gH (i:=3) KD.nd rfl (Or.inl rfl) (mW (cL uQ (cL (pv 1) (cL (pv 2) dM)))))
   (cP (k9 (uS (JZ hu (pv 3) (gJ (pv 0) rfl)))
    (cP (J0 hu (gJ (pv 0) rfl) (pv 3) (gJ (pv 0) rfl) rfl)
    (cP (AI (pv 0) gG AJ)
    (iT (jN (jQ PySem.F.plainAttrs_list PySem.F.slot_list_append PySem.F.type_list_append lH (gJ (pv 0) rfl) (cL (pv 3) dM)))))) mQ)
   (iT (mR (xX hu (gJ (pv 0) rfl) (pv 3) (fun _ _=>rfl))))),?_⟩
  refine⟨_,rfl,_,rfl,(by show 3<=sizeLine;decide),fun t ht=>?_⟩
  obtain⟨⟨dx,h1⟩,⟨vs,hl,hv⟩,hd,gp,gl,gd,vi⟩:=S
  have npt:p≠t:=bC h1 ht
  have nlt:l≠t:=bC hl ht
  have ndt:d≠t:=bC hd ht
  have npl:p≠l:=iR h1 hl (by intro z;cases z)
  have npd:p≠d:=iR h1 hd (by intro z;cases z)
  have nld:l≠d:=iR hl hd (by intro z;cases z)
  obtain⟨H1,eH⟩:∃H1,H1=aG H t (.tup [.str "line",.int a,.int b]):=⟨_,rfl⟩
  have ep:H1 p=some (.ins C dx (c9 sk l d)):=by rw[eH,aH npt];exact h1
  have el:H1 l=some (.lst vs):=by rw[eH,aH nlt];exact hl
  have ed:H1 d=some (.dT sk.drawn):=by rw[eH,aH ndt];exact hd
  have et:H1 t=some (.tup ((bK "line" a b).map kV)):=by rw[eH,aU];rfl
  have sp:DL.Step G H (aG G t (.tup [.str "line",.int a,.int b])) H1:=by rw[eH];exact DL.Step.pub e ht
  rw[show aG H t (.tup [V.str "line",V.int a,V.int b])=H1 from eH.symm] 
  refine⟨_,rfl,_,rfl,p,C,dx,_,_,rfl,ep,T.cl,T.nD,kU _ _ _,d,_,rfl,fR.t (k:=bK "line" a b) ed et,_,rfl,?_⟩
  have g1:=fR.t (k:=bK "line" a b) ed et
  cases ev:bW sk.drawn (bK "line" a b) with
  |some v=>
   obtain⟨r,rfl⟩:∃r,v=.int r:=by
    unfold bW at ev
    obtain⟨kv,h2,rfl⟩:=xbp.mp ev
    exact vi kv (List.mem_of_find?_eq_some h2)
   refine jR ?_
   rw[ev] at g1
   refine⟨_,rfl,p,C,dx,_,_,rfl,ep,T.cl,T.nD,kU _ _ _,_,rfl,d,_,rfl,g1,?_⟩
   have em:fI sk a b=(r,sk):=by unfold fI;rw[ev]
   rw[em] at q
   refine q _ H1 ⟨sp.g,sp.e,fun b' o h _ _ _=>sp.h b' o h,sp.c⟩ ⟨⟨dx,ep⟩,⟨vs,el,hv.mono sp.g⟩,ed,sp.c p _ h1 gp,sp.c l _ hl gl,sp.c d _ hd gd,vi⟩
  |none=>
   refine jS ?_
   have em:fI sk a b=(sk.lines,{ sk with lines:=sk.lines+1,plan:=sk.plan++[(("line":Str),a,b)],drawn:=L2.putK sk.drawn (bK "line" a b) (.int sk.lines) }):=by unfold fI;rw[ev]
   rw[em] at q
   obtain⟨sm1,sm2⟩:=sm
   refine⟨_,rfl,p,C,dx,_,_,rfl,ep,T.cl,T.nL,KC _ _ _,_,rfl,p,C,dx,_,_,rfl,ep,T.cl,T.nD,kU _ _ _,_,rfl,d,_,rfl,oE.t (k:=bK "line" a b) ed et (xbf sm2 (by decide)),?_⟩
   have ep2:(aG H1 d (.dT (L2.putK sk.drawn (bK "line" a b) (V.int sk.lines)))) p=some (.ins C dx (c9 sk l d)):=by rw[aH npd];exact ep
   refine⟨_,rfl,p,C,dx,_,_,rfl,ep2,T.cl,T.nL,KC _ _ _,_,_,rfl,rfl,dx,_,ep2,(by show 8<1000;decide),?_⟩
   obtain⟨H3,e3⟩:∃H3,H3=aG (aG H1 d (.dT (L2.putK sk.drawn (bK "line" a b) (V.int sk.lines)))) p (.ins C dx (cC "lines" (V.int (sk.lines+1)) (c9 sk l d))):=⟨_,rfl⟩
   rw[<- e3]
   have p3:H3 p=some (.ins C dx (c9 { sk with lines:=sk.lines+1 } l d)):=by rw[e3,aU,ZC]
   have l3:H3 l=some (.lst vs):=by rw[e3,aH npl.symm,aH nld];exact el
   have d3:H3 d=some (.dT (L2.putK sk.drawn (bK "line" a b) (V.int sk.lines))):=by rw[e3,aH npd.symm,aU]
   have t3:H3 t=some (.tup ((bK "line" a b).map kV)):=by rw[e3,aH npt.symm,aH ndt.symm];exact et
   have vlen:vs.length<=100000:=by rw[<- hv.length,xai];exact sm1
   refine⟨_,rfl,p,C,dx,_,.ref l,rfl,p3,T.cl,T.nP,x3 _ _ _,.inl ⟨rfl,_,aY.of l3⟩,_,rfl,l,_,_,rfl,rfl,l3,(xbf vlen (by decide)),?_⟩
   have p4:(aG H3 l (.lst (vs++[V.ref t]))) p=some (.ins C dx (c9 { sk with lines:=sk.lines+1 } l d)):=by rw[aH npl];exact p3
   have d4:(aG H3 l (.lst (vs++[V.ref t]))) d=some (.dT (L2.putK sk.drawn (bK "line" a b) (V.int sk.lines))):=by rw[aH nld.symm];exact d3
   have t4:(aG H3 l (.lst (vs++[V.ref t]))) t=some (.tup ((bK "line" a b).map kV)):=by rw[aH nlt.symm];exact t3
   have g4:=fR.t (k:=bK "line" a b) d4 t4
   rw[oB,xal rfl] at g4
   refine⟨_,rfl,p,C,dx,_,_,rfl,p4,T.cl,T.nD,kU _ _ _,_,rfl,d,_,rfl,g4,?_⟩
   have gp':=sp.c p _ h1 gp
   have gl':=sp.c l _ hl gl
   have gd':=sp.c d _ hd gd
   have far:∀b',b'≠p->b'≠l->b'≠d->(aG H3 l (.lst (vs++[V.ref t]))) b'=H1 b':=fun b' n1 n2 n3=>by rw[aH n2,e3,aH n1,aH n3]
   refine q _ _ ⟨sp.g,fun b' u h=>?_,fun b' o h n1 n2 n3=>by rw[far b' n1 n2 n3];exact sp.h b' o h,sp.c⟩ ⟨⟨dx,p4⟩,⟨vs++[V.ref t],aU,?_⟩,d4,gp',gl',gd',fun kv hkv=>?_⟩
   ·have n1:b'≠p:=fun z=>by rw[z,gp'] at h;cases h
    have n2:b'≠l:=fun z=>by rw[z,gl'] at h;cases h
    have n3:b'≠d:=fun z=>by rw[z,gd'] at h;cases h
    rw[far b' n1 n2 n3]
    exact sp.e b' u h
   ·rw[xa9]
    refine(hv.mono sp.g).append (DL.Reps.cons ⟨t,_,rfl,bG.of aU,?_⟩ DL.Reps.nil)
    exact DL.Reps.cons rfl (DL.Reps.cons rfl (DL.Reps.cons rfl DL.Reps.nil))
   ·rw[L2.putK_new _ ev] at hkv
    rcases xbe.mp hkv with hkv|hkv
    ·exact vi kv hkv
    ·rw[xbg.mp hkv];exact⟨_,rfl⟩
end Sk
namespace Sk
open L2 PyProof.Rows
theorem StepO.refl{G H:Hp}{p l d:Addr}(e:Same G H):StepO G H G H p l d:=⟨Same.refl _,e,fun _ _ h _ _ _=>h,fun _ _ _ h=>h⟩
theorem StepO.trans{G H G1 H1 G2 H2:Hp}{p l d:Addr}{K:xFg}{mg:Str->Option Value}{C:Addr}{sk sk1:SK}(s0:SkAt K mg C G H p l d sk)(s1:SkAt K mg C G1 H1 p l d sk1)(a:StepO G H G1 H1 p l d)(b:StepO G1 H1 G2 H2 p l d)(g2p:G2 p=none)(g2l:G2 l=none)(g2d:G2 d=none):StepO G H G2 H2 p l d:=
 ⟨a.g.trans b.g, b.e, fun x o h n1 n2 n3 => b.h x o (a.h x o h n1 n2 n3) n1 n2 n3, fun x o h g => by
  by_cases n1:x=p
  ·rw[n1];exact g2p
  ·by_cases n2:x=l
   ·rw[n2];exact g2l
   ·by_cases n3:x=d
    ·rw[n3];exact g2d
    ·exact b.c x o (a.h x o h n1 n2 n3) (a.c x o h g)⟩
inductive W where
 |i (n:Int)
 |t (ns:List Int)
def tL(K:xFg)(G:Hp):W->V->Prop
 |.i n,v=>v=.int n
 |.t ns,v=>∃q,v=.ref q/\bG K G q (ns.map V.int)
def StO(K:xFg)(G:Hp)(p:Addr)(env:List (Option W))(σ:L2.St):Prop:=∃σ',σ=some (.ref p)::σ'/\σ'.length=env.length/\∀(j:Nat) (w:W),env[j]? = some (some w)->∃v,σ'[j]? = some (some v)/\tL K G w v
theorem tL.mono{K:xFg}{G G':Hp}(e:Same G G'):∀{x:W} {v:V},tL K G x v->tL K G' x v
 |.i _,_,h=>h
 |.t _,_,⟨q,h1,h2⟩=>⟨q,h1,DL.Same.sqT e h2⟩
theorem StO.mono{K:xFg}{G G':Hp}{p:Addr}{env:List (Option W)}{σ:L2.St}(h:StO K G p env σ)(e:Same G G'):StO K G' p env σ:=by
 obtain⟨σ',h1,h2,h3⟩:=h
 exact⟨σ',h1,h2,fun j w z=>by
  obtain⟨v,z1,z2⟩:=h3 j w z
  exact⟨v,z1,z2.mono e⟩⟩
theorem StO.self{K:xFg}{G:Hp}{p:Addr}{env:List (Option W)}{σ:L2.St}(h:StO K G p env σ):σ[0]? = some (some (.ref p)):=by
 obtain⟨σ',rfl,_⟩:=h
 rfl
theorem StO.set{K:xFg}{G:Hp}{p:Addr}{env:List (Option W)}{σ:L2.St}{i:Nat}{r:Int}(h:StO K G p env σ):StO K G p (env.set i (some (.i r))) (σ.set (i+1) (some (.int r))):=by
 obtain⟨σ',rfl,h2,h3⟩:=h
 refine⟨σ'.set i (some (.int r)),rfl,by simp[h2],fun j w z=>?_⟩
 rw[List.getElem?_set] at z
 rw[List.getElem?_set]
 by_cases hij:i=j
 ·subst hij
  rw[xal rfl] at z ⊢
  by_cases hl:i<env.length
  ·rw[xal hl] at z
   cases z
   exact⟨_,xal (by omega),rfl⟩
  ·rw[xak hl] at z;cases z
 ·rw[xak hij] at z ⊢
  exact h3 j w z
abbrev FO:=List (Option W)->SK->Option (Int×SK)
abbrev FA:=List (Option W)->SK->Option (List Int×SK)
def room(c:Nat)(sk:SK):Prop:=sk.plan.length+c<=100000/\sk.drawn.length+c<=100000
def grow(c:Nat)(sk sk':SK):Prop:=sk'.plan.length<=sk.plan.length+c/\sk'.drawn.length<=sk.drawn.length+c
theorem grow.refl(sk:SK):grow 0 sk sk:=⟨xag _,xag _⟩
theorem grow.trans{a b:Nat}{s s1 s2:SK}(h:grow a s s1)(h':grow b s1 s2):grow (a+b) s s2:=⟨by have:=h.1;have:=h'.1;omega,by have:=h.2;have:=h'.2;omega⟩
theorem room.left{a b:Nat}{s:SK}(h:room (a+b) s):room a s:=⟨by have:=h.1;omega,by have:=h.2;omega⟩
theorem room.on{a b:Nat}{s s1:SK}(h:room (a+b) s)(g:grow a s s1):room b s1:=⟨by have:=h.1;have:=g.1;omega,by have:=h.2;have:=g.2;omega⟩
inductive Tg {α:Type} (K:xFg) (mg:Str->Option Value) (C:Addr) (c:Nat) (f:List (Option W)->SK->Option (α×SK)) (σ:L2.St) (H:Hp) (Q:α->Hp->Addr->Hp->Prop):Prop
 |mk (G:Hp) (p l d:Addr) (env:List (Option W)) (sk:SK) (r:α) (sk':SK) (a:StO K G p env σ) (b:Same G H) (s:SkAt K mg C G H p l d sk) (m:room c sk) (e:f env sk=some (r,sk')) (q:∀G' H',StepO G H G' H' p l d->SkAt K mg C G' H' p l d sk'->Q r G' p H'):Tg K mg C c f σ H Q
def tO(K:xFg)(mg:Str->Option Value)(C:Addr)(c:Nat)(f:FO):TE:=fun σ H Q=>Tg K mg C c f σ H fun r _ _ H'=>Q (.int r) H'
def tOA(K:xFg)(mg:Str->Option Value)(C:Addr)(c:Nat)(f:FA):TA:=fun σ H Q=>Tg K mg C c f σ H fun rs _ _ H'=>Q (rs.map V.int) H'
structure PO(X:Cx)(C:Addr)(e:Expr)(c:Nat)(f:FO):Prop where
 pe:PE X e (tO X.K X.mg C c f)
 gr:∀env sk r sk',f env sk=some (r,sk')->grow c sk sk'
structure oH(X:Cx)(C:Addr)(es:List Expr)(c:Nat)(f:FA):Prop where
 pa:PA X es (tOA X.K X.mg C c f)
 gr:∀env sk r sk',f env sk=some (r,sk')->grow c sk sk'
section
variable{X:Cx}{E:XK}{C:Addr}{e:Expr}{es:List Expr}{c c1 c2 k:Nat}{f f1:FO}{f2:FA}{pos p0 apos:Pos}
theorem j8{n:Int}{j:Nat}:PO X C (.Constant (.int n) j pos) 0 (fun _ sk=>some (n,sk)):=
 ⟨DL.PE.mono' gG fun σ H Q ⟨G, p, l, d, env, sk, r, sk', e1, e2, S, _, e4, q⟩ => by
  cases e4
  exact q G H (StepO.refl e2) S,fun env sk r sk' h=>by cases h;exact grow.refl _⟩
theorem cN(i:Nat){x:Str}(hN:X.N[i+1]? = some x:=by rfl)(hv:cB X.env.scope x:=by first|exact Or.inl rfl|exact Or.inr (Or.inl rfl)|exact Or.inr (Or.inr rfl))(hd:(x==("__debug__":Str))=false:=by decide)
  (hcd:(x==("__classdict__":Str))=false:=by decide):PO X C (.Name x pos) 0 (fun env sk=>match env[i]? with|some (some (.i v))=>some (v,sk)|_=>none):=
 ⟨DL.PE.mono' (pv (i + 1) hN hv hd hcd) (fun σ H Q ⟨G, p, l, d, env, sk, r, sk', e1, e2, S, _, e4, q⟩ => by
  split at e4
  ·rename_i v hv
   cases e4
   obtain⟨σ',rfl,_,h3⟩:=e1
   obtain⟨v',z1,z2⟩:=h3 i _ hv
   cases z2
   exact⟨.int _,z1,q G H (StepO.refl e2) S⟩
  ·cases e4),(fun env sk r sk' h=>by
  split at h
  ·cases h;exact grow.refl _
  ·cases h)⟩
theorem eZ(name:Str)(g:SK->Int)(T:eN X.K C)(na:eO X.K C name)(hf:∀sk l d,(c9 sk l d).lookup name=some (.int (g sk))){x:Str}(hN:X.N[0]? = some x:=by rfl)(hv:cB X.env.scope x:=by first|exact Or.inl rfl|exact Or.inr (Or.inl rfl)|exact Or.inr (Or.inr rfl))(hd:(x==("__debug__":Str))=false:=by decide)
  (hcd:(x==("__classdict__":Str))=false:=by decide) (hb:attributeBase (.Name x p0) name X.env (eval (.Name x p0) X.env)=eval (.Name x p0) X.env:=by rfl):PO X C (.Attribute (.Name x p0) name pos) 0 (fun _ sk=>some (g sk,sk)):=
 ⟨DL.PE.mono' (gJ (pv 0 hN hv hd hcd) hb) fun σ H Q ⟨G, p, l, d, env, sk, r, sk', e1, e2, S, _, e4, q⟩ => by
  cases e4
  obtain⟨dx,hp⟩:=S.hp
  exact⟨.ref p,e1.self,p,C,dx,_,_,rfl,hp,T,na,hf _ _ _,q G H (StepO.refl e2) S⟩,fun env sk r sk' h=>by cases h;exact grow.refl _⟩
theorem bS:oH X C [] 0 (fun _ sk=>some ([],sk)):=
 ⟨fun pos0 pins s σ H Q I h => dM pos0 pins s σ H Q I (by
  obtain⟨G,p,l,d,env,sk,r,sk',e1,e2,S,_,e4,q⟩:=h
  cases e4
  exact q G H (StepO.refl e2) S),fun env sk r sk' h=>by cases h;exact grow.refl _⟩
theorem aT(h1:PO X C e c1 f1)(h2:oH X C es c2 f2)(hs:starEach (e::es) X.env=(false,eval e X.env)::starEach es X.env:=by rfl):oH X C (e::es) (c1+c2) (fun env sk=>(f1 env sk).bind fun a=>(f2 env a.2).bind fun b=>some (a.1::b.1,b.2)):=
 ⟨fun pos0 pins s σ H Q I h => cL h1.pe h2.pa hs pos0 pins s σ H Q I (by
  obtain⟨G,p,l,d,env,sk,r,sk',e1,e2,S,R,e4,q⟩:=h
  obtain⟨⟨a,s1⟩,ea,e4⟩:=xaa.mp e4
  obtain⟨⟨b,s2⟩,eb,e4⟩:=xaa.mp e4
  cases e4
  refine⟨G,p,l,d,env,sk,a,s1,e1,e2,S,R.left,ea,fun G1 H1 st1 S1=>?_⟩
  refine⟨G1,p,l,d,env,s1,b,s2,e1.mono st1.g,st1.e,S1,R.on (h1.gr _ _ _ _ ea),eb,fun G2 H2 st2 S2=>?_⟩
  exact q G2 H2 (st1.trans S S1 st2 S2.gp S2.gl S2.gd) S2),fun env sk r sk' h=>by
  obtain⟨⟨a,s1⟩,ea,h⟩:=xaa.mp h
  obtain⟨⟨b,s2⟩,eb,h⟩:=xaa.mp h
  cases h
  exact(h1.gr _ _ _ _ ea).trans (h2.gr _ _ _ _ eb)⟩
inductive SpO (K:xFg) (mg:Str->Option Value) (C:Addr) (c:Nat) (m:List Int->SK->Option (Int×SK)) (vs:List V) (H:Hp) (Q:VK):Prop
 |mk (G:Hp) (p l d:Addr) (sk:SK) (args:List Int) (r:Int) (sk':SK) (a:vs=.ref p::args.map V.int) (b:Same G H) (s:SkAt K mg C G H p l d sk) (o:room c sk) (e:m args sk=some (r,sk')) (q:∀G' H',StepO G H G' H' p l d->SkAt K mg C G' H' p l d sk'->Q (.int r) H'):SpO K mg C c m vs H Q
def spO(K:xFg)(mg:Str->Option Value)(C:Addr)(c:Nat)(m:List Int->SK->Option (Int×SK)):Sp:=fun vs H Q _=>SpO K mg C c m vs H Q
structure MO(P:Program)(w:World)(K:xFg)(mg:Str->Option Value)(base:Heap)(C:Addr)(k:Nat)(x:Str)(c:Nat)(m:List Int->SK->Option (Int×SK)):Prop where
 ex:∃(f:Addr) (fd:FuncData) (ps:List Str),cF P w K mg base (bM P w) k f fd ps (spO K mg C c m)/\cO K C x f/\bR K fd ps []
 gr:∀args sk r sk',m args sk=some (r,sk')->grow c sk sk'
 no:∀sk l d,(c9 sk l d).lookup x=none
theorem MO.mono{P:Program}{w:World}{K:xFg}{mg:Str->Option Value}{base:Heap}{j k:Nat}{x:Str}{m:List Int->SK->Option (Int×SK)}(F:MO P w K mg base C j x c m)(h:j<=k):MO P w K mg base C k x c m:=by
 obtain⟨f,fd,ps,h1,h2⟩:=F.ex
 exact⟨⟨f,fd,ps,h1.mono h,h2⟩,F.gr,F.no⟩
theorem bU{x y:Str}{m:List Int->SK->Option (Int×SK)}{pl:Sem Bool}(XC:DL.XC X E k)(T:eN X.K C)(M:MO X.prog X.w X.K X.mg X.base C k x c m)(ha:oH X C (e::es) c2 f2)(hN:X.N[0]? = some y:=by rfl)(hv:cB X.env.scope y:=by first|exact Or.inl rfl|exact Or.inr (Or.inl rfl)|exact Or.inr (Or.inr rfl))(hd:(y==("__debug__":Str))=false:=by decide)
  (hcd:(y==("__classdict__":Str))=false:=by decide) (hst:starEach (e::es) X.env=(false,eval e X.env)::starEach es X.env:=by rfl) (hpl:(backTo pos (starEach es X.env)).any (·.1)=false:=by rfl)
  (ht : eval (.Call (.Attribute (.Name y p0) x apos) (e :: es) [] pos) X.env = (do
   let ov<-eval (.Name y p0) X.env
   standAt apos.atName
   let (f,first)<-holding [ov] (getMethod ov x pl)
   callWith pos f first (backTo pos (starEach (e::es) X.env)) (backToKw pos (keywordEach [] X.env))):=by rfl) :
  PO X C (.Call (.Attribute (.Name y p0) x apos) (e::es) [] pos) (c2+c) (fun env sk=>(f2 env sk).bind fun a=>m a.1 a.2):=by
 obtain⟨f,fd,ps,h1,h2,h3⟩:=M.ex
 refine⟨DL.PE.mono' (vB (pv 0 hN hv hd hcd) T h2 h1 XC.room h3 .nil XC.pass ha.pa hst hpl ht) (fun σ H Q ⟨G,p,l,d,env,sk,r,sk',e1,e2,S,R,e4,q⟩=>?_),fun env sk r sk' h=>?_⟩
 ·obtain⟨⟨as,s1⟩,ea,e4⟩:=xaa.mp e4
  obtain⟨dx,hp⟩:=S.hp
  refine⟨.ref p,e1.self,p,dx,_,rfl,hp,M.no _ _ _,G,p,l,d,env,sk,as,s1,e1,e2,S,R.left,ea,fun G1 H1 st1 S1=>?_⟩
  refine⟨G1,p,l,d,s1,as,r,sk',by rw[xbn],st1.e,S1,R.on (ha.gr _ _ _ _ ea),e4,fun G2 H2 st2 S2=>?_⟩
  exact q G2 H2 (st1.trans S S1 st2 S2.gp S2.gl S2.gd) S2
 ·obtain⟨⟨as,s1⟩,ea,h⟩:=xaa.mp h
  exact(ha.gr _ _ _ _ ea).trans (M.gr _ _ _ _ h)
theorem eG{x y:Str}{m:List Int->SK->Option (Int×SK)}{pl:Sem Bool}(XC:DL.XC X E k)(T:eN X.K C)(M:MO X.prog X.w X.K X.mg X.base C k x c m)(hN:X.N[0]? = some y:=by rfl)(hv:cB X.env.scope y:=by first|exact Or.inl rfl|exact Or.inr (Or.inl rfl)|exact Or.inr (Or.inr rfl))(hd:(y==("__debug__":Str))=false:=by decide)
  (hcd:(y==("__classdict__":Str))=false:=by decide)
  (ht : eval (.Call (.Attribute (.Name y p0) x apos) [] [] pos) X.env = (do
   let ov<-eval (.Name y p0) X.env
   standAt apos.atName
   let (f,first)<-holding [ov] (getMethod ov x pl)
   callWith pos f first (backTo pos (starEach [] X.env)) (backToKw pos (keywordEach [] X.env))):=by rfl) :
  PO X C (.Call (.Attribute (.Name y p0) x apos) [] [] pos) c (fun env sk=>m [] sk):=by
 obtain⟨f,fd,ps,h1,h2,h3⟩:=M.ex
 refine⟨DL.PE.mono' (RK (pv 0 hN hv hd hcd) T h2 h1 XC.room h3 .nil XC.pass ht) (fun σ H Q ⟨G,p,l,d,env,sk,r,sk',e1,e2,S,R,e4,q⟩=>?_),fun env sk r sk' h=>M.gr _ _ _ _ h⟩
 obtain⟨dx,hp⟩:=S.hp
 exact⟨.ref p,e1.self,p,dx,_,rfl,hp,M.no _ _ _,G,p,l,d,sk,[],r,sk',rfl,e2,S,R,e4,q⟩
end
end Sk
namespace Sk
open L2 PyProof.Rows
variable{P:Program}{w:World}{K:xFg}{mg:Str->Option Value}{base:Heap}
abbrev x4:Stmt:=aO sCls 2
theorem KG(sk:SK)(l d:Addr):(c9 sk l d).lookup ("pegs":Str)=some (.int sk.pegs):=by rfl
theorem ZG(sk:SK)(l d:Addr)(z:Int):cC "pegs" (.int z) (c9 sk l d)=c9 { sk with pegs:=z } l d:=by rfl
def fJ(sk:SK)(a b:Int):Int×SK:=match bW sk.drawn (bK "peg" a b) with
 |some (.int r)=>(r,sk)
 |_=>(sk.pegs,{ sk with pegs:=sk.pegs+1,plan:=sk.plan++[(("peg":Str),a,b)],drawn:=L2.putK sk.drawn (bK "peg" a b) (.int sk.pegs) })
def ZH(K:xFg)(mg:Str->Option Value)(C:Addr):Sp:=fun vs H Q _=>∃(G:Hp) (p l d:Addr) (sk:SK) (a b:Int),vs=[.ref p,.int a,.int b]/\Same G H/\SkAt K mg C G H p l d sk/\small sk/\
 ∀G' H',StepO G H G' H' p l d->SkAt K mg C G' H' p l d (fJ sk a b).2->Q (.int (fJ sk a b).1) H'
theorem KH:cD ["self","one","other","deed"] ["self","one","other"] (bB x4):=⟨rfl,rfl,rfl,by decide +kernel,rfl,by decide +kernel,by decide +kernel⟩
theorem ZI{f C:Addr}{fd:FuncData}{k:Nat}(F:bT K "peg" "Sketch.peg" x4 f fd)(T:qN K mg C):cF P w K mg base (bM P w) (k+1) f fd ["self","one","other"] (ZH K mg C):=by
 refine F.okX KH (fun vs H Q E h=>?_) (fun cdv A outer s H vs Q E hr h=>?_)
 ·obtain⟨G,p,l,d,sk,a,b,rfl,_⟩:=h
  rfl
 ·obtain⟨G,p,l,d,sk,a,b,rfl,e,S,sm,q⟩:=h
  have hu:=A7 hr
  refine⟨_,cP (gH (i:=3) KH.nd rfl (Or.inl rfl) (mW (cL uQ (cL (pv 1) (cL (pv 2) dM)))))
   (cP (k9 (uS (JZ hu (pv 3) (gJ (pv 0) rfl)))
    (cP (J0 hu (gJ (pv 0) rfl) (pv 3) (gJ (pv 0) rfl) rfl)
    (cP (AI (pv 0) gG AJ)
    (iT (jN (jQ PySem.F.plainAttrs_list PySem.F.slot_list_append PySem.F.type_list_append lH (gJ (pv 0) rfl) (cL (pv 3) dM)))))) mQ)
   (iT (mR (xX hu (gJ (pv 0) rfl) (pv 3) (fun _ _=>rfl))))),?_⟩
  refine⟨_,rfl,_,rfl,(by show 3<=sizeLine;decide),fun t ht=>?_⟩
  obtain⟨⟨dx,h1⟩,⟨vs,hl,hv⟩,hd,gp,gl,gd,vi⟩:=S
  have npt:p≠t:=bC h1 ht
  have nlt:l≠t:=bC hl ht
  have ndt:d≠t:=bC hd ht
  have npl:p≠l:=iR h1 hl (by intro z;cases z)
  have npd:p≠d:=iR h1 hd (by intro z;cases z)
  have nld:l≠d:=iR hl hd (by intro z;cases z)
  obtain⟨H1,eH⟩:∃H1,H1=aG H t (.tup [.str "peg",.int a,.int b]):=⟨_,rfl⟩
  have ep:H1 p=some (.ins C dx (c9 sk l d)):=by rw[eH,aH npt];exact h1
  have el:H1 l=some (.lst vs):=by rw[eH,aH nlt];exact hl
  have ed:H1 d=some (.dT sk.drawn):=by rw[eH,aH ndt];exact hd
  have et:H1 t=some (.tup ((bK "peg" a b).map kV)):=by rw[eH,aU];rfl
  have sp:DL.Step G H (aG G t (.tup [.str "peg",.int a,.int b])) H1:=by rw[eH];exact DL.Step.pub e ht
  rw[show aG H t (.tup [V.str "peg",V.int a,V.int b])=H1 from eH.symm] 
  refine⟨_,rfl,_,rfl,p,C,dx,_,_,rfl,ep,T.cl,T.nD,kU _ _ _,d,_,rfl,fR.t (k:=bK "peg" a b) ed et,_,rfl,?_⟩
  have g1:=fR.t (k:=bK "peg" a b) ed et
  cases ev:bW sk.drawn (bK "peg" a b) with
  |some v=>
   obtain⟨r,rfl⟩:∃r,v=.int r:=by
    unfold bW at ev
    obtain⟨kv,h2,rfl⟩:=xbp.mp ev
    exact vi kv (List.mem_of_find?_eq_some h2)
   refine jR ?_
   rw[ev] at g1
   refine⟨_,rfl,p,C,dx,_,_,rfl,ep,T.cl,T.nD,kU _ _ _,_,rfl,d,_,rfl,g1,?_⟩
   have em:fJ sk a b=(r,sk):=by unfold fJ;rw[ev]
   rw[em] at q
   refine q _ H1 ⟨sp.g,sp.e,fun b' o h _ _ _=>sp.h b' o h,sp.c⟩ ⟨⟨dx,ep⟩,⟨vs,el,hv.mono sp.g⟩,ed,sp.c p _ h1 gp,sp.c l _ hl gl,sp.c d _ hd gd,vi⟩
  |none=>
   refine jS ?_
   have em:fJ sk a b=(sk.pegs,{ sk with pegs:=sk.pegs+1,plan:=sk.plan++[(("peg":Str),a,b)],drawn:=L2.putK sk.drawn (bK "peg" a b) (.int sk.pegs) }):=by unfold fJ;rw[ev]
   rw[em] at q
   obtain⟨sm1,sm2⟩:=sm
   refine⟨_,rfl,p,C,dx,_,_,rfl,ep,T.cl,T.nG,KG _ _ _,_,rfl,p,C,dx,_,_,rfl,ep,T.cl,T.nD,kU _ _ _,_,rfl,d,_,rfl,oE.t (k:=bK "peg" a b) ed et (xbf sm2 (by decide)),?_⟩
   have ep2:(aG H1 d (.dT (L2.putK sk.drawn (bK "peg" a b) (V.int sk.pegs)))) p=some (.ins C dx (c9 sk l d)):=by rw[aH npd];exact ep
   refine⟨_,rfl,p,C,dx,_,_,rfl,ep2,T.cl,T.nG,KG _ _ _,_,_,rfl,rfl,dx,_,ep2,(by show 8<1000;decide),?_⟩
   obtain⟨H3,e3⟩:∃H3,H3=aG (aG H1 d (.dT (L2.putK sk.drawn (bK "peg" a b) (V.int sk.pegs)))) p (.ins C dx (cC "pegs" (V.int (sk.pegs+1)) (c9 sk l d))):=⟨_,rfl⟩
   rw[<- e3]
   have p3:H3 p=some (.ins C dx (c9 { sk with pegs:=sk.pegs+1 } l d)):=by rw[e3,aU,ZG]
   have l3:H3 l=some (.lst vs):=by rw[e3,aH npl.symm,aH nld];exact el
   have d3:H3 d=some (.dT (L2.putK sk.drawn (bK "peg" a b) (V.int sk.pegs))):=by rw[e3,aH npd.symm,aU]
   have t3:H3 t=some (.tup ((bK "peg" a b).map kV)):=by rw[e3,aH npt.symm,aH ndt.symm];exact et
   have vlen:vs.length<=100000:=by rw[<- hv.length,xai];exact sm1
   refine⟨_,rfl,p,C,dx,_,.ref l,rfl,p3,T.cl,T.nP,x3 _ _ _,.inl ⟨rfl,_,aY.of l3⟩,_,rfl,l,_,_,rfl,rfl,l3,(xbf vlen (by decide)),?_⟩
   have p4:(aG H3 l (.lst (vs++[V.ref t]))) p=some (.ins C dx (c9 { sk with pegs:=sk.pegs+1 } l d)):=by rw[aH npl];exact p3
   have d4:(aG H3 l (.lst (vs++[V.ref t]))) d=some (.dT (L2.putK sk.drawn (bK "peg" a b) (V.int sk.pegs))):=by rw[aH nld.symm];exact d3
   have t4:(aG H3 l (.lst (vs++[V.ref t]))) t=some (.tup ((bK "peg" a b).map kV)):=by rw[aH nlt.symm];exact t3
   have g4:=fR.t (k:=bK "peg" a b) d4 t4
   rw[oB,xal rfl] at g4
   refine⟨_,rfl,p,C,dx,_,_,rfl,p4,T.cl,T.nD,kU _ _ _,_,rfl,d,_,rfl,g4,?_⟩
   have gp':=sp.c p _ h1 gp
   have gl':=sp.c l _ hl gl
   have gd':=sp.c d _ hd gd
   have far:∀b',b'≠p->b'≠l->b'≠d->(aG H3 l (.lst (vs++[V.ref t]))) b'=H1 b':=fun b' n1 n2 n3=>by rw[aH n2,e3,aH n1,aH n3]
   refine q _ _ ⟨sp.g,fun b' u h=>?_,fun b' o h n1 n2 n3=>by rw[far b' n1 n2 n3];exact sp.h b' o h,sp.c⟩ ⟨⟨dx,p4⟩,⟨vs++[V.ref t],aU,?_⟩,d4,gp',gl',gd',fun kv hkv=>?_⟩
   ·have n1:b'≠p:=fun z=>by rw[z,gp'] at h;cases h
    have n2:b'≠l:=fun z=>by rw[z,gl'] at h;cases h
    have n3:b'≠d:=fun z=>by rw[z,gd'] at h;cases h
    rw[far b' n1 n2 n3]
    exact sp.e b' u h
   ·rw[xa9]
    refine(hv.mono sp.g).append (DL.Reps.cons ⟨t,_,rfl,bG.of aU,?_⟩ DL.Reps.nil)
    exact DL.Reps.cons rfl (DL.Reps.cons rfl (DL.Reps.cons rfl DL.Reps.nil))
   ·rw[L2.putK_new _ ev] at hkv
    rcases xbe.mp hkv with hkv|hkv
    ·exact vi kv hkv
    ·rw[xbg.mp hkv];exact⟨_,rfl⟩
theorem KI{sk:SK}{k:List Key}{v:V}:(L2.putK sk.drawn k v).length<=sk.drawn.length+1:=by
 unfold L2.putK
 split<;>simp
theorem KJ(sk:SK)(a b:Int):grow 1 sk (fI sk a b).2:=by
 unfold fI
 split
 ·exact⟨xcv _,xcv _⟩
 ·exact⟨by rw[xa2];exact xag _,KI⟩
theorem KK(sk:SK)(a b:Int):grow 1 sk (fJ sk a b).2:=by
 unfold fJ
 split
 ·exact⟨xcv _,xcv _⟩
 ·exact⟨by rw[xa2];exact xag _,KI⟩
def two(m:SK->Int->Int->Int×SK):List Int->SK->Option (Int×SK)
 |[a,b],sk=>some (m sk a b)
 |_,_=>none
theorem qO{m:SK->Int->Int->Int×SK}{as:List Int}{sk:SK}{r:Int×SK}(h:two m as sk=some r):∃a b,as=[a,b]/\r=m sk a b:=by
 match as,h with
 |[a,b],h=>exact⟨a,b,rfl,(xaw h).symm⟩
theorem KL{sk:SK}(h:room 1 sk):small sk:=⟨by have:=h.1;omega,by have:=h.2;omega⟩
theorem ZJ{f C:Addr}{fd:FuncData}{k:Nat}(F:bT K "line" "Sketch.line" x2 f fd)(T:qN K mg C)(hm:cO K C "line" f)(hb:bR K fd ["self","one","other"] []):MO P w K mg base C (k+1) "line" 1 (two fI):=by
 refine⟨⟨f,fd,_,(ZE F T).imp fun vs H Q E h=>?_,hm,hb⟩,fun args sk r sk' h=>?_,fun _ _ _=>rfl⟩
 ·obtain⟨G,p,l,d,sk,as,r,sk',e1,e2,S,R,e4,q⟩:=h
  obtain⟨a,b,rfl,e5⟩:=qO e4
  rw[show r=(fI sk a b).1 from congrArg Prod.fst e5,show sk'=(fI sk a b).2 from congrArg Prod.snd e5] at q
  exact⟨G,p,l,d,sk,a,b,e1,e2,S,KL R,q⟩
 ·obtain⟨a,b,rfl,e5⟩:=qO h
  rw[show sk'=(fI sk a b).2 from congrArg Prod.snd e5]
  exact KJ _ _ _
theorem ZK{f C:Addr}{fd:FuncData}{k:Nat}(F:bT K "peg" "Sketch.peg" x4 f fd)(T:qN K mg C)(hm:cO K C "peg" f)(hb:bR K fd ["self","one","other"] []):MO P w K mg base C (k+1) "peg" 1 (two fJ):=by
 refine⟨⟨f,fd,_,(ZI F T).imp fun vs H Q E h=>?_,hm,hb⟩,fun args sk r sk' h=>?_,fun _ _ _=>rfl⟩
 ·obtain⟨G,p,l,d,sk,as,r,sk',e1,e2,S,R,e4,q⟩:=h
  obtain⟨a,b,rfl,e5⟩:=qO e4
  rw[show r=(fJ sk a b).1 from congrArg Prod.fst e5,show sk'=(fJ sk a b).2 from congrArg Prod.snd e5] at q
  exact⟨G,p,l,d,sk,a,b,e1,e2,S,KL R,q⟩
 ·obtain⟨a,b,rfl,e5⟩:=qO h
  rw[show sk'=(fJ sk a b).2 from congrArg Prod.snd e5]
  exact KK _ _ _
end Sk
namespace Sk
open L2 PyProof.Rows
inductive OO where
 |nx (env:List (Option W))
 |rt (r:Int)
abbrev FS:=List (Option W)->SK->Option (OO×SK)
def OW(K:xFg)(G:Hp)(D:fM)(p:Addr)(H:Hp):OO->Prop
 |.nx env=>∀σ,StO K G p env σ->D.nx σ H
 |.rt r=>D.rt (.int r) H
def x5(K:xFg)(mg:Str->Option Value)(C:Addr)(c:Nat)(f:FS):TS:=fun D σ H=>Tg K mg C c f σ H fun o G' p H'=>OW K G' D p H' o
structure oI(X:Cx)(C:Addr)(st:Stmt)(c:Nat)(f:FS):Prop where
 ps:PS X st (x5 X.K X.mg C c f)
 gr:∀env sk r sk',f env sk=some (r,sk')->grow c sk sk'
structure SO(X:Cx)(C:Addr)(st:List Stmt)(c:Nat)(f:FS):Prop where
 ps:bQ X st (x5 X.K X.mg C c f)
 gr:∀env sk r sk',f env sk=some (r,sk')->grow c sk sk'
theorem PS.mono'{X:Cx}{st:Stmt}{t t':TS}(h:PS X st t)(q:∀D σ H,t' D σ H->t D σ H):PS X st t':=fun pins s σ H D I z=>h pins s σ H D I (q D σ H z)
theorem bQ.mono'{X:Cx}{st:List Stmt}{t t':TS}(h:bQ X st t)(q:∀D σ H,t' D σ H->t D σ H):bQ X st t':=fun pins s σ H D I z=>h pins s σ H D I (q D σ H z)
section
variable{X:Cx}{E:XK}{C:Addr}{e:Expr}{es:List Expr}{st:Stmt}{sts:List Stmt}{c c1 c2 k:Nat}{f:FO}{g g1 g2:FS}{pos p0 apos:Pos}
theorem dO(h:PO X C e c f):oI X C (.Return (some e) pos) c (fun env sk=>(f env sk).bind fun a=>some (.rt a.1,a.2)):=
 ⟨PS.mono' (mR h.pe) fun D σ H ⟨G, p, l, d, env, sk, o, sk', e1, e2, S, R, e4, q⟩ => by
  obtain⟨⟨a,s1⟩,ea,e4⟩:=xaa.mp e4
  cases e4
  exact⟨G,p,l,d,env,sk,a,s1,e1,e2,S,R,ea,q⟩,fun env sk r sk' z=>by
  obtain⟨⟨a,s1⟩,ea,z⟩:=xaa.mp z
  cases z
  exact h.gr _ _ _ _ ea⟩
theorem l8(i:Nat){x:Str}{pos':Pos}(h:PO X C e c f)(hN:X.N.Nodup)(hi:X.N[i+1]? = some x)(hx:eM X.env.scope x)(hs:swapsWith e (some (.Name x pos')) pos.line X.env=pure false:=by rfl)
  (hf:X.fn x=true\/X.env.scope.names.lookup x=some .local:=by first|exact .inl rfl|exact .inr rfl|assumption):oI X C (.Assign [.Name x pos'] e pos) c (fun env sk=>(f env sk).bind fun a=>some (.nx (env.set i (some (.i a.1))),a.2)):=
 ⟨PS.mono' (gH (i := i + 1) hN hi hx h.pe hs hf) fun D σ H ⟨G, p, l, d, env, sk, o, sk', e1, e2, S, R, e4, q⟩ => by
  obtain⟨⟨a,s1⟩,ea,e4⟩:=xaa.mp e4
  cases e4
  refine⟨G,p,l,d,env,sk,a,s1,e1,e2,S,R,ea,fun G' H' st' S'=>?_⟩
  exact q G' H' st' S' _ (e1.mono st'.g).set,fun env sk r sk' z=>by
  obtain⟨⟨a,s1⟩,ea,z⟩:=xaa.mp z
  cases z
  exact h.gr _ _ _ _ ea⟩
theorem dI(h:oI X C st c g):SO X C [st] c g:=⟨iT h.ps,h.gr⟩
def oJ(g1 g2:FS):FS:=fun env sk=>(g1 env sk).bind fun a=>match a.1 with
 |.nx env'=>g2 env' a.2
 |.rt r=>some (.rt r,a.2)
theorem kW(h1:oI X C st c1 g1)(h2:SO X C sts c2 g2):SO X C (st::sts) (c1+c2) (oJ g1 g2):=
 ⟨bQ.mono' (cP h1.ps h2.ps) fun D σ H ⟨G, p, l, d, env, sk, o, sk', e1, e2, S, R, e4, q⟩ => by
  unfold oJ at e4
  obtain⟨⟨a,s1⟩,ea,e4⟩:=xaa.mp e4
  refine⟨G,p,l,d,env,sk,a,s1,e1,e2,S,R.left,ea,fun G1 H1 st1 S1=>?_⟩
  cases a with
  |nx env'=>
   exact fun σ1 h1'=>⟨G1,p,l,d,env',s1,o,sk',h1',st1.e,S1,R.on (h1.gr _ _ _ _ ea),e4,fun G2 H2 st2 S2=>q G2 H2 (st1.trans S S1 st2 S2.gp S2.gl S2.gd) S2⟩
  |rt r=>
   cases e4
   exact q G1 H1 st1 S1,fun env sk r sk' z=>by
  unfold oJ at z
  obtain⟨⟨a,s1⟩,ea,z⟩:=xaa.mp z
  have g1':=h1.gr _ _ _ _ ea
  cases a with
  |nx env'=>exact g1'.trans (h2.gr _ _ _ _ z)
  |rt r=>
   cases z
   exact⟨xaz g1'.1 (by omega),xaz g1'.2 (by omega)⟩⟩
end
section
variable{P:Program}{w:World}{K:xFg}{mg:Str->Option Value}{base:Heap}
def gC(nN:Nat)(args:List Int):List (Option W):=args.map (fun a=>some (W.i a))++List.replicate (nN-(args.length+1)) none
def fin:OO×SK->Option (Int×SK)
 |(.rt r,s)=>some (r,s)
 |_=>none
def mO(n nN:Nat)(fs:FS):List Int->SK->Option (Int×SK):=fun args sk=>bif args.length==n then (fs (gC nN args) sk).bind fin else none
theorem ZL{K:xFg}{G:Hp}{N:List Str}{p:Addr}{args:List Int}:StO K G p (gC N.length args) (L2.start N (.ref p::args.map V.int)):=by
 refine⟨(args.map V.int).map some++List.replicate (N.length-(args.length+1)) none,?_,?_,fun j w z=>?_⟩
 ·unfold L2.start;simp
 ·unfold gC;simp
 ·unfold gC at z
  by_cases hj:j<args.length
  ·rw[xbu (by simpa using hj),xbd,xa0 hj] at z
   cases z
   exact⟨_,by rw[xbu (by simpa using hj)];simp[xa0 hj],rfl⟩
  ·rw[xb6 (by simpa using hj),xb1] at z
   split at z<;>cases z
theorem KM{n nN:Nat}{fs:FS}{args:List Int}{sk:SK}{r:Int×SK}(h:mO n nN fs args sk=some r):args.length=n/\(fs (gC nN args) sk).bind fin=some r:=by
 unfold mO at h
 by_cases z:args.length=n
 ·rw[show (args.length==n)=true by simpa using z] at h;exact⟨z,h⟩
 ·rw[show (args.length==n)=false by simpa using z] at h;cases h
theorem ZM{o:OO×SK}{r:Int×SK}(h:fin o=some r):o=(.rt r.1,r.2):=by
 obtain⟨a,b⟩:=o
 cases a with
 |nx _=>cases h
 |rt x=>cases h;rfl
end
end Sk
namespace Sk
open L2 PyProof.Rows
variable{P:Program}{w:World}{K:xFg}{mg:Str->Option Value}{base:Heap}
structure dA(K:xFg)(mg:Str->Option Value)(C:Addr):Prop extends qN K mg C where
 nE:eO K C "east"
 nN:eO K C "north"
 nC:eO K C "corner"
 nT:eO K C "top"
def z0(m:SK->Int×SK):List Int->SK->Option (Int×SK)
 |[],sk=>some (m sk)
 |_,_=>none
def z1(m:SK->Int->Int×SK):List Int->SK->Option (Int×SK)
 |[a],sk=>some (m sk a)
 |_,_=>none
abbrev z2:=two
theorem ZN{m:SK->Int×SK}{as:List Int}{sk:SK}{r:Int×SK}(h:z0 m as sk=some r):r=m sk:=by
 match as,h with
 |[],h=>exact(xaw h).symm
theorem ZO{m:SK->Int->Int×SK}{as:List Int}{sk:SK}{r:Int×SK}(h:z1 m as sk=some r):∃a,r=m sk a:=by
 match as,h with
 |[a],h=>exact⟨a,(xaw h).symm⟩
theorem KN{α:Type}(a:α):∃x,x=a:=⟨a,rfl⟩
noncomputable def hid{α:Type}(a:α):α:=Classical.choose (KN a)
theorem hid_eq{α:Type}(a:α):hid a=a:=Classical.choose_spec (KN a)
noncomputable def cJ(sk:SK)(a b:Int):Int×SK:=hid (fI sk a b)
noncomputable def dJ(sk:SK)(a b:Int):Int×SK:=hid (fJ sk a b)
theorem x6:cJ=fI:=by funext sk a b;exact hid_eq _
theorem x8:dJ=fJ:=by funext sk a b;exact hid_eq _
theorem fK(sk:SK)(a b:Int):grow 1 sk (cJ sk a b).2:=by rw[x6];exact KJ sk a b
theorem j9(sk:SK)(a b:Int):grow 1 sk (dJ sk a b).2:=by rw[x8];exact KK sk a b
theorem l9{m:SK->Int×SK}{c:Nat}(g:∀sk,grow c sk (m sk).2):∀as sk r sk',z0 m as sk=some (r,sk')->grow c sk sk':=fun as sk r sk' h=>by
 have:=ZN h
 rw[show sk'=(m sk).2 from congrArg Prod.snd this];exact g sk
theorem x9{m:SK->Int->Int×SK}{c:Nat}(g:∀sk a,grow c sk (m sk a).2):∀as sk r sk',z1 m as sk=some (r,sk')->grow c sk sk':=fun as sk r sk' h=>by
 obtain⟨a,e⟩:=ZO h
 rw[show sk'=(m sk a).2 from congrArg Prod.snd e];exact g sk a
theorem mB{m:SK->Int->Int->Int×SK}{c:Nat}(g:∀sk a b,grow c sk (m sk a b).2):∀as sk r sk',z2 m as sk=some (r,sk')->grow c sk sk':=fun as sk r sk' h=>by
 obtain⟨a,b,_,e⟩:=qO h
 rw[show sk'=(m sk a b).2 from congrArg Prod.snd e];exact g sk a b
theorem mD{nN:Nat}{fs:FS}{m:SK->Int×SK}(h:∀sk,(fs (gC nN []) sk).bind fin=some (m sk)):mO 0 nN fs=z0 m:=by
 funext as sk
 match as with
 |[]=>exact h sk
 |_::_=>rfl
theorem yA{nN:Nat}{fs:FS}{m:SK->Int->Int×SK}(h:∀sk a,(fs (gC nN [a]) sk).bind fin=some (m sk a)):mO 1 nN fs=z1 m:=by
 funext as sk
 match as with
 |[]=>rfl
 |[a]=>exact h sk a
 |_::_::_=>rfl
theorem mE{nN:Nat}{fs:FS}{m:SK->Int->Int->Int×SK}(h:∀sk a b,(fs (gC nN [a,b]) sk).bind fin=some (m sk a b)):mO 2 nN fs=z2 m:=by
 funext as sk
 match as with
 |[]=>rfl
 |[a]=>rfl
 |[a,b]=>exact h sk a b
 |_::_::_::_=>rfl
theorem dX{x qual:Str}{st:Stmt}{f C:Addr}{fd:FuncData}{N ps:List Str}{k n nN c:Nat}{fs:FS}{m:List Int->SK->Option (Int×SK)}(hno:∀sk l d,(c9 sk l d).lookup x=none)(F:bT K x qual st f fd)(S:cD N ps (bB st))(hm:cO K C x f)(b:bR K fd ps [])(hn:ps.length=n+1)(hN:N.length=nN)
  (gr:∀args sk r sk',m args sk=some (r,sk')->grow c sk sk')
  (hb:∀(X:Cx) (E:XK),(∃cdv A outer s H,X=cZ (bM P w) P w K mg base N qual (bB st) f cdv A outer s H E)->DL.XC X E k->SO X C (dZ st) c fs) (em:mO n nN fs=m):MO P w K mg base C (k+1) x c m:=by
 subst em
 refine⟨⟨f,fd,ps,F.okX S (fun vs H Q E h=>?_) (fun cdv A outer s H vs Q E hr hsp=>?_),hm,b⟩,gr,hno⟩
 ·obtain⟨G,p,l,d,sk,as,r,sk',rfl,e2,S,R,e4,q⟩:=h
  rw[hn,xao,xai,(KM e4).1]
 ·obtain⟨G,p,l,d,sk,as,r,sk',rfl,e2,S',R,e4,q⟩:=hsp
  obtain⟨_,e5⟩:=KM e4
  obtain⟨o,e6,e7⟩:=xaa.mp e5
  exact⟨_,(hb _ E ⟨cdv,A,outer,s,H,rfl⟩ ⟨rfl,hr,pG⟩).ps,G,p,l,d,gC nN as,sk,.rt r,sk',hN▸ZL,e2,S',R,by rw[e6,ZM e7],q⟩
noncomputable def iJ(sk:SK):Int×SK:=hid <|
 cJ sk sk.c sk.e
theorem yB(sk:SK):grow 1 sk (iJ sk).2:=by
 delta iJ
 rw[hid_eq]
 exact(fK _ _ _)
theorem ZP:cD ["self"] ["self"] (bB (aO sCls 3)):=⟨rfl,rfl,rfl,by decide +kernel,rfl,by decide +kernel,by decide +kernel⟩
theorem ZQ{f C:Addr}{fd:FuncData}(F:bT K "base" "Sketch.base" (aO sCls 3) f fd)(T:dA K mg C)(hm:cO K C "base" f)(hb:bR K fd ["self"] [])(M_line:MO P w K mg base C 1 "line" 1 (z2 cJ)):MO P w K mg base C 2 "base" 1 (z0 iJ):=by
 apply dX (k:=1) (n:=0) (nN:=1) (m:=z0 iJ) (fun _ _ _=>rfl) F ZP hm hb rfl rfl (l9 yB)
 case hb=>
  rintro X E ⟨cdv,A,outer,s,H,rfl⟩ XC
  exact dI (dO (bU XC T.cl (M_line.mono (by omega)) (aT (eZ "corner" SK.c T.cl T.nC fun _ _ _=>rfl) (aT (eZ "east" SK.e T.cl T.nE fun _ _ _=>rfl) bS))))
 case em=>exact mD (fun _=>by delta iJ;rw[hid_eq];rfl)
noncomputable def iK(sk:SK):Int×SK:=hid <|
 cJ sk sk.c sk.n
theorem yC(sk:SK):grow 1 sk (iK sk).2:=by
 delta iK
 rw[hid_eq]
 exact(fK _ _ _)
theorem ZR:cD ["self"] ["self"] (bB (aO sCls 4)):=⟨rfl,rfl,rfl,by decide +kernel,rfl,by decide +kernel,by decide +kernel⟩
theorem ZS{f C:Addr}{fd:FuncData}(F:bT K "upright" "Sketch.upright" (aO sCls 4) f fd)(T:dA K mg C)(hm:cO K C "upright" f)(hb:bR K fd ["self"] [])(M_line:MO P w K mg base C 1 "line" 1 (z2 cJ)):MO P w K mg base C 2 "upright" 1 (z0 iK):=by
 apply dX (k:=1) (n:=0) (nN:=1) (m:=z0 iK) (fun _ _ _=>rfl) F ZR hm hb rfl rfl (l9 yC)
 case hb=>
  rintro X E ⟨cdv,A,outer,s,H,rfl⟩ XC
  exact dI (dO (bU XC T.cl (M_line.mono (by omega)) (aT (eZ "corner" SK.c T.cl T.nC fun _ _ _=>rfl) (aT (eZ "north" SK.n T.cl T.nN fun _ _ _=>rfl) bS))))
 case em=>exact mD (fun _=>by delta iK;rw[hid_eq];rfl)
noncomputable def iL(sk:SK):Int×SK:=hid <|
 cJ sk sk.e sk.n
theorem tM(sk:SK):grow 1 sk (iL sk).2:=by
 delta iL
 rw[hid_eq]
 exact(fK _ _ _)
theorem ZT:cD ["self"] ["self"] (bB (aO sCls 5)):=⟨rfl,rfl,rfl,by decide +kernel,rfl,by decide +kernel,by decide +kernel⟩
theorem ZU{f C:Addr}{fd:FuncData}(F:bT K "far" "Sketch.far" (aO sCls 5) f fd)(T:dA K mg C)(hm:cO K C "far" f)(hb:bR K fd ["self"] [])(M_line:MO P w K mg base C 1 "line" 1 (z2 cJ)):MO P w K mg base C 2 "far" 1 (z0 iL):=by
 apply dX (k:=1) (n:=0) (nN:=1) (m:=z0 iL) (fun _ _ _=>rfl) F ZT hm hb rfl rfl (l9 tM)
 case hb=>
  rintro X E ⟨cdv,A,outer,s,H,rfl⟩ XC
  exact dI (dO (bU XC T.cl (M_line.mono (by omega)) (aT (eZ "east" SK.e T.cl T.nE fun _ _ _=>rfl) (aT (eZ "north" SK.n T.cl T.nN fun _ _ _=>rfl) bS))))
 case em=>exact mD (fun _=>by delta iL;rw[hid_eq];rfl)
noncomputable def iM(sk:SK):Int×SK:=hid <|
 cJ sk sk.e sk.t
theorem yD(sk:SK):grow 1 sk (iM sk).2:=by
 delta iM
 rw[hid_eq]
 exact(fK _ _ _)
theorem ZV:cD ["self"] ["self"] (bB (aO sCls 6)):=⟨rfl,rfl,rfl,by decide +kernel,rfl,by decide +kernel,by decide +kernel⟩
theorem ZW{f C:Addr}{fd:FuncData}(F:bT K "level" "Sketch.level" (aO sCls 6) f fd)(T:dA K mg C)(hm:cO K C "level" f)(hb:bR K fd ["self"] [])(M_line:MO P w K mg base C 1 "line" 1 (z2 cJ)):MO P w K mg base C 2 "level" 1 (z0 iM):=by
 apply dX (k:=1) (n:=0) (nN:=1) (m:=z0 iM) (fun _ _ _=>rfl) F ZV hm hb rfl rfl (l9 yD)
 case hb=>
  rintro X E ⟨cdv,A,outer,s,H,rfl⟩ XC
  exact dI (dO (bU XC T.cl (M_line.mono (by omega)) (aT (eZ "east" SK.e T.cl T.nE fun _ _ _=>rfl) (aT (eZ "top" SK.t T.cl T.nT fun _ _ _=>rfl) bS))))
 case em=>exact mD (fun _=>by delta iM;rw[hid_eq];rfl)
noncomputable def gZ(sk:SK):Int×SK:=hid <|
 let r1:=iJ sk
 let r2:=cJ r1.2 r1.2.n r1.2.t
 dJ r2.2 r1.1 r2.1
theorem yE(sk:SK):grow 3 sk (gZ sk).2:=by
 delta gZ
 rw[hid_eq]
 exact(((yB _).trans (fK _ _ _)).trans (j9 _ _ _))
theorem ZX:cD ["self"] ["self"] (bB (aO sCls 7)):=⟨rfl,rfl,rfl,by decide +kernel,rfl,by decide +kernel,by decide +kernel⟩
theorem ZY{f C:Addr}{fd:FuncData}(F:bT K "unit" "Sketch.unit" (aO sCls 7) f fd)(T:dA K mg C)(hm:cO K C "unit" f)(hb:bR K fd ["self"] [])(M_peg:MO P w K mg base C 1 "peg" 1 (z2 dJ))(M_line:MO P w K mg base C 1 "line" 1 (z2 cJ))(M_base:MO P w K mg base C 2 "base" 1 (z0 iJ)):MO P w K mg base C 3 "unit" 3 (z0 gZ):=by
 apply dX (k:=2) (n:=0) (nN:=1) (m:=z0 gZ) (fun _ _ _=>rfl) F ZX hm hb rfl rfl (l9 yE)
 case hb=>
  rintro X E ⟨cdv,A,outer,s,H,rfl⟩ XC
  exact dI (dO (bU XC T.cl (M_peg.mono (by omega)) (aT (eG XC T.cl (M_base.mono (by omega))) (aT (bU XC T.cl (M_line.mono (by omega)) (aT (eZ "north" SK.n T.cl T.nN fun _ _ _=>rfl) (aT (eZ "top" SK.t T.cl T.nT fun _ _ _=>rfl) bS))) bS))))
 case em=>exact mD (fun _=>by delta gZ;rw[hid_eq];rfl)
noncomputable def dY(sk:SK):Int×SK:=hid <|
 let r1:=iK sk
 let r2:=iM r1.2
 dJ r2.2 r1.1 r2.1
theorem oK(sk:SK):grow 3 sk (dY sk).2:=by
 delta dY
 rw[hid_eq]
 exact(((yC _).trans (yD _)).trans (j9 _ _ _))
theorem ZZ:cD ["self"] ["self"] (bB (aO sCls 8)):=⟨rfl,rfl,rfl,by decide +kernel,rfl,by decide +kernel,by decide +kernel⟩
theorem Z0{f C:Addr}{fd:FuncData}(F:bT K "high" "Sketch.high" (aO sCls 8) f fd)(T:dA K mg C)(hm:cO K C "high" f)(hb:bR K fd ["self"] [])(M_peg:MO P w K mg base C 1 "peg" 1 (z2 dJ))(M_level:MO P w K mg base C 2 "level" 1 (z0 iM))(M_upright:MO P w K mg base C 2 "upright" 1 (z0 iK)):MO P w K mg base C 3 "high" 3 (z0 dY):=by
 apply dX (k:=2) (n:=0) (nN:=1) (m:=z0 dY) (fun _ _ _=>rfl) F ZZ hm hb rfl rfl (l9 oK)
 case hb=>
  rintro X E ⟨cdv,A,outer,s,H,rfl⟩ XC
  exact dI (dO (bU XC T.cl (M_peg.mono (by omega)) (aT (eG XC T.cl (M_upright.mono (by omega))) (aT (eG XC T.cl (M_level.mono (by omega))) bS))))
 case em=>exact mD (fun _=>by delta dY;rw[hid_eq];rfl)
noncomputable def eI(sk:SK)(one:Int)(other:Int):Int×SK:=hid <|
 let r1:=iL sk
 let r2:=cJ r1.2 one other
 dJ r2.2 r1.1 r2.1
theorem oM(sk:SK)(one:Int)(other:Int):grow 3 sk (eI sk one other).2:=by
 delta eI
 rw[hid_eq]
 exact(((tM _).trans (fK _ _ _)).trans (j9 _ _ _))
theorem Z1:cD ["self","one","other"] ["self","one","other"] (bB (aO sCls 9)):=⟨rfl,rfl,rfl,by decide +kernel,rfl,by decide +kernel,by decide +kernel⟩
theorem Z2{f C:Addr}{fd:FuncData}(F:bT K "heading" "Sketch.heading" (aO sCls 9) f fd)(T:dA K mg C)(hm:cO K C "heading" f)(hb:bR K fd ["self","one","other"] [])(M_peg:MO P w K mg base C 1 "peg" 1 (z2 dJ))(M_line:MO P w K mg base C 1 "line" 1 (z2 cJ))(M_far:MO P w K mg base C 2 "far" 1 (z0 iL)):MO P w K mg base C 3 "heading" 3 (z2 eI):=by
 apply dX (k:=2) (n:=2) (nN:=3) (m:=z2 eI) (fun _ _ _=>rfl) F Z1 hm hb rfl rfl (mB oM)
 case hb=>
  rintro X E ⟨cdv,A,outer,s,H,rfl⟩ XC
  exact dI (dO (bU XC T.cl (M_peg.mono (by omega)) (aT (eG XC T.cl (M_far.mono (by omega))) (aT (bU XC T.cl (M_line.mono (by omega)) (aT (cN 0) (aT (cN 1) bS))) bS))))
 case em=>exact mE (fun _ _ _=>by delta eI;rw[hid_eq];rfl)
noncomputable def iN(sk:SK):Int×SK:=hid <|
 let r1:=dY sk
 let r2:=gZ r1.2
 eI r2.2 r1.1 r2.1
theorem yF(sk:SK):grow 9 sk (iN sk).2:=by
 delta iN
 rw[hid_eq]
 exact(((oK _).trans (yE _)).trans (oM _ _ _))
theorem Z3:cD ["self"] ["self"] (bB (aO sCls 10)):=⟨rfl,rfl,rfl,by decide +kernel,rfl,by decide +kernel,by decide +kernel⟩
theorem Z4{f C:Addr}{fd:FuncData}(F:bT K "falling" "Sketch.falling" (aO sCls 10) f fd)(T:dA K mg C)(hm:cO K C "falling" f)(hb:bR K fd ["self"] [])(M_heading:MO P w K mg base C 3 "heading" 3 (z2 eI))(M_unit:MO P w K mg base C 3 "unit" 3 (z0 gZ))(M_high:MO P w K mg base C 3 "high" 3 (z0 dY)):MO P w K mg base C 4 "falling" 9 (z0 iN):=by
 apply dX (k:=3) (n:=0) (nN:=1) (m:=z0 iN) (fun _ _ _=>rfl) F Z3 hm hb rfl rfl (l9 yF)
 case hb=>
  rintro X E ⟨cdv,A,outer,s,H,rfl⟩ XC
  exact dI (dO (bU XC T.cl (M_heading.mono (by omega)) (aT (eG XC T.cl (M_high.mono (by omega))) (aT (eG XC T.cl (M_unit.mono (by omega))) bS))))
 case em=>exact mD (fun _=>by delta iN;rw[hid_eq];rfl)
noncomputable def eJ(sk:SK)(far:Int)(near:Int):Int×SK:=hid <|
 let r1:=iJ sk
 let r2:=cJ r1.2 far near
 dJ r2.2 r1.1 r2.1
theorem oN(sk:SK)(far:Int)(near:Int):grow 3 sk (eJ sk far near).2:=by
 delta eJ
 rw[hid_eq]
 exact(((yB _).trans (fK _ _ _)).trans (j9 _ _ _))
theorem Z5:cD ["self","far","near"] ["self","far","near"] (bB (aO sCls 11)):=⟨rfl,rfl,rfl,by decide +kernel,rfl,by decide +kernel,by decide +kernel⟩
theorem Z6{f C:Addr}{fd:FuncData}(F:bT K "slid" "Sketch.slid" (aO sCls 11) f fd)(T:dA K mg C)(hm:cO K C "slid" f)(hb:bR K fd ["self","far","near"] [])(M_peg:MO P w K mg base C 1 "peg" 1 (z2 dJ))(M_line:MO P w K mg base C 1 "line" 1 (z2 cJ))(M_base:MO P w K mg base C 2 "base" 1 (z0 iJ)):MO P w K mg base C 3 "slid" 3 (z2 eJ):=by
 apply dX (k:=2) (n:=2) (nN:=3) (m:=z2 eJ) (fun _ _ _=>rfl) F Z5 hm hb rfl rfl (mB oN)
 case hb=>
  rintro X E ⟨cdv,A,outer,s,H,rfl⟩ XC
  exact dI (dO (bU XC T.cl (M_peg.mono (by omega)) (aT (eG XC T.cl (M_base.mono (by omega))) (aT (bU XC T.cl (M_line.mono (by omega)) (aT (cN 0) (aT (cN 1) bS))) bS))))
 case em=>exact mE (fun _ _ _=>by delta eJ;rw[hid_eq];rfl)
noncomputable def iO(sk:SK)(number:Int):Int×SK:=hid <|
 let r1:=iK sk
 let r2:=iN r1.2
 let r3:=cJ r2.2 number r2.1
 dJ r3.2 r1.1 r3.1
theorem yG(sk:SK)(number:Int):grow 12 sk (iO sk number).2:=by
 delta iO
 rw[hid_eq]
 exact((((yC _).trans (yF _)).trans (fK _ _ _)).trans (j9 _ _ _))
theorem Z7:cD ["self","number"] ["self","number"] (bB (aO sCls 13)):=⟨rfl,rfl,rfl,by decide +kernel,rfl,by decide +kernel,by decide +kernel⟩
theorem Z8{f C:Addr}{fd:FuncData}(F:bT K "turned" "Sketch.turned" (aO sCls 13) f fd)(T:dA K mg C)(hm:cO K C "turned" f)(hb:bR K fd ["self","number"] [])(M_peg:MO P w K mg base C 1 "peg" 1 (z2 dJ))(M_line:MO P w K mg base C 1 "line" 1 (z2 cJ))(M_falling:MO P w K mg base C 4 "falling" 9 (z0 iN))(M_upright:MO P w K mg base C 2 "upright" 1 (z0 iK)):MO P w K mg base C 5 "turned" 12 (z1 iO):=by
 apply dX (k:=4) (n:=1) (nN:=2) (m:=z1 iO) (fun _ _ _=>rfl) F Z7 hm hb rfl rfl (x9 yG)
 case hb=>
  rintro X E ⟨cdv,A,outer,s,H,rfl⟩ XC
  exact dI (dO (bU XC T.cl (M_peg.mono (by omega)) (aT (eG XC T.cl (M_upright.mono (by omega))) (aT (bU XC T.cl (M_line.mono (by omega)) (aT (cN 0) (aT (eG XC T.cl (M_falling.mono (by omega))) bS))) bS))))
 case em=>exact yA (fun _ _=>by delta iO;rw[hid_eq];rfl)
noncomputable def jF(sk:SK)(number:Int)(other:Int):Int×SK:=hid <|
 let r1:=iO sk other
 let r2:=eI r1.2 r1.1 number
 let r3:=dY r2.2
 eJ r3.2 r2.1 r3.1
theorem KO(sk:SK)(number:Int)(other:Int):grow 21 sk (jF sk number other).2:=by
 delta jF
 rw[hid_eq]
 exact((((yG _ _).trans (oM _ _ _)).trans (oK _)).trans (oN _ _ _))
theorem Z9:cD ["self","number","other"] ["self","number","other"] (bB (aO sCls 18)):=⟨rfl,rfl,rfl,by decide +kernel,rfl,by decide +kernel,by decide +kernel⟩
theorem zaa{f C:Addr}{fd:FuncData}(F:bT K "quotient" "Sketch.quotient" (aO sCls 18) f fd)(T:dA K mg C)(hm:cO K C "quotient" f)(hb:bR K fd ["self","number","other"] [])(M_slid:MO P w K mg base C 3 "slid" 3 (z2 eJ))(M_high:MO P w K mg base C 3 "high" 3 (z0 dY))(M_heading:MO P w K mg base C 3 "heading" 3 (z2 eI))(M_turned:MO P w K mg base C 5 "turned" 12 (z1 iO)):MO P w K mg base C 6 "quotient" 21 (z2 jF):=by
 apply dX (k:=5) (n:=2) (nN:=3) (m:=z2 jF) (fun _ _ _=>rfl) F Z9 hm hb rfl rfl (mB KO)
 case hb=>
  rintro X E ⟨cdv,A,outer,s,H,rfl⟩ XC
  exact dI (dO (bU XC T.cl (M_slid.mono (by omega)) (aT (bU XC T.cl (M_heading.mono (by omega)) (aT (bU XC T.cl (M_turned.mono (by omega)) (aT (cN 1) bS)) (aT (cN 0) bS))) (aT (eG XC T.cl (M_high.mono (by omega))) bS))))
 case em=>exact mE (fun _ _ _=>by delta jF;rw[hid_eq];rfl)
end Sk
namespace Sk
open L2 PyProof.Rows
abbrev FT:=List (Option W)->SK->Option (Bool×SK)
def tTO(K:xFg)(mg:Str->Option Value)(C:Addr)(c:Nat)(f:FT):TT:=fun σ H Q=>Tg K mg C c f σ H fun b _ _ H'=>Q b H'
structure qP(X:Cx)(C:Addr)(e:Expr)(c:Nat)(f:FT):Prop where
 pt:PT X e (tTO X.K X.mg C c f)
 gr:∀env sk r sk',f env sk=some (r,sk')->grow c sk sk'
theorem PT.mono'{X:Cx}{e:Expr}{t t':TT}(h:PT X e t)(q:∀σ H Q,t' σ H Q->t σ H Q):PT X e t':=fun pins s σ H Q I z=>h pins s σ H Q I (q σ H Q z)
section
variable{X:Cx}{E:XK}{C:Addr}{e a b t:Expr}{es:List Expr}{st:Stmt}{s1 s2:List Stmt}{c c1 c2 k:Nat}{f fa fb:FO}{ft:FT}{g g1 g2:FS}{pos p0 apos:Pos}
def mF(p:Int->Int->Bool)(fa fb:FO):FT:=fun env sk=>(fa env sk).bind fun x=>(fb env x.2).bind fun y=>some (p x.1 y.1,y.2)
theorem yH{K:xFg}{mg:Str->Option Value}{D:Int->Int->Hp->Prop}{G H:Hp}{p l d:Addr}{env:List (Option W)}{sk s1 s2:SK}{x y:Int}{σ:L2.St}(e1:StO K G p env σ)(ha:∀env sk r sk',fa env sk=some (r,sk')->grow c1 sk sk')(e2:Same G H)(S:SkAt K mg C G H p l d sk)(R:room (c1+c2) sk)(ea:fa env sk=some (x,s1))(eb:fb env s1=some (y,s2))
  (q:∀G' H',StepO G H G' H' p l d->SkAt K mg C G' H' p l d s2->D x y H'):uR (tO K mg C c1 fa) (tO K mg C c2 fb) D σ H:=by
 refine⟨G,p,l,d,env,sk,x,s1,e1,e2,S,R.left,ea,fun G1 H1 st1 S1=>?_⟩
 refine⟨G1,p,l,d,env,s1,y,s2,e1.mono st1.g,st1.e,S1,R.on (ha _ _ _ _ ea),eb,fun G2 H2 st2 S2=>?_⟩
 exact⟨x,y,rfl,rfl,q G2 H2 (st1.trans S S1 st2 S2.gp S2.gl S2.gd) S2⟩
theorem yI{α:Type}{h:Int->Int->α}(ha:∀env sk r sk',fa env sk=some (r,sk')->grow c1 sk sk')(hb:∀env sk r sk',fb env sk=some (r,sk')->grow c2 sk sk'):∀env sk r sk',((fa env sk).bind fun x=>(fb env x.2).bind fun y=>some (h x.1 y.1,y.2))=some (r,sk')->grow (c1+c2) sk sk':=fun env sk r sk' z=>by
 obtain⟨⟨x,s1⟩,ea,z⟩:=xaa.mp z
 obtain⟨⟨y,s2⟩,eb,z⟩:=xaa.mp z
 cases z
 exact(ha _ _ _ _ ea).trans (hb _ _ _ _ eb)
theorem KP{op:CmpOp}{p:Int->Int->Bool}(h:∀{ta tb:TE},PE X a ta->PE X b tb->PC X op a b (rC p ta tb))(ha:PO X C a c1 fa)(hb:PO X C b c2 fb)(h1:behindInMarks op b=false):qP X C (.Compare a [op] [b] pos) (c1+c2) (mF p fa fb):=
 ⟨PT.mono' (uS (h ha.pe hb.pe) h1) fun σ H Q ⟨G, p', l, d, env, sk, r, sk', e1, e2, S, R, e4, q⟩ => by
  unfold mF at e4
  obtain⟨⟨x,s1⟩,ea,e4⟩:=xaa.mp e4
  obtain⟨⟨y,s2⟩,eb,e4⟩:=xaa.mp e4
  cases e4
  exact yH e1 ha.gr e2 S R ea eb fun G' H' st' S'=>⟨_,rfl,q G' H' st' S'⟩,yI (h:=p) ha.gr hb.gr⟩
theorem KQ(ha:PO X C a c1 fa)(hb:PO X C b c2 fb):qP X C (.Compare a [.Eq] [b] pos) (c1+c2) (mF (fun i j=>decide (i=j)) fa fb):=KP (fun h1 h2=>OU h1 h2) ha hb (c5 _ (by decide) (by decide))
theorem zac(ha:PO X C a c1 fa)(hb:PO X C b c2 fb):qP X C (.Compare a [.Gt] [b] pos) (c1+c2) (mF (fun i j=>decide (j<i)) fa fb):=KP (fun h1 h2=>OT h1 h2) ha hb (c5 _ (by decide) (by decide))
theorem zad(ha:PO X C a c1 fa)(hb:PO X C b c2 fb):PO X C (.BinOp a .Sub b pos) (c1+c2) (fun env sk=>(fa env sk).bind fun x=>(fb env x.2).bind fun y=>some (x.1-y.1,y.2)):=
 ⟨DL.PE.mono' (OQ ha.pe hb.pe) fun σ H Q ⟨G, p', l, d, env, sk, r, sk', e1, e2, S, R, e4, q⟩ => by
  obtain⟨⟨x,s1⟩,ea,e4⟩:=xaa.mp e4
  obtain⟨⟨y,s2⟩,eb,e4⟩:=xaa.mp e4
  cases e4
  exact yH e1 ha.gr e2 S R ea eb q,yI (h:=fun x y=>x-y) ha.gr hb.gr⟩
theorem grow.wide{a b:Nat}{s s1:SK}(h:grow a s s1)(le:a<=b):grow b s s1:=⟨xaz h.1 (by omega),xaz h.2 (by omega)⟩
theorem room.less{a b:Nat}{s:SK}(h:room b s)(le:a<=b):room a s:=⟨xaz (by omega) h.1,xaz (by omega) h.2⟩
theorem KR(ht:qP X C t c ft)(ha:PO X C a c1 fa)(hb:PO X C b c1 fb):PO X C (.IfExp t a b pos) (c+c1) (fun env sk=>(ft env sk).bind fun x=>bif x.1 then fa env x.2 else fb env x.2):=
 ⟨DL.PE.mono' (PD ht.pt ha.pe hb.pe) fun σ H Q ⟨G, p, l, d, env, sk, r, sk', e1, e2, S, R, e4, q⟩ => by
  obtain⟨⟨x,s1⟩,ea,e4⟩:=xaa.mp e4
  refine⟨G,p,l,d,env,sk,x,s1,e1,e2,S,R.left,ea,fun G1 H1 st1 S1=>?_⟩
  cases x with
  |true=>exact jS ⟨G1,p,l,d,env,s1,r,sk',e1.mono st1.g,st1.e,S1,R.on (ht.gr _ _ _ _ ea),e4,fun G2 H2 st2 S2=>q G2 H2 (st1.trans S S1 st2 S2.gp S2.gl S2.gd) S2⟩
  |false=>exact jR ⟨G1,p,l,d,env,s1,r,sk',e1.mono st1.g,st1.e,S1,R.on (ht.gr _ _ _ _ ea),e4,fun G2 H2 st2 S2=>q G2 H2 (st1.trans S S1 st2 S2.gp S2.gl S2.gd) S2⟩,fun env sk r sk' z=>by
  obtain⟨⟨x,s1⟩,ea,z⟩:=xaa.mp z
  cases x with
  |true=>exact(ht.gr _ _ _ _ ea).trans (ha.gr _ _ _ _ z)
  |false=>exact(ht.gr _ _ _ _ ea).trans (hb.gr _ _ _ _ z)⟩
theorem zae:SO X C [] 0 (fun env sk=>some (.nx env,sk)):=
 ⟨bQ.mono' mQ fun D σ H ⟨G, p, l, d, env, sk, o, sk', e1, e2, S, R, e4, q⟩ => by
  cases e4
  exact q G H (StepO.refl e2) S _ e1,fun env sk r sk' z=>by cases z;exact grow.refl _⟩
theorem zaf(ht:qP X C t c ft)(ha:SO X C s1 c1 g1)(hb:SO X C s2 c1 g2):oI X C (.If t s1 s2 pos) (c+c1) (fun env sk=>(ft env sk).bind fun x=>bif x.1 then g1 env x.2 else g2 env x.2):=
 ⟨PS.mono' (k9 ht.pt ha.ps hb.ps) fun D σ H ⟨G, p, l, d, env, sk, r, sk', e1, e2, S, R, e4, q⟩ => by
  obtain⟨⟨x,s1⟩,ea,e4⟩:=xaa.mp e4
  refine⟨G,p,l,d,env,sk,x,s1,e1,e2,S,R.left,ea,fun G1 H1 st1 S1=>?_⟩
  cases x with
  |true=>exact jS ⟨G1,p,l,d,env,s1,r,sk',e1.mono st1.g,st1.e,S1,R.on (ht.gr _ _ _ _ ea),e4,fun G2 H2 st2 S2=>q G2 H2 (st1.trans S S1 st2 S2.gp S2.gl S2.gd) S2⟩
  |false=>exact jR ⟨G1,p,l,d,env,s1,r,sk',e1.mono st1.g,st1.e,S1,R.on (ht.gr _ _ _ _ ea),e4,fun G2 H2 st2 S2=>q G2 H2 (st1.trans S S1 st2 S2.gp S2.gl S2.gd) S2⟩,fun env sk r sk' z=>by
  obtain⟨⟨x,s1⟩,ea,z⟩:=xaa.mp z
  cases x with
  |true=>exact(ht.gr _ _ _ _ ea).trans (ha.gr _ _ _ _ z)
  |false=>exact(ht.gr _ _ _ _ ea).trans (hb.gr _ _ _ _ z)⟩
end
variable{P:Program}{w:World}{K:xFg}{mg:Str->Option Value}{base:Heap}
noncomputable def kA(sk:SK)(step:Int):Int×SK:=hid <|
 let r:=cJ sk sk.c sk.t
 if step=0 then r else
 let n:=if step=1 then dY r.2 else gZ r.2
 let f:=iL n.2
 let h:=dJ f.2 f.1 r.1
 cJ h.2 n.1 h.1
theorem KS(sk:SK)(step:Int):grow 7 sk (kA sk step).2:=by
 delta kA
 rw[hid_eq]
 dsimp only
 split
 ·exact(fK _ _ _).wide (by omega)
 ·split
  ·exact((((fK _ _ _).trans (oK _)).trans (tM _)).trans (j9 _ _ _)).trans (fK _ _ _)
  ·exact((((fK _ _ _).trans (yE _)).trans (tM _)).trans (j9 _ _ _)).trans (fK _ _ _)
theorem yJ:cD ["self","step","diagonal","near"] ["self","step"] (bB (aO sCls 19)):=⟨rfl,rfl,rfl,by decide +kernel,rfl,by decide +kernel,by decide +kernel⟩
theorem zag{f C:Addr}{fd:FuncData}(F:bT K "slope" "Sketch.slope" (aO sCls 19) f fd)(T:dA K mg C)(hm:cO K C "slope" f)(hb:bR K fd ["self","step"] [])(M_line:MO P w K mg base C 1 "line" 1 (z2 cJ))(M_peg:MO P w K mg base C 1 "peg" 1 (z2 dJ))
  (M_high:MO P w K mg base C 3 "high" 3 (z0 dY)) (M_unit:MO P w K mg base C 3 "unit" 3 (z0 gZ)) (M_far:MO P w K mg base C 2 "far" 1 (z0 iL)):MO P w K mg base C 4 "slope" 7 (z1 kA):=by
 apply dX (k:=3) (n:=1) (nN:=4) (m:=z1 kA) (fun _ _ _=>rfl) F yJ hm hb rfl rfl (x9 KS)
 case hb=>
  rintro X E ⟨cdv,A,outer,s,H,rfl⟩ XC
  exact kW (l8 1 (bU XC T.cl (M_line.mono (by omega)) (aT (eZ "corner" SK.c T.cl T.nC fun _ _ _=>rfl) (aT (eZ "top" SK.t T.cl T.nT fun _ _ _=>rfl) bS))) yJ.nd rfl (Or.inl rfl))
   (kW (zaf (KQ (cN 0) j8) (dI (dO (cN 1))) zae)
   (kW (l8 2 (KR (KQ (cN 0) j8) (eG XC T.cl (M_high.mono (by omega))) (eG XC T.cl (M_unit.mono (by omega)))) yJ.nd rfl (Or.inl rfl))
   (dI (dO (bU XC T.cl (M_line.mono (by omega)) (aT (cN 2) (aT (bU XC T.cl (M_peg.mono (by omega)) (aT (eG XC T.cl (M_far.mono (by omega))) (aT (cN 1) bS))) bS)))))))
 case em=>
  refine yA fun sk a=>?_
  delta kA
  rw[hid_eq]
  by_cases h0:a=0
  ·subst h0;rfl
  ·rw[xak h0]
   by_cases h1:a=1
   ·subst h1;rfl
   ·rw[xak h1]
    have e0:decide (a=0)=false:=xax h0
    have e1:decide (a=1)=false:=xax h1
    simp only[oJ,mF,gC,z2,two,z0,z1,fin,xba,xa5,xcc,xao,xbo,xch,xcq,xbl,e0,e1,cond_false,List.replicate,xbs,xbt,xbw,List.append]
noncomputable def fB(sk:SK)(number step:Int):Int×SK:=hid <|
 let a:=cJ sk number sk.n
 let b:=kA a.2 step
 let r:=dJ b.2 a.1 b.1
 let f:=iN r.2
 eJ f.2 f.1 r.1
theorem KU(sk:SK)(number step:Int):grow 21 sk (fB sk number step).2:=by
 delta fB
 rw[hid_eq]
 exact((((fK _ _ _).trans (KS _ _)).trans (j9 _ _ _)).trans (yF _)).trans (oN _ _ _)
theorem KW:cD ["self","number","step","rise"] ["self","number","step"] (bB (aO sCls 20)):=⟨rfl,rfl,rfl,by decide +kernel,rfl,by decide +kernel,by decide +kernel⟩
theorem zah{f C:Addr}{fd:FuncData}(F:bT K "doubled" "Sketch.doubled" (aO sCls 20) f fd)(T:dA K mg C)(hm:cO K C "doubled" f)(hb:bR K fd ["self","number","step"] [])(M_line:MO P w K mg base C 1 "line" 1 (z2 cJ))(M_peg:MO P w K mg base C 1 "peg" 1 (z2 dJ))
  (M_slope:MO P w K mg base C 4 "slope" 7 (z1 kA)) (M_falling:MO P w K mg base C 4 "falling" 9 (z0 iN)) (M_slid:MO P w K mg base C 3 "slid" 3 (z2 eJ)):MO P w K mg base C 5 "doubled" 21 (z2 fB):=by
 apply dX (k:=4) (n:=2) (nN:=4) (m:=z2 fB) (fun _ _ _=>rfl) F KW hm hb rfl rfl (mB KU)
 case hb=>
  rintro X E ⟨cdv,A,outer,s,H,rfl⟩ XC
  exact kW (l8 2 (bU XC T.cl (M_peg.mono (by omega)) (aT (bU XC T.cl (M_line.mono (by omega)) (aT (cN 0) (aT (eZ "north" SK.n T.cl T.nN fun _ _ _=>rfl) bS))) (aT (bU XC T.cl (M_slope.mono (by omega)) (aT (cN 1) bS)) bS))) KW.nd rfl (Or.inl rfl))
   (dI (dO (bU XC T.cl (M_slid.mono (by omega)) (aT (eG XC T.cl (M_falling.mono (by omega))) (aT (cN 2) bS)))))
 case em=>exact mE fun _ _ _=>by delta fB;rw[hid_eq];rfl
end Sk
namespace Sk
open L2 PyProof.Rows PySem.Calls
section
variable{X:Cx}{E:XK}{C:Addr}{e a b t o:Expr}{es:List Expr}{c c1 c2 k:Nat}{f fa fb:FO}{pos p0 apos cpos:Pos}
def zai:V->List V->Hp->VK->Prop:=fun x vs H Q=>∃i,x=.int i/\vs=[]/\Q (.int ((Builtin.Int.intBits i:Nat):Int)) H
theorem zaj:vC X "int.bit_length" zai:=by
 intro pins s σ H x vs v us Q I rx rv h
 obtain⟨i,rfl,rfl,q⟩:=h
 obtain⟨t,rfl⟩:=rx
 cases rv
 exact call_gives PySem.F.slot_int_bit_length (typeIs_int s i t) PySem.F.entry_int_bit_length (PySem.F.args_int_bit_length_1 _) (AutoIntG2.int_bit_length_int_0 i t) ⟨.int _,H,I.tok _,⟨_,rfl⟩,q⟩
theorem zak(h:PO X C o c f)(hbase:attributeBase o "bit_length" X.env (eval o X.env)=eval o X.env:=by rfl)(hline:(apos.endLine==cpos.line)=true:=by rfl) :
  PO X C (.Call (.Attribute o "bit_length" apos) [] [] cpos) c (fun env sk=>(f env sk).bind fun x=>some (((Builtin.Int.intBits x.1:Nat):Int),x.2)):=
 ⟨DL.PE.mono' (mY PySem.F.plainAttrs_int PySem.F.slot_int_bit_length PySem.F.type_int_bit_length zaj h.pe hbase hline) fun σ H Q ⟨G, p, l, d, env, sk, r, sk', e1, e2, S, R, e4, q⟩ => by
  obtain⟨⟨x,s1⟩,ea,e4⟩:=xaa.mp e4
  cases e4
  exact⟨G,p,l,d,env,sk,x,s1,e1,e2,S,R,ea,fun G1 H1 st1 S1=>⟨rfl,x,rfl,rfl,q G1 H1 st1 S1⟩⟩,fun env sk r sk' z=>by
  obtain⟨⟨x,s1⟩,ea,z⟩:=xaa.mp z
  cases z
  exact h.gr _ _ _ _ ea⟩
theorem KY{op:Operator}{ok:Int->Int->Prop}{h:Int->Int->Int}(hr:bD X (binaryOp op) (rI ok fun i j=>.int (h i j)))(hk:∀i j,Decidable (ok i j))(ha:PO X C a c1 fa)(hb:PO X C b c2 fb) :
  PO X C (.BinOp a op b pos) (c1+c2) (fun env sk=>(fa env sk).bind fun x=>(fb env x.2).bind fun y=>if ok x.1 y.1 then some (h x.1 y.1,y.2) else none):=
 ⟨DL.PE.mono' (uX hr ha.pe hb.pe) (fun σ H Q ⟨G, p', l, d, env, sk, r, sk', e1, e2, S, R, e4, q⟩ => by
  obtain⟨⟨x,s1⟩,ea,e4⟩:=xaa.mp e4
  obtain⟨⟨y,s2⟩,eb,e4⟩:=xaa.mp e4
  dsimp only at e4
  split at e4
  ·rename_i z
   cases e4
   refine⟨G,p',l,d,env,sk,x,s1,e1,e2,S,R.left,ea,fun G1 H1 st1 S1=>?_⟩
   refine⟨G1,p',l,d,env,s1,y,sk',e1.mono st1.g,st1.e,S1,R.on (ha.gr _ _ _ _ ea),eb,fun G2 H2 st2 S2=>?_⟩
   exact⟨x,y,rfl,rfl,z,q G2 H2 (st1.trans S S1 st2 S2.gp S2.gl S2.gd) S2⟩
  ·cases e4),fun env sk r sk' z=>by
  obtain⟨⟨x,s1⟩,ea,z⟩:=xaa.mp z
  obtain⟨⟨y,s2⟩,eb,z⟩:=xaa.mp z
  dsimp only at z
  split at z
  ·cases z
   exact(ha.gr _ _ _ _ ea).trans (hb.gr _ _ _ _ eb)
  ·cases z⟩
end
section
variable{X:Cx}
def zal(ta:TA):TI:=fun σ H R=>ta σ H fun vs H1=>∃n:Nat,vs=[.int ((n:Int)-1),.int (-1),.int (-1)]/\n<2^30/\R (pF ((n:Int)-1) (-1) n) H1
theorem zam{tg a b c:Expr}{ta:TA}{p pos:Pos}(hg:Gl X "range")(hm:X.mg "range"=none)(ha:PA X [a,b,c] ta)(hs:starEach [a,b,c] X.env=[(false,eval a X.env),(false,eval b X.env),(false,eval c X.env)]:=by rfl)
  (hs2:starEach [b,c] X.env=[(false,eval b X.env),(false,eval c X.env)]:=by rfl) (hs3:starEach [c] X.env=[(false,eval c X.env)]:=by rfl) :
  PI X tg (.Call (.Name "range" p) [a,b,c] [] pos) (zal ta):=by
 intro pins s σ H R I h
 refine Call_ (k8 I hg hm boot_range (PyProof.Rows.callWith_type1 (aJ (ha pos pins s σ H _ I h) fun us s1 ⟨vs,H1,I1,r1,q1⟩=>?_) (by rw[hs,hs2]) (by rw[hs2];rfl)))
 obtain⟨n,e,hn,q⟩:=q1
 subst e
 cases r1 with
 |cons r rr=>
  cases rr with
  |cons r' rr=>
   cases rr with
   |cons r'' rr=>
    cases rr
    obtain⟨t,rfl⟩:=r
    obtain⟨t',rfl⟩:=r'
    obtain⟨t'',rfl⟩:=r''
    have hrs:Builtin.Range.rangeSize ((n:Int)-1) (-1) (-1)=(n:Int):=by
     unfold Builtin.Range.rangeSize
     rw[xak (by decide)]
     by_cases h0:(n:Int)-1 > -1
     ·rw[xal h0,show (- -1:Int)=1 from rfl,Int.ediv_one];omega
     ·rw[xak h0];omega
    refine call_range_3 (by omega) ?_ (.inl (PyProof.noPylong_small (by omega)))
    have hsm:Builtin.Range.small ((n:Int)-1) (-1) (-1)=true:=by
     unfold Builtin.Range.small
     rw[hrs]
     simp only[Builtin.Range.rangeFitsLong,xap,Bool.or_eq_true,decide_eq_true_eq,beq_iff_eq]
     simp
     omega
    refine wpAny_pyIter_range (IsRange.new ..) hsm ?_
    have I2:aD X pins σ H1 { s1 with heap:=s1.heap.push { cls:=.type "range",data:=.fields #[.int ((n:Int)-1) t,.int (-1) t',.int (-1) t''] },toks:=s1.toks }:=I1.kept fun b o e=>xad _ e
    refine⟨(s1.heap.push { cls:=.type "range",data:=.fields #[.int ((n:Int)-1) t,.int (-1) t',.int (-1) t''] }).objs.size,[(s1.heap.push { cls:=.type "range",data:=.fields #[.int ((n:Int)-1) t,.int (-1) t',.int (-1) t''] }).objs.size],_,_,H1,rfl,
     I2.kept (t':=s1.toks) fun b o e=>xad _ e,TJ _ ((n:Int)-1) (-1) n,?_,fun b hb=>?_,q⟩
    ·have e1:(n:Int)-1+((0:Nat):Int)*(-1)=(n:Int)-1:=by simp
     have e2:(n:Int)-((0:Nat):Int)=Builtin.Range.rangeSize ((n:Int)-1) (-1) (-1):=by rw[hrs];simp
     show IsRangeIter _ _ ((n:Int)-1+((0:Nat):Int)*(-1)) ((n:Int)-((0:Nat):Int)) (-1)
     rw[e1,e2]
     exact xav _ rfl
    ·have e:b=(s1.heap.push { cls:=.type "range",data:=.fields #[.int ((n:Int)-1) t,.int (-1) t',.int (-1) t''] }).objs.size:=by simpa using hb
     subst e
     exact I2.fpOk (xag _) (I2.hok.fresh (xag _))
end
end Sk
namespace Sk
open L2 PyProof.Rows PySem.Calls
section
variable{X:Cx}{E:XK}{C:Addr}{e a b t o a1 a2 a3:Expr}{es:List Expr}{body:List Stmt}{c c0 c1 c2 k:Nat}{f fa fb:FO}{fA:FA}{g:FS}{pos p0 apos cpos pos' p1:Pos}
theorem yK(h:PO X C a c f):PO X C (.UnaryOp .USub a pos) c (fun env sk=>(f env sk).bind fun x=>some (-x.1,x.2)):=
 ⟨DL.PE.mono' (QB QK h.pe) (fun σ H Q ⟨G, p, l, d, env, sk, r, sk', e1, e2, S, R, e4, q⟩ => by
  obtain⟨⟨x,s1⟩,ea,e4⟩:=xaa.mp e4
  cases e4
  exact⟨G,p,l,d,env,sk,x,s1,e1,e2,S,R,ea,fun G1 H1 st1 S1=>⟨x,rfl,q G1 H1 st1 S1⟩⟩),fun env sk r sk' z=>by
  obtain⟨⟨x,s1⟩,ea,z⟩:=xaa.mp z
  cases z
  exact h.gr _ _ _ _ ea⟩
def yL(x:List Int×SK):Option (Int×SK):=match x.1 with
 |[i]=>some (if i<0 then -i else i,x.2)
 |_=>none
theorem zan(hm:X.mg "abs"=none)(ha:oH X C (e::es) c fA)(hg:Gl X "abs":=by rfl)(he:starEach (e::es) X.env=(false,eval e X.env)::starEach es X.env:=by rfl)(hpl:(backTo pos (starEach es X.env)).any (·.1)=false:=by rfl) :
  PO X C (.Call (.Name "abs" p0) (e::es) [] pos) c (fun env sk=>(fA env sk).bind yL):=
 ⟨DL.PE.mono' (AT QY hg hm PyProof.Rows.boot_abs ha.pa (by decide) (by decide) he hpl) (fun σ H Q ⟨G, p, l, d, env, sk, r, sk', e1, e2, S, R, e4, q⟩ => by
  obtain⟨⟨x,s1⟩,ea,e4⟩:=xaa.mp e4
  match x,e4 with
  |[i],e4=>
   cases e4
   exact⟨G,p,l,d,env,sk,[i],s1,e1,e2,S,R,ea,fun G1 H1 st1 S1=>⟨i,rfl,q G1 H1 st1 S1⟩⟩),fun env sk r sk' z=>by
  obtain⟨⟨x,s1⟩,ea,z⟩:=xaa.mp z
  match x,z with
  |[i],z=>
   cases z
   exact ha.gr _ _ _ _ ea⟩
def kB(i:Nat)(g:FS):Nat->List (Option W)->SK->Option (List (Option W)×SK)
 |0,env,sk=>some (env,sk)
 |n+1,env,sk=>(g (env.set i (some (.i (n:Int)))) sk).bind fun o=>match o.1 with
  |.nx env'=>kB i g n env' o.2
  |.rt _=>none
theorem KZ{i:Nat}(hg:∀env sk r sk',g env sk=some (r,sk')->grow c sk sk'):∀(n:Nat) (env:List (Option W)) (sk:SK) (r:List (Option W)) (sk':SK),kB i g n env sk=some (r,sk')->grow (n*c) sk sk'
 |0,env,sk,r,sk',h=>by cases h;exact(grow.refl _).wide (xbc _)
 |n+1,env,sk,r,sk',h=>by
  unfold kB at h
  obtain⟨⟨o,s1⟩,ea,h⟩:=xaa.mp h
  cases o with
  |rt _=>cases h
  |nx env'=>
   have:=(hg _ _ _ _ ea).trans (KZ hg n env' s1 r sk' h)
   rw[Nat.succ_mul,xcp];exact this
def qQ(B i:Nat)(g:FS)(env:List (Option W))(r:List Int×SK):Option (OO×SK):=match r.1 with
 |[u,v,w]=>if 0<=u+1/\u+1<=B/\v=-1/\w=-1 then (kB i g (u+1).toNat env r.2).bind fun z=>some (.nx z.1,z.2) else none
 |_=>none
theorem zao(B:Nat)(hB:B<2^30)(i:Nat){x:Str}(XC:DL.XC X E k)(hp:PassesOwn (model X.prog X.w) X.A X.env X.xe)(hm:X.mg "range"=none)(ha:oH X C [a1,a2,a3] c0 fA)(hb:SO X C body c g)(hN:X.N.Nodup)(hi:X.N[i+1]? = some x)(hx:eM X.env.scope x)(hg:Gl X "range":=by rfl)
  (hf:X.fn x=true\/X.env.scope.names.lookup x=some .local:=by first|exact .inl rfl|exact .inr rfl|assumption)
  (hs:starEach [a1,a2,a3] X.env=[(false,eval a1 X.env),(false,eval a2 X.env),(false,eval a3 X.env)]:=by rfl) (hs2:starEach [a2,a3] X.env=[(false,eval a2 X.env),(false,eval a3 X.env)]:=by rfl) (hs3:starEach [a3] X.env=[(false,eval a3 X.env)]:=by rfl)
  (hsf:∀z,foldedSetIterable (.Call (.Name "range" p0) [a1,a2,a3] [] pos') X.env z=pure z:=by intro _;rfl) :
  oI X C (.For (.Name x p1) (.Call (.Name "range" p0) [a1,a2,a3] [] pos') body [] pos) (c0+B*c) (fun env sk=>(fA env sk).bind (qQ B i g env)):=by
 refine⟨PS.mono' (uV hp XC.calm (zam hg hm ha.pa hs hs2 hs3) (uT (i:=i+1) hN hi hx hf) hb.ps hsf) (fun D σ H ⟨G,p,l,d,env,sk,r,sk',e1,e2,S,R,e4,q⟩=>?_),fun env sk r sk' z=>?_⟩
 ·obtain⟨⟨x,s1⟩,ea,e4⟩:=xaa.mp e4
  unfold qQ at e4
  match x,e4,ea with
  |[u,v,w],e4,ea=>
   dsimp only at e4
   split at e4
   ·rename_i hc
    obtain⟨h1,h2,rfl,rfl⟩:=hc
    obtain⟨⟨envF,skF⟩,el,e4⟩:=xaa.mp e4
    cases e4
    obtain⟨n,hn⟩:∃n:Nat,u=(n:Int)-1:=⟨(u+1).toNat,by omega⟩
    subst hn
    have en:((n:Int)-1+1).toNat=n:=by omega
    rw[en] at el
    have hnB:n<=B:=by omega
    refine⟨G,p,l,d,env,sk,_,s1,e1,e2,S,R.left,ea,fun G1 H1 st1 S1=>?_⟩
    refine⟨n,rfl,by omega,?_⟩
    have R1:room (n*c) s1:=(R.on (ha.gr _ _ _ _ ea)).less (Nat.mul_le_mul_right _ hnB)
    refine TK (fun j σ' H'=>∃G' env' sk1,StO X.K G' p env' σ'/\StepO G H G' H' p l d/\SkAt X.K X.mg C G' H' p l d sk1/\room ((n-j)*c) sk1/\kB i g (n-j) env' sk1=some (envF,skF)) ⟨G1,env,s1,e1.mono st1.g,st1,S1,by simpa using R1,by simpa using el⟩ (fun j σ' H' hj ⟨G',env',sk1,e',st',S',R',el'⟩=>?_) (fun σ' H' ⟨G',env',sk1,e',st',S',R',el'⟩=>?_)
    ·obtain⟨m,hm'⟩:∃m,n-j=m+1:=⟨n-j-1,by omega⟩
     rw[hm'] at R' el'
     have ev:(n:Int)-1+(j:Int)*(-1)=(m:Int):=by omega
     rw[ev]
     unfold kB at el'
     obtain⟨⟨oo,s2⟩,eg,el'⟩:=xaa.mp el'
     show x5 X.K X.mg C c g _ (σ'.set (i+1) (some (V.int (m:Int)))) H'
     have R2:room (c+m*c) sk1:=by rw[Nat.succ_mul,xcp] at R';exact R'
     refine⟨G',p,l,d,_,sk1,oo,s2,e'.set,st'.e,S',R2.left,eg,fun G2 H2 st2 S2=>?_⟩
     cases oo with
     |rt _=>cases el'
     |nx env2=>
      have ej:n-(j+1)=m:=by omega
      exact fun σ2 e2'=>⟨G2,env2,s2,e2',st'.trans S S' st2 S2.gp S2.gl S2.gd,S2,by rw[ej];exact R2.on (hb.gr _ _ _ _ eg),by rw[ej];exact el'⟩
    ·rw[Nat.sub_self] at el'
     cases el'
     exact q G' H' st' S' _ e'
   ·cases e4
 ·obtain⟨⟨x,s1⟩,ea,z⟩:=xaa.mp z
  unfold qQ at z
  match x,z,ea with
  |[u,v,w],z,ea=>
   dsimp only at z
   split at z
   ·rename_i hc
    obtain⟨⟨envF,skF⟩,el,z⟩:=xaa.mp z
    cases z
    exact((ha.gr _ _ _ _ ea).trans (KZ hb.gr _ _ _ _ _ el)).wide (Nat.add_le_add_left (Nat.mul_le_mul_right _ (by omega)) _)
   ·cases z
end
end Sk
namespace Sk
open L2 PyProof.Rows PySem.Calls
section
variable{X:Cx}{E:XK}{C:Addr}{a b:Expr}{c1 c2:Nat}{fa fb:FO}{pos:Pos}
theorem zap(ha:PO X C a c1 fa)(hb:PO X C b c2 fb):PO X C (.BinOp a .BitAnd b pos) (c1+c2) (fun env sk=>(fa env sk).bind fun x=>(fb env x.2).bind fun y=>some (Builtin.bitAnd x.1 y.1,y.2)):=
 ⟨DL.PE.mono' (uX QI ha.pe hb.pe) (fun σ H Q ⟨G, p', l, d, env, sk, r, sk', e1, e2, S, R, e4, q⟩ => by
  obtain⟨⟨x,s1⟩,ea,e4⟩:=xaa.mp e4
  obtain⟨⟨y,s2⟩,eb,e4⟩:=xaa.mp e4
  cases e4
  exact yH e1 ha.gr e2 S R ea eb q),yI (h:=fun x y=>Builtin.bitAnd x y) ha.gr hb.gr⟩
instance decSm (i j:Int):Decidable (Sm i/\Sm j):=by unfold Sm;exact inferInstance
theorem zaq(ha:PO X C a c1 fa)(hb:PO X C b c2 fb):PO X C (.BinOp a .Mult b pos) (c1+c2) (fun env sk=>(fa env sk).bind fun x=>(fb env x.2).bind fun y=>if Sm x.1/\Sm y.1 then some (x.1*y.1,y.2) else none):=KY TB decSm ha hb
theorem zar(ha:PO X C a c1 fa)(hb:PO X C b c2 fb):PO X C (.BinOp a .RShift b pos) (c1+c2) (fun env sk=>(fa env sk).bind fun x=>(fb env x.2).bind fun y=>if 0<=y.1 then some (x.1/2^y.1.toNat,y.2) else none):=KY QH (fun _ _=>inferInstance) ha hb
end
theorem zas{x:Int}(hx:0<=x):Builtin.bitAnd x 1=x%2:=by
 rw[bitAnd_pp hx (by decide)]
 show ((x.toNat &&& 1:Nat):Int)=x%2
 rw[Nat.and_one_is_mod]
 omega
noncomputable def oO(step size:Int):Nat->Int->SK->Int×SK
 |0,peg,sk=>(peg,sk)
 |n+1,peg,sk=>oO step size n (fB sk peg (step*(size/2^n%2))).1 (fB sk peg (step*(size/2^n%2))).2
def absZ(i:Int):Int:=if i<0 then -i else i
noncomputable def q_whole(sk:SK)(number:Int):Int×SK:=hid (oO (if 0<number then 1 else -1) (absZ number) (Builtin.Int.intBits (absZ number)) sk.c sk)
def kY(ok:Int->Prop)[DecidablePred ok](m:SK->Int->Int×SK):List Int->SK->Option (Int×SK)
 |[a],sk=>if ok a then some (m sk a) else none
 |_,_=>none
def okW(a:Int):Prop:=Builtin.Int.intBits (absZ a)<=140
instance:DecidablePred okW:=fun a=>by unfold okW;exact inferInstance
theorem g_walk{step size:Int}:∀(n:Nat) (peg:Int) (sk:SK),grow (n*21) sk (oO step size n peg sk).2
 |0,peg,sk=>(grow.refl _).wide (xbc _)
 |n+1,peg,sk=>by
  rw[Nat.succ_mul,xcp]
  exact(KU sk peg (step*(size/2^n%2))).trans (g_walk n _ _)
theorem zat{ok:Int->Prop}[DecidablePred ok]{m:SK->Int->Int×SK}{c:Nat}(g:∀sk a,ok a->grow c sk (m sk a).2):∀as sk r sk',kY ok m as sk=some (r,sk')->grow c sk sk':=fun as sk r sk' h=>by
 match as,h with
 |[a],h=>
  unfold kY at h
  dsimp only at h
  split at h
  ·rename_i hk
   have:=g sk a hk
   rw[xaw h] at this
   exact this
  ·cases h
theorem zau{nN:Nat}{fs:FS}{ok:Int->Prop}[DecidablePred ok]{m:SK->Int->Int×SK}(h:∀sk a,(fs (gC nN [a]) sk).bind fin=if ok a then some (m sk a) else none):mO 1 nN fs=kY ok m:=by
 funext as sk
 match as with
 |[]=>rfl
 |[a]=>exact h sk a
 |_::_::_=>rfl
theorem zav{a size step:Int}(hz:0<=size)(hs:Sm step)(m:Nat)(sk:SK)(i:Int)(hi:i=m):(Sm step/\Sm (Builtin.bitAnd (size/2^i.toNat) 1))/\Builtin.bitAnd (size/2^i.toNat) 1=size/2^m%2:=by
 subst hi
 rw[xcd]
 have h0:0<=size/2^m:=Int.ediv_nonneg hz (by exact Int.le_of_lt (Int.pow_pos (by decide)))
 rw[zas h0]
 exact⟨⟨hs,Sm.of (n:=1) (by omega)⟩,rfl⟩
theorem zaw(sk:SK)(a:Int)(h:okW a):grow 2940 sk (q_whole sk a).2:=by
 delta q_whole
 rw[hid_eq]
 exact(g_walk _ _ _).wide (by unfold okW at h;omega)
theorem K0{g:FS}{a size step:Int}(hg:∀(m:Nat) (peg:Int) (sk:SK),g [some (.i a),some (.i size),some (.i step),some (.i peg),some (.i (m:Int))] sk=some (.nx [some (.i a),some (.i size),some (.i step),some (.i (fB sk peg (step*(size/2^m%2))).1),some (.i (m:Int))],(fB sk peg (step*(size/2^m%2))).2)) :
  ∀(n:Nat) (peg:Int) (sk:SK) (at':Option W),∃at2,kB 4 g n [some (.i a),some (.i size),some (.i step),some (.i peg),at'] sk=some ([some (.i a),some (.i size),some (.i step),some (.i (oO step size n peg sk).1),at2],(oO step size n peg sk).2)
 |0,peg,sk,at'=>⟨at',rfl⟩
 |n+1,peg,sk,at'=>by
  obtain⟨at2,h⟩:=K0 hg n (fB sk peg (step*(size/2^n%2))).1 (fB sk peg (step*(size/2^n%2))).2 (some (W.i (n:Int)))
  refine⟨at2,?_⟩
  unfold kB
  rw[show ([some (.i a),some (.i size),some (.i step),some (.i peg),at']:List (Option W)).set 4 (some (W.i (n:Int)))=[some (.i a),some (.i size),some (.i step),some (.i peg),some (.i (n:Int))] from rfl,hg,xba]
  exact h
theorem K1{g:FS}{a step:Int}{sk:SK}(hst:step=if 0<a then 1 else -1)(hg:∀(m:Nat) (peg:Int) (sk:SK),g [some (.i a),some (.i (absZ a)),some (.i step),some (.i peg),some (.i (m:Int))] sk=some (.nx [some (.i a),some (.i (absZ a)),some (.i step),some (.i (fB sk peg (step*(absZ a/2^m%2))).1),some (.i (m:Int))],(fB sk peg (step*(absZ a/2^m%2))).2)) :
  ((if 0 <= ((Builtin.Int.intBits (absZ a) : Nat) : Int) - 1 + 1 /\ ((Builtin.Int.intBits (absZ a) : Nat) : Int) - 1 + 1 <= ((140 : Nat) : Int) /\ True /\ True then
   (kB 4 g (((Builtin.Int.intBits (absZ a):Nat):Int)-1+1).toNat [some (.i a),some (.i (absZ a)),some (.i step),some (.i sk.c),none] sk).bind fun z=>some (OO.nx z.1,z.2) else none).bind fun (x:OO×SK)=>match x.1 with
    |.nx (env':List (Option W))=>(match env'[3]? with
      |some (some (W.i v))=>some (v,x.2)
      |_=>none).bind fun (x:Int×SK)=>some (OO.rt x.1,x.2)
    |.rt r=>some (OO.rt r,x.2)).bind fin=if okW a then some (q_whole sk a) else none:=by
 have en:(((Builtin.Int.intBits (absZ a):Nat):Int)-1+1).toNat=Builtin.Int.intBits (absZ a):=by omega
 rw[en]
 by_cases hk:okW a
 ·rw[xal hk,xal (by unfold okW at hk;exact⟨by omega,by omega,trivial,trivial⟩)]
  obtain⟨at2,hl⟩:=K0 hg (Builtin.Int.intBits (absZ a)) sk.c sk none
  rw[hl]
  unfold q_whole
  rw[hid_eq]
  rw[<- hst]
  rfl
 ·rw[xak hk,xak (by unfold okW at hk;rintro⟨_,h,_⟩;omega)]
  rfl
theorem K2{a size step:Int}(hz:0<=size)(hs:Sm step)(m:Nat)(peg:Int)(sk:SK) :
  ((if Sm step/\Sm (Builtin.bitAnd (size/2^((m:Int)).toNat) 1) then some (step*Builtin.bitAnd (size/2^((m:Int)).toNat) 1,sk) else none):Option (Int×SK))=some (step*(size/2^m%2),sk):=by
 obtain⟨h1,h2⟩:=zav (a:=a) hz hs m sk (m:Int) rfl
 rw[xal h1,h2]
variable{P:Program}{w:World}{K:xFg}{mg:Str->Option Value}{base:Heap}
theorem oP:cD ["self","number","size","step","peg","at"] ["self","number"] (bB (aO sCls 21)):=⟨rfl,rfl,rfl,by decide +kernel,rfl,by decide +kernel,by decide +kernel⟩
theorem zax{f C:Addr}{fd:FuncData}(F:bT K "whole" "Sketch.whole" (aO sCls 21) f fd)(T:dA K mg C)(hm:cO K C "whole" f)(hb:bR K fd ["self","number"] [])(mabs:mg "abs"=none)(mr:mg "range"=none)
  (M_doubled:MO P w K mg base C 5 "doubled" 21 (z2 fB)):MO P w K mg base C 6 "whole" 2940 (kY okW q_whole):=by
 apply dX (k:=5) (n:=1) (nN:=6) (m:=kY okW q_whole) (fun _ _ _=>rfl) F oP hm hb rfl rfl (zat zaw)
 case hb=>
  rintro X E ⟨cdv,A,outer,s,H,rfl⟩ XC
  exact kW (l8 1 (zan mabs (aT (cN 0) bS)) oP.nd rfl (Or.inl rfl))
   (kW (l8 2 (KR (zac (cN 0) j8) j8 (yK j8)) oP.nd rfl (Or.inl rfl))
   (kW (l8 3 (eZ "corner" SK.c T.cl T.nC fun _ _ _=>rfl) oP.nd rfl (Or.inl rfl))
   (kW (zao 140 (by decide) 4 XC PassesOwn.leaving mr (aT (zad (zak (cN 1)) j8) (aT (yK j8) (aT (yK j8) bS)))
    (dI (l8 3 (bU XC T.cl M_doubled (aT (cN 3) (aT (zaq (cN 2) (zap (zar (cN 1) (cN 4)) j8)) bS))) oP.nd rfl (Or.inl rfl))) oP.nd rfl (Or.inl rfl))
   (dI (dO (cN 3))))))
 case em=>
  refine zau fun sk a=>?_
  have hz:0<=absZ a:=by unfold absZ;split<;>omega
  cases hd:decide ((0:Int)<a) with
  |true=>
   simp only[oJ,mF,qQ,yL,gC,fin,xba,xa5,xcc,xao,xbo,xch,xcq,xbl,hd,cond_true,cond_false,List.replicate,xbs,xbt,xbw,List.append]
   refine K1 (step:=1) (by rw[xal (xau hd)]) (fun m peg sk=>?_)
   have h0:(0:Int)<=(m:Int):=by omega
   simp only[xbl,xbw,xba,xbs,xbt,xal h0,K2 (a:=a) hz (show Sm (1) by unfold Sm;decide +kernel) m peg,z2,two]
  |false=>
   simp only[oJ,mF,qQ,yL,gC,fin,xba,xa5,xcc,xao,xbo,xch,xcq,xbl,hd,cond_true,cond_false,List.replicate,xbs,xbt,xbw,List.append]
   refine K1 (step:=-1) (by rw[xak (of_decide_eq_false hd)]) (fun m peg sk=>?_)
   have h0:(0:Int)<=(m:Int):=by omega
   simp only[xbl,xbw,xba,xbs,xbt,xal h0,K2 (a:=a) hz (show Sm (-1) by unfold Sm;decide +kernel) m peg,z2,two]
end Sk
namespace Sk
open L2 PyProof.Rows
variable{P:Program}{w:World}{K:xFg}{mg:Str->Option Value}{base:Heap}
abbrev K3:Stmt:=aO sCls 0
def sk0(e n c t m:Int):SK:=⟨e,n,c,t,m,0,[],[]⟩
def K4(K:xFg)(mg:Str->Option Value)(C:Addr):Sp:=fun vs H Q _=>∃(G:Hp) (p q dx:Addr) (e n c t m:Int),vs=[.ref p,.ref q,.int m]/\Same G H/\H p=some (.ins C dx [])/\G p=none/\(∀H',Same G H'->bG K H' q [.int e,.int n,.int c,.int t])/\
 ∀l d H',H l=none->H d=none->Same G H'->(∀b o,H b=some o->b≠p->H' b=some o)->SkAt K mg C G H' p l d (sk0 e n c t m)->Q .non H'
theorem zay:cD ["self","frame","pegs"] ["self","frame","pegs"] (bB K3):=⟨rfl,rfl,rfl,by decide +kernel,rfl,by decide +kernel,by decide +kernel⟩
theorem same_upd{G H:Hp}{p:Addr}{o:HO}(e:Same G H)(g:G p=none):Same G (aG H p o):=fun b u h=>by
 have:b≠p:=fun z=>by rw[z,g] at h;cases h
 rw[aH this];exact e b u h
theorem none_of{G H:Hp}{l:Addr}(e:Same G H)(h:H l=none):G l=none:=by
 cases z:G l with
 |none=>rfl
 |some u=>have:=e l u z;rw[h] at this;cases this
theorem zaz{f C:Addr}{fd:FuncData}{k:Nat}(F:bT K "__init__" "Sketch.__init__" K3 f fd)(T:dA K mg C):cF P w K mg base (bM P w) (k+1) f fd ["self","frame","pegs"] (K4 K mg C):=by
 refine F.okX zay (fun vs H Q E h=>?_) (fun cdv A outer s H vs Q E hr h=>?_)
 ·obtain⟨G,p,q,dx,e,n,c,t,m,rfl,_⟩:=h
  rfl
 ·obtain⟨G,p,r,dx,e,n,c,t,m,rfl,e0,h1,gp,hr',q⟩:=h
  refine⟨_,cP (kI (pv 0) (kJ lF (pv 1) gG (fun _ _=>rfl)) rfl)
   (cP (kI (pv 0) (kJ lF (pv 1) gG (fun _ _=>rfl)) rfl)
   (cP (kI (pv 0) (kJ lF (pv 1) gG (fun _ _=>rfl)) rfl)
   (cP (kI (pv 0) (kJ lF (pv 1) gG (fun _ _=>rfl)) rfl)
   (cP (kI (pv 0) (pv 2) rfl)
   (cP (kI (pv 0) gG rfl)
   (cP (kI (pv 0) (u8 dM) rfl)
   (iT (kI (pv 0) YF rfl)))))))),?_⟩
  refine⟨_,rfl,_,_,_,_,rfl,rfl,hr' _ e0,rfl,?_⟩
  refine⟨_,rfl,p,C,dx,_,rfl,h1,T.cl,T.nE,(by show 0<1000;decide),?_⟩
  have s1:=same_upd (o:=.ins C dx (cC "east" (.int e) [])) e0 gp
  refine⟨_,rfl,_,_,_,_,rfl,rfl,hr' _ s1,rfl,?_⟩
  refine⟨_,rfl,p,C,dx,_,rfl,aU,T.cl,T.nN,(by show 1<1000;decide),?_⟩
  have s2:=same_upd (o:=.ins C dx (cC "north" (.int n) (cC "east" (.int e) []))) s1 gp
  refine⟨_,rfl,_,_,_,_,rfl,rfl,hr' _ s2,rfl,?_⟩
  refine⟨_,rfl,p,C,dx,_,rfl,aU,T.cl,T.nC,(by show 2<1000;decide),?_⟩
  have s3:=same_upd (o:=.ins C dx (cC "corner" (.int c) (cC "north" (.int n) (cC "east" (.int e) [])))) s2 gp
  refine⟨_,rfl,_,_,_,_,rfl,rfl,hr' _ s3,rfl,?_⟩
  refine⟨_,rfl,p,C,dx,_,rfl,aU,T.cl,T.nT,(by show 3<1000;decide),?_⟩
  refine⟨_,rfl,_,rfl,p,C,dx,_,rfl,aU,T.cl,T.nG,(by show 4<1000;decide),?_⟩
  refine⟨_,rfl,p,C,dx,_,rfl,aU,T.cl,T.nL,(by show 5<1000;decide),?_⟩
  have uu:∀(H':Hp) (o o':HO),aG (aG H' p o) p o'=aG H' p o':=fun H' o o'=>by
   funext b
   by_cases z:b=p
   ·rw[z,aU,aU]
   ·rw[aH z,aH z,aH z]
  simp only[uu]
  obtain⟨H6,e6⟩:∃H6,H6=aG H p (.ins C dx (cC "lines" (V.int 0) (cC "pegs" (V.int m) (cC "top" (V.int t) (cC "corner" (V.int c) (cC "north" (V.int n) (cC "east" (V.int e) []))))))):=⟨_,rfl⟩
  rw[<- e6]
  have p6:H6 p=some (.ins C dx [("east",.int e),("north",.int n),("corner",.int c),("top",.int t),("pegs",.int m),("lines",.int 0)]):=by rw[e6,aU];rfl
  refine⟨xbc _,fun l hl=>?_⟩
  have npl:p≠l:=bC p6 hl
  refine⟨_,rfl,p,C,dx,_,rfl,(by rw[aH npl];exact p6),T.cl,T.nP,(by show 6<1000;decide),?_⟩
  intro d hd
  have npd:p≠d:=fun z=>by rw[<- z,aU] at hd;cases hd
  have nld:l≠d:=fun z=>by rw[<- z,aH npl.symm,aU] at hd;cases hd
  refine⟨_,rfl,p,C,dx,_,rfl,(by rw[aH npd,aU]),T.cl,T.nD,(by show 7<1000;decide),?_⟩
  have hl0:H l=none:=by rw[e6,aH npl.symm] at hl;exact hl
  have hd0:H d=none:=by rw[aH npd.symm,aH nld.symm,e6,aH npd.symm] at hd;exact hd
  have far:∀(o1 o2 o3 o4:HO) (b:Addr),b≠p->b≠l->b≠d->(aG (aG (aG (aG H6 l o1) p o2) d o3) p o4) b=H b:=fun o1 o2 o3 o4 b n1 n2 n3=>by
   rw[aH n1,aH n3,aH n1,aH n2,e6,aH n1]
  have gl:=none_of e0 hl0
  have gd:=none_of e0 hd0
  refine q l d _ hl0 hd0 (fun b u h=>?_) (fun b o h nb=>?_) ⟨⟨dx,aU⟩,⟨[],?_,DL.Reps.nil⟩,?_,gp,gl,gd,fun kv hkv=>by cases hkv⟩
  ·have n1:b≠p:=fun z=>by rw[z,gp] at h;cases h
   have n2:b≠l:=fun z=>by rw[z,gl] at h;cases h
   have n3:b≠d:=fun z=>by rw[z,gd] at h;cases h
   rw[far _ _ _ _ b n1 n2 n3]
   exact e0 b u h
  ·have n2:b≠l:=fun z=>by rw[z,hl0] at h;cases h
   have n3:b≠d:=fun z=>by rw[z,hd0] at h;cases h
   rw[far _ _ _ _ b nb n2 n3]
   exact h
  ·rw[aH npl.symm,aH nld,aH npl.symm,aU]
  ·rw[aH npd.symm,aU];rfl
section
open DL
variable{C:Addr}
structure MD(K:xFg)(C:Addr)(x q:Str)(st:Stmt):Prop where
 ex:∃f fd,bT K x q st f fd/\cO K C x f
theorem MD.mk'{x q:Str}{st:Stmt}{f:Addr}{oc:Value}{od an:Option Addr}{osl:Array (Option Value)}{kV doc pm cdv ct:Value}(a:PySem.W.findIn K (.ref C) x=some (some (.ref f)))(i:PySem.W.isFn K (.ref f)=true)(l:K.lookup f=some ⟨oc,od,.func (PySem.W.fnOf x q (iX st) (dZ st) (bB st) .none kV doc pm an cdv ct),osl⟩)
  (c:PySem.W.codeIn K cdv q=true) (k:PySem.W.keepIn K (.ref f)=true):MD K C x q st:=⟨f,_,vG l c k,a,i,k⟩
theorem MD.go{x q:Str}{st:Stmt}(d:MD K C x q st)(ps:List Str)
  (b:∀(kV doc pm:Value) (an:Option Addr) (cdv ct:Value) (us:List Value),us.length=ps.length->bindArgs (PySem.W.fnOf x q (iX st) (dZ st) (bB st) .none kV doc pm an cdv ct) ⟨us,[]⟩=pure (ps.zip us)):∃f fd,bT K x q st f fd/\cO K C x f/\bR K fd ps []:=by
 obtain⟨f,fd,F,m⟩:=d.ex
 exact⟨f,fd,F,m,F.binds b⟩
end
end Sk
namespace Sk
open L2 PyProof.Rows
variable{P:Program}{w:World}{K:xFg}{mg:Str->Option Value}{base:Heap}
noncomputable def g7(sk:SK)(number:Int):Int×SK:=hid <|
 let r1:=iM sk
 let r2:=cJ r1.2 number r1.2.n
 dJ r2.2 r1.1 r2.1
theorem tN(sk:SK)(number:Int):grow 3 sk (g7 sk number).2:=by
 delta g7
 rw[hid_eq]
 exact(((yD _).trans (fK _ _ _)).trans (j9 _ _ _))
theorem zaA:cD ["self","number"] ["self","number"] (bB (aO sCls 12)):=⟨rfl,rfl,rfl,by decide +kernel,rfl,by decide +kernel,by decide +kernel⟩
theorem zaB{f C:Addr}{fd:FuncData}(F:bT K "raised" "Sketch.raised" (aO sCls 12) f fd)(T:dA K mg C)(hm:cO K C "raised" f)(hb:bR K fd ["self","number"] [])(M_peg:MO P w K mg base C 1 "peg" 1 (z2 dJ))(M_level:MO P w K mg base C 2 "level" 1 (z0 iM))(M_line:MO P w K mg base C 1 "line" 1 (z2 cJ)):MO P w K mg base C 3 "raised" 3 (z1 g7):=by
 apply dX (k:=2) (n:=1) (nN:=2) (m:=z1 g7) (fun _ _ _=>rfl) F zaA hm hb rfl rfl (x9 tN)
 case hb=>
  rintro X E ⟨cdv,A,outer,s,H,rfl⟩ XC
  exact dI (dO (bU XC T.cl (M_peg.mono (by omega)) (aT (eG XC T.cl (M_level.mono (by omega))) (aT (bU XC T.cl (M_line.mono (by omega)) (aT (cN 0) (aT (eZ "north" SK.n T.cl T.nN fun _ _ _=>rfl) bS))) bS))))
 case em=>exact yA (fun _ _=>by delta g7;rw[hid_eq];rfl)
noncomputable def jG(sk:SK)(number:Int)(other:Int):Int×SK:=hid <|
 let r1:=dY sk
 let r2:=eI r1.2 r1.1 other
 let r3:=g7 r2.2 number
 eJ r3.2 r2.1 r3.1
theorem K5(sk:SK)(number:Int)(other:Int):grow 12 sk (jG sk number other).2:=by
 delta jG
 rw[hid_eq]
 exact((((oK _).trans (oM _ _ _)).trans (tN _ _)).trans (oN _ _ _))
theorem zaC:cD ["self","number","other"] ["self","number","other"] (bB (aO sCls 15)):=⟨rfl,rfl,rfl,by decide +kernel,rfl,by decide +kernel,by decide +kernel⟩
theorem zaD{f C:Addr}{fd:FuncData}(F:bT K "added" "Sketch.added" (aO sCls 15) f fd)(T:dA K mg C)(hm:cO K C "added" f)(hb:bR K fd ["self","number","other"] [])(M_slid:MO P w K mg base C 3 "slid" 3 (z2 eJ))(M_heading:MO P w K mg base C 3 "heading" 3 (z2 eI))(M_high:MO P w K mg base C 3 "high" 3 (z0 dY))(M_raised:MO P w K mg base C 3 "raised" 3 (z1 g7)):MO P w K mg base C 4 "added" 12 (z2 jG):=by
 apply dX (k:=3) (n:=2) (nN:=3) (m:=z2 jG) (fun _ _ _=>rfl) F zaC hm hb rfl rfl (mB K5)
 case hb=>
  rintro X E ⟨cdv,A,outer,s,H,rfl⟩ XC
  exact dI (dO (bU XC T.cl (M_slid.mono (by omega)) (aT (bU XC T.cl (M_heading.mono (by omega)) (aT (eG XC T.cl (M_high.mono (by omega))) (aT (cN 1) bS))) (aT (bU XC T.cl (M_raised.mono (by omega)) (aT (cN 0) bS)) bS))))
 case em=>exact mE (fun _ _ _=>by delta jG;rw[hid_eq];rfl)
noncomputable def jH(sk:SK)(number:Int)(other:Int):Int×SK:=hid <|
 let r1:=g7 sk other
 let r2:=eI r1.2 sk.c r1.1
 let r3:=g7 r2.2 number
 eJ r3.2 r2.1 r3.1
theorem K6(sk:SK)(number:Int)(other:Int):grow 12 sk (jH sk number other).2:=by
 delta jH
 rw[hid_eq]
 exact((((tN _ _).trans (oM _ _ _)).trans (tN _ _)).trans (oN _ _ _))
theorem zaE:cD ["self","number","other"] ["self","number","other"] (bB (aO sCls 16)):=⟨rfl,rfl,rfl,by decide +kernel,rfl,by decide +kernel,by decide +kernel⟩
theorem zaF{f C:Addr}{fd:FuncData}(F:bT K "less" "Sketch.less" (aO sCls 16) f fd)(T:dA K mg C)(hm:cO K C "less" f)(hb:bR K fd ["self","number","other"] [])(M_slid:MO P w K mg base C 3 "slid" 3 (z2 eJ))(M_heading:MO P w K mg base C 3 "heading" 3 (z2 eI))(M_raised:MO P w K mg base C 3 "raised" 3 (z1 g7)):MO P w K mg base C 4 "less" 12 (z2 jH):=by
 apply dX (k:=3) (n:=2) (nN:=3) (m:=z2 jH) (fun _ _ _=>rfl) F zaE hm hb rfl rfl (mB K6)
 case hb=>
  rintro X E ⟨cdv,A,outer,s,H,rfl⟩ XC
  exact dI (dO (bU XC T.cl (M_slid.mono (by omega)) (aT (bU XC T.cl (M_heading.mono (by omega)) (aT (eZ "corner" SK.c T.cl T.nC fun _ _ _=>rfl) (aT (bU XC T.cl (M_raised.mono (by omega)) (aT (cN 1) bS)) bS))) (aT (bU XC T.cl (M_raised.mono (by omega)) (aT (cN 0) bS)) bS))))
 case em=>exact mE (fun _ _ _=>by delta jH;rw[hid_eq];rfl)
noncomputable def jI(sk:SK)(number:Int)(other:Int):Int×SK:=hid <|
 let r1:=dY sk
 let r2:=eI r1.2 r1.1 number
 let r3:=iO r2.2 other
 eJ r3.2 r2.1 r3.1
theorem K7(sk:SK)(number:Int)(other:Int):grow 21 sk (jI sk number other).2:=by
 delta jI
 rw[hid_eq]
 exact((((oK _).trans (oM _ _ _)).trans (yG _ _)).trans (oN _ _ _))
theorem zaG:cD ["self","number","other"] ["self","number","other"] (bB (aO sCls 17)):=⟨rfl,rfl,rfl,by decide +kernel,rfl,by decide +kernel,by decide +kernel⟩
theorem zaH{f C:Addr}{fd:FuncData}(F:bT K "product" "Sketch.product" (aO sCls 17) f fd)(T:dA K mg C)(hm:cO K C "product" f)(hb:bR K fd ["self","number","other"] [])(M_slid:MO P w K mg base C 3 "slid" 3 (z2 eJ))(M_heading:MO P w K mg base C 3 "heading" 3 (z2 eI))(M_high:MO P w K mg base C 3 "high" 3 (z0 dY))(M_turned:MO P w K mg base C 5 "turned" 12 (z1 iO)):MO P w K mg base C 6 "product" 21 (z2 jI):=by
 apply dX (k:=5) (n:=2) (nN:=3) (m:=z2 jI) (fun _ _ _=>rfl) F zaG hm hb rfl rfl (mB K7)
 case hb=>
  rintro X E ⟨cdv,A,outer,s,H,rfl⟩ XC
  exact dI (dO (bU XC T.cl (M_slid.mono (by omega)) (aT (bU XC T.cl (M_heading.mono (by omega)) (aT (eG XC T.cl (M_high.mono (by omega))) (aT (cN 0) bS))) (aT (bU XC T.cl (M_turned.mono (by omega)) (aT (cN 1) bS)) bS))))
 case em=>exact mE (fun _ _ _=>by delta jI;rw[hid_eq];rfl)
end Sk
section
set_option maxHeartbeats 1000000
namespace Sk
open L2 PyProof.Rows DL
theorem SkAt.step{K:xFg}{mg:Str->Option Value}{C p l d:Addr}{G H G' H':Hp}{sk:SK}(S:SkAt K mg C G H p l d sk)(s:Step G H G' H'):SkAt K mg C G' H' p l d sk:=by
 obtain⟨⟨dx,h1⟩,⟨vs,h2,h3⟩,h4,g1,g2,g3,vi⟩:=S
 exact⟨⟨dx,s.h _ _ h1⟩,⟨vs,s.h _ _ h2,h3.mono s.g⟩,s.h _ _ h4,s.c _ _ h1 g1,s.c _ _ h2 g2,s.c _ _ h4 g3,vi⟩
theorem zaI{G H G' H':Hp}{p l d:Addr}(s:Step G H G' H'):StepO G H G' H' p l d:=⟨s.g,s.e,fun b o h _ _ _=>s.h b o h,s.c⟩
theorem StepO.then{K:xFg}{mg:Str->Option Value}{C p l d:Addr}{G H G1 H1 G2 H2:Hp}{sk sk2:SK}(S:SkAt K mg C G H p l d sk)(s:Step G H G1 H1)(t:StepO G1 H1 G2 H2 p l d)(S2:SkAt K mg C G2 H2 p l d sk2):StepO G H G2 H2 p l d:=
 StepO.trans S (S.step s) (zaI s) t S2.gp S2.gl S2.gd
abbrev FQ:=Str->SK->Int->Int->Int×SK
noncomputable def q_drawn:FQ:=fun s=>if s="+" then jG else if s="-" then jH else if s="*" then jI else jF
theorem g_drawn(s:Str)(sk:SK)(a b:Int):grow 21 sk (q_drawn s sk a b).2:=by
 unfold q_drawn
 split
 ·exact(K5 _ _ _).wide (by decide)
 ·split
  ·exact(K6 _ _ _).wide (by decide)
  ·split
   ·exact K7 _ _ _
   ·exact KO _ _ _
inductive Dr (K:xFg) (mg:Str->Option Value) (C:Addr) (f:FQ) (H:Hp) (vs:List V) (Q:VK):Prop
 |mk (G:Hp) (p l d:Addr) (sk:SK) (s:Str) (a b:Int) (e:vs=[.str s,.ref p,.int a,.int b]) (g:Same G H) (S:SkAt K mg C G H p l d sk) (r:room 21 sk) (q:∀G' H',StepO G H G' H' p l d->SkAt K mg C G' H' p l d (f s sk a b).2->Q (.int (f s sk a b).1) H'):Dr K mg C f H vs Q
def K8(K:xFg)(mg:Str->Option Value)(C:Addr)(f:FQ):Sp:=fun vs H Q _=>Dr K mg C f H vs Q
def tP(K:xFg)(mg:Str->Option Value)(C:Addr)(f:FQ):TS:=fun D σ H=>∃vs,σ=vs.map some/\Dr K mg C f H vs D.rt
section
variable{X:Cx}{E:XK}{C:Addr}{k:Nat}{f g:FQ}{aN a:List Stmt}
theorem tQ{x:Str}{c:Nat}{m:SK->Int->Int->Int×SK}{pl:Sem Bool}{p0 p1 p2 apos pos pos':Pos}(XC:DL.XC X E k)(T:eN X.K C)(M:MO X.prog X.w X.K X.mg X.base C k x c (z2 m))(hc:c<=21)(n1:X.N[1]? = some ("sketch":Str):=by rfl)(n2:X.N[2]? = some ("one":Str):=by rfl)(n3:X.N[3]? = some ("other":Str):=by rfl)
  (v1:cB X.env.scope "sketch":=by first|exact Or.inl rfl|exact Or.inr (Or.inl rfl)|exact Or.inr (Or.inr rfl)) (v2:cB X.env.scope "one":=by first|exact Or.inl rfl|exact Or.inr (Or.inl rfl)|exact Or.inr (Or.inr rfl)) (v3:cB X.env.scope "other":=by first|exact Or.inl rfl|exact Or.inr (Or.inl rfl)|exact Or.inr (Or.inr rfl))
  (h1:starEach [.Name "one" p1,.Name "other" p2] X.env=(false,eval (.Name "one" p1) X.env)::starEach [.Name "other" p2] X.env:=by rfl) (h2:starEach [.Name "other" p2] X.env=(false,eval (.Name "other" p2) X.env)::starEach [] X.env:=by rfl) (hpl:(backTo pos (starEach [.Name "other" p2] X.env)).any (·.1)=false:=by rfl)
  (ht : eval (.Call (.Attribute (.Name "sketch" p0) x apos) [.Name "one" p1, .Name "other" p2] [] pos) X.env = (do
   let ov<-eval (.Name "sketch" p0) X.env
   standAt apos.atName
   let (f,first)<-holding [ov] (getMethod ov x pl)
   callWith pos f first (backTo pos (starEach [.Name "one" p1,.Name "other" p2] X.env)) (backToKw pos (keywordEach [] X.env))):=by rfl) :
  bQ X [.Return (some (.Call (.Attribute (.Name "sketch" p0) x apos) [.Name "one" p1,.Name "other" p2] [] pos)) pos'] (tP X.K X.mg C (fun _=>m)):=by
 obtain⟨fa,fd,ps,o1,o2,o3⟩:=M.ex
 refine bQ.mono' (iT (mR (vB (pv 1 n1 v1) T o2 o1 XC.room o3 .nil XC.pass (cL (pv 2 n2 v2) (cL (pv 3 n3 v3) dM h2) h1) h1 hpl ht))) fun D σ H h=>?_
 obtain⟨vs,rfl,G,p,l,d,sk,s,a,b,rfl,e,S,R,q⟩:=h
 obtain⟨dx,hp⟩:=S.hp
 exact⟨.ref p,rfl,p,dx,_,rfl,hp,M.no _ _ _,_,rfl,_,rfl,G,p,l,d,sk,[a,b],_,_,rfl,e,S,R.less hc,rfl,q⟩
theorem yM(lit:Str){p0 p1 p2 pos:Pos}{j:Nat}(XC:DL.XC X E k)(ha:bQ X a (tP X.K X.mg C f))(hr:bQ X aN (tP X.K X.mg C g))(n0:X.N[0]? = some ("sign":Str):=by rfl)
  (v0:cB X.env.scope "sign":=by first|exact Or.inl rfl|exact Or.inr (Or.inl rfl)|exact Or.inr (Or.inr rfl)) :
  bQ X (.If (.Compare (.Name "sign" p0) [.Eq] [.Constant (.str lit) j p1] p2) a [] pos::aN) (tP X.K X.mg C (fun s=>if s=lit then f s else g s)):=
 bQ.mono' (cP (k9 (fQ (E:=E) (CG XC) (BN 0 n0 v0) rN) ha mQ) hr) fun D σ H h=>by
 obtain⟨vs,rfl,G,p,l,d,sk,s,a,b,rfl,e,S,R,q⟩:=h
 refine⟨G,[some (.str s),none,none,none],⟨e,rfl,fun i x h=>?_⟩,?_⟩
 ·match i,h with
  |0,h=>cases h;exact⟨_,rfl,rfl⟩
  |1,h=>cases h
  |2,h=>cases h
  |3,h=>cases h
  |i+4,h=>simp at h
 ·have ev:aS (aC bX (aA 0) (eC (.str lit))) [some (.str s),none,none,none]=.ok (decide (s=lit)):=by
   simp[aS,aC,aA,eC,DL.R.bind,bX,eE,bO,aZ,iE]
   by_cases h:s=lit
   ·rw[xah h];exact beq_iff_eq.mpr h
   ·rw[xax h];exact beq_eq_false_iff_ne.mpr h
  rw[ev]
  intro G1 H1 st
  by_cases hs:s=lit
  ·rw[xah hs]
   rw[xal hs] at q
   exact jS ⟨_,rfl,G1,p,l,d,sk,s,a,b,rfl,st.e,S.step st,R,fun G' H' t A=>q G' H' (StepO.then S st t A) A⟩
  ·rw[xax hs]
   rw[xak hs] at q
   exact jR ⟨_,rfl,G1,p,l,d,sk,s,a,b,rfl,st.e,S.step st,R,fun G' H' t A=>q G' H' (StepO.then S st t A) A⟩
end
theorem zaJ:cD ["sign","sketch","one","other"] ["sign","sketch","one","other"] (bB sDrawn):=⟨rfl,rfl,rfl,by decide +kernel,rfl,by decide +kernel,by decide +kernel⟩
theorem zaK{P:Program}{w:World}{K:xFg}{mg:Str->Option Value}{base:Heap}{f C:Addr}{fd:FuncData}(F:bT K "drawn_by" "drawn_by" sDrawn f fd)(T:dA K mg C)(M_added:MO P w K mg base C 4 "added" 12 (z2 jG))(M_less:MO P w K mg base C 4 "less" 12 (z2 jH))(M_product:MO P w K mg base C 6 "product" 21 (z2 jI))(M_quotient:MO P w K mg base C 6 "quotient" 21 (z2 jF)) :
  cF P w K mg base (bM P w) 7 f fd ["sign","sketch","one","other"] (K8 K mg C q_drawn):=by
 refine F.okX zaJ (fun vs H Q E h=>?_) (fun cdv A outer s H vs Q E hr h=>?_)
 ·obtain⟨G,p,l,d,sk,s,a,b,rfl,_⟩:=h
  rfl
 ·have XC:DL.XC (cZ (bM P w) P w K mg base ["sign","sketch","one","other"] "drawn_by" (bB sDrawn) f cdv A outer s H E) E 6:=⟨rfl,hr,pG⟩
  refine⟨_,yM "+" XC (tQ XC T.cl (M_added.mono (by omega)) (by decide)) (yM "-" XC (tQ XC T.cl (M_less.mono (by omega)) (by decide)) (yM "*" XC (tQ XC T.cl (M_product.mono (by omega)) (by decide)) (tQ XC T.cl (M_quotient.mono (by omega)) (by decide)))),vs,?_,?_⟩
  ·obtain⟨G,p,l,d,sk,s,a,b,rfl,_⟩:=h
   rfl
  ·obtain⟨G,p,l,d,sk,s,a,b,e1,e,S,R,q⟩:=h
   refine⟨G,p,l,d,sk,s,a,b,e1,e,S,R,?_⟩
   have:(if s="+" then jG else if s="-" then jH else if s="*" then jI else jF)=q_drawn s:=rfl
   rw[this]
   exact q
end Sk
end
section
set_option maxHeartbeats 1000000
namespace Sk
open L2 PyProof.Rows DL
structure SkG(P:Program)(w:World)(K:xFg)(mg:Str->Option Value)(base:Heap)(k:Nat)(C:Addr):Prop where
 ex:∃(j:Nat) (fi:Addr) (fdi:FuncData),k=j+1/\Mk K C fi/\mg "Sketch"=some (.ref C)/\cF P w K mg base (bM P w) j fi fdi ["self","frame","pegs"] (K4 K mg C)/\bR K fdi ["self","frame","pegs"] []
 dr:∃(f:Addr) (fd:FuncData),cF P w K mg base (bM P w) k f fd ["sign","sketch","one","other"] (K8 K mg C q_drawn)/\mg "drawn_by"=some (.ref f)/\PySem.W.keepIn K (.ref f)=true/\bR K fd ["sign","sketch","one","other"] []
 wh:MO P w K mg base C k "whole" 2940 (kY okW q_whole)
 T:dA K mg C
theorem SkG.mono{P:Program}{w:World}{K:xFg}{mg:Str->Option Value}{base:Heap}{k k':Nat}{C:Addr}(F:SkG P w K mg base k C)(h:k<=k'):SkG P w K mg base k' C:=by
 obtain⟨⟨j,fi,fdi,rfl,h1,h2,h3,h4⟩,⟨f,fd,h5,h6⟩,h7,h8⟩:=F
 exact⟨⟨k'-1,fi,fdi,by omega,h1,h2,h3.mono (by omega),h4⟩,⟨f,fd,h5.mono h,h6⟩,h7.mono h,h8⟩
structure JS where
 τ:DSt
 xs:List Int
 sk:SK
structure LP(X:Cx)(C:Addr)(iS iD:Nat)(G:Hp)(xs:List Int)(sk:SK)(σ:L2.St)(H:Hp)(p l d q:Addr):Prop where
 hS:σ[iS]? = some (some (.ref p))
 hD:σ[iD]? = some (some (.ref q))
 at_:SkAt X.K X.mg C G H p l d sk
 hq:H q=some (.lst (xs.reverse.map V.int))
 gq:G q=none
 ql:q≠l
 fp:X.H₀ p=none
 fl:X.H₀ l=none
 fd:X.H₀ d=none
 fq:X.H₀ q=none
structure LS(X:Cx)(C:Addr)(iS iD:Nat)(G0 G:Hp)(j:JS)(σ:L2.St)(H:Hp):Prop where
 ok:bH X.K X.mg j.τ σ G H
 s0:Step G0 X.H₀ G H
 ex:∃p l d q,LP X C iS iD G j.xs j.sk σ H p l d q
section
variable{X:Cx}{C p l d q:Addr}{iS iD:Nat}{G0 G H G' H':Hp}{j:JS}{σ:L2.St}
theorem LP.qp(z:LP X C iS iD G j.xs j.sk σ H p l d q):q≠p:=by
 obtain⟨dx,h⟩:=z.at_.hp
 exact iR z.hq h (by intro z;cases z)
theorem LP.qd(z:LP X C iS iD G j.xs j.sk σ H p l d q):q≠d:=iR z.hq z.at_.hd (by intro z;cases z)
theorem LP.step(z:LP X C iS iD G j.xs j.sk σ H p l d q)(s:Step G H G' H'):LP X C iS iD G' j.xs j.sk σ H' p l d q:=⟨z.hS,z.hD,z.at_.step s,s.h _ _ z.hq,s.c _ _ z.hq z.gq,z.ql,z.fp,z.fl,z.fd,z.fq⟩
theorem LS.step(h:LS X C iS iD G0 G j σ H)(s:Step G H G' H'):LS X C iS iD G0 G' j σ H':=
 ⟨h.ok.step s,h.s0.trans s,let⟨p,l,d,q,z⟩:=h.ex;⟨p,l,d,q,z.step s⟩⟩
theorem LS.set{i:Nat}{x:D}{v:V}(h:LS X C iS iD G0 G j σ H)(nS:i≠iS)(nD:i≠iD)(r:aR X.K X.mg G x v):LS X C iS iD G0 G ⟨j.τ.set i (some x),j.xs,j.sk⟩ (σ.set i (some v)) H:=
 ⟨h.ok.set r,h.s0,let⟨p,l,d,q,z⟩:=h.ex;⟨p,l,d,q,by rw[xae nS];exact z.hS,by rw[xae nD];exact z.hD,z.at_,z.hq,z.gq,z.ql,z.fp,z.fl,z.fd,z.fq⟩⟩
theorem LS.write{xs:List Int}(h:LS X C iS iD G0 G j σ H)(z:LP X C iS iD G j.xs j.sk σ H p l d q):LS X C iS iD G0 G ⟨j.τ,xs,j.sk⟩ σ (aG H q (.lst (xs.reverse.map V.int))):=by
 obtain⟨⟨dx,h1⟩,⟨vs,h2,h3⟩,h4,g1,g2,g3,vi⟩:=z.at_
 refine⟨⟨fun b u e=>by rw[aH (bC e z.gq)];exact h.ok.ext b u e,h.ok.len,h.ok.val⟩,h.s0.write (o:=.lst []) z.fq z.gq,p,l,d,q,z.hS,z.hD,⟨⟨dx,?_⟩,⟨vs,?_,h3⟩,?_,g1,g2,g3,vi⟩,aU,z.gq,z.ql,z.fp,z.fl,z.fd,z.fq⟩
 ·rw[aH (xay z.qp)];exact h1
 ·rw[aH (xay z.ql)];exact h2
 ·rw[aH (xay z.qd)];exact h4
theorem LS.drawn{sk':SK}(h:LS X C iS iD G0 G j σ H)(z:LP X C iS iD G j.xs j.sk σ H p l d q)(t:StepO G H G' H' p l d)(A:SkAt X.K X.mg C G' H' p l d sk'):LS X C iS iD G0 G' ⟨j.τ,j.xs,sk'⟩ σ H'/\LP X C iS iD G' j.xs sk' σ H' p l d q:=by
 have L:LP X C iS iD G' j.xs sk' σ H' p l d q:=⟨z.hS,z.hD,A,t.h q _ z.hq z.qp z.ql z.qd,t.c q _ z.hq z.gq,z.ql,z.fp,z.fl,z.fd,z.fq⟩
 refine⟨⟨⟨t.e,h.ok.len,fun i x e=>?_⟩,⟨h.s0.g.trans t.g,fun b o e=>t.h b o (h.s0.h b o e) (bC e z.fp) (bC e z.fl) (bC e z.fd),t.e,fun b o e1 e2=>t.c b o (h.s0.h b o e1) (h.s0.c b o e1 e2)⟩,p,l,d,q,L⟩,L⟩
 obtain⟨v,h1,h2⟩:=h.ok.val i x e
 exact⟨v,h1,h2.mono t.g⟩
end
abbrev JF:=JS->R JS
def tJ(X:Cx)(E:XK)(C:Addr)(iS iD:Nat)(G0:Hp)(f:JF):TS:=fun Dn σ H=>∃G j,LS X C iS iD G0 G j σ H/\RW (f j) (fun r=>∀σ' G' H',LS X C iS iD G0 G' r σ' H'->Same G G'->Dn.nx σ' H') (aX X.K X.mg E G0 X.H₀)
def J1(X:Cx)(E:XK)(C:Addr)(iS iD:Nat)(st:Stmt)(f:JF):Prop:=∀G0,PS X st (tJ X E C iS iD G0 f)
def Js(X:Cx)(E:XK)(C:Addr)(iS iD:Nat)(st:List Stmt)(f:JF):Prop:=∀G0,bQ X st (tJ X E C iS iD G0 f)
def jSeq(f g:JF):JF:=fun j=>(f j).bind g
def jIf(c:DSt->R Bool)(f g:JF):JF:=fun j=>(c j.τ).bind fun k=>bif k then f j else g j
def jPop(k:Nat):JF:=fun j=>match j.xs with
 |x::r=>.ok ⟨j.τ.set k (some (.int x)),r,j.sk⟩
 |[]=>.bad
def jApp(fe:DSt->R D):JF:=fun j=>(fe j.τ).bind fun d=>match d with
 |.int n=>bif most j.xs.length then .ok ⟨j.τ,n::j.xs,j.sk⟩ else .bad
 |_=>.bad
instance decRoom (c:Nat) (sk:SK):Decidable (room c sk):=by unfold room;exact inferInstance
noncomputable def jWhole(fe:DSt->R D):JF:=fun j=>(fe j.τ).bind fun d=>match d with
 |.int n=>bif most j.xs.length&&decide (okW n)&&decide (room 2940 j.sk) then .ok ⟨j.τ,(q_whole j.sk n).1::j.xs,(q_whole j.sk n).2⟩ else .bad
 |_=>.bad
noncomputable def yN(j:JS)(s a b:D):R JS:=match s,a,b with
 |.str s,.int a,.int b=>bif most j.xs.length&&decide (room 21 j.sk) then .ok ⟨j.τ,(q_drawn s j.sk a b).1::j.xs,(q_drawn s j.sk a b).2⟩ else .bad
 |_,_,_=>.bad
noncomputable def jDrawn(f0 f1 f2:DSt->R D):JF:=fun j=>(f0 j.τ).bind fun s=>(f1 j.τ).bind fun a=>(f2 j.τ).bind fun b=>yN j s a b
def jRaise(f:DSt->R aE):JF:=fun j=>(f j.τ).bind fun _=>.bad
def jLoop(k:Nat)(f:JF):List D->JF
 |[],j=>.ok j
 |d::ds,j=>(f ⟨j.τ.set k (some d),j.xs,j.sk⟩).bind (jLoop k f ds)
def jFor(k:Nat)(fi:DSt->R (List D))(f:JF):JF:=fun j=>(fi j.τ).bind fun ds=>jLoop k f ds j
section
variable{X:Cx}{E:XK}{C:Addr}{iS iD kX:Nat}{st:Stmt}{aN:List Stmt}{f g:JF}{pos np pos':Pos}{x y:Str}
theorem js_one(h:J1 X E C iS iD st f):Js X E C iS iD [st] f:=fun G0=>iT (h G0)
theorem js_cons(h1:J1 X E C iS iD st f)(h2:Js X E C iS iD aN g):Js X E C iS iD (st::aN) (jSeq f g):=fun G0=>bQ.mono' (cP (h1 G0) (h2 G0)) fun Dn σ H ⟨G,j,L,q⟩=>
 ⟨G,j,L,q.of_bind.mono (fun r _ z σ' G' H' L' e=>⟨G',r,L',(show RW (g r) _ _ from z).mono (fun r' _ z σ2 G2 H2 L2 e2=>z σ2 G2 H2 L2 (e.trans e2)) fun _ z=>z⟩) fun _ z=>z⟩
theorem j1_if{c:Expr}{a b:List Stmt}{fc:DSt->R Bool}(hc:DT X E c fc)(ha:Js X E C iS iD a f)(hb:Js X E C iS iD b g):J1 X E C iS iD (.If c a b pos) (jIf fc f g):=fun G0=>
 PS.mono' (k9 hc (ha G0) (hb G0)) fun Dn σ H ⟨G,j,L,q⟩=>by
 refine⟨G,j.τ,L.ok,q.of_bind.mono (fun k _ z G' H' s=>?_) fun _ z=>z.step L.s0⟩
 cases k with
 |true=>exact jS ⟨G',j,L.step s,(show RW (f j) _ _ from z).mono (fun r' _ z σ2 G2 H2 L2 e2=>z σ2 G2 H2 L2 (s.g.trans e2)) fun _ z=>z⟩
 |false=>exact jR ⟨G',j,L.step s,(show RW (g j) _ _ from z).mono (fun r' _ z σ2 G2 H2 L2 e2=>z σ2 G2 H2 L2 (s.g.trans e2)) fun _ z=>z⟩
theorem j1_pop(k:Nat){apos cpos:Pos}(hN:X.N.Nodup)(hk:(!(k==iS) && !(k==iD))=true:=by rfl)(hi:X.N[iD]? = some x:=by rfl)(hj:X.N[k]? = some y:=by rfl)(hv:cB X.env.scope x:=by first|exact Or.inl rfl|exact Or.inr (Or.inl rfl)|exact Or.inr (Or.inr rfl))(hd:(x==("__debug__":Str))=false:=by decide)
  (hcd:(x==("__classdict__":Str))=false:=by decide) (hy:eM X.env.scope y:=by first|exact Or.inl rfl|exact Or.inr rfl)
  (hbase:attributeBase (.Name x np) "pop" X.env (eval (.Name x np) X.env)=eval (.Name x np) X.env:=by rfl) (hline:(apos.endLine==cpos.line)=true:=by rfl)
  (hs:swapsWith (.Call (.Attribute (.Name x np) "pop" apos) [] [] cpos) (some (.Name y pos')) pos.line X.env=pure false:=by rfl)
  (hf:X.fn y=true\/X.env.scope.names.lookup y=some .local:=by first|exact .inl rfl|exact .inr rfl|assumption) :
  J1 X E C iS iD (.Assign [.Name y pos'] (.Call (.Attribute (.Name x np) "pop" apos) [] [] cpos) pos) (jPop k):=fun G0=>
 PS.mono' (gH hN hj hy (mY PySem.F.plainAttrs_list PySem.F.slot_list_pop PySem.F.type_list_pop rJ (pv iD hi hv hd hcd) hbase hline) hs hf) fun Dn σ H ⟨G,j,L,q⟩=>by
 simp only[xap,xb3,beq_eq_false_iff_ne] at hk
 obtain⟨p,l,d,a,z⟩:=L.ex
 unfold jPop at q
 cases hx:j.xs with
 |nil=>rw[hx] at q;exact(show False from q).elim
 |cons n r=>
  rw[hx] at q
  have hq:=z.hq
  rw[hx,xbm,xa9] at hq
  refine⟨_,z.hD,.inl ⟨rfl,_,aY.of hq⟩,a,_,.int n,rfl,rfl,hq,by simp,?_⟩
  rw[show ((r.reverse.map V.int)++[n].map V.int).dropLast=r.reverse.map V.int from by rw[List.map_singleton,xcr]]
  exact(show ∀σ' G' H',LS X C iS iD G0 G' ⟨j.τ.set k (some (.int n)),r,j.sk⟩ σ' H'->Same G G'->Dn.nx σ' H' from q) _ G _ ((L.write (xs:=r) z).set hk.1 hk.2 rfl) (Same.refl _)
theorem yO{e:Expr}{t:TE}{apos cpos:Pos}(he:PE X e t)(hi:X.N[iD]? = some x:=by rfl)(hv:cB X.env.scope x:=by first|exact Or.inl rfl|exact Or.inr (Or.inl rfl)|exact Or.inr (Or.inr rfl))(hd:(x==("__debug__":Str))=false:=by decide)
  (hcd:(x==("__classdict__":Str))=false:=by decide)
  (hbase:attributeBase (.Name x np) "append" X.env (eval (.Name x np) X.env)=eval (.Name x np) X.env:=by rfl)
  (hfew:((backTo cpos (starEach [e] X.env)).all (fun x=>!x.1)&&(backToKw cpos (keywordEach [] X.env)).all (fun x=>x.1.isSome)&&decide ([e].length+([]:List Keyword).length+(if ([]:List Keyword).isEmpty then 0 else 1)<30))=true:=by rfl)
  (hline:(apos.endLine==cpos.line)=true:=by rfl) (hs:starEach [e] X.env=(false,eval e X.env)::starEach [] X.env:=by rfl) (hplain:(backTo cpos (starEach [] X.env)).any (·.1)=false:=by rfl)
  (hsw:swapsWith (.Call (.Attribute (.Name x np) "append" apos) [e] [] cpos) none pos.line X.env=pure false:=by rfl) :
  PS X (.Expr (.Call (.Attribute (.Name x np) "append" apos) [e] [] cpos) pos) (fun Dn σ H=>∃a xs,σ[iD]? = some (some (.ref a))/\H a=some (.lst xs)/\t σ H fun y H1=>vE (.ref a) [y] H1 fun _ H2=>Dn.nx σ H2):=
 PS.mono' (jN (jQ PySem.F.plainAttrs_list PySem.F.slot_list_append PySem.F.type_list_append lH (pv iD hi hv hd hcd) (cL he dM hs) hbase hfew hline hs hplain) hsw) fun Dn σ H ⟨a,xs,h1,h2,h3⟩=>⟨_,h1,.inl ⟨rfl,_,aY.of h2⟩,h3⟩
theorem LS.app{Dn:fM}{G0 G G' H:Hp}{j:JS}{σ:L2.St}{p l d q:Addr}{n:Int}(L:LS X C iS iD G0 G' j σ H)(z:LP X C iS iD G' j.xs j.sk σ H p l d q)(hm:most j.xs.length=true)(e:Same G G')(h:∀σ' G' H',LS X C iS iD G0 G' ⟨j.τ,n::j.xs,j.sk⟩ σ' H'->Same G G'->Dn.nx σ' H'):vE (.ref q) [.int n] H fun _ H2=>Dn.nx σ H2:=by
 have hlt:j.xs.length<sizeLine:=xau hm
 refine⟨q,_,_,rfl,rfl,z.hq,by simpa using hlt,?_⟩
 rw[show j.xs.reverse.map V.int++[V.int n]=(n::j.xs).reverse.map V.int from by rw[xbm,xa9];rfl]
 exact h σ G' _ (L.write (xs:=n::j.xs) z) e
theorem j1_app{e:Expr}{fe:DSt->R D}{apos cpos:Pos}(he:DE X E e fe)(hi:X.N[iD]? = some x:=by rfl)(hv:cB X.env.scope x:=by first|exact Or.inl rfl|exact Or.inr (Or.inl rfl)|exact Or.inr (Or.inr rfl))(hd:(x==("__debug__":Str))=false:=by decide)
  (hcd:(x==("__classdict__":Str))=false:=by decide)
  (hbase:attributeBase (.Name x np) "append" X.env (eval (.Name x np) X.env)=eval (.Name x np) X.env:=by rfl)
  (hfew:((backTo cpos (starEach [e] X.env)).all (fun x=>!x.1)&&(backToKw cpos (keywordEach [] X.env)).all (fun x=>x.1.isSome)&&decide ([e].length+([]:List Keyword).length+(if ([]:List Keyword).isEmpty then 0 else 1)<30))=true:=by rfl)
  (hline:(apos.endLine==cpos.line)=true:=by rfl) (hs:starEach [e] X.env=(false,eval e X.env)::starEach [] X.env:=by rfl) (hplain:(backTo cpos (starEach [] X.env)).any (·.1)=false:=by rfl)
  (hsw:swapsWith (.Call (.Attribute (.Name x np) "append" apos) [e] [] cpos) none pos.line X.env=pure false:=by rfl) :
  J1 X E C iS iD (.Expr (.Call (.Attribute (.Name x np) "append" apos) [e] [] cpos) pos) (jApp fe):=fun G0=>
 PS.mono' (yO he hi hv hd hcd hbase hfew hline hs hplain hsw) fun Dn σ H ⟨G,j,L,q⟩=>by
 obtain⟨p,l,d,a,z⟩:=L.ex
 refine⟨a,_,z.hD,z.hq,G,j.τ,L.ok,q.of_bind.mono (fun dd _ w v G' H' s r=>?_) fun _ z=>z.step L.s0⟩
 cases dd with
 |int n=>
  cases r
  have w:RW (bif most j.xs.length then R.ok (⟨j.τ,n::j.xs,j.sk⟩:JS) else .bad) (fun r=>∀σ' G' H',LS X C iS iD G0 G' r σ' H'->Same G G'->Dn.nx σ' H') (aX X.K X.mg E G0 X.H₀):=w
  cases hm:most j.xs.length with
  |false=>rw[hm] at w;exact(show False from w).elim
  |true=>rw[hm] at w;exact(L.step s).app (z.step s) hm s.g w
 |_=>exact(show False from w).elim
theorem j1_whole{e:Expr}{fe:DSt->R D}{apos cpos apos' cpos' np':Pos}{y:Str}{pl:Sem Bool}(XC:DL.XC X E kX)(S:SkG X.prog X.w X.K X.mg X.base kX C)(he:DE X E e fe)(hi:X.N[iD]? = some x:=by rfl)(hi':X.N[iS]? = some y:=by rfl)(hv:cB X.env.scope x:=by first|exact Or.inl rfl|exact Or.inr (Or.inl rfl)|exact Or.inr (Or.inr rfl))(hd:(x==("__debug__":Str))=false:=by decide)
  (hcd:(x==("__classdict__":Str))=false:=by decide) (hv':cB X.env.scope y:=by first|exact Or.inl rfl|exact Or.inr (Or.inl rfl)|exact Or.inr (Or.inr rfl)) (hd':(y==("__debug__":Str))=false:=by decide) (hcd':(y==("__classdict__":Str))=false:=by decide)
  (h1:starEach [e] X.env=(false,eval e X.env)::starEach [] X.env:=by rfl) (h2:(backTo cpos' (starEach [] X.env)).any (·.1)=false:=by rfl)
  (ht : eval (.Call (.Attribute (.Name y np') "whole" apos') [e] [] cpos') X.env = (do
   let ov<-eval (.Name y np') X.env
   standAt apos'.atName
   let (f,first)<-holding [ov] (getMethod ov "whole" pl)
   callWith cpos' f first (backTo cpos' (starEach [e] X.env)) (backToKw cpos' (keywordEach [] X.env))):=by rfl)
  (hbase:attributeBase (.Name x np) "append" X.env (eval (.Name x np) X.env)=eval (.Name x np) X.env:=by rfl)
  (hfew:((backTo cpos (starEach [.Call (.Attribute (.Name y np') "whole" apos') [e] [] cpos'] X.env)).all (fun x=>!x.1)&&(backToKw cpos (keywordEach [] X.env)).all (fun x=>x.1.isSome)&&decide ([Expr.Call (.Attribute (.Name y np') "whole" apos') [e] [] cpos'].length+([]:List Keyword).length+(if ([]:List Keyword).isEmpty then 0 else 1)<30))=true:=by rfl)
  (hline:(apos.endLine==cpos.line)=true:=by rfl) (hs:starEach [.Call (.Attribute (.Name y np') "whole" apos') [e] [] cpos'] X.env=(false,eval (.Call (.Attribute (.Name y np') "whole" apos') [e] [] cpos') X.env)::starEach [] X.env:=by rfl) (hplain:(backTo cpos (starEach [] X.env)).any (·.1)=false:=by rfl)
  (hsw:swapsWith (.Call (.Attribute (.Name x np) "append" apos) [.Call (.Attribute (.Name y np') "whole" apos') [e] [] cpos'] [] cpos) none pos.line X.env=pure false:=by rfl) :
  J1 X E C iS iD (.Expr (.Call (.Attribute (.Name x np) "append" apos) [.Call (.Attribute (.Name y np') "whole" apos') [e] [] cpos'] [] cpos) pos) (jWhole fe):=fun G0=>by
 obtain⟨f,fd,ps,o1,o2,o3⟩:=S.wh.ex
 refine PS.mono' (yO (vB (pv iS hi' hv' hd' hcd') S.T.cl o2 o1 XC.room o3 .nil XC.pass (cL he dM h1) h1 h2 ht) hi hv hd hcd hbase hfew hline hs hplain hsw) fun Dn σ H ⟨G,j,L,q⟩=>?_
 obtain⟨p,l,d,a,z⟩:=L.ex
 obtain⟨dx,hp⟩:=z.at_.hp
 refine⟨a,_,z.hD,z.hq,_,z.hS,p,dx,_,rfl,hp,S.wh.no _ _ _,G,j.τ,L.ok,q.of_bind.mono (fun dd _ w v G1 H1 s r=>?_) fun _ z=>z.step L.s0⟩
 cases dd with
 |int n=>
  cases r
  have w:RW (bif most j.xs.length&&decide (okW n)&&decide (room 2940 j.sk) then R.ok (⟨j.τ,(q_whole j.sk n).1::j.xs,(q_whole j.sk n).2⟩:JS) else .bad) (fun r=>∀σ' G' H',LS X C iS iD G0 G' r σ' H'->Same G G'->Dn.nx σ' H') (aX X.K X.mg E G0 X.H₀):=w
  cases hm:(most j.xs.length&&decide (okW n)&&decide (room 2940 j.sk)) with
  |false=>rw[hm] at w;exact(show False from w).elim
  |true=>
   rw[hm] at w
   simp only[xap,decide_eq_true_eq] at hm
   have L1:=L.step s
   have z1:=z.step s
   refine⟨G1,p,l,d,j.sk,[n],(q_whole j.sk n).1,(q_whole j.sk n).2,rfl,s.e,z1.at_,hm.2,?_,fun G2 H2 t A=>?_⟩
   ·show kY okW q_whole [n] j.sk=_
    unfold kY
    exact xal hm.1.2
   ·obtain⟨L2,z2⟩:=L1.drawn z1 t A
    exact L2.app z2 hm.1.1 (s.g.trans t.g) w
 |_=>exact(show False from w).elim
theorem j1_drawn{e0 e1 e2:Expr}{f0 f1 f2:DSt->R D}{apos cpos np' fp cpos':Pos}{y:Str}(XC:DL.XC X E kX)(S:SkG X.prog X.w X.K X.mg X.base kX C)(he0:DE X E e0 f0)(he1:DE X E e1 f1)(he2:DE X E e2 f2)(hi:X.N[iD]? = some x:=by rfl)(hi':X.N[iS]? = some y:=by rfl)(hv:cB X.env.scope x:=by first|exact Or.inl rfl|exact Or.inr (Or.inl rfl)|exact Or.inr (Or.inr rfl))(hd:(x==("__debug__":Str))=false:=by decide)
  (hcd:(x==("__classdict__":Str))=false:=by decide) (hv':cB X.env.scope y:=by first|exact Or.inl rfl|exact Or.inr (Or.inl rfl)|exact Or.inr (Or.inr rfl)) (hd':(y==("__debug__":Str))=false:=by decide) (hcd':(y==("__classdict__":Str))=false:=by decide) (hg:Gl X "drawn_by":=by rfl)
  (h0:starEach [e0,.Name y np',e1,e2] X.env=(false,eval e0 X.env)::starEach [.Name y np',e1,e2] X.env:=by rfl) (h1:starEach [.Name y np',e1,e2] X.env=(false,eval (.Name y np') X.env)::starEach [e1,e2] X.env:=by rfl) (h2:starEach [e1,e2] X.env=(false,eval e1 X.env)::starEach [e2] X.env:=by rfl) (h3:starEach [e2] X.env=(false,eval e2 X.env)::starEach [] X.env:=by rfl) (h4:(backTo cpos' (starEach [.Name y np',e1,e2] X.env)).any (·.1)=false:=by rfl)
  (hbase:attributeBase (.Name x np) "append" X.env (eval (.Name x np) X.env)=eval (.Name x np) X.env:=by rfl)
  (hfew:((backTo cpos (starEach [.Call (.Name "drawn_by" fp) [e0,.Name y np',e1,e2] [] cpos'] X.env)).all (fun x=>!x.1)&&(backToKw cpos (keywordEach [] X.env)).all (fun x=>x.1.isSome)&&decide ([Expr.Call (.Name "drawn_by" fp) [e0,.Name y np',e1,e2] [] cpos'].length+([]:List Keyword).length+(if ([]:List Keyword).isEmpty then 0 else 1)<30))=true:=by rfl)
  (hline:(apos.endLine==cpos.line)=true:=by rfl) (hs:starEach [.Call (.Name "drawn_by" fp) [e0,.Name y np',e1,e2] [] cpos'] X.env=(false,eval (.Call (.Name "drawn_by" fp) [e0,.Name y np',e1,e2] [] cpos') X.env)::starEach [] X.env:=by rfl) (hplain:(backTo cpos (starEach [] X.env)).any (·.1)=false:=by rfl)
  (hsw:swapsWith (.Call (.Attribute (.Name x np) "append" apos) [.Call (.Name "drawn_by" fp) [e0,.Name y np',e1,e2] [] cpos'] [] cpos) none pos.line X.env=pure false:=by rfl) :
  J1 X E C iS iD (.Expr (.Call (.Attribute (.Name x np) "append" apos) [.Call (.Name "drawn_by" fp) [e0,.Name y np',e1,e2] [] cpos'] [] cpos) pos) (jDrawn f0 f1 f2):=fun G0=>by
 obtain⟨f,fd,o1,o2,o3,o4⟩:=S.dr
 refine PS.mono' (yO (vA o1 XC.room hg o2 o3 o4 .nil XC.pass (cL he0 (cL (pv iS hi' hv' hd' hcd') (cL he1 (cL he2 dM h3) h2) h1) h0) (by decide) h0 h4) hi hv hd hcd hbase hfew hline hs hplain hsw) fun Dn σ H ⟨G,j,L,q⟩=>?_
 obtain⟨p,l,d,a,z⟩:=L.ex
 refine⟨a,_,z.hD,z.hq,G,j.τ,L.ok,q.of_bind.mono (fun ds k1 w1 v G1 H1 s1 r1=>?_) fun _ z=>z.step L.s0⟩
 have L1:=L.step s1
 have z1:=z.step s1
 refine⟨_,z.hS,G1,j.τ,L1.ok,(show RW ((f1 j.τ).bind _) _ _ from w1).of_bind.mono (fun da k2 w2 v2 G2 H2 s2 r2=>?_) fun _ z=>z.step L1.s0⟩
 have L2:=L1.step s2
 have z2:=z1.step s2
 refine⟨G2,j.τ,L2.ok,(show RW ((f2 j.τ).bind _) _ _ from w2).of_bind.mono (fun db k3 w3 v3 G3 H3 s3 r3=>?_) fun _ z=>z.step L2.s0⟩
 have L3:=L2.step s3
 have z3:=z2.step s3
 have w:RW (yN j ds da db) (fun r=>∀σ' G' H',LS X C iS iD G0 G' r σ' H'->Same G G'->Dn.nx σ' H') (aX X.K X.mg E G0 X.H₀):=w3
 clear w1 w2 w3 k1 k2 k3
 unfold yN at w
 split at w
 ·rename_i s n m
  cases r1;cases r2;cases r3
  cases hm:(most j.xs.length&&decide (room 21 j.sk)) with
  |false=>rw[hm] at w;exact(show False from w).elim
  |true=>
   rw[hm] at w
   simp only[xap,decide_eq_true_eq] at hm
   refine⟨G3,p,l,d,j.sk,s,n,m,rfl,s3.e,z3.at_,hm.2,fun G4 H4 t A=>?_⟩
   obtain⟨L4,z4⟩:=L3.drawn z3 t A
   exact L4.app z4 hm.1 (s1.g.trans (s2.g.trans (s3.g.trans t.g))) w
 ·exact(show False from w).elim
theorem j1_raise{h:DSt->R aE}(hr:DS X E [] [] [] st h):J1 X E C iS iD st (jRaise h):=fun G0=>
 PS.mono' (hr G0) fun Dn σ H ⟨G,j,L,q⟩=>⟨G,j.τ,⟨L.ok.ext,L.ok.len,fun i d _ e=>L.ok.val i d e,fun i d hi=>xaq hi (by simp),fun i k a d d' hi=>xaq hi (by simp)⟩,L.s0,q.of_bind.mono (fun o _ z=>(show False from z).elim) fun _ z=>z⟩
theorem j1_for(k:Nat){iter:Expr}{body:List Stmt}{fi:DSt->R (List D)}{tp:Pos}(L:XL X)(hc:X.calm=true)(hi:DI X E (.Name x tp) iter fi)(hg:DG X (.Name x tp) [k] bN)(hb:Js X E C iS iD body f)(hk:(!(k==iS) && !(k==iD))=true:=by rfl)(hs:∀x,foldedSetIterable iter X.env x=pure x:=by intro _;rfl) :
  J1 X E C iS iD (.For (.Name x tp) iter body [] pos) (jFor k fi f):=fun G0=>PS.mono' (uV L.own hc hi hg (hb G0) hs) fun Dn σ H ⟨G,j,L,q⟩=>by
 simp only[xap,xb3,beq_eq_false_iff_ne] at hk
 refine⟨G,j.τ,L.ok,q.of_bind.mono (fun ds _ z J G1 H1 s1 it=>?_) fun _ z=>z.step L.s0⟩
 refine⟨fun n m σ' H'=>m=ds.length-n/\n<=ds.length/\∃G' j',LS X C iS iD G0 G' j' σ' H'/\Same G1 G'/\RW (jLoop k f (ds.drop n) j') (fun r=>∀σ' G' H',LS X C iS iD G0 G' r σ' H'->Same G1 G'->Dn.nx σ' H') (aX X.K X.mg E G0 X.H₀),
  ⟨ds.length,by simp,xbc _,G1,j,L.step s1,Same.refl _,(show RW (jLoop k f ds j) _ _ from z).mono (fun _ _ z σ' G' H' a e=>z σ' G' H' a (s1.g.trans e)) fun _ z=>z⟩,?_⟩
 rintro n m σ' H' ⟨rfl,hn,G',j',L',e',w⟩
 by_cases hlt:n<ds.length
 ·right
  obtain⟨d,hd⟩:∃d,ds[n]? = some d:=⟨ds[n],by simp[hlt]⟩
  obtain⟨g1,g2⟩:=it.turn H' n d (e'.trans L'.ok.ext) hd
  have hdrop:ds.drop n=d::ds.drop (n+1):=by
   rw[xb9 hlt]
   congr 1
   exact xaw ((xa0 hlt).symm.trans hd)
  rw[hdrop] at w
  refine⟨g1,fun σ2 H2=>n+1<=ds.length/\∃G' j',LS X C iS iD G0 G' j' σ2 H2/\Same G1 G'/\RW (jLoop k f (ds.drop (n+1)) j') (fun r=>∀σ' G' H',LS X C iS iD G0 G' r σ' H'->Same G1 G'->Dn.nx σ' H') (aX X.K X.mg E G0 X.H₀),
   fun σ2 H2 ⟨h1,h2⟩=>⟨ds.length-(n+1),by omega,rfl,h1,h2⟩,fun x H2 hy=>?_⟩
  obtain⟨G2,s2,r2⟩:=g2 x H2 hy G' e' L'.ok.ext
  unfold jLoop at w
  refine⟨G2,d,s2.e,r2,RW.ok_of (a:=[d]) rfl fun ws rws=>?_⟩
  obtain⟨v,_,rfl,rv,hnil⟩:=rws
  cases hnil
  have L2:=(L'.step s2).set hk.1 hk.2 rv
  refine⟨G2,_,L2,w.of_bind.mono (fun o _ z=>?_) fun _ z=>z⟩
  exact fun σ4 G4 H4 L4 e4=>⟨hlt,G4,o,L4,(e'.trans s2.g).trans e4,z⟩
 ·left
  have hn2:n=ds.length:=by omega
  subst hn2
  rw[List.drop_length] at w
  refine⟨it.stop H' (e'.trans L'.ok.ext),?_⟩
  unfold jLoop at w
  exact(show ∀σ' G' H',LS X C iS iD G0 G' j' σ' H'->Same G1 G'->Dn.nx σ' H' from w) σ' G' H' L' e'
end
end Sk
end
section
set_option maxHeartbeats 2000000
namespace Sk
open L2 PyProof.Rows DL
def K9:D->Option (List Int)
 |.tup xs=>pX xs
 |_=>none
theorem zaL{a:D}{ns:List Int}(h:K9 a=some ns):a=.tup (ns.map .int):=by
 cases a with
 |tup xs=>rw[CN h]
 |_=>cases h
theorem LA{K:xFg}{mg:Str->Option Value}{G:Hp}{vs:List V}:∀{is:List Int},Reps K mg G (is.map D.int) vs->vs=is.map V.int
 |[],h=>h
 |i::is,h=>by
  obtain⟨v,r,rfl,h1,h2⟩:=h
  rw[show v=V.int i from h1,LA h2];rfl
theorem LB{K:xFg}{mg:Str->Option Value}{σd:DSt}{σ:L2.St}{G H:Hp}{i:Nat}{x:Option V}(o:bH K mg σd σ G H):bH K mg (σd.set i none) (σ.set i x) G H:=by
 refine⟨o.ext,by simp[o.len],fun j e q=>?_⟩
 by_cases hj:j=i
 ·subst hj
  have hl:j<σd.length:=by have:=(xaf.mp q).1;simpa using this
  rw[xat hl] at q
  cases q
 ·rw[xae (xay hj)] at q ⊢
  exact o.val j e q
variable{P:Program}{w:World}{K:xFg}{mg:Str->Option Value}{base:Heap}{C:Addr}
theorem skg{f:Addr}{fd:FuncData}(mC:mg "Sketch"=some (.ref C))(T:dA K mg C)(mk:PySem.W.makesIn K C=true)(kc:PySem.W.keepIn K (.ref C)=true)(d0:MD K C "__init__" "Sketch.__init__" (aO sCls 0))(d1:MD K C "line" "Sketch.line" (aO sCls 1))(d2:MD K C "peg" "Sketch.peg" (aO sCls 2))(d3:MD K C "base" "Sketch.base" (aO sCls 3))(d4:MD K C "upright" "Sketch.upright" (aO sCls 4))(d5:MD K C "far" "Sketch.far" (aO sCls 5))(d6:MD K C "level" "Sketch.level" (aO sCls 6))(d7:MD K C "unit" "Sketch.unit" (aO sCls 7))(d8:MD K C "high" "Sketch.high" (aO sCls 8))(d9:MD K C "heading" "Sketch.heading" (aO sCls 9))(d10:MD K C "falling" "Sketch.falling" (aO sCls 10))(d11:MD K C "slid" "Sketch.slid" (aO sCls 11))(d13:MD K C "turned" "Sketch.turned" (aO sCls 13))(d12:MD K C "raised" "Sketch.raised" (aO sCls 12))(d15:MD K C "added" "Sketch.added" (aO sCls 15))(d16:MD K C "less" "Sketch.less" (aO sCls 16))(d17:MD K C "product" "Sketch.product" (aO sCls 17))(d18:MD K C "quotient" "Sketch.quotient" (aO sCls 18))(d19:MD K C "slope" "Sketch.slope" (aO sCls 19))(d20:MD K C "doubled" "Sketch.doubled" (aO sCls 20))(d21:MD K C "whole" "Sketch.whole" (aO sCls 21))
  (D:DL.FA K mg "drawn_by" sDrawn ["sign","sketch","one","other"] f fd) (na:mg "abs"=none) (nr:mg "range"=none):SkG P w K mg base 7 C:=by
 obtain⟨f0,v0,F0,m0,b0⟩:=d0.go ["self","frame","pegs"] fun _ _ _ _ _ _=>gX (fun _ _ _=>rfl)
 obtain⟨f1,v1,F1,m1,b1⟩:=d1.go ["self","one","other"] fun _ _ _ _ _ _=>gX (fun _ _ _=>rfl)
 obtain⟨f2,v2,F2,m2,b2⟩:=d2.go ["self","one","other"] fun _ _ _ _ _ _=>gX (fun _ _ _=>rfl)
 obtain⟨f3,v3,F3,m3,b3⟩:=d3.go ["self"] fun _ _ _ _ _ _=>j6 (fun _=>rfl)
 obtain⟨f4,v4,F4,m4,b4⟩:=d4.go ["self"] fun _ _ _ _ _ _=>j6 (fun _=>rfl)
 obtain⟨f5,v5,F5,m5,b5⟩:=d5.go ["self"] fun _ _ _ _ _ _=>j6 (fun _=>rfl)
 obtain⟨f6,v6,F6,m6,b6⟩:=d6.go ["self"] fun _ _ _ _ _ _=>j6 (fun _=>rfl)
 obtain⟨f7,v7,F7,m7,b7⟩:=d7.go ["self"] fun _ _ _ _ _ _=>j6 (fun _=>rfl)
 obtain⟨f8,v8,F8,m8,b8⟩:=d8.go ["self"] fun _ _ _ _ _ _=>j6 (fun _=>rfl)
 obtain⟨f9,v9,F9,m9,b9⟩:=d9.go ["self","one","other"] fun _ _ _ _ _ _=>gX (fun _ _ _=>rfl)
 obtain⟨f10,v10,F10,m10,b10⟩:=d10.go ["self"] fun _ _ _ _ _ _=>j6 (fun _=>rfl)
 obtain⟨f11,v11,F11,m11,b11⟩:=d11.go ["self","far","near"] fun _ _ _ _ _ _=>gX (fun _ _ _=>rfl)
 obtain⟨f13,v13,F13,m13,b13⟩:=d13.go ["self","number"] fun _ _ _ _ _ _=>n8 (fun _ _=>rfl)
 obtain⟨f12,v12,F12,m12,b12⟩:=d12.go ["self","number"] fun _ _ _ _ _ _=>n8 (fun _ _=>rfl)
 obtain⟨f15,v15,F15,m15,b15⟩:=d15.go ["self","number","other"] fun _ _ _ _ _ _=>gX (fun _ _ _=>rfl)
 obtain⟨f16,v16,F16,m16,b16⟩:=d16.go ["self","number","other"] fun _ _ _ _ _ _=>gX (fun _ _ _=>rfl)
 obtain⟨f17,v17,F17,m17,b17⟩:=d17.go ["self","number","other"] fun _ _ _ _ _ _=>gX (fun _ _ _=>rfl)
 obtain⟨f18,v18,F18,m18,b18⟩:=d18.go ["self","number","other"] fun _ _ _ _ _ _=>gX (fun _ _ _=>rfl)
 obtain⟨f19,v19,F19,m19,b19⟩:=d19.go ["self","step"] fun _ _ _ _ _ _=>n8 (fun _ _=>rfl)
 obtain⟨f20,v20,F20,m20,b20⟩:=d20.go ["self","number","step"] fun _ _ _ _ _ _=>gX (fun _ _ _=>rfl)
 obtain⟨f21,v21,F21,m21,b21⟩:=d21.go ["self","number"] fun _ _ _ _ _ _=>n8 (fun _ _=>rfl)
 have M_line:MO P w K mg base C 1 "line" 1 (z2 cJ):=by rw[x6];exact ZJ (k:=0) F1 T.1 m1 b1
 have M_peg:MO P w K mg base C 1 "peg" 1 (z2 dJ):=by rw[x8];exact ZK (k:=0) F2 T.1 m2 b2
 have M_base:=ZQ (P:=P) (w:=w) (base:=base) F3 T m3 b3 M_line
 have M_upright:=ZS (P:=P) (w:=w) (base:=base) F4 T m4 b4 M_line
 have M_far:=ZU (P:=P) (w:=w) (base:=base) F5 T m5 b5 M_line
 have M_level:=ZW (P:=P) (w:=w) (base:=base) F6 T m6 b6 M_line
 have M_unit:=ZY (P:=P) (w:=w) (base:=base) F7 T m7 b7 M_peg M_line M_base
 have M_high:=Z0 (P:=P) (w:=w) (base:=base) F8 T m8 b8 M_peg M_level M_upright
 have M_heading:=Z2 (P:=P) (w:=w) (base:=base) F9 T m9 b9 M_peg M_line M_far
 have M_falling:=Z4 (P:=P) (w:=w) (base:=base) F10 T m10 b10 M_heading M_unit M_high
 have M_slid:=Z6 (P:=P) (w:=w) (base:=base) F11 T m11 b11 M_peg M_line M_base
 have M_turned:=Z8 (P:=P) (w:=w) (base:=base) F13 T m13 b13 M_peg M_line M_falling M_upright
 have M_raised:=zaB (P:=P) (w:=w) (base:=base) F12 T m12 b12 M_peg M_level M_line
 have M_added:=zaD (P:=P) (w:=w) (base:=base) F15 T m15 b15 M_slid M_heading M_high M_raised
 have M_less:=zaF (P:=P) (w:=w) (base:=base) F16 T m16 b16 M_slid M_heading M_raised
 have M_product:=zaH (P:=P) (w:=w) (base:=base) F17 T m17 b17 M_slid M_heading M_high M_turned
 have M_quotient:=zaa (P:=P) (w:=w) (base:=base) F18 T m18 b18 M_slid M_high M_heading M_turned
 have M_slope:=zag (P:=P) (w:=w) (base:=base) F19 T m19 b19 M_line M_peg M_high M_unit M_far
 have M_doubled:=zah (P:=P) (w:=w) (base:=base) F20 T m20 b20 M_line M_peg M_slope M_falling M_slid
 have M_whole:=zax (P:=P) (w:=w) (base:=base) F21 T m21 b21 na nr M_doubled
 exact⟨⟨6,f0,v0,rfl,⟨mk,m0.at_,m0.fn,kc⟩,mC,(zaz (k:=0) F0 T).mono (by omega),b0⟩,⟨f,fd,zaK D.F T M_added M_less M_product M_quotient,D.m,D.F.kp,D.b⟩,M_whole.mono (by omega),T⟩
end Sk
end
section
set_option maxHeartbeats 2000000
namespace Sk
open L2 PyProof.Rows DL
def outSumL(j:JS):R (List D×Int):=match j.xs.reverse with
 |z::_=>.ok (j.sk.plan.map deedD,z)
 |[]=>.bad
def tR(f:JF)(τ:DSt)(ds:List D):R (List D×Int):=match ds with
 |[a,.int m]=>match K9 a with
  |some [e,n,c,t]=>(f ⟨τ,[],sk0 e n c t m⟩).bind outSumL
  |_=>.bad
 |_=>.bad
theorem zaM{f:JF}{τ:DSt}{ds:List D}{Q:List D×Int->Prop}{E':D->Prop}(h:RW (tR f τ ds) Q E'):∃e n c t m,ds=[.tup [.int e,.int n,.int c,.int t],.int m]/\RW ((f ⟨τ,[],sk0 e n c t m⟩).bind outSumL) Q E':=by
 unfold tR at h
 split at h
 ·rename_i a m
  split at h
  ·rename_i e n c t h1
   rw[zaL h1]
   exact⟨e,n,c,t,m,rfl,h⟩
  ·exact(show False from h).elim
 ·exact(show False from h).elim
def sSumL(fa:DSt->R (List D))(f:JF)(iS iD:Nat):DSt->R (List D×Int):=fun σ=>bif Nat.blt iS σ.length&&Nat.blt iD σ.length then (fa σ).bind (tR f ((σ.set iS none).set iD none)) else .bad
section
variable{X:Cx}{E:XK}{fa:DSt->R (List D)}{kX:Nat}{ea:Expr}{es:List Expr}{C:Addr}{stF:Stmt}{f:JF}
theorem dsl_sum(iS iD:Nat)(hN:X.N.Nodup)(XC:DL.XC X E kX)(S:SkG X.prog X.w X.K X.mg X.base kX C)(ha:DA X E (ea::es) fa)(hF:J1 X E C iS iD stF f){p1 p2 p3 p4 p5 p6 p7 p8 p9 p10 p11 p12 p13 p14:Pos}{kt kc:Nat}
  (hne:(!(iS==iD))=true:=by rfl)
  (h1:X.N[iS]? = some ("sketch":Str):=by rfl) (h2:X.N[iD]? = some ("done":Str):=by rfl)
  (v1:cB X.env.scope "sketch":=by first|exact Or.inl rfl|exact Or.inr (Or.inl rfl)|exact Or.inr (Or.inr rfl)) (v2:cB X.env.scope "done":=by first|exact Or.inl rfl|exact Or.inr (Or.inl rfl)|exact Or.inr (Or.inr rfl))
  (l1:eM X.env.scope "sketch":=by first|exact Or.inl rfl|exact Or.inr rfl) (l2:eM X.env.scope "done":=by first|exact Or.inl rfl|exact Or.inr rfl)
  (f1:X.fn "sketch"=true\/X.env.scope.names.lookup ("sketch":Str)=some .local:=by first|exact .inl rfl|exact .inr rfl|assumption) (f2:X.fn "done"=true\/X.env.scope.names.lookup ("done":Str)=some .local:=by first|exact .inl rfl|exact .inr rfl|assumption)
  (g1:Gl X "Sketch":=by rfl)
  (e1:starEach (ea::es) X.env=(false,eval ea X.env)::starEach es X.env:=by rfl) (e2:(backTo p3 (starEach es X.env)).any (·.1)=false:=by rfl)
  (e3:swapsWith (.Call (.Name "Sketch" p2) (ea::es) [] p3) (some (.Name "sketch" p1)) p4.line X.env=pure false:=by rfl)
  (e4:swapsWith (.List [] p6) (some (.Name "done" p5)) p7.line X.env=pure false:=by rfl)
  (e8:attributeBase (.Name "sketch" p8) "plan" X.env (eval (.Name "sketch" p8) X.env)=eval (.Name "sketch" p8) X.env:=by rfl)
  (hix:pB (.Constant (.int 0) kc p11):=by exact fun _ _=>rfl)
  (e9:starEach [.Attribute (.Name "sketch" p8) "plan" p9,.Subscript (.Name "done" p10) (.Constant (.int 0) kc p11) p12] X.env=(false,eval (.Attribute (.Name "sketch" p8) "plan" p9) X.env)::starEach [.Subscript (.Name "done" p10) (.Constant (.int 0) kc p11) p12] X.env:=by rfl)
  (e10:starEach [.Subscript (.Name "done" p10) (.Constant (.int 0) kc p11) p12] X.env=(false,eval (.Subscript (.Name "done" p10) (.Constant (.int 0) kc p11) p12) X.env)::starEach [] X.env:=by rfl) :
  tF X E [.Assign [.Name "sketch" p1] (.Call (.Name "Sketch" p2) (ea::es) [] p3) p4,.Assign [.Name "done" p5] (.List [] p6) p7,stF,.Return (some (.Tuple [.Attribute (.Name "sketch" p8) "plan" p9,.Subscript (.Name "done" p10) (.Constant (.int 0) kc p11) p12] kt p13)) p14] (sSumL fa f iS iD):=fun G0=>by
 obtain⟨j,fi,fdi,rfl,M,hS,Fi,bi⟩:=S.ex
 simp only[xb3,beq_eq_false_iff_ne] at hne
 refine bQ.mono' (cP (gH (i:=iS) hN h1 l1 (RM M Fi XC.room g1 hS bi .nil XC.pass ha (by decide) e1 e2) e3 f1)
  (cP (gH (i:=iD) hN h2 l2 (u8 dM) e4 f2)
  (cP (hF G0)
  (iT (mR (mW (cL (gJ (pv iS h1 v1) e8) (cL (kJ A4 (pv iD h2 v2) gG hix) dM e10) e9))))))) fun Dn σ H ⟨G,σd,ok,s0,q⟩=>?_
 have ok0:bH X.K X.mg σd σ G H:=⟨ok.ext,ok.len,fun i d h=>ok.val i d (by simp) h⟩
 obtain⟨hl,q⟩:(Nat.blt iS σd.length&&Nat.blt iD σd.length)=true/\RW ((fa σd).bind (tR f ((σd.set iS none).set iD none))) (kS X.K X.mg Dn.rt G0 X.H₀) (aX X.K X.mg E G0 X.H₀):=by
  unfold sSumL at q
  cases hl:Nat.blt iS σd.length&&Nat.blt iD σd.length with
  |false=>rw[hl] at q;exact(show False from q).elim
  |true=>rw[hl] at q;exact⟨rfl,q⟩
 rw[xap,xcn,xcn,ok.len] at hl
 refine⟨G,σd,ok0,q.of_bind.mono (fun ds _ z vs G1 H1 s1 r1=>?_) fun _ z=>z.step s0⟩
 obtain⟨e,n,c,t,m,rfl,z⟩:=zaM z
 obtain⟨_,_,rfl,⟨fr,vs4,rfl,hfr,r4⟩,_,_,rfl,rfl,rfl⟩:=r1
 obtain rfl:vs4=[e,n,c,t].map V.int:=LA (is:=[e,n,c,t]) r4
 intro p dx np ndx nex
 have gp:G1 p=none:=s1.e.free np
 have gdx:G1 dx=none:=s1.e.free ndx
 have sG:Same G1 (aG (aG H1 dx (.own p)) p (.ins C dx [])):=fun b u h=>by
  rw[aH (bC h gp),aH (bC h gdx)];exact s1.e b u h
 refine⟨G1,p,fr,dx,e,n,c,t,m,rfl,sG,aU,gp,fun H' s=>DL.Same.sqT s hfr,fun l d H2 nl nd s2 k2 A2=>⟨rfl,?_⟩⟩
 refine⟨xbc _,fun a na=>?_⟩
 have fr0:∀b,H1 b=none->X.H₀ b=none:=fun b h=>s0.h.free (s1.h.free h)
 have np1:∀b,(aG (aG H1 dx (.own p)) p (.ins C dx [])) b=none->H1 b=none:=fun b h=>by
  by_cases z1:b=p
  ·rw[z1,aU] at h;cases h
  ·rw[aH z1] at h
   by_cases z2:b=dx
   ·rw[z2,aU] at h;cases h
   ·rw[aH z2] at h;exact h
 have up2:∀b o,X.H₀ b=some o->H2 b=some o:=fun b o h=>by
  have hb1:H1 b=some o:=s1.h _ _ (s0.h _ _ h)
  have n1:b≠p:=bC hb1 np
  have n2:b≠dx:=bC hb1 ndx
  exact k2 b o (by rw[aH n1,aH n2];exact hb1) n1
 have fa0:X.H₀ a=none:=by
  cases h:X.H₀ a with
  |none=>rfl
  |some o=>rw[up2 _ _ h] at na;cases na
 have sa:Step G1 H2 G1 (aG H2 a (.lst [])):=.hid s2 na
 have sS:(σ.set iS (some (.ref p)))[iS]? = some (some (.ref p)):=by rw[xat hl.1]
 have st0:Step G0 X.H₀ G1 H2:=⟨s0.g.trans s1.g,up2,s2,fun b o h h'=>s1.c b o (s0.h b o h) (s0.c b o h h')⟩
 have A3:=A2.step sa
 obtain⟨vl,hvl,_⟩:=A2.hl
 refine⟨G1,⟨(σd.set iS none).set iD none,[],sk0 e n c t m⟩,⟨?_,st0.trans sa,p,l,d,a,?_,?_,A3,aU,s2.free na,(bC hvl na).symm,fr0 p np,fr0 l (np1 l nl),fr0 d (np1 d nd),fa0⟩,z.of_bind.mono (fun r _ z σ' G' H' L e'=>?_) fun _ z=>z⟩
 ·have o1:bH X.K X.mg σd σ G1 H1:=ok0.step s1
  have o2:bH X.K X.mg σd σ G1 (aG H2 a (.lst [])):=⟨sa.e,o1.len,o1.val⟩
  exact LB (LB o2)
 ·rw[xae (xay hne)];exact sS
 ·rw[xat (by rw[List.length_set];exact hl.2)]
 ·obtain⟨p,l,d,a,Z⟩:=L.ex
  obtain⟨⟨dx3,hp3⟩,⟨vs3,hl3,hv3⟩,hd3,gp3,gl3,gd3,vi3⟩:=Z.at_
  unfold outSumL at z
  split at z
  ·rename_i w ws hw
   have hq:=Z.hq
   rw[hw] at hq
   refine⟨_,Z.hS,p,C,dx3,_,_,rfl,hp3,S.T.cl,S.T.nP,x3 _ _ _,_,Z.hD,a,_,0,.int w,rfl,rfl,aY.of hq,(by unfold eP jP;rw[xal (xbk 0),xal (by simp only[xa5,xao];omega)];rfl),(show 2<=sizeLine by decide),fun t' ht=>?_⟩
   have nlt:l≠t':=bC hl3 ht
   exact(show kS X.K X.mg Dn.rt G0 X.H₀ (r.sk.plan.map deedD,w) from z) t' l vs3 G' _ (L.s0.trans (Step.hid (o:=.tup [.ref l,.int w]) L.ok.ext ht)) (L.s0.h.free ht) Z.fl aU (by rw[aH nlt];exact hl3) (L.ok.ext.free ht) gl3 hv3
  ·exact(show False from z).elim
end
end Sk
namespace DL
open L2 PyProof.Rows
def yP(f:DSt->R aE)(g:DSt->R (List D×Int)):DSt->R (List D×Int):=fun σ=>(f σ).bind fun o=>match o with
 |.nx σ'=>g σ'
 |_=>.bad
section
variable{X:Cx}{E:XK}{own' ol:List Nat}{x:Nat}{aN:List Stmt}{st:Stmt}{f g:DSt->R aE}{pos:Pos}{gl:DSt->R (List D×Int)}
theorem zaN(h1:DS X E [] [] [] st f)(h2:tF X E aN gl):tF X E (st::aN) (yP f gl):=fun G0=>bQ.mono' (cP (h1 G0) (h2 G0)) fun Dn σ H ⟨G,σd,ok,s0,q⟩=>by
 refine⟨G,σd,ok,s0,q.of_bind.mono (fun o _ z=>?_) fun _ z=>z⟩
 cases o with
 |nx σ1=>exact fun σ' G' H' ok' s' e'=>⟨G',σ1,ok',s',z⟩
 |rt d=>exact(show False from z).elim
 |rf d=>exact(show False from z).elim
 |bk d=>exact(show False from z).elim
 |ct d=>exact(show False from z).elim
def LD(x:Nat)(m:List D->R (List D×Int))(fs:DSt->R (List D))(g:DSt->R aE):DSt->R aE:=fun σ=>(fs σ).bind fun ds=>(m ds).bind fun r=>g (σ.set x (some (.tup [.lst r.1,.int r.2])))
theorem zaO(x:Nat){y fn:Str}{k:Nat}{m:List D->R (List D×Int)}{e:Expr}{es:List Expr}{fs:DSt->R (List D)}{p cpos pos':Pos}(hN:X.N.Nodup)(C:XC X E k)(F:gW X.prog X.w X.K X.mg X.base k fn m)(ha:DA X E (e::es) fs)(h:kT X E own' ol x aN g)
  (hg:Gl X fn:=by rfl) (hdb:(fn==("__debug__":Str))=false:=by decide) (he:starEach (e::es) X.env=(false,eval e X.env)::starEach es X.env:=by rfl) (hpl:(backTo cpos (starEach es X.env)).any (·.1)=false:=by rfl) (hi:X.N[x]? = some y:=by rfl) (hx:eM X.env.scope y:=by first|exact Or.inl rfl|exact Or.inr rfl) (hs:swapsWith (.Call (.Name fn p) (e::es) [] cpos) (some (.Name y pos')) pos.line X.env=pure false:=by rfl)
  (hf:X.fn y=true\/X.env.scope.names.lookup y=some .local:=by first|exact .inl rfl|exact .inr rfl|assumption):dR X E [] own' ol (.Assign [.Name y pos'] (.Call (.Name fn p) (e::es) [] cpos) pos::aN) (LD x m fs g):=fun G0=>by
 obtain⟨f,fd,ps,h1,h2,h3,h4⟩:=F.ex
 intro pins s σ H Dn I q
 obtain⟨G,σd,ok,s0,q⟩:=q
 refine cP (gH hN hi hx (vA h1 C.room hg h2 h3 h4 .nil C.pass ha hdb he hpl) hs hf) (h G0) pins s σ H Dn I ?_
 have lx:x<σd.length:=by rw[ok.len,I.len];exact(xaf.mp hi).1
 have ok0:bH X.K X.mg σd σ G H:=⟨ok.ext,ok.len,fun i d h=>ok.val i d (by simp) h⟩
 refine⟨G,σd,ok0,q.of_bind.mono (fun ds _ z vs G1 H1 s1 r1=>?_) fun _ z=>z.step s0⟩
 have ok1:=ok.step s1
 have s01:=s0.trans s1
 refine⟨G1,ds,s1.e,by rw[xbn];exact r1,z.of_bind.mono (fun rr _ z=>?_) fun _ z=>z.step s01⟩
 intro t a vs G2 H2 s2 n1 n2 e1 e2 g1 g2 r1
 refine⟨G2,σd.set x (some (.tup [.lst rr.1,.int rr.2])),⟨?_,t,a,rr.1,rr.2,vs,by rw[xat lx],by rw[xat (by rw[<- ok.len];exact lx)],⟨e1,e2⟩,⟨g1,g2⟩,⟨s01.h.free n1,s01.h.free n2⟩,r1⟩,s01.trans s2,(show RW (g (σd.set x (some (.tup [.lst rr.1,.int rr.2])))) _ _ from z).mono (fun o _ z=>z.shift (s1.g.trans s2.g)) fun _ z=>z⟩
 rw[List.set_set]
 exact(ok1.step s2).dropX (by simp)
theorem zaP(h:dR X E [] own' ol aN g):kT X E own' ol x aN (JL x g):=fun G0=>bQ.mono' (h G0) fun Dn σ H ⟨G,σd,ok,s0,q⟩=>⟨G,σd.set x none,ok.ok,s0,q⟩
def yQ(x y:Nat)(g:DSt->R aE):DSt->R aE:=fun σ=>match σ[x]? with
 |some (some (.tup [.lst ds,.int _]))=>bif most ds.length then g (σ.set y (some (.lst ds))) else .bad
 |_=>.bad
theorem j5.set{K:xFg}{mg:Str->Option Value}{G H H0:Hp}{σd:DSt}{σ:L2.St}{y:Nat}{d:D}{v:V}(o:j5 K mg H0 x σd σ G H)(hy:y≠x)(r:aR K mg G d v):j5 K mg H0 x (σd.set y (some d)) (σ.set y (some v)) G H:=by
 obtain⟨t,a,ds,n,vs,h1,h2,h3⟩:=o.pr
 refine⟨?_,t,a,ds,n,vs,by rw[xae hy];exact h1,by rw[xae hy];exact h2,h3⟩
 rw[List.set_comm _ _ hy]
 exact o.ok.set (by simp) r
theorem zaQ(y:Nat){nx ny:Str}{px py pp pi ps pc:Pos}{ji:Nat}(hN:X.N.Nodup)(hm:X.mg "list"=none)(h:kT X E own' ol x aN g)(hd2:(!(x==y))=true:=by rfl)(h1:X.N[x]? = some nx:=by rfl)(h2:X.N[y]? = some ny:=by rfl)
  (hv:cB X.env.scope nx:=by first|exact Or.inl rfl|exact Or.inr (Or.inl rfl)|exact Or.inr (Or.inr rfl)) (hd:(nx==("__debug__":Str))=false:=by decide) (hcd:(nx==("__classdict__":Str))=false:=by decide) (ly:eM X.env.scope ny:=by first|exact Or.inl rfl|exact Or.inr rfl)
  (hix:pB (.Constant (.int 0) ji pi):=by exact fun _ _=>rfl) (hg:Gl X "list":=by rfl)
  (he:starEach [.Subscript (.Name nx px) (.Constant (.int 0) ji pi) ps] X.env=(false,eval (.Subscript (.Name nx px) (.Constant (.int 0) ji pi) ps) X.env)::starEach [] X.env:=by rfl) (hpl:(backTo pc (starEach [] X.env)).any (·.1)=false:=by rfl)
  (hs:swapsWith (.Call (.Name "list" pp) [.Subscript (.Name nx px) (.Constant (.int 0) ji pi) ps] [] pc) (some (.Name ny py)) pos.line X.env=pure false:=by rfl) (hf:X.fn ny=true\/X.env.scope.names.lookup ny=some .local:=by first|exact .inl rfl|exact .inr rfl|assumption) :
  kT X E own' ol x (.Assign [.Name ny py] (.Call (.Name "list" pp) [.Subscript (.Name nx px) (.Constant (.int 0) ji pi) ps] [] pc) pos::aN) (yQ x y g):=fun G0=>
 bQ.mono' (cP (gH hN h2 ly (AU SJ hg hm CM (cL (kJ lF (pv x h1 hv hd hcd) gG hix) dM he) (by decide) (by decide) he hpl) hs hf) (h G0)) fun Dn σ H ⟨G,σd,ok,s0,q⟩=>by
 simp only[xb3,beq_eq_false_iff_ne] at hd2
 obtain⟨t,a,ds,n,vs,e1,e2,⟨e3,e4⟩,⟨g1,g2⟩,⟨z1,z2⟩,r⟩:=ok.pr
 unfold yQ at q
 rw[e1] at q
 have q:RW (bif most ds.length then g (σd.set y (some (.lst ds))) else .bad) (bJ X.K X.mg G0 X.H₀ own' ol Dn G) (aX X.K X.mg E G0 X.H₀):=q
 cases hm:most ds.length with
 |false=>rw[hm] at q;exact(show False from q).elim
 |true=>
  rw[hm] at q
  refine⟨.ref t,e2,t,[.ref a,.int n],0,.ref a,rfl,rfl,bG.of e3,rfl,a,vs,rfl,.inl (aY.of e4),fun l hl=>?_⟩
  have sp:=Step.pub (o:=.lst vs) ok.ok.ext hl
  exact⟨_,_,(ok.step sp).set (d:=.lst ds) (xay hd2) (show aR X.K X.mg (aG G l (.lst vs)) (.lst ds) (.ref l) from ⟨l,vs,rfl,aY.of aU,r.mono sp.g⟩),s0.trans sp,(show RW (g (σd.set y (some (.lst ds)))) _ _ from q).mono (fun o _ z=>z.shift sp.g) fun _ z=>z⟩
def yR(x:Nat)(g:DSt->R aE):DSt->R aE:=fun σ=>match σ[x]? with
 |some (some (.tup [.lst ds,.int n]))=>bif most ds.length then g (σ.set x (some (.tup [.lst (ds++[.non]),.int n]))) else .bad
 |_=>.bad
theorem zaR{nx:Str}{px pi ps pc pa pn:Pos}{ji jn:Nat}(h:kT X E own' ol x aN g)(h1:X.N[x]? = some nx:=by rfl)
  (hv:cB X.env.scope nx:=by first|exact Or.inl rfl|exact Or.inr (Or.inl rfl)|exact Or.inr (Or.inr rfl)) (hd:(nx==("__debug__":Str))=false:=by decide) (hcd:(nx==("__classdict__":Str))=false:=by decide)
  (hix:pB (.Constant (.int 0) ji pi):=by exact fun _ _=>rfl)
  (hbase:attributeBase (.Subscript (.Name nx px) (.Constant (.int 0) ji pi) ps) "append" X.env (eval (.Subscript (.Name nx px) (.Constant (.int 0) ji pi) ps) X.env)=eval (.Subscript (.Name nx px) (.Constant (.int 0) ji pi) ps) X.env:=by rfl)
  (hfew:((backTo pc (starEach [.Constant .none jn pn] X.env)).all (fun x=>!x.1)&&(backToKw pc (keywordEach [] X.env)).all (fun x=>x.1.isSome)&&decide ([Expr.Constant .none jn pn].length+([]:List Keyword).length+(if ([]:List Keyword).isEmpty then 0 else 1)<30))=true:=by rfl)
  (hline:(pa.endLine==pc.line)=true:=by rfl) (hs:starEach [.Constant .none jn pn] X.env=(false,eval (.Constant .none jn pn) X.env)::starEach [] X.env:=by rfl) (hplain:(backTo pc (starEach [] X.env)).any (·.1)=false:=by rfl)
  (hsw:swapsWith (.Call (.Attribute (.Subscript (.Name nx px) (.Constant (.int 0) ji pi) ps) "append" pa) [.Constant .none jn pn] [] pc) none pos.line X.env=pure false:=by rfl) :
  kT X E own' ol x (.Expr (.Call (.Attribute (.Subscript (.Name nx px) (.Constant (.int 0) ji pi) ps) "append" pa) [.Constant .none jn pn] [] pc) pos::aN) (yR x g):=fun G0=>
 bQ.mono' (cP (jN (jQ PySem.F.plainAttrs_list PySem.F.slot_list_append PySem.F.type_list_append lH (kJ lF (pv x h1 hv hd hcd) gG hix) (cL zT dM hs) hbase hfew hline hs hplain) hsw) (h G0)) fun Dn σ H ⟨G,σd,ok,s0,q⟩=>by
 obtain⟨t,a,ds,n,vs,e1,e2,⟨e3,e4⟩,⟨g1,g2⟩,⟨z1,z2⟩,r⟩:=ok.pr
 unfold yR at q
 rw[e1] at q
 have q:RW (bif most ds.length then g (σd.set x (some (.tup [.lst (ds++[.non]),.int n]))) else .bad) (bJ X.K X.mg G0 X.H₀ own' ol Dn G) (aX X.K X.mg E G0 X.H₀):=q
 cases hm:most ds.length with
 |false=>rw[hm] at q;exact(show False from q).elim
 |true=>
  rw[hm] at q
  have hlt:ds.length<sizeLine:=xau hm
  have ta:t≠a:=iR e3 e4 (by intro z;cases z)
  have lx:x<σd.length:=(xaf.mp e1).1
  refine⟨.ref t,e2,t,[.ref a,.int n],0,.ref a,rfl,rfl,bG.of e3,rfl,.inl ⟨rfl,_,aY.of e4⟩,a,vs,.non,rfl,rfl,e4,by rw[<- r.length];exact hlt,?_⟩
  refine⟨G,σd.set x (some (.tup [.lst (ds++[.non]),.int n])),⟨?_,t,a,ds++[.non],n,vs++[.non],by rw[xat lx],e2,⟨by rw[aH ta];exact e3,aU⟩,⟨g1,g2⟩,⟨z1,z2⟩,r.append (Reps.cons (show aR X.K X.mg G .non .non from rfl) Reps.nil)⟩,s0.write (o:=.lst vs) z2 g2,(show RW (g (σd.set x (some (.tup [.lst (ds++[.non]),.int n])))) _ _ from q)⟩
  rw[List.set_set]
  exact⟨fun b u e=>by rw[aH (bC e g2)];exact ok.ok.ext b u e,ok.ok.len,ok.ok.val,fun i d hi=>xaq hi (by simp),fun i j b d1 d2 hi=>xaq hi (by simp)⟩
end
end DL
end
namespace Mir
open L2 DL
def kC:D:=.tup [.str "+",.str "-",.str "*",.str "/"]
noncomputable def oQ:DSt->R Bool:=(aS (aC iI (aK cA (aB (aA 2) aF)) (eC (.int 0))))
noncomputable def yS:DSt->R aE:=(dG (aS (aC eX (aC aI (aA 3) (eC (.int 0))) (eC kC))) (xZ [2,1] 2 (eU (aA 3) (dS (eC (.int 1))) fV)) eA)
noncomputable def yT:DSt->R aE:=(aV (jY [2,1] 1 (aA 3)) yS)
noncomputable def qR:DSt->R aE:=(aV (n9 2 3) yT)
noncomputable def LF:DSt->R aE:=(cE (aA 1))
noncomputable def LG:DSt->R aE:=(aV (JQ 1) LF)
noncomputable def LH:DSt->R aE:=(aV (cV oQ qR) LG)
noncomputable def LI:DSt->R aE:=(aV (lP [1] 2 (cS (aB (aA 0) aF))) LH)
noncomputable def tU:DSt->R aE:=(aV (lP [] 1 (cS aF)) LI)
noncomputable def hU:List D->R D:=cG 1 4 tU
theorem zaS(a0:D):hU [a0]=fin (tU [some a0,none,none,none]):=eV (b:=tU) rfl rfl
def jJ:D:=.tup [.int 0,.int 1,.int 2,.int 3]
noncomputable def LJ:Sk.JF:=(Sk.jSeq (Sk.jPop 6) (Sk.jSeq (Sk.jPop 7) (Sk.jDrawn (aC aI (aA 5) (eC (.int 0))) (aA 7) (aA 6))))
noncomputable def zaT:Sk.JF:=(Sk.jWhole (aC aI (aA 5) (eC (.int 1))))
noncomputable def yU:Sk.JF:=(Sk.jApp (aC l6 (aA 2) (aC aI (aA 5) (eC (.int 1)))))
noncomputable def LK:Sk.JF:=(Sk.jRaise (wS "NoName"))
noncomputable def zaU:Sk.JF:=(Sk.jIf (aS (aC qK (aC aI (aA 5) (eC (.int 1))) (aA 2))) yU LK)
noncomputable def LL:Sk.JF:=(Sk.jIf (aS (aC bX (aC aI (aA 5) (eC (.int 0))) (eC (.str "number")))) zaT zaU)
noncomputable def gD:Sk.JF:=(Sk.jIf (aS (aC eX (aC aI (aA 5) (eC (.int 0))) (eC kC))) LJ LL)
noncomputable def tV:Sk.JF:=(Sk.jFor 5 (c6 (bI hU (aB (aA 0) aF))) gD)
noncomputable def tW:DSt->R (List D×Int):=(yP (bP 2 (aK oG (aB (cM (fN 2 [0,1] (qM (aB (aA 1) aF) (aK cA (aB (eC jJ) aF))) (fE 2) iG (kN (aB (aA 1) (aB (aA 0) aF))))) aF))) (Sk.sSumL (aB (eC jJ) (aB (aC a7 (aK cA (aB (eC jJ) aF)) (aK cA (aB (aA 1) aF))) aF)) tV 3 4))
noncomputable def gE:List D->R (List D×Int):=n5 2 8 tW
theorem zaV(a0:D)(a1:D):gE [a0,a1]=tW [some a0,some a1,none,none,none,none,none,none]:=XU (b:=tW) rfl rfl
noncomputable def LM:DSt->R aE:=(cE (eC (.int 0)))
noncomputable def tX:DSt->R aE:=(aV (dG (aS (aC lS (aA 1) (aK cA (aB (aA 0) aF)))) (cE (aC aI (aA 0) (aA 1))) eA) LM)
noncomputable def kD:List D->R D:=cG 2 2 tX
theorem zaW(a0:D)(a1:D):kD [a0,a1]=fin (tX [some a0,some a1]):=eV (b:=tX) rfl rfl
noncomputable def tY:DSt->R aE:=(cE (lN (aK (g2 bE) (aB (aA 0) (aB (eC (.ty "int")) aF))) (vV (aK (g2 bE) (aB (aA 0) (aB (eC (.ty "bool")) aF))))))
noncomputable def hV:List D->R D:=cG 1 1 tY
theorem zaX(a0:D):hV [a0]=fin (tY [some a0]):=eV (b:=tY) rfl rfl
noncomputable def LN:DSt->R aE:=(cE (aC cR (aC iH (aA 2) (aA 2)) (eC (.int 2305843009213693951))))
noncomputable def LO:DSt->R aE:=(aV (bP 2 (aC cR (aC a7 (aC a7 (aC iH (aA 2) (aA 2)) (aC iH (aC iH (eC (.int 69621)) (aA 1)) (aA 1))) (aA 1)) (eC (.int 2305843009213693951)))) LN)
noncomputable def LQ:DSt->R aE:=(aV (bP 2 (aC cR (aA 2) (eC (.int 2305843009213693951)))) LO)
noncomputable def tZ:DSt->R aE:=(aV (bP 2 (aC a7 (aC a7 (aC iH (aC a7 (aC cR (aA 0) (eC (.int 1000000007))) (eC (.int 1))) (eC (.int 6364136223846793005))) (aC iH (aC iH (eC (.int 7919)) (aA 1)) (aA 1))) (aC iH (eC (.int 31)) (aA 1)))) LQ)
noncomputable def oR:List D->R D:=cG 2 3 tZ
theorem zaY(a0:D)(a1:D):oR [a0,a1]=fin (tZ [some a0,some a1,none]):=eV (b:=tZ) rfl rfl
noncomputable def LR:DSt->R aE:=(jX [2] 3 (aC lR (aA 3) (aC pS (eC (.int 10)) (eC (.int 6)))))
noncomputable def LU:DSt->R aE:=(aV (jY [2] 2 (aC cR (aA 3) (aC pS (eC (.int 10)) (eC (.int 6))))) LR)
noncomputable def qS:DSt->R aE:=(dG (rO (aS (aC bX (aC cR (aA 0) (eC (.int 2))) (eC (.int 0)))) (aS (aC iI (aA 3) (eC (.int 0))))) LU (jY [2] 2 (aC cR (bI oR (aB (aA 0) (aB (aA 4) aF))) (aC pS (eC (.int 10)) (eC (.int 6))))))
noncomputable def LV:DSt->R aE:=(cE (aA 2))
noncomputable def LW:DSt->R aE:=(aV (gR [2] [4] bN (iF i7 (aB (aA 1) aF)) qS) LV)
noncomputable def LX:DSt->R aE:=(aV (jX [2] 3 (aC lR (aA 0) (eC (.int 2)))) LW)
noncomputable def t0:DSt->R aE:=(aV (lP [] 2 (cS aF)) LX)
noncomputable def fS:List D->R D:=cG 2 5 t0
theorem zaZ(a0:D)(a1:D):fS [a0,a1]=fin (t0 [some a0,some a1,none,none,none]):=eV (b:=t0) rfl rfl
noncomputable def qT:DSt->R aE:=(bP 4 (aC a7 (aA 4) (aC fH (aA 2) (aC cR (aC lR (aC aI (aA 3) (eC (.int 11))) (aC aI (cM (cS (aB (eC (.int 1)) (aB (eC (.int 26)) (aB (eC (.int 676)) (aB (eC (.int 17576)) (aB (eC (.int 5)) (aB (eC (.int 9)) (aB (eC (.int 77)) aF))))))))) (aA 5))) (eC (.int 26))))))
noncomputable def LY:DSt->R aE:=(cE (cM (fN 1 [0] (iF i7 (aB (aA 1) aF)) bN iG (aC a7 (aC fH (aA 3) (aC cR (aC a7 (aC aI (aA 4) (eC (.int 9))) (aA 0)) (eC (.int 26)))) (aA 5)))))
noncomputable def LZ:DSt->R aE:=(aV (dG (aS (aC bX (aC cR (aC aI (aA 3) (eC (.int 8))) (eC (.int 4))) (eC (.int 1)))) (cE (eU (cM (cS (aB (eC (.str "end")) (aB (eC (.str "x")) (aB (eC (.str "times")) (aB (eC (.str "rule")) (aB (eC (.str "ends")) (aB (eC (.str "xx")) aF)))))))) fV (dS (aA 1)))) eA) LY)
noncomputable def L5:DSt->R aE:=(aV (gR [] [5] bN (iF i7 (aB (aC cR (aC aI (aA 3) (eC (.int 10))) (eC (.int 8))) aF)) qT) LZ)
noncomputable def L6:DSt->R aE:=(aV (bP 4 (eC (.str ""))) L5)
noncomputable def L7:DSt->R aE:=(aV (bP 3 (bI fS (aB (aA 0) (aB (eC (.int 12)) aF)))) L6)
noncomputable def t2:DSt->R aE:=(aV (bP 2 (eC (.str "abcdefghijklmnopqrstuvwxyz"))) L7)
noncomputable def qU:List D->R D:=cG 2 6 t2
theorem za0(a0:D)(a1:D):qU [a0,a1]=fin (t2 [some a0,some a1,none,none,none,none]):=eV (b:=t2) rfl rfl
noncomputable def L8:DSt->R aE:=(cE (kN (aB (eC (.str "number")) (aB (aC cR (aC aI (aA 0) (eC (.int 3))) (aC aI (cM (cS (aB (eC (.int 10)) (aB (eC (.int 10)) (aB (eC (.int 10)) (aB (eC (.int 1000)) aF)))))) (aC cR (aC aI (aA 0) (eC (.int 5))) (eC (.int 4))))) aF))))
noncomputable def L9:DSt->R aE:=(aV (dG (aS (aC bX (aC cR (aC aI (aA 0) (eC (.int 5))) (eC (.int 16))) (eC (.int 1)))) (cE (kN (aB (eC (.str "number")) (aB (aC a7 (aC iH (aC aI (aA 0) (eC (.int 3))) (eC (.int 1000))) (aC cR (aC aI (aA 0) (eC (.int 4))) (eC (.int 1000)))) aF)))) eA) L8)
noncomputable def t5:DSt->R aE:=(aV (dG (aS (aC iI (aC cR (aC aI (aA 0) (eC (.int 2))) (eC (.int 3))) (eC (.int 0)))) (cE (kN (aB (eC (.str "name")) (aB (aC aI (aA 1) (aC cR (aC aI (aA 0) (eC (.int 3))) (aK cA (aB (aA 1) aF)))) aF)))) eA) L9)
noncomputable def kE:List D->R D:=cG 2 2 t5
theorem za1(a0:D)(a1:D):kE [a0,a1]=fin (t5 [some a0,some a1]):=eV (b:=t5) rfl rfl
noncomputable def MA:DSt->R aE:=(qF [2] 2 2 (aC fH (eC (.str "+-*/")) (aC cR (aC aI (aA 4) (eC (.int 1))) (eC (.int 4)))) (aA 5))
noncomputable def MB:DSt->R aE:=(aV (n9 2 5) MA)
noncomputable def MC:DSt->R aE:=(dG (rO (aS (aC iI (aK cA (aB (aA 2) aF)) (eC (.int 1)))) (aS (aC bX (aC cR (aC aI (aA 4) (eC (.int 0))) (eC (.int 2))) (eC (.int 0))))) MB (jY [2] 2 (bI kE (aB (aA 4) (aB (aA 1) aF)))))
noncomputable def mG:DSt->R aE:=(aV (jX [2] 4 (bI fS (aB (aA 3) (aB (eC (.int 6)) aF)))) MC)
noncomputable def t6:DSt->R Bool:=(aS (aC iI (aK cA (aB (aA 2) aF)) (eC (.int 1))))
noncomputable def ME:DSt->R aE:=(qL [2] 2 2 (aC fH (eC (.str "-+/*")) (aC cR (aK cA (aB (aA 2) aF)) (eC (.int 4)))) (aA 5))
noncomputable def yV:DSt->R aE:=(aV (n9 2 5) ME)
noncomputable def MF:DSt->R aE:=(cE (aC aI (aA 2) (eC (.int 0))))
noncomputable def MG:DSt->R aE:=(aV (cV t6 yV) MF)
noncomputable def MH:DSt->R aE:=(aV (gR [2] [3] bN (c6 (aA 0)) mG) MG)
noncomputable def t7:DSt->R aE:=(aV (lP [] 2 (cS aF)) MH)
noncomputable def oS:List D->R D:=cG 2 6 t7
theorem za2(a0:D)(a1:D):oS [a0,a1]=fin (t7 [some a0,some a1,none,none,none,none]):=eV (b:=t7) rfl rfl
noncomputable def MI(m:List D->R D):DSt->R aE:=(cE (aA 3))
noncomputable def MJ(m:List D->R D):DSt->R aE:=(aV (dG (aS (aC lS (aA 2) (aA 1))) (cE (aC a7 (aC a7 (eC (.str "(")) (aA 3)) (eC (.str ")")))) eA) (MI m))
noncomputable def MK(m:List D->R D):DSt->R aE:=(aV (bP 3 (xS (eC (.str " ")) (cM (cS (aB (bI m (aB (aC aI (aA 0) (eC (.int 1))) (aB (aA 2) aF))) (aB (aC aI (aA 0) (eC (.int 0))) (aB (bI m (aB (aC aI (aA 0) (eC (.int 2))) (aB (aC a7 (aA 2) (eC (.int 1))) aF))) aF))))))) (MJ m))
noncomputable def ML(m:List D->R D):DSt->R aE:=(aV (bP 2 (aC a7 (eC (.int 1)) (aK cT (aB (aC eX (aC aI (aA 0) (eC (.int 0))) (eC (.str "*/"))) aF)))) (MK m))
noncomputable def yW(m:List D->R D):DSt->R aE:=(aV (dG (aS (aC bX (aC aI (aA 0) (eC (.int 0))) (eC (.str "number")))) (cE (aK sZ (aB (aC aI (aA 0) (eC (.int 1))) aF))) eA) (ML m))
noncomputable def kZ(m:List D->R D):DSt->R aE:=(aV (dG (aS (aC bX (aC aI (aA 0) (eC (.int 0))) (eC (.str "name")))) (cE (aC aI (aA 0) (eC (.int 1)))) eA) (yW m))
noncomputable def jK:Nat->List D->R D:=oA fun m=>cG 2 4 (kZ m)
noncomputable def qV:List D->R D:=jK 64
theorem yX(n:Nat)(a0:D)(a1:D):jK (n+1) [a0,a1]=fin (kZ (jK n) [some a0,some a1,none,none]):=show cG 2 4 (kZ (jK n)) [a0,a1]=_ from eV (b:=kZ (jK n)) rfl rfl
noncomputable def MM:DSt->R aE:=(bP 2 (aK nM (aB (aA 2) (aB (aA 1) aF))))
noncomputable def mH:DSt->R aE:=(aV (bP 1 (aC gSub (aC a7 (aA 1) (aK cT (aB (aC bX (aA 3) (eC (.str "("))) aF))) (aK cT (aB (aC bX (aA 3) (eC (.str ")"))) aF)))) MM)
noncomputable def MN:DSt->R aE:=(cE (aA 2))
noncomputable def MP:DSt->R aE:=(aV (gR [] [3] bN (xR (aA 0)) mH) MN)
noncomputable def MQ:DSt->R aE:=(aV (bP 2 (eC (.int 0))) MP)
noncomputable def t8:DSt->R aE:=(aV (bP 1 (eC (.int 0))) MQ)
noncomputable def oU:List D->R D:=cG 1 4 t8
theorem za3(a0:D):oU [a0]=fin (t8 [some a0,none,none,none]):=eV (b:=t8) rfl rfl
noncomputable def t9:DSt->R Bool:=(aS (aC iI (bI oU (aB (bI qV (aB (aA 2) (aB (eC (.int 0)) aF))) aF)) (eC (.int 8))))
noncomputable def MR:DSt->R aE:=(bP 2 (bI oS (aB (aA 0) (aB (aA 1) aF))))
noncomputable def yY:DSt->R aE:=(aV (bP 0 (eU (aA 0) fV (dS (aC lR (aK cA (aB (aA 0) aF)) (eC (.int 2)))))) MR)
noncomputable def MS:DSt->R aE:=(cE (aA 2))
noncomputable def MT:DSt->R aE:=(aV (cV t9 yY) MS)
noncomputable def uA:DSt->R aE:=(aV (bP 2 (bI oS (aB (aA 0) (aB (aA 1) aF)))) MT)
noncomputable def qW:List D->R D:=cG 2 3 uA
theorem za4(a0:D)(a1:D):qW [a0,a1]=fin (uA [some a0,some a1,none]):=eV (b:=uA) rfl rfl
noncomputable def MU:DSt->R aE:=(cE (lN (aC bX (aA 1) (eC (.int 1))) (lN (aK (g2 bE) (aB (aA 0) (aB (eC (.cls "ChalkError")) aF))) (aK (g2 bE) (aB (aA 0) (aB (eC (.ty "ValueError")) aF))))))
noncomputable def MV:DSt->R aE:=(aV (bP 1 (aC a7 (aC a7 (aC a7 (aA 1) (aK cT (aB (aK (g2 bE) (aB (aA 0) (aB (eC (.cls "NoRatio")) aF))) aF))) (aK cT (aB (aK (g2 bE) (aB (aA 0) (aB (eC (.cls "NoBow")) aF))) aF))) (aK cT (aB (aK (g2 bE) (aB (aA 0) (aB (eC (.cls "NoRow")) aF))) aF)))) MU)
noncomputable def MW:DSt->R aE:=(aV (bP 1 (aC a7 (aC a7 (aC a7 (aA 1) (aK cT (aB (aK (g2 bE) (aB (aA 0) (aB (eC (.cls "NoFrame")) aF))) aF))) (aK cT (aB (aK (g2 bE) (aB (aA 0) (aB (eC (.cls "NoValue")) aF))) aF))) (aK cT (aB (aK (g2 bE) (aB (aA 0) (aB (eC (.cls "Unlike")) aF))) aF)))) MV)
noncomputable def MX:DSt->R aE:=(aV (bP 1 (aC a7 (aC a7 (aC a7 (aA 1) (aK cT (aB (aK (g2 bE) (aB (aA 0) (aB (eC (.cls "NoName")) aF))) aF))) (aK cT (aB (aK (g2 bE) (aB (aA 0) (aB (eC (.cls "TooMany")) aF))) aF))) (aK cT (aB (aK (g2 bE) (aB (aA 0) (aB (eC (.cls "NoChange")) aF))) aF)))) MW)
noncomputable def MY:DSt->R aE:=(aV (bP 1 (aC a7 (aC a7 (aC a7 (aA 1) (aK cT (aB (aK (g2 bE) (aB (aA 0) (aB (eC (.cls "Endless")) aF))) aF))) (aK cT (aB (aK (g2 bE) (aB (aA 0) (aB (eC (.cls "NoDeed")) aF))) aF))) (aK cT (aB (aK (g2 bE) (aB (aA 0) (aB (eC (.cls "NoText")) aF))) aF)))) MX)
noncomputable def uB:DSt->R aE:=(aV (bP 1 (aC a7 (aC a7 (aK cT (aB (aK (g2 bE) (aB (aA 0) (aB (eC (.cls "NoPlace")) aF))) aF)) (aK cT (aB (aK (g2 bE) (aB (aA 0) (aB (eC (.cls "Same")) aF))) aF))) (aK cT (aB (aK (g2 bE) (aB (aA 0) (aB (eC (.cls "NoFloor")) aF))) aF)))) MY)
noncomputable def oV:List D->R D:=cG 1 2 uB
theorem za5(a0:D):oV [a0]=fin (uB [some a0,none]):=eV (b:=uB) rfl rfl
noncomputable def MZ(m:List D->R D):DSt->R aE:=(cE (aC a7 (bI m (aB (aC aI (aA 0) (eC (.int 1))) aF)) (bI m (aB (aC aI (aA 0) (eC (.int 2))) aF))))
noncomputable def M0(m:List D->R D):DSt->R aE:=(aV (dG (aS (aC bX (aC aI (aA 0) (eC (.int 0))) (eC (.str "number")))) (cE (cM (cS aF))) eA) (MZ m))
noncomputable def oW(m:List D->R D):DSt->R aE:=(aV (dG (aS (aC bX (aC aI (aA 0) (eC (.int 0))) (eC (.str "name")))) (cE (cM (cS (aB (aC aI (aA 0) (eC (.int 1))) aF)))) eA) (M0 m))
noncomputable def oX:Nat->List D->R D:=oA fun m=>cG 1 1 (oW m)
noncomputable def qX:List D->R D:=oX 64
theorem yZ(n:Nat)(a0:D):oX (n+1) [a0]=fin (oW (oX n) [some a0]):=show cG 1 1 (oW (oX n)) [a0]=_ from eV (b:=oW (oX n)) rfl rfl
noncomputable def M1:DSt->R aE:=(cE (lN (aC pV (aA 2) (eC .non)) (lN (aK (g2 bE) (aB (aA 2) (aB (eC (.cls "NoName")) aF))) (bI oV (aB (aA 2) aF)))))
noncomputable def M2:DSt->R aE:=(aV (sO 3 "ChalkError" (wF (sN (l5 gE) (aB (aA 0) (aB (aA 1) aF)))) (bP 2 (aA 3))) M1)
noncomputable def uC:DSt->R aE:=(aV (bP 2 (eC .non)) M2)
noncomputable def oY:List D->R D:=cG 2 4 uC
theorem za6(a0:D)(a1:D):oY [a0,a1]=fin (uC [some a0,some a1,none,none]):=eV (b:=uC) rfl rfl
noncomputable def fL:DSt->R aE:=(dG (fD (dB (aS (bI hV (aB (aA 6) aF)))) (dB (aS (jV pT lS (eC (.int 0)) (aA 6) (aA 5))))) (cE (eC (.bl false))) eA)
noncomputable def y0:DSt->R aE:=(bP 3 (aC a7 (aA 3) (aK cT (aB (aC bX (aC aI (aA 4) (eC (.int 0))) (eC (.str "line"))) aF))))
noncomputable def y1:DSt->R aE:=(aV (bP 2 (aC a7 (aA 2) (aK cT (aB (aC bX (aC aI (aA 4) (eC (.int 0))) (eC (.str "peg"))) aF)))) y0)
noncomputable def y2:DSt->R aE:=(aV (gR [] [6] bN (c6 (eU (aA 4) (dS (eC (.int 1))) fV)) fL) y1)
noncomputable def y3:DSt->R aE:=(aV (bP 5 (aC aI (cM (cS (aB (aA 2) (aB (aA 3) aF)))) (aK cT (aB (aC bX (aC aI (aA 4) (eC (.int 0))) (eC (.str "peg"))) aF)))) y2)
noncomputable def mI:DSt->R aE:=(aV (dG (fD (dB (aS (aK (g2 bE) (aB (aA 4) (aB (eC (.ty "tuple")) aF))))) (fD (aS (aC c7 (aK cA (aB (aA 4) aF)) (eC (.int 3)))) (aS (aC dN (aC aI (aA 4) (eC (.int 0))) (cM (cS (aB (eC (.str "line")) (aB (eC (.str "peg")) aF)))))))) (cE (eC (.bl false))) eA) y3)
noncomputable def M3:DSt->R aE:=(cE (jV pT lS (eC (.int 0)) (aC aI (aA 0) (eC (.int 1))) (aA 2)))
noncomputable def M4:DSt->R aE:=(aV (gR [] [4] bN (c6 (aC aI (aA 0) (eC (.int 0)))) mI) M3)
noncomputable def M5:DSt->R aE:=(aV (bP 3 (eC (.int 0))) M4)
noncomputable def M6:DSt->R aE:=(aV (bP 2 (aC a7 (eC (.int 4)) (aA 1))) M5)
noncomputable def uD:DSt->R aE:=(aV (dG (fD (dB (aS (aK (g2 bE) (aB (aA 0) (aB (eC (.ty "tuple")) aF))))) (fD (aS (aC c7 (aK cA (aB (aA 0) aF)) (eC (.int 2)))) (fD (dB (aS (aK (g2 bE) (aB (aC aI (aA 0) (eC (.int 0))) (aB (eC (.ty "list")) aF))))) (dB (aS (bI hV (aB (aC aI (aA 0) (eC (.int 1))) aF))))))) (cE (eC (.bl false))) eA) M6)
noncomputable def mJ:List D->R D:=cG 2 7 uD
theorem za7(a0:D)(a1:D):mJ [a0,a1]=fin (uD [some a0,some a1,none,none,none,none,none]):=eV (b:=uD) rfl rfl
noncomputable def zA:DSt->R aE:=(dG (aS (aC c7 (aC aI (bI (l5 gE) (aB (aA 2) (aB (aA 7) aF))) (eC (.int 0))) (aA 9))) (cE (eC (.bl false))) eA)
noncomputable def zB:DSt->R aE:=(JL 8 zA)
noncomputable def zC:DSt->R aE:=(yR 8 zB)
noncomputable def zD:DSt->R aE:=(yQ 8 9 zC)
noncomputable def uE:DSt->R aE:=(xU 8 (dB (aS (bI mJ (aB (aA 8) (aB (aK cA (aB (aA 7) aF)) aF))))) (cE (eC (.bl false))) zD)
noncomputable def uF:DSt->R aE:=(dG (aS (aC c7 (cM (fN 1 [0] (c6 (aA 3)) bN (aS (aC dN (aA 0) (aA 8))) (aA 0))) (cM (cS aF)))) (dG (dB (aS (bI oY (aB (aA 2) (aB (aA 7) aF))))) (cE (eC (.bl false))) eA) (LD 8 gE (aB (aA 2) (aB (aA 7) aF)) uE))
noncomputable def M7:DSt->R aE:=(aV (bP 7 (aC a7 (cM (fN 1 [0] (iF i7 (aB (eC (.int 5)) aF)) bN (aS (aC iI (aC cR (aC aI (aA 6) (aA 0)) (eC (.int 4))) (eC (.int 0)))) (aC aI (aA 2) (aA 0)))) (aA 6))) uF)
noncomputable def M8:DSt->R aE:=(aV (bP 6 (eU (cM (fN 1 [0] (c6 (cM (cS (aB (eC (.str "other")) (aB (eC (.str "yetother")) aF))))) bN (aS (aC dN (aA 0) (aA 2))) (aA 0))) fV (dS (aC cR (aC aI (aA 5) (eC (.int 6))) (eC (.int 3)))))) M7)
noncomputable def uG:DSt->R aE:=(aV (bP 5 (bI fS (aB (bI kD (aB (aA 0) (aB (aA 4) aF))) (aB (eC (.int 8)) aF)))) M8)
noncomputable def za8:DSt->R aE:=(cE (eC (.bl true)))
noncomputable def M9:DSt->R aE:=(aV (gR [] [4] bN (iF kO (aB (eC (.int 40)) (aB (aK nM (aB (eC (.int 41)) (aB (aK pW (aB (aK cA (aB (aA 0) aF)) (aB (eC (.int 50)) aF))) aF))) aF))) uG) za8)
noncomputable def NA:DSt->R aE:=(aV (bP 3 (bI qX (aB (aA 2) aF))) M9)
noncomputable def NB:DSt->R aE:=(aV (bP 2 (bI qW (aB (aC a7 (eU (aA 0) (dS (eC (.int 1))) (dS (eC (.int 40)))) (cM (cS (aB (eC (.int 1)) aF)))) (aB (aA 1) aF)))) NA)
noncomputable def uH:DSt->R aE:=(aV (bP 1 (bI qU (aB (bI kD (aB (aA 0) (aB (eC (.int 0)) aF))) (aB (eC (.int 5)) aF)))) NB)
noncomputable def uI:List D->R D:=cG 1 10 uH
theorem za9(a0:D):uI [a0]=fin (uH [some a0,none,none,none,none,none,none,none,none,none]):=eV (b:=uH) rfl rfl
end Mir
section
open L2 DL Mir
local macro_rules | `(tactic| kd_p)=>`(tactic| simp only[c8,eW,CZ,C0,C1,C2,nO,C3,C4,C5,sQ,nQ,C7,C8,C9,DB,DC,DH,DJ,wU,DM,DP,DQ,DR,DU,wV,DV,DX,DY,DZ,D1,D2,D3,D4,D5,D6,D7,D8,D9,EA,EB,EC,ED,EF,EG,nR,EI,wW,EJ,EK,EL,EM,nU,EN,nV,EO,EQ,ER,ES,ET,EU,EV,EW,EZ,E1,E2,E3,E4,kR,E5,nX,E7,E8,sU,FE,FF,FG,FI,FJ,FK,FL,FM,FN,lZ,xD,qB,FP,FV,FW,FX,FY,FZ,GA,GB,GD,GF,GH,GI,GJ,GK,GM,GO,GQ,GR,GU,xF,GV,GW,GX,GY,GZ,HA,HB,HC,HD,HE,HG,HH,HI,HJ,HK,HL,HM,lT,HN,HP,HQ,HR,HS,HU,HV,HW,HX,HY,HZ,H9,eq_self,decide_true,decide_false,Int.reduceEq,Int.reduceLT,Int.reduceLE,Int.reduceNeg,Int.reduceToNat,IA,IB,IC,ID,IE,IF,IG,IH,II,IJ,IK,IL,IM,IP,IQ,IR,IS,IT,xM,xN,qE,sV,l0,IU,IV,IW,IX,nZ,rT,mask,gO,List.contains_cons,List.contains_nil,Bool.or_false,Bool.false_or,Bool.true_or,Bool.or_true,Nat.reduceBEq,Nat.reduceAdd,xco,cond_true,cond_false,xbt,xbs,Bool.not_true,Bool.not_false,Bool.not_not,Bool.true_and,Bool.false_and,Bool.and_true,Bool.and_false])
local macro_rules | `(tactic| walk_at "side")=>`(tactic| first|assumption|decide|omega|(refine fW ?_ ?_<;>omega)|(refine FH ?_ ?_ ?_<;>omega)|(refine W1 ?_ ?_<;>omega)|(simp only[xao,xbo,xa2,xai];omega))
local macro_rules | `(tactic| kst_p1)=>`(tactic| simp(disch:=walk_at "side") only [c8,eW,CZ,C0,C1,C2,nO,C3,C4,C5,sQ,nQ,C7,C8,C9,DB,DC,DH,DJ,wU,DM,DP,DQ,DR,DU,wV,DV,DX,DY,DZ,D1,D2,D3,D4,D5,D6,D7,D8,D9,EA,EB,EC,ED,EF,EG,nR,EI,wW,EJ,EK,EL,EM,nU,EN,nV,EO,EQ,ER,ES,ET,EU,EV,EW,EZ,E1,E2,E3,E4,kR,E5,nX,E7,E8,sU,FE,FF,FG,FI,FJ,FK,FL,FM,FN,lZ,xD,qB,FP,FV,FW,FX,FY,FZ,GA,GB,GD,GF,GH,GI,GJ,GK,GM,GO,GQ,GR,GU,xF,GV,GW,GX,GY,GZ,HA,HB,HC,HD,HE,HG,HH,HI,HJ,HK,HL,HM,lT,HN,HP,HQ,HR,HS,HU,HV,HW,HX,HY,HZ,H9,eq_self,decide_true,decide_false,Int.reduceEq,Int.reduceLT,Int.reduceLE,Int.reduceNeg,Int.reduceToNat,IA,IB,IC,ID,IE,IF,IG,IH,II,IJ,IK,IL,IM,IP,IQ,IR,IS,IT,xM,xN,qE,sV,l0,IU,IV,IW,IX,nZ,rT,mask,gO,List.contains_cons,List.contains_nil,Bool.or_false,Bool.false_or,Bool.true_or,Bool.or_true,Nat.reduceBEq,Nat.reduceAdd,xco,cond_true,cond_false,xbt,xbs,Bool.not_true,Bool.not_false,Bool.not_not,Bool.true_and,Bool.false_and,Bool.and_true,Bool.and_false,j3,xG,jA,WW,WX,WZ,W0,xA,WS,WU,WT])
open L2 DL Mir
namespace LmA
theorem eK{i j:Int}(h:0<j):0<=i%j/\i%j<j:=⟨Int.emod_nonneg _ (by omega),Int.emod_lt_of_pos _ h⟩
theorem zba(c k:Int)(h0:0<=k)(h1:k<=1000):∃r,oR [.int c,.int k]=.ok (.int r)/\0<=r/\r<2305843009213693951:=by
 rw[zaY];unfold tZ LQ LO LN;kd_p
 have m1:=eK (i:=c) (j:=1000000007) (by decide)
 rw[jA _ _ (by decide)];kd_p
 rw[j3 _ _ (fW (by omega) (by omega)) (by decide +kernel),j3 _ k (by decide +kernel) (fW (by omega) (by omega))];kd_p
 rw[j3 _ k (fW (by omega) (by omega)) (fW (by omega) (by omega)),j3 _ k (by decide +kernel) (fW (by omega) (by omega))];kd_p
 rw[jA _ _ (by decide)];kd_p
 generalize ((c%1000000007+1)*6364136223846793005+7919*k*k+31*k)=v
 have m2:=eK (i:=v) (j:=2305843009213693951) (by decide)
 generalize v%2305843009213693951=u at m2 ⊢
 rw[j3 u u (fW (by omega) (by omega)) (fW (by omega) (by omega)),j3 _ k (by decide +kernel) (fW (by omega) (by omega))];kd_p
 rw[j3 _ k (fW (by omega) (by omega)) (fW (by omega) (by omega))];kd_p
 rw[jA _ _ (by decide)];kd_p
 generalize (u*u+69621*k*k+k)=t
 have m3:=eK (i:=t) (j:=2305843009213693951) (by decide)
 generalize t%2305843009213693951=q at m3 ⊢
 rw[j3 q q (fW (by omega) (by omega)) (fW (by omega) (by omega))];kd_p
 rw[jA _ _ (by decide)];kd_p
 exact⟨_,rfl,eK (by decide)⟩
theorem NC(i:Int):hV [.int i]=.ok (.bl true):=by
 rw[zaX];unfold tY;kd_p
end LmA
open L2 DL Mir
open L2 DL Mir
open L2 DL Mir
namespace Lk42
open LmA
theorem eSl_to(fe f:DSt->R D)(σ:DSt)(ds:List D)(n:Nat)(h1:fe σ=.ok (.lst ds))(h2:f σ=.ok (.int (n:Int))):eU fe fV (dS f) σ=.ok (.lst (ds.take n)):=by
 unfold eU fV dS
 rw[h1,h2]
 show R.ok (D.lst (i9 ds none (some (n:Int))))=_
 unfold i9
 rw[HT.sIx_none,HT.sIx_nat,List.drop_zero,Nat.sub_zero,<- List.take_eq_take_min]
end Lk42
open L2 DL Mir
open L2 DL Mir
open L2 DL Mir
open L2 DL Mir
open L2 DL Mir
open L2 DL Mir
open L2 DL Mir
open L2 DL Mir
open L2 DL Mir
open L2 DL Mir
open L2 DL Mir
namespace LmC
open LmA
def cell(ns:List Int)(k:Nat):Int:=ns.getD k 0
theorem zE(ns:List Int)(k:Nat):kD [.lst (ns.map .int),.int (k:Int)]=.ok (.int (cell ns k)):=by
 rw[zaW];unfold tX LM;kd_p
 rw[xai]
 by_cases h:k<ns.length
 ·rw[xah (by omega)];kd_p
  rw[qD (d:=.int ns[k]) (by simp[h])];kd_p
  simp[cell,h]
 ·rw[xax (by omega)];kd_p
  simp[cell,h]
end LmC
open L2 DL Mir
open L2 DL Mir
open L2 DL Mir
namespace LmW
open LmA LmC
structure Dd where
 w:Bool
 a:Nat
 b:Nat
end LmW
open L2 DL Mir
namespace LmX
open LmA LmC LmW
theorem eSl_mid(fe f g:DSt->R D)(σ:DSt)(ds:List D)(a b:Nat)(h1:fe σ=.ok (.lst ds))(h2:f σ=.ok (.int (a:Int)))(h3:g σ=.ok (.int (b:Int))):eU fe (dS f) (dS g) σ=.ok (.lst ((ds.drop (min a ds.length)).take (min b ds.length-min a ds.length))):=by
 unfold eU dS
 rw[h1,h2,h3]
 show R.ok (D.lst (i9 ds (some (a:Int)) (some (b:Int))))=_
 unfold i9
 rw[HT.sIx_nat,HT.sIx_nat]
end LmX
open L2 DL Mir
open L2 DL Mir
namespace LmY
open LmA LmW LmX TxtA
theorem zbb{n:Nat}(h:n<10^70):sZ [.int (n:Int)]=.ok (.str (aQ (kL n))):=by
 show sY (.int (n:Int))=_
 have hl:((n:Int)).natAbs.log2<1920:=by
  rw[Int.natAbs_natCast]
  have:n.log2<=n:=Nat.log2_le_self n
  by_cases h0:n=0
  ·rw[h0];decide
  ·exact(Nat.log2_lt h0).mpr (xan h (by decide))
 show (bif decide (((n:Int)).natAbs.log2<1920) then R.ok (D.str (toString ((n:Nat):Int))) else .bad)=_
 rw[xah hl,cond_true]
 show R.ok (D.str (Str.ofString (toString ((n:Nat):Int))))=_
 rw[ofS]
theorem ND:∀ys:List Str,dW (ys.map D.str)=some ys
 |[]=>rfl
 |y::ys=>by
  show (dW (ys.map D.str)).map (y::·)=_
  rw[ND ys];rfl
theorem NF(z:Str)(ys:List Str):jD z ys=Str.join z ys:=by
 unfold jD
 split
 ·rfl
 ·exact StrLaws.glued_eq_join z ys
theorem zbc(z:Str)(ys:List Str):n4 z ys=(ys.map (·.length)).sum+ys.length*z.length:=StrLaws.joinTotal z ys
theorem zbd{y:List Nat}{rows:List (List Nat)}{B:Nat}(hB:∀r∈rows,r.length<=B)(h:rows.length*B+rows.length*y.length<=10000000):jE (.str (aQ y)) (.lst ((rows.map aQ).map D.str))=.ok (.str (aQ (TxtA.flat y rows))):=by
 have lo:∀l:List Nat,(aQ l).length=l.length:=fun l=>by simp[aQ,Str.length]
 have h1:n4 (aQ y) (rows.map aQ)<=10000000:=by
  rw[zbc,lo,xai]
  have:=StrLaws.sumLen_le (B:=B) (rows.map aQ) (fun s hs=>by obtain⟨r,hr,rfl⟩:=xby.mp hs;rw[lo];exact hB r hr)
  rw[xai] at this
  omega
 have h2:(jD (aQ y) (rows.map aQ)).length<=10000000:=by
  rw[NF,vN,lo]
  have fl:∀rows:List (List Nat),(∀r∈rows,r.length<=B)->(TxtA.flat y rows).length<=rows.length*B+rows.length*y.length:=by
   intro rows
   induction rows with
   |nil=>intro _;simp[TxtA.flat]
   |cons r rs ih=>
    intro hr
    cases rs with
    |nil=>have:=hr r (by simp);simp[TxtA.flat];omega
    |cons r' rs=>
     have a1:=hr r (by simp)
     have a2:=ih fun q hq=>hr q (xas _ hq)
     rw[TxtA.flat]
     simp only[xa2,xao] at a2 ⊢
     rw[Nat.add_mul (rs.length+1) 1 B,Nat.add_mul (rs.length+1) 1 y.length]
     omega
  exact xaz (fl rows hB) h
 unfold jE
 simp only[ND]
 rw[show (cQ (n4 (aQ y) (rows.map aQ))&&cQ (jD (aQ y) (rows.map aQ)).length)=true from by
  rw[xap];exact⟨xah (xaz h1 (by decide)),xah (xaz h2 (by decide))⟩,cond_true,NF,vN]
end LmY
open L2 DL Mir
namespace LmWa
open LmA LmY TxtA
theorem zF(c:Int)(N:Nat)(hN:N<=1000):∃ns:List Int,fS [.int c,.int (N:Int)]=.ok (.lst (ns.map .int))/\ns.length=N/\∀n∈ns,0<=n/\n<1000000:=by
 rw[zaZ];unfold t0;kd_p
 unfold LX;kst_p1
 unfold LW;kst_p1
 rw[xcd]
 have turn:∀(j:Nat) (d:D) (σ:DSt),(dE 0 N)[j]? = some d->(∃(ns:List Int) (v:Int) (a:Option D),σ=[some (.int c),some (.int (N:Int)),some (.lst (ns.map .int)),some (.int v),a]/\ns.length=j/\∀n∈ns,0<=n/\n<1000000)->∃σ',(qS (σ.set 4 (some d))=.ok (.nx σ')\/qS (σ.set 4 (some d))=.ok (.ct σ'))/\∃(ns:List Int) (v:Int) (a:Option D),σ'=[some (.int c),some (.int (N:Int)),some (.lst (ns.map .int)),some (.int v),a]/\ns.length=j+1/\∀n∈ns,0<=n/\n<1000000:=by
  rintro j d σ hd ⟨ns,v,a,rfl,hl,hb⟩
  have hj:j<N:=by
   have:=(xaf.mp hd).1
   simpa [dE] using this
  obtain rfl:d=.int (j:Int):=by
   unfold dE at hd
   rw[xbd,xcs hj] at hd
   simpa using hd.symm
  have put:∀x:Int,0<=x->x<1000000->(ns++[x]).length=j+1/\∀n∈ns++[x],0<=n/\n<1000000:=fun x h0 h1=>by
   refine⟨by simp[hl],fun n hn=>?_⟩
   rcases xbe.mp hn with hn|hn
   ·exact hb n hn
   ·rw[xbg.mp hn];exact⟨h0,h1⟩
  unfold qS;kst_p1
  obtain⟨k,hk⟩:∃k,sR (.ok (decide (c%2=0))) (aS (aC iI (aA 3) (eC (.int 0)))) [some (.int c),some (.int (N:Int)),some (.lst (ns.map .int)),some (.int v),some (.int (j:Int))]=.ok k:=by
   cases decide (c%2=0)
   ·exact⟨_,rfl⟩
   ·kd_p;exact⟨_,rfl⟩
  rw[hk]
  cases k with
  |true=>
   kd_p
   unfold LU;kst_p1
   have e:=eK (i:=v) (j:=10^6) (by decide)
   unfold LR;kst_p1
   obtain⟨p1,p2⟩:=put (v%10^6) (by omega) (by omega)
   exact⟨_,.inl rfl,ns++[v%10^6],v/10^6,some (.int (j:Int)),by rw[xa9];rfl,p1,p2⟩
  |false=>
   kd_p
   obtain⟨r,er,r0,r1⟩:=zba c (j:Int) (by omega) (by omega)
   rw[er];kst_p1
   have e:=eK (i:=r) (j:=10^6) (by decide)
   obtain⟨p1,p2⟩:=put (r%10^6) (by omega) (by omega)
   exact⟨_,.inl rfl,ns++[r%10^6],v,some (.int (j:Int)),by rw[xa9];rfl,p1,p2⟩
 obtain⟨σ',e,ns,v,a,rfl,hl,hb⟩:=xP (i:=4) (fb:=qS) _ _ turn [some (.int c),some (.int (N:Int)),some (.lst []),some (.int (c/2)),none] ⟨[],c/2,none,rfl,rfl,by simp⟩
 rw[e];kd_p
 unfold LV;kd_p
 exact⟨ns,rfl,by rw[hl];simp[dE],hb⟩
end LmWa
open L2 DL Mir
namespace LmWb
open LmA LmY LmWa TxtA
inductive Sg where|plus|minus|times|over
def Sg.str:Sg->Str
 |.plus=>"+"|.minus=>"-"|.times=>"*"|.over=>"/"
inductive Tr where
 |nm (x:Str)|nb (i:Int)|op (s:Sg) (a b:Tr)
def Tr.d:Tr->D
 |.nm x=>.tup [.str "name",.str x]
 |.nb i=>.tup [.str "number",.int i]
 |.op s a b=>.tup [.str s.str,a.d,b.d]
def Tr.many:Tr->Nat
 |.nm _=>1|.nb _=>1|.op _ a b=>a.many+b.many
theorem Tr.pos:∀t:Tr,0<t.many
 |.nm _=>Nat.one_pos|.nb _=>Nat.one_pos
 |.op _ a b=>by have:=a.pos;show 0<a.many+b.many;omega
end LmWb
open L2 DL Mir
namespace LmWc
open LmA LmY LmWa LmWb TxtA
theorem mK(a b:D):aI (.tup [a,b]) (.int 0)=.ok a:=(rfl)
theorem oZ(a b:D):aI (.tup [a,b]) (.int 1)=.ok b:=(rfl)
def o0:Tr->Prop
 |.nb i=>0<=i/\i<10000000000
 |.op _ a b=>o0 a/\o0 b
 |.nm _=>True
end LmWc
open L2 DL Mir
namespace LmWd
open LmA LmY LmWa LmWb LmWc TxtA
def Tr.size:Tr->Nat
 |.nm _=>1|.nb _=>1|.op _ a b=>1+Tr.size a+Tr.size b
theorem uJ:∀t:Tr,Tr.size t+1=2*t.many
 |.nm _=>rfl|.nb _=>rfl
 |.op _ a b=>by have:=uJ a;have:=uJ b;show 1+Tr.size a+Tr.size b+1=2*(a.many+b.many);omega
def pre:Tr->List D
 |.nm x=>[Tr.d (.nm x)]|.nb i=>[Tr.d (.nb i)]|.op s a b=>Tr.d (.op s a b)::(pre b++pre a)
def post:Tr->List D
 |.nm x=>[Tr.d (.nm x)]|.nb i=>[Tr.d (.nb i)]|.op s a b=>post a++post b++[Tr.d (.op s a b)]
theorem zG:∀t:Tr,(pre t).reverse=post t
 |.nm _=>rfl|.nb _=>rfl
 |.op s a b=>by
  show (Tr.d (.op s a b)::(pre b++pre a)).reverse=post a++post b++[Tr.d (.op s a b)]
  rw[xbm,List.reverse_append,zG a,zG b]
theorem zH{i j:Nat}{σ:DSt}{xs:List D}{d:D}(h:bL σ i=.ok (xs++[d])):n9 i j σ=.ok (.nx ((σ.set i (some (.lst xs))).set j (some d))):=by
 show (bL σ i).bind _=_
 rw[h]
 show (match (xs++[d])[(xs++[d]).length-1]? with
  |some d'=>R.ok (aE.nx ((σ.set i (some (.lst (xs++[d]).dropLast))).set j (some d')))
  |none=>.bad)=_
 have e:(xs++[d])[(xs++[d]).length-1]? = some d:=by simp
 rw[e]
 simp
def iP(ws:List Tr):Nat:=(ws.map Tr.size).sum
theorem zI(ws:List Tr)(t:Tr):iP (ws++[t])=iP ws+Tr.size t:=by unfold iP;simp
theorem NG:∀t:Tr,0<Tr.size t:=fun t=>by have:=uJ t;have:=t.pos;omega
theorem zbe(e:D):∀(n:Nat) (ws:List Tr) (ps:List D) (z:Option D),iP ws=n->ps.length+n<=100000->
  ∃z',cV oQ qR [some e,some (.lst ps),some (.lst (ws.map Tr.d)),z]=.ok (.nx [some e,some (.lst (ps++ws.reverse.flatMap pre)),some (.lst []),z']):=by
 intro n
 induction n using Nat.strongRecOn with
 |_ n ih=>
  intro ws ps z hn hl
  rcases xcj ws with rfl|⟨ws',t,rfl⟩
  ·refine⟨z,?_⟩
   rw[xQ (by unfold oQ;kd_p;rfl)]
   simp
  ·rw[xck] at *
   rw[zI] at hn
   have hp:=NG t
   have hc:oQ [some e,some (.lst ps),some (.lst ((ws'++[t]).map Tr.d)),z]=.ok true:=by
    unfold oQ;kd_p
    rw[xah (by simp)]
   have pop:n9 2 3 [some e,some (.lst ps),some (.lst ((ws'++[t]).map Tr.d)),z]=.ok (.nx [some e,some (.lst ps),some (.lst (ws'.map Tr.d)),some t.d]):=zH (xs:=ws'.map Tr.d) (d:=t.d) (by rw[xa9];rfl)
   have app:∀g,j0 (jY [2,1] 1 (aA 3) [some e,some (.lst ps),some (.lst (ws'.map Tr.d)),some t.d]) g=g [some e,some (.lst (ps++[t.d])),some (.lst (ws'.map Tr.d)),some t.d]:=fun g=>by
    rw[sU,show bL [some e,some (.lst ps),some (.lst (ws'.map Tr.d)),some t.d] 1=.ok ps from rfl,show aA 3 (mask [2,1] [some e,some (.lst ps),some (.lst (ws'.map Tr.d)),some t.d])=.ok t.d from rfl,xA _ _ _ _ (by omega)]
    rfl
   have leaf:∀c:Str,eX (.str c) kC=.ok (.bl false)->(∃y,t.d=.tup [.str c,y])->pre t=[t.d]->∃z',cV oQ qR [some e,some (.lst ps),some (.lst ((ws'++[t]).map Tr.d)),z]=.ok (.nx [some e,some (.lst (ps++(ws'++[t]).reverse.flatMap pre)),some (.lst []),z']):=by
    intro c hg ⟨y,hy⟩ hpre
    obtain⟨z',hz⟩:=ih (iP ws') (by omega) ws' (ps++[t.d]) (some t.d) rfl (by rw[xa2];show ps.length+1+_<=_;omega)
    refine⟨z',?_⟩
    rw[sW hc (σ':=[some e,some (.lst (ps++[t.d])),some (.lst (ws'.map Tr.d)),some t.d]) ?_,hz]
    ·rw[List.reverse_append,List.flatMap_append,show [t].reverse.flatMap pre=[t.d] by simp[hpre],List.append_assoc]
    ·unfold qR yT yS
     rw[c8,pop,eW,c8,app];kd_p
     rw[hy,mK];kd_p
     rw[hg];kd_p
   cases t with
   |nm x=>exact leaf "name" rfl ⟨_,rfl⟩ rfl
   |nb i=>exact leaf "number" rfl ⟨_,rfl⟩ rfl
   |op s a b=>
    have hsz:Tr.size (.op s a b)=1+Tr.size a+Tr.size b:=rfl
    have hab:iP (ws'++[a]++[b])=iP ws'+Tr.size a+Tr.size b:=by rw[zI,zI]
    have hlen:ws'.length<=iP ws':=by
     unfold iP
     clear pop app leaf hc hab hn hl ih
     induction ws' with
     |nil=>simp
     |cons w ws ih=>have:=NG w;simp only[xa5,List.sum_cons,xao];omega
    obtain⟨z',hz⟩:=ih (iP (ws'++[a]++[b])) (by omega) (ws'++[a]++[b]) (ps++[Tr.d (.op s a b)]) (some (Tr.d (.op s a b))) rfl (by rw[xa2];show ps.length+1+_<=_;omega)
    refine⟨z',?_⟩
    rw[sW hc (σ':=[some e,some (.lst (ps++[Tr.d (.op s a b)])),some (.lst ((ws'++[a]++[b]).map Tr.d)),some (Tr.d (.op s a b))]) ?_,hz]
    ·simp[pre,List.append_assoc]
    ·unfold qR yT yS
     rw[c8,pop,eW,c8,app];kd_p
     rw[show Tr.d (.op s a b)=.tup [.str s.str,a.d,b.d] from rfl];kd_p
     rw[show eX (.str s.str) kC=.ok (.bl true) from by cases s<;>rfl];kd_p
     rw[YO,show bL [some e,some (.lst (ps++[.tup [.str s.str,a.d,b.d]])),some (.lst (ws'.map Tr.d)),some (.tup [.str s.str,a.d,b.d])] 2=.ok (ws'.map Tr.d) from rfl,
      show eU (aA 3) (dS (eC (.int 1))) fV (mask [2,1] [some e,some (.lst (ps++[.tup [.str s.str,a.d,b.d]])),some (.lst (ws'.map Tr.d)),some (.tup [.str s.str,a.d,b.d])])=.ok (.tup [a.d,b.d]) from rfl,
      YQ _ _ _ _ (by simp only[xai,xao,xbo];omega)]
     simp
theorem zbf(t:Tr)(h:t.many<=200):hU [t.d]=.ok (.lst (post t)):=by
 have hs:=uJ t
 rw[zaS];unfold tU LI LH LG LF;kd_p
 obtain⟨z',hz⟩:=zbe t.d (iP [t]) [t] [] none rfl (by show 0+(Tr.size t+0)<=_;omega)
 rw[show [some t.d,some (D.lst []),some (D.lst [t.d]),none]=[some t.d,some (.lst []),some (.lst ([t].map Tr.d)),none] from rfl,hz];kd_p
 rw[<- zG]
 simp only[xbm,List.reverse_nil,xcq,List.flatMap_cons,List.flatMap_nil,xbn]
 rfl
end LmWd
open L2 DL Mir
open L2 DL Mir
namespace LmWf
open LmA LmY LmWa LmWb LmWc TxtA
theorem iQ(ns:List Int)(hb:∀n∈ns,0<=n/\n<1000000)(j:Nat)(h:j<ns.length):∃d:Int,aI (.lst (ns.map .int)) (.int (j:Int))=.ok (.int d)/\0<=d/\d<1000000:=
 ⟨ns[j],qD (by rw[xbd,xa0 h];rfl),(hb _ (xb5 h)).1,(hb _ (xb5 h)).2⟩
structure Pn(x:Str):Prop where
 ex:∃l:List Nat,x=aQ l/\l.length<=8/\l≠[]/\∀c∈l,97<=c/\c<=122
def dP:Tr->Prop
 |.nm x=>Pn x
 |.nb i=>0<=i/\i<1000000000
 |.op _ a b=>dP a/\dP b
theorem dP.nums:∀{t:Tr},dP t->o0 t
 |.nm _,_=>trivial
 |.nb _,h=>⟨h.1,by have:=h.2;omega⟩
 |.op _ _ _,h=>⟨dP.nums h.1,dP.nums h.2⟩
end LmWf
open L2 DL Mir
namespace LmWg
open LmA LmY LmWa LmWb LmWc LmWf TxtA
def k6:Str:="abcdefghijklmnopqrstuvwxyz"
theorem NH(r:Int)(h0:0<=r)(h1:r<26):fH (.str k6) (.int r)=.ok (.str (aQ [97+r.toNat])):=by
 obtain⟨j,rfl⟩:∃j:Nat,r=(j:Int):=⟨r.toNat,by omega⟩
 have hj:j<26:=by omega
 have hc:k6.cps=((List.range 26).map (97 + ·)).toArray:=by rfl
 show (bif decide (0<=(j:Int))&&Nat.blt (j:Int).natAbs 1073741824 then (match k6.cps[(j:Int).toNat]? with
  |some c=>R.ok (D.str (fX c))
  |none=>.bad) else .bad)=_
 rw[xah h0,show Nat.blt (j:Int).natAbs 1073741824=true from by rw[xcn];omega,hc,xcd]
 rw[List.getElem?_toArray,xbd,xcs hj]
 rfl
theorem zbg(a b:List Nat):(aQ a:Str)++aQ b=aQ (a++b):=by
 show (⟨(aQ a).cps++(aQ b).cps⟩:Str)=_
 unfold aQ
 simp
theorem uK{a b:List Nat}(h:a.length+b.length<=1000000):a7 (.str (aQ a)) (.str (aQ b))=.ok (.str (aQ (a++b))):=by
 show (bif cQ ((aQ a).length+(aQ b).length) then R.ok (D.str (aQ a++aQ b)) else .bad)=_
 rw[show cQ ((aQ a).length+(aQ b).length)=true from xah (by show a.toArray.size+b.toArray.size<=_;rw[xaj,xaj];exact xaz h (by decide)),zbg];rfl
theorem ofL_inj{a b:List Nat}(h:aQ a=aQ b):a=b:=by
 have:=congrArg (fun z:Str=>z.cps.toList) h
 simpa [aQ] using this
theorem zbh(c:Int):∃ns:List Str,qU [.int c,.int 5]=.ok (.lst (ns.map .str))/\ns.length=5/\ns.Nodup/\∀x∈ns,Pn x:=by
 obtain⟨ns,e,hl,hb⟩:=zF c 12 (by decide)
 have e:fS [.int c,.int 12]=.ok (.lst (ns.map .int)):=e
 obtain⟨d8,g8,a8,b8⟩:=iQ ns hb 8 (by omega)
 obtain⟨d9,g9,a9,b9⟩:=iQ ns hb 9 (by omega)
 obtain⟨d10,g10,a10,b10⟩:=iQ ns hb 10 (by omega)
 obtain⟨d11,g11,a11,b11⟩:=iQ ns hb 11 (by omega)
 have g8:aI (.lst (ns.map .int)) (.int 8)=.ok (.int d8):=g8
 have g9:aI (.lst (ns.map .int)) (.int 9)=.ok (.int d9):=g9
 have g10:aI (.lst (ns.map .int)) (.int 10)=.ok (.int d10):=g10
 have g11:aI (.lst (ns.map .int)) (.int 11)=.ok (.int d11):=g11
 rw[za0];unfold t2 L7 L6 L5;kd_p
 rw[e];kd_p
 rw[g10];kst_p1
 have m10:=eK (i:=d10) (j:=8) (by decide)
 rw[show ("abcdefghijklmnopqrstuvwxyz":Str)=k6 from rfl,show (D.str "")=.str (aQ []) from rfl]
 have turn:∀(j:Nat) (d:D) (σ:DSt),(dE 0 (d10%8).toNat)[j]? = some d->(∃(l:List Nat) (z:Option D),σ=[some (.int c),some (.int 5),some (.str k6),some (.lst (ns.map .int)),some (.str (aQ l)),z]/\l.length=j/\∀c∈l,97<=c/\c<=122)->
   ∃σ',(qT (σ.set 5 (some d))=.ok (.nx σ')\/qT (σ.set 5 (some d))=.ok (.ct σ'))/\∃(l:List Nat) (z:Option D),σ'=[some (.int c),some (.int 5),some (.str k6),some (.lst (ns.map .int)),some (.str (aQ l)),z]/\l.length=j+1/\∀c∈l,97<=c/\c<=122:=by
  rintro j d σ hd ⟨l,z,rfl,hl,hc⟩
  have hj:j<(d10%8).toNat:=by
   have:=(xaf.mp hd).1
   simpa [dE] using this
  obtain rfl:d=.int (j:Int):=by
   unfold dE at hd
   rw[xbd,xcs hj] at hd
   simpa using hd.symm
  unfold qT;kd_p
  rw[g11]
  rw[show j2 (.ok [D.int 1,.int 26,.int 676,.int 17576,.int 5,.int 9,.int 77])=.ok [D.int 1,.int 26,.int 676,.int 17576,.int 5,.int 9,.int 77] from rfl];kd_p
  obtain⟨q,hq,hq0,hq1⟩:∃q:Int,aI (.lst [.int 1,.int 26,.int 676,.int 17576,.int 5,.int 9,.int 77]) (.int (j:Int))=.ok (.int q)/\0<q/\q<=20000:=by
   have:j=0\/j=1\/j=2\/j=3\/j=4\/j=5\/j=6:=by omega
   rcases this with rfl|rfl|rfl|rfl|rfl|rfl|rfl
   ·exact⟨1,rfl,by decide,by decide⟩
   ·exact⟨26,rfl,by decide,by decide⟩
   ·exact⟨676,rfl,by decide,by decide⟩
   ·exact⟨17576,rfl,by decide,by decide⟩
   ·exact⟨5,rfl,by decide,by decide⟩
   ·exact⟨9,rfl,by decide,by decide⟩
   ·exact⟨77,rfl,by decide,by decide⟩
  rw[hq];kd_p
  rw[xG _ _ (FH (by omega) (by omega) (by omega)) hq0];kd_p
  rw[jA _ _ (by decide)];kd_p
  have m:=eK (i:=d11/q) (j:=26) (by decide)
  rw[NH _ m.1 m.2];kd_p
  rw[uK (by simp;omega)];kd_p
  refine⟨_,.inl rfl,l++[97+(d11/q%26).toNat],_,rfl,by simp[hl],fun x hx=>?_⟩
  rcases xbe.mp hx with h|h
  ·exact hc x h
  ·rw[xbg.mp h];omega
 obtain⟨σ',e2,l,z,rfl,hl2,hc⟩:=xP (i:=5) (fb:=qT) _ _ turn [some (.int c),some (.int 5),some (.str k6),some (.lst (ns.map .int)),some (.str (aQ [])),none] ⟨[],none,rfl,rfl,by simp⟩
 have hl7:l.length<=7:=by
  have:(dE 0 (d10%8).toNat).length=(d10%8).toNat:=by simp[dE]
  omega
 rw[e2];kd_p
 unfold LZ;kd_p
 rw[g8];kst_p1
 by_cases h:d8%4=1
 ·rw[xah h];kd_p
  rw[Lk42.eSl_to _ _ _ [D.str "end",.str "x",.str "times",.str "rule",.str "ends",.str "xx"] 5 rfl rfl];kd_p
  refine⟨["end","x","times","rule","ends"],rfl,rfl,by decide,fun x hx=>?_⟩
  simp only[xa1,xbi,or_false] at hx
  rcases hx with rfl|rfl|rfl|rfl|rfl
  ·exact⟨[101,110,100],rfl,by decide,by decide,by decide⟩
  ·exact⟨[120],rfl,by decide,by decide,by decide⟩
  ·exact⟨[116,105,109,101,115],rfl,by decide,by decide,by decide⟩
  ·exact⟨[114,117,108,101],rfl,by decide,by decide,by decide⟩
  ·exact⟨[101,110,100,115],rfl,by decide,by decide,by decide⟩
 ·rw[xax h];kd_p
  unfold LY;kst_p1
  have nm:∀k:Int,lX a7 (lX fH (.ok (.str k6)) (lX cR (lX a7 (.ok (.int d9)) (.ok (.int k))) (.ok (.int 26)))) (.ok (.str (aQ l)))=.ok (.str (aQ ((97+((d9+k)%26).toNat)::l))):=fun k=>by
   have m:=eK (i:=d9+k) (j:=26) (by decide)
   rw[nQ,xF,nQ,jA _ _ (by decide),nQ,NH _ m.1 m.2,nQ,uK (by simp;omega)];rfl
  rw[show dE 0 5=[D.int 0,.int 1,.int 2,.int 3,.int 4] from rfl]
  rw[W2 (g:=fun d=>match d with|.int k=>.str (aQ ((97+((d9+k)%26).toNat)::l))|_=>.non) (by decide) (fun d hd=>?_)]
  ·kd_p
   refine⟨[0,1,2,3,4].map fun k:Int=>aQ ((97+((d9+k)%26).toNat)::l),rfl,rfl,?_,fun x hx=>?_⟩
   ·have ne:∀i j:Int,0<=i->i<5->0<=j->j<5->i≠j->aQ ((97+((d9+i)%26).toNat)::l)≠aQ ((97+((d9+j)%26).toNat)::l):=fun i j h1 h2 h3 h4 h5 h6=>by
     have:=ofL_inj h6
     injection this with h7 _
     omega
    simp only[xa5,xcc,xbz,xa1,xbi,or_false,not_or,not_false_eq_true,List.nodup_nil,and_true]
    refine⟨⟨?_,?_,?_,?_⟩,⟨?_,?_,?_⟩,⟨?_,?_⟩,?_⟩<;>exact ne _ _ (by decide) (by decide) (by decide) (by decide) (by decide)
   ·obtain⟨k,hk,rfl⟩:=xby.mp hx
    refine⟨_,rfl,by simp;omega,by simp,fun y hy=>?_⟩
    rcases xa1.mp hy with rfl|hy
    ·have:=eK (i:=d9+k) (j:=26) (by decide);omega
    ·exact hc y hy
  ·simp only[xa1,xbi,or_false] at hd
   rcases hd with rfl|rfl|rfl|rfl|rfl<;>(kd_p;rw[g9];exact nm _)
end LmWg
open L2 DL Mir
namespace LmWh
open LmA LmY LmWa LmWb LmWc LmWd LmWf LmWg TxtA
def gF(ts:List Tr):Nat:=(ts.map Tr.many).sum
theorem mL(ts:List Tr)(t:Tr):gF (ts++[t])=gF ts+t.many:=by unfold gF;simp
theorem zJ:∀ts:List Tr,ts.length<=gF ts
 |[]=>xbc _
 |t::ts=>by have:=zJ ts;have:=t.pos;unfold gF at *;simp only[xa5,List.sum_cons,xao];omega
theorem sg1(r:Int)(h0:0<=r)(h1:r<4):∃s:Sg,fH (.str "+-*/") (.int r)=.ok (.str s.str):=by
 have:r=0\/r=1\/r=2\/r=3:=by omega
 rcases this with rfl|rfl|rfl|rfl
 ·exact⟨.plus,rfl⟩
 ·exact⟨.minus,rfl⟩
 ·exact⟨.times,rfl⟩
 ·exact⟨.over,rfl⟩
theorem sg2(r:Int)(h0:0<=r)(h1:r<4):∃s:Sg,fH (.str "-+/*") (.int r)=.ok (.str s.str):=by
 have:r=0\/r=1\/r=2\/r=3:=by omega
 rcases this with rfl|rfl|rfl|rfl
 ·exact⟨.minus,rfl⟩
 ·exact⟨.plus,rfl⟩
 ·exact⟨.over,rfl⟩
 ·exact⟨.times,rfl⟩
section
variable{a b z3 z4:Option D}{xs:List D}{d x d1:D}{f1:DSt->R D}
theorem zbk(h:f1 [a,b,none,z3,z4,some x]=.ok d1)(hl:xs.length<=1000000) :
  qF [2] 2 2 f1 (aA 5) [a,b,some (.lst (xs++[d])),z3,z4,some x]=.ok (.nx [a,b,some (.lst (xs++[.tup [d1,d,x]])),z3,z4,some x]):=by
 unfold qF
 rw[show bL [a,b,some (.lst (xs++[d])),z3,z4,some x] 2=.ok (xs++[d]) from rfl,show mask [2] [a,b,some (.lst (xs++[d])),z3,z4,some x]=[a,b,none,z3,z4,some x] from rfl,h]
 show (match (xs++[d])[(xs++[d]).length-1]? with
  |some e=>R.bind (.ok x) fun d2=>R.bind (.ok (xs++[d]).dropLast) fun ys=>bif most ys.length then R.ok (aE.nx [a,b,some (.lst (ys++[D.tup [d1,e,d2]])),z3,z4,some x]) else .bad
  |none=>.bad)=_
 have e:(xs++[d])[(xs++[d]).length-1]? = some d:=by simp
 rw[e,xcr]
 show (bif most xs.length then R.ok (aE.nx [a,b,some (.lst (xs++[.tup [d1,d,x]])),z3,z4,some x]) else .bad)=_
 rw[j4 hl];rfl
theorem zbl(h:f1 [a,b,some (.lst (xs++[d])),z3,z4,some x]=.ok d1)(hi:imm d1=true)(hl:xs.length<=1000000) :
  qL [2] 2 2 f1 (aA 5) [a,b,some (.lst (xs++[d])),z3,z4,some x]=.ok (.nx [a,b,some (.lst (xs++[.tup [d1,d,x]])),z3,z4,some x]):=by
 unfold qL
 rw[show bL [a,b,some (.lst (xs++[d])),z3,z4,some x] 2=.ok (xs++[d]) from rfl,h]
 show (bif imm d1 then (match (xs++[d])[(xs++[d]).length-1]? with
  |some e=>R.bind (.ok x) fun d2=>R.bind (.ok (xs++[d]).dropLast) fun ys=>bif most ys.length then R.ok (aE.nx [a,b,some (.lst (ys++[D.tup [d1,e,d2]])),z3,z4,some x]) else .bad
  |none=>.bad) else .bad)=_
 have e:(xs++[d])[(xs++[d]).length-1]? = some d:=by simp
 rw[hi,e,xcr]
 show (bif most xs.length then R.ok (aE.nx [a,b,some (.lst (xs++[.tup [d1,d,x]])),z3,z4,some x]) else .bad)=_
 rw[j4 hl];rfl
end
theorem NI{α:Type}(ts:List α)(h:1<ts.length):∃us a b,ts=us++[a]++[b]:=by
 rcases xcj ts with rfl|⟨l,b,rfl⟩
 ·simp at h
 ·rw[xck] at *
  rcases xcj l with rfl|⟨us,a,rfl⟩
  ·simp at h
  ·exact⟨us,a,b,by rw[xck]⟩
end LmWh
open L2 DL Mir
namespace LmWi
open LmA LmY LmWa LmWb LmWc LmWd LmWf LmWg LmWh TxtA
theorem zbm(l:List Nat):∃d:Int,oU [.str (aQ l)]=.ok (.int d)/\((∀c∈l,c≠40/\c≠41)->d=0):=by
 rw[za3];unfold t8 MQ MP MN;kd_p
 rw[show xL [3] bN mH (xR (aA 0) [some (.str (aQ l)),some (.int 0),some (.int 0),none]) [some (.str (aQ l)),some (.int 0),some (.int 0),none]=cY [3] bN mH (jC (aQ l)) [some (.str (aQ l)),some (.int 0),some (.int 0),none] from rfl]
 have hs:jC (aQ l)=l.map fun c=>.str (fX c):=by unfold jC aQ;simp
 obtain⟨σ',e,d,m,z,rfl,h⟩:=xO (i:=3) (fb:=mH) (fun σ=>∃(d m:Int) (z:Option D),σ=[some (.str (aQ l)),some (.int d),some (.int m),z]/\((∀c∈l,c≠40/\c≠41)->d=0/\m=0)) (jC (aQ l)) (by
  rintro x hx σ ⟨d,m,z,rfl,h⟩
  rw[hs] at hx
  obtain⟨c,hc,rfl⟩:=xby.mp hx
  show ∃σ',(mH [some (.str (aQ l)),some (.int d),some (.int m),some (.str (fX c))]=.ok (.nx σ')\/mH [some (.str (aQ l)),some (.int d),some (.int m),some (.str (fX c))]=.ok (.ct σ'))/\_
  unfold mH MM;kd_p
  rw[nY (show eE (.str (fX c)) (.str "(")=true from rfl),nY (show eE (.str (fX c)) (.str ")")=true from rfl)];kd_p
  refine⟨_,.inl rfl,_,_,_,rfl,fun hh=>?_⟩
  obtain⟨h1,h2⟩:=h hh
  have q:∀(k:Nat) (y:Str),y=aQ [k]->c≠k->aZ (.str (fX c)) (.str y)=false:=fun k y hy hk=>by
   subst hy
   unfold aZ
   show decide (fX c=aQ [k])=false
   refine xax fun hz=>hk ?_
   have:=LmWg.ofL_inj (a:=[c]) (b:=[k]) hz
   injection this
  rw[q 40 "(" rfl (hh c hc).1,q 41 ")" rfl (hh c hc).2,h1,h2]
  decide) [some (.str (aQ l)),some (.int 0),some (.int 0),none] ⟨0,0,none,rfl,fun _=>⟨rfl,rfl⟩⟩
 rw[e];kd_p
 exact⟨m,rfl,fun hh=>(h hh).2⟩
theorem zK:∀(t:Tr) (n:Nat) (k:Int),dP t->t.many<=n->t.many<=1000->∃l:List Nat,jK n [t.d,.int k]=.ok (.str (aQ l))/\l.length+5<=15*t.many/\(t.many=1->∀c∈l,c≠40/\c≠41)
 |.nm x,n,k,hg,hn,_=>by
  obtain⟨j,rfl⟩:∃j,n=j+1:=⟨n-1,by have:1<=n:=hn;omega⟩
  obtain⟨l,rfl,h1,_,h2⟩:=hg.ex
  rw[yX];unfold kZ;kd_p
  unfold Tr.d;simp only[mK,oZ];kd_p
  rw[show bX (.str "name") (.str "name")=.ok (.bl true) from rfl];kd_p
  simp only[mK,oZ];kd_p
  exact⟨l,rfl,by show l.length+5<=15*1;omega,fun _ c hc=>by have:=h2 c hc;omega⟩
 |.nb i,n,k,hg,hn,_=>by
  obtain⟨j,rfl⟩:∃j,n=j+1:=⟨n-1,by have:1<=n:=hn;omega⟩
  obtain⟨h1,h2⟩:=hg
  obtain⟨m,rfl⟩:∃m:Nat,i=(m:Int):=⟨i.toNat,by omega⟩
  rw[yX];unfold kZ yW;kd_p
  unfold Tr.d;simp only[mK,oZ];kd_p
  rw[show bX (.str "number") (.str "name")=.ok (.bl false) from rfl];kd_p
  simp only[mK,oZ];kd_p
  rw[show bX (.str "number") (.str "number")=.ok (.bl true) from rfl];kd_p
  simp only[mK,oZ];kd_p
  have hm:m<10^10:=by omega
  rw[zbb (xan hm (by decide))];kd_p
  refine⟨kL m,rfl,?_,fun _ c hc=>?_⟩
  ·have:=UD (by decide) hm
   show (kL m).length+5<=15*1
   omega
  ·have:=UC m c hc
   obtain⟨q1,q2⟩:48<=c/\c<=57:=this
   omega
 |.op s a b,n,k,hg,hn,h2=>by
  have pa:=a.pos
  have pb:=b.pos
  have hm:(Tr.op s a b).many=a.many+b.many:=rfl
  obtain⟨j,rfl⟩:∃j,n=j+1:=⟨n-1,by omega⟩
  rw[yX];unfold kZ yW ML;kd_p
  unfold Tr.d;kd_p
  rw[show bX (.str s.str) (.str "name")=.ok (.bl false) from by cases s<;>rfl];kd_p
  rw[show bX (.str s.str) (.str "number")=.ok (.bl false) from by cases s<;>rfl];kd_p
  obtain⟨bb,hbb⟩:∃bb,eX (.str s.str) (.str "*/")=.ok (.bl bb):=⟨_,rfl⟩
  rw[hbb];kd_p
  generalize (1+if bb=true then (1:Int) else 0)=cl
  obtain⟨la,ea,l1,_⟩:=zK a j cl hg.1 (by omega) (by omega)
  obtain⟨lb,eb,l2,_⟩:=zK b j (cl+1) hg.2 (by omega) (by omega)
  obtain⟨ls,es,l3⟩:∃ls,s.str=aQ ls/\ls.length=1:=by
   cases s
   ·exact⟨[43],rfl,rfl⟩
   ·exact⟨[45],rfl,rfl⟩
   ·exact⟨[42],rfl,rfl⟩
   ·exact⟨[47],rfl,rfl⟩
  have hj:xS (eC (.str " ")) (cM (cS (aB (bI (jK j) (aB (aC aI (aA 0) (eC (.int 1))) (aB (aA 2) aF))) (aB (aC aI (aA 0) (eC (.int 0))) (aB (bI (jK j) (aB (aC aI (aA 0) (eC (.int 2))) (aB (aC a7 (aA 2) (eC (.int 1))) aF))) aF))))) [some (.tup [.str s.str,a.d,b.d]),some (.int k),some (.int cl),none]=.ok (.str (aQ (TxtA.flat [32] [la,ls,lb]))):=by
   show ((cM (cS (aB (bI (jK j) (aB (aC aI (aA 0) (eC (.int 1))) (aB (aA 2) aF))) (aB (aC aI (aA 0) (eC (.int 0))) (aB (bI (jK j) (aB (aC aI (aA 0) (eC (.int 2))) (aB (aC a7 (aA 2) (eC (.int 1))) aF))) aF))))) [some (.tup [.str s.str,a.d,b.d]),some (.int k),some (.int cl),none]).bind (fun x=>jE (.str " ") x)=_
   kd_p
   rw[ea,eb];kd_p
   rw[es]
   show jE (.str (aQ [32])) (.lst (([la,ls,lb].map aQ).map D.str))=_
   refine zbd (B:=15000) (fun r hr=>?_) (by show 3*15000+3*1<=10000000;decide)
   simp only[xa1,xbi,or_false] at hr
   rcases hr with rfl|rfl|rfl<;>omega
  have hfl:(TxtA.flat [32] [la,ls,lb]).length=la.length+lb.length+3:=by
   simp only[TxtA.flat,xa2,xao,xbo,l3];omega
  generalize TxtA.flat [32] [la,ls,lb]=L at hj hfl
  unfold MK
  rw[c8,lZ]
  rw[hj];kd_p
  unfold MJ MI;kd_p
  by_cases hc:cl<k
  ·rw[xah hc];kd_p
   rw[show (D.str "(")=.str (aQ [40]) from rfl,uK (by simp;omega)];kd_p
   rw[show (D.str ")")=.str (aQ [41]) from rfl,uK (by simp;omega)];kd_p
   exact⟨_,rfl,by simp only[xa2,xao,xbo];omega,fun h=>by omega⟩
  ·rw[xax hc];kd_p
   exact⟨_,rfl,by omega,fun h=>by omega⟩
end LmWi
open L2 DL Mir
namespace LmNa
open Sk
abbrev Deed:=Str×Int×Int
inductive Fm (m:Int):List Deed->Int->Int->Prop
 |nil:Fm m [] m 0
 |line {pl:List Deed} {p l a b:Int} (h:Fm m pl p l) (h1:0<=a/\a<p) (h2:0<=b/\b<p):Fm m (pl++[(("line":Str),a,b)]) p (l+1)
 |peg {pl:List Deed} {p l a b:Int} (h:Fm m pl p l) (h1:0<=a/\a<l) (h2:0<=b/\b<l):Fm m (pl++[(("peg":Str),a,b)]) (p+1) l
structure Wf(m:Int)(sk:SK):Prop where
 m4:4<=m
 pg:m<=sk.pegs
 e:0<=sk.e/\sk.e<4
 n:0<=sk.n/\sk.n<4
 c:0<=sk.c/\sk.c<4
 t:0<=sk.t/\sk.t<4
 ln:0<=sk.lines
 fm:Fm m sk.plan sk.pegs sk.lines
 dl:∀a b r,bW sk.drawn (bK "line" a b)=some (.int r)->0<=r/\r<sk.lines
 dp:∀a b r,bW sk.drawn (bK "peg" a b)=some (.int r)->0<=r/\r<sk.pegs
structure Go(m:Int)(sk:SK)(r:Int×SK):Prop where
 wf:Wf m r.2
 gp:sk.pegs<=r.2.pegs
 gl:sk.lines<=r.2.lines
def Pg(sk:SK)(a:Int):Prop:=0<=a/\a<sk.pegs
def Ln(sk:SK)(a:Int):Prop:=0<=a/\a<sk.lines
structure GP(m:Int)(sk:SK)(r:Int×SK):Prop extends Go m sk r where
 at_:Pg r.2 r.1
structure GL(m:Int)(sk:SK)(r:Int×SK):Prop extends Go m sk r where
 at_:Ln r.2 r.1
section
variable{m:Int}{sk s1 s2:SK}{a b:Int}{r r1 r2 r3:Int×SK}
theorem Go.pg(g:Go m sk r)(h:Pg sk a):Pg r.2 a:=⟨h.1,Int.lt_of_lt_of_le h.2 g.gp⟩
theorem Go.ln(g:Go m sk r)(h:Ln sk a):Ln r.2 a:=⟨h.1,Int.lt_of_lt_of_le h.2 g.gl⟩
theorem Go.trans(g:Go m sk r1)(h:Go m r1.2 r2):Go m sk r2:=⟨h.wf,Int.le_trans g.gp h.gp,Int.le_trans g.gl h.gl⟩
theorem GP.on(g:Go m sk r1)(h:GP m r1.2 r2):GP m sk r2:=⟨g.trans h.toGo,h.at_⟩
theorem GL.on(g:Go m sk r1)(h:GL m r1.2 r2):GL m sk r2:=⟨g.trans h.toGo,h.at_⟩
theorem Wf.pe(W:Wf m sk):Pg sk sk.e:=⟨W.e.1,by have:=W.e.2;have:=W.pg;have:=W.m4;omega⟩
theorem Wf.pn(W:Wf m sk):Pg sk sk.n:=⟨W.n.1,by have:=W.n.2;have:=W.pg;have:=W.m4;omega⟩
theorem Wf.pc(W:Wf m sk):Pg sk sk.c:=⟨W.c.1,by have:=W.c.2;have:=W.pg;have:=W.m4;omega⟩
theorem Wf.pt(W:Wf m sk):Pg sk sk.t:=⟨W.t.1,by have:=W.t.2;have:=W.pg;have:=W.m4;omega⟩
theorem lp{a b c d:Int}:bK "line" a b≠bK "peg" c d:=fun h=>by
 have h1:(Sum.inr ("line":Str):Key)=.inr ("peg":Str):=(List.cons.inj h).1
 exact xaq (Sum.inr.inj h1) (by decide)
theorem hZ(W:Wf m sk)(ha:Pg sk a)(hb:Pg sk b):GL m sk (cJ sk a b):=by
 rw[x6]
 have new:GL m sk (sk.lines,{ sk with lines:=sk.lines+1,plan:=sk.plan++[(("line":Str),a,b)],drawn:=L2.putK sk.drawn (bK "line" a b) (.int sk.lines) }):=by
  have hln:=W.ln
  refine⟨⟨⟨W.m4,W.pg,W.e,W.n,W.c,W.t,by show 0<=sk.lines+1;omega,W.fm.line ha hb,fun x y r h=>?_,fun x y r h=>?_⟩,xbk _,by show sk.lines<=sk.lines+1;omega⟩,hln,by show sk.lines<sk.lines+1;omega⟩
  ·show 0<=r/\r<sk.lines+1
   have h:bW (L2.putK sk.drawn (bK "line" a b) (.int sk.lines)) (bK "line" x y)=some (.int r):=h
   rw[oB] at h
   split at h
   ·cases h;omega
   ·have:=W.dl x y r h;omega
  ·have h:bW (L2.putK sk.drawn (bK "line" a b) (.int sk.lines)) (bK "peg" x y)=some (.int r):=h
   rw[oB,xak (xay lp)] at h
   exact W.dp x y r h
 unfold fI
 split
 ·rename_i r h
  exact⟨⟨W,xbk _,xbk _⟩,W.dl a b r h⟩
 ·exact new
theorem k7(W:Wf m sk)(ha:Ln sk a)(hb:Ln sk b):GP m sk (dJ sk a b):=by
 rw[x8]
 have new:GP m sk (sk.pegs,{ sk with pegs:=sk.pegs+1,plan:=sk.plan++[(("peg":Str),a,b)],drawn:=L2.putK sk.drawn (bK "peg" a b) (.int sk.pegs) }):=by
  have h4:=W.m4
  have hpg:=W.pg
  refine⟨⟨⟨W.m4,by show m<=sk.pegs+1;omega,W.e,W.n,W.c,W.t,W.ln,W.fm.peg ha hb,fun x y r h=>?_,fun x y r h=>?_⟩,by show sk.pegs<=sk.pegs+1;omega,xbk _⟩,by show 0<=sk.pegs;omega,by show sk.pegs<sk.pegs+1;omega⟩
  ·have h:bW (L2.putK sk.drawn (bK "peg" a b) (.int sk.pegs)) (bK "line" x y)=some (.int r):=h
   rw[oB,xak lp] at h
   exact W.dl x y r h
  ·show 0<=r/\r<sk.pegs+1
   have h:bW (L2.putK sk.drawn (bK "peg" a b) (.int sk.pegs)) (bK "peg" x y)=some (.int r):=h
   rw[oB] at h
   split at h
   ·cases h;omega
   ·have:=W.dp x y r h;omega
 unfold fJ
 split
 ·rename_i r h
  exact⟨⟨W,xbk _,xbk _⟩,W.dp a b r h⟩
 ·exact new
theorem NJ(W:Wf m sk):GL m sk (iJ sk):=by
 delta iJ;rw[hid_eq];exact hZ W W.pc W.pe
theorem NK(W:Wf m sk):GL m sk (iK sk):=by
 delta iK;rw[hid_eq];exact hZ W W.pc W.pn
theorem NL(W:Wf m sk):GL m sk (iL sk):=by
 delta iL;rw[hid_eq];exact hZ W W.pe W.pn
theorem NM(W:Wf m sk):GL m sk (iM sk):=by
 delta iM;rw[hid_eq];exact hZ W W.pe W.pt
theorem NN(W:Wf m sk):GP m sk (gZ sk):=by
 delta gZ;rw[hid_eq]
 have g1:=NJ W
 have g2:=hZ g1.wf g1.wf.pn g1.wf.pt
 exact(k7 g2.wf (g2.ln g1.at_) g2.at_).on (g1.trans g2.toGo)
theorem qY(W:Wf m sk):GP m sk (dY sk):=by
 delta dY;rw[hid_eq]
 have g1:=NK W
 have g2:=NM g1.wf
 exact(k7 g2.wf (g2.ln g1.at_) g2.at_).on (g1.trans g2.toGo)
theorem qZ(W:Wf m sk)(ha:Pg sk a)(hb:Pg sk b):GP m sk (eI sk a b):=by
 delta eI;rw[hid_eq]
 have g1:=NL W
 have g2:=hZ g1.wf (g1.pg ha) (g1.pg hb)
 exact(k7 g2.wf (g2.ln g1.at_) g2.at_).on (g1.trans g2.toGo)
theorem NO(W:Wf m sk):GP m sk (iN sk):=by
 delta iN;rw[hid_eq]
 have g1:=qY W
 have g2:=NN g1.wf
 exact(qZ g2.wf (g2.pg g1.at_) g2.at_).on (g1.trans g2.toGo)
theorem rA(W:Wf m sk)(ha:Pg sk a)(hb:Pg sk b):GP m sk (eJ sk a b):=by
 delta eJ;rw[hid_eq]
 have g1:=NJ W
 have g2:=hZ g1.wf (g1.pg ha) (g1.pg hb)
 exact(k7 g2.wf (g2.ln g1.at_) g2.at_).on (g1.trans g2.toGo)
theorem NP(W:Wf m sk)(ha:Pg sk a):GP m sk (iO sk a):=by
 delta iO;rw[hid_eq]
 have g1:=NK W
 have g2:=NO g1.wf
 have g3:=hZ g2.wf (g2.pg (g1.pg ha)) g2.at_
 exact(k7 g3.wf (g3.ln (g2.ln g1.at_)) g3.at_).on ((g1.trans g2.toGo).trans g3.toGo)
theorem zL(W:Wf m sk)(ha:Pg sk a):GP m sk (g7 sk a):=by
 delta g7;rw[hid_eq]
 have g1:=NM W
 have g2:=hZ g1.wf (g1.pg ha) g1.wf.pn
 exact(k7 g2.wf (g2.ln g1.at_) g2.at_).on (g1.trans g2.toGo)
theorem zbn(W:Wf m sk)(ha:Pg sk a)(hb:Pg sk b):GP m sk (jF sk a b):=by
 delta jF;rw[hid_eq]
 have g1:=NP W hb
 have g2:=qZ g1.wf g1.at_ (g1.pg ha)
 have g3:=qY g2.wf
 exact(rA g3.wf (g3.pg g2.at_) g3.at_).on ((g1.trans g2.toGo).trans g3.toGo)
theorem zbo(W:Wf m sk)(ha:Pg sk a)(hb:Pg sk b):GP m sk (jG sk a b):=by
 delta jG;rw[hid_eq]
 have g1:=qY W
 have g2:=qZ g1.wf g1.at_ (g1.pg hb)
 have g3:=zL g2.wf (g2.pg (g1.pg ha))
 exact(rA g3.wf (g3.pg g2.at_) g3.at_).on ((g1.trans g2.toGo).trans g3.toGo)
theorem zbp(W:Wf m sk)(ha:Pg sk a)(hb:Pg sk b):GP m sk (jH sk a b):=by
 delta jH;rw[hid_eq]
 have g1:=zL W hb
 have g2:=qZ g1.wf (g1.pg W.pc) g1.at_
 have g3:=zL g2.wf (g2.pg (g1.pg ha))
 exact(rA g3.wf (g3.pg g2.at_) g3.at_).on ((g1.trans g2.toGo).trans g3.toGo)
theorem zbq(W:Wf m sk)(ha:Pg sk a)(hb:Pg sk b):GP m sk (jI sk a b):=by
 delta jI;rw[hid_eq]
 have g1:=qY W
 have g2:=qZ g1.wf g1.at_ (g1.pg ha)
 have g3:=NP g2.wf (g2.pg (g1.pg hb))
 exact(rA g3.wf (g3.pg g2.at_) g3.at_).on ((g1.trans g2.toGo).trans g3.toGo)
theorem w_drawn(s:Str)(W:Wf m sk)(ha:Pg sk a)(hb:Pg sk b):GP m sk (q_drawn s sk a b):=by
 unfold q_drawn
 split
 ·exact zbo W ha hb
 ·split
  ·exact zbp W ha hb
  ·split
   ·exact zbq W ha hb
   ·exact zbn W ha hb
theorem zbr(W:Wf m sk)(s:Int):GL m sk (kA sk s):=by
 delta kA;rw[hid_eq]
 have g1:=hZ W W.pc W.pt
 show GL m sk (if s=0 then cJ sk sk.c sk.t else _)
 split
 ·exact g1
 ·have g2:GP m (cJ sk sk.c sk.t).2 (if s=1 then dY (cJ sk sk.c sk.t).2 else gZ (cJ sk sk.c sk.t).2):=by
   split
   ·exact qY g1.wf
   ·exact NN g1.wf
  have g3:=NL g2.wf
  have g4:=k7 g3.wf g3.at_ (g3.ln (g2.ln g1.at_))
  exact(hZ g4.wf (g4.pg (g3.pg g2.at_)) g4.at_).on (((g1.trans g2.toGo).trans g3.toGo).trans g4.toGo)
theorem zbs(W:Wf m sk)(ha:Pg sk a)(s:Int):GP m sk (fB sk a s):=by
 delta fB;rw[hid_eq]
 have g1:=hZ W ha W.pn
 have g2:=zbr g1.wf s
 have g3:=k7 g2.wf (g2.ln g1.at_) g2.at_
 have g4:=NO g3.wf
 exact(rA g4.wf g4.at_ (g4.pg g3.at_)).on (((g1.trans g2.toGo).trans g3.toGo).trans g4.toGo)
theorem NQ{step size:Int}:∀(n:Nat) (peg:Int) (sk:SK),Wf m sk->Pg sk peg->GP m sk (oO step size n peg sk)
 |0,peg,sk,W,h=>⟨⟨W,xbk _,xbk _⟩,h⟩
 |n+1,peg,sk,W,h=>by
  have g1:=zbs W h (step*(size/2^n%2))
  exact(NQ n _ _ g1.wf g1.at_).on g1.toGo
theorem w_whole(W:Wf m sk)(i:Int):GP m sk (q_whole sk i):=by
 delta q_whole;rw[hid_eq];exact NQ _ _ _ W W.pc
theorem wf0(h:4<=m):Wf m (sk0 0 1 2 3 m):=by
 have z:∀k:Int,0<=k->k<4->0<=k/\k<4:=fun k h1 h2=>⟨h1,h2⟩
 refine⟨h,xbk _,z 0 (by decide) (by decide),z 1 (by decide) (by decide),z 2 (by decide) (by decide),z 3 (by decide) (by decide),xbk 0,.nil,fun _ _ _ h=>?_,fun _ _ _ h=>?_⟩
 ·exact nomatch (show (none:Option V)=some _ from h)
 ·exact nomatch (show (none:Option V)=some _ from h)
end
end LmNa
open L2 DL Mir
namespace LmNb
open LmA LmY LmWa LmWb LmWc LmWd TxtA
noncomputable def cU(no:Str->Option Int):Tr->Sk.SK->Option (Int×Sk.SK)
 |.nm x,sk=>(no x).map fun n=>(n,sk)
 |.nb i,sk=>some (Sk.q_whole sk i)
 |.op s a b,sk=>(cU no a sk).bind fun u=>(cU no b u.2).bind fun v=>some (Sk.q_drawn s.str v.2 u.1 v.1)
theorem NS{i:Int}(h:0<=i/\i<10000000000):Builtin.Int.intBits (Sk.absZ i)<=34:=by
 have e:Sk.absZ i=i:=by unfold Sk.absZ;rw[xak (by omega)]
 rw[e]
 unfold Builtin.Int.intBits
 split
 ·omega
 ·have:i.natAbs<2^34:=by omega
  have h0:i.natAbs≠0:=by rename_i h1;simp at h1;omega
  have:=(Nat.log2_lt h0).mpr this
  omega
theorem zbu{i:Int}(h:0<=i/\i<10000000000):Sk.okW i:=by unfold Sk.okW;have:=NS h;omega
theorem zbv{i:Int}(h:0<=i/\i<10000000000)(sk:Sk.SK):Sk.grow 714 sk (Sk.q_whole sk i).2:=by
 delta Sk.q_whole
 rw[Sk.hid_eq]
 exact(Sk.g_walk _ _ _).wide (by have:=NS h;omega)
theorem rB{no:Str->Option Int}:∀(t:Tr) (sk:Sk.SK) (r:Int) (sk':Sk.SK),o0 t->cU no t sk=some (r,sk')->Sk.grow (756*t.many-21) sk sk'
 |.nm x,sk,r,sk',_,h=>by
  unfold cU at h
  obtain⟨n,_,h⟩:=xbp.mp h
  cases h
  exact(Sk.grow.refl _).wide (xbc _)
 |.nb i,sk,r,sk',hN,h=>by
  unfold cU at h
  have h:=xaw h
  rw[show sk'=(Sk.q_whole sk i).2 from (congrArg Prod.snd h).symm]
  exact(zbv hN sk).wide (by show 714<=756*1-21;omega)
 |.op s a b,sk,r,sk',hN,h=>by
  unfold cU at h
  obtain⟨⟨u,s1⟩,ha,h⟩:=xaa.mp h
  obtain⟨⟨v,s2⟩,hb,h⟩:=xaa.mp h
  have h:=xaw h
  rw[show sk'=(Sk.q_drawn s.str s2 u v).2 from (congrArg Prod.snd h).symm]
  have g1:=rB a sk u s1 hN.1 ha
  have g2:=rB b s1 v s2 hN.2 hb
  have pa:=a.pos
  have pb:=b.pos
  refine((g1.trans g2).trans (Sk.g_drawn _ _ _ _)).wide ?_
  show 756*a.many-21+(756*b.many-21)+21<=756*(a.many+b.many)-21
  omega
structure Pg(ks:List Key)(ds:List D)(no:Str->Option Int):Prop where
 here:∀x,eY ks ds (.inr x)=(no x).map D.int
theorem zbw(k:Nat)(f:Sk.JF)(d:D)(ds:List D)(j:Sk.JS):Sk.jLoop k f (d::ds) j=(f ⟨j.τ.set k (some d),j.xs,j.sk⟩).bind (Sk.jLoop k f ds):=rfl
section
variable{ks:List Key}{ds:List D}{no:Str->Option Int}(E:Pg ks ds no)(a0 a1:Option D)
include E
abbrev cK(ks:List Key)(ds:List D)(a0 a1 z5 z6 z7:Option D):DSt:=[a0,a1,some (.dct ks ds),none,none,z5,z6,z7]
theorem zM:∀(t:Tr) (xs:List Int) (sk:Sk.SK) (aN:List D) (z5 z6 z7:Option D),o0 t->t.many<=200->xs.length+t.many<=100000->Sk.room (756*t.many+3000) sk->
  (∀r sk',cU no t sk=some (r,sk')->∃y5 y6 y7,Sk.jLoop 5 gD (post t++aN) ⟨cK ks ds a0 a1 z5 z6 z7,xs,sk⟩=Sk.jLoop 5 gD aN ⟨cK ks ds a0 a1 y5 y6 y7,r::xs,sk'⟩)/\
  (cU no t sk=none->Sk.jLoop 5 gD (post t++aN) ⟨cK ks ds a0 a1 z5 z6 z7,xs,sk⟩=.err (.exc "NoName" []))
 |.nm x,xs,sk,aN,z5,z6,z7,_,_,hx,_=>by
  have go:Sk.jLoop 5 gD (post (.nm x)++aN) ⟨cK ks ds a0 a1 z5 z6 z7,xs,sk⟩=(gD ⟨cK ks ds a0 a1 (some (Tr.d (.nm x))) z6 z7,xs,sk⟩).bind (Sk.jLoop 5 gD aN):=rfl
  have hb:gD ⟨cK ks ds a0 a1 (some (Tr.d (.nm x))) z6 z7,xs,sk⟩=bif (no x).isSome then yU ⟨cK ks ds a0 a1 (some (Tr.d (.nm x))) z6 z7,xs,sk⟩ else .err (.exc "NoName" []):=by
   have h3:aS (aC qK (aC aI (aA 5) (eC (.int 1))) (aA 2)) (cK ks ds a0 a1 (some (Tr.d (.nm x))) z6 z7)=.ok (no x).isSome:=by
    show R.ok (eY ks ds (.inr x)).isSome=_
    rw[E.here x,xcf]
   show (aS (aC qK (aC aI (aA 5) (eC (.int 1))) (aA 2)) (cK ks ds a0 a1 (some (Tr.d (.nm x))) z6 z7)).bind (fun k=>bif k then yU ⟨cK ks ds a0 a1 (some (Tr.d (.nm x))) z6 z7,xs,sk⟩ else LK ⟨cK ks ds a0 a1 (some (Tr.d (.nm x))) z6 z7,xs,sk⟩)=_
   rw[h3]
   rfl
  rw[go,hb]
  refine⟨fun r sk' h=>?_,fun h=>?_⟩
  ·unfold cU at h
   obtain⟨n,hn,h⟩:=xbp.mp h
   cases h
   refine⟨some (Tr.d (.nm x)),z6,z7,?_⟩
   rw[hn]
   have he:aC l6 (aA 2) (aC aI (aA 5) (eC (.int 1))) (cK ks ds a0 a1 (some (Tr.d (.nm x))) z6 z7)=.ok (.int r):=by
    show l6 (.dct ks ds) (.str x)=_
    unfold l6
    have:=E.here x
    rw[hn] at this
    simp only[this,xca]
   have hm:most xs.length=true:=j4 (by omega)
   show ((aC l6 (aA 2) (aC aI (aA 5) (eC (.int 1))) (cK ks ds a0 a1 (some (Tr.d (.nm x))) z6 z7)).bind _).bind _=_
   rw[he]
   show (bif most xs.length then R.ok (⟨cK ks ds a0 a1 (some (Tr.d (.nm x))) z6 z7,r::xs,sk⟩:Sk.JS) else .bad).bind _=_
   rw[hm];rfl
  ·unfold cU at h
   rw[Option.map_eq_none_iff] at h
   rw[h];rfl
 |.nb i,xs,sk,aN,z5,z6,z7,hN,_,hx,hr=>by
  have go:Sk.jLoop 5 gD (post (.nb i)++aN) ⟨cK ks ds a0 a1 z5 z6 z7,xs,sk⟩=(gD ⟨cK ks ds a0 a1 (some (Tr.d (.nb i))) z6 z7,xs,sk⟩).bind (Sk.jLoop 5 gD aN):=rfl
  have hm:(most xs.length&&decide (Sk.okW i)&&decide (Sk.room 2940 sk))=true:=by
   rw[j4 (by omega),xah (zbu hN),xah (hr.less (by show 2940<=756*1+3000;omega))];rfl
  have hb:gD ⟨cK ks ds a0 a1 (some (Tr.d (.nb i))) z6 z7,xs,sk⟩=.ok ⟨cK ks ds a0 a1 (some (Tr.d (.nb i))) z6 z7,(Sk.q_whole sk i).1::xs,(Sk.q_whole sk i).2⟩:=by
   show (bif most xs.length&&decide (Sk.okW i)&&decide (Sk.room 2940 sk) then R.ok (⟨cK ks ds a0 a1 (some (Tr.d (.nb i))) z6 z7,(Sk.q_whole sk i).1::xs,(Sk.q_whole sk i).2⟩:Sk.JS) else .bad)=_
   rw[hm];rfl
  rw[go,hb]
  refine⟨fun r sk' h=>?_,fun h=>by cases h⟩
  unfold cU at h
  have h:=xaw h
  rw[h]
  exact⟨some (Tr.d (.nb i)),z6,z7,rfl⟩
 |.op s a b,xs,sk,aN,z5,z6,z7,hN,h2,hx,hr=>by
  have pa:=a.pos
  have pb:=b.pos
  have hx:xs.length+(a.many+b.many)<=100000:=hx
  have h2:a.many+b.many<=200:=h2
  have hr:Sk.room (756*(a.many+b.many)+3000) sk:=hr
  have ep:post (.op s a b)++aN=post a++(post b++(Tr.d (.op s a b)::aN)):=by
   show post a++post b++[Tr.d (.op s a b)]++aN=_
   simp
  rw[ep]
  obtain⟨ra,na⟩:=zM a xs sk (post b++(Tr.d (.op s a b)::aN)) z5 z6 z7 hN.1 (by omega) (by omega) (hr.less (by omega))
  cases ha:cU no a sk with
  |none=>
   refine⟨fun r sk' h=>?_,fun _=>na ha⟩
   unfold cU at h
   rw[ha] at h;cases h
  |some u=>
   obtain⟨u,s1⟩:=u
   obtain⟨y5,y6,y7,ea⟩:=ra u s1 ha
   rw[ea]
   have g1:=rB a sk u s1 hN.1 ha
   have hr1:Sk.room (756*b.many+3000) s1:=Sk.room.on (hr.less (by omega)) g1
   obtain⟨rb,nb⟩:=zM b (u::xs) s1 (Tr.d (.op s a b)::aN) y5 y6 y7 hN.2 (by omega) (by rw[xao];omega) hr1
   cases hb:cU no b s1 with
   |none=>
    refine⟨fun r sk' h=>?_,fun _=>nb hb⟩
    unfold cU at h
    rw[ha,xba,hb] at h;cases h
   |some v=>
    obtain⟨v,s2⟩:=v
    obtain⟨w5,w6,w7,eb⟩:=rb v s2 hb
    rw[eb]
    refine⟨fun r sk' h=>?_,fun h=>?_⟩
    ·unfold cU at h
     rw[ha,xba,hb,xba] at h
     have h:=xaw h
     have g2:=rB b s1 v s2 hN.2 hb
     have hr2:Sk.room 21 s2:=Sk.room.on (hr1.less (by omega)) g2
     have hm:(most xs.length&&decide (Sk.room 21 s2))=true:=by rw[j4 (by omega),xah hr2];rfl
     have t1:aS (aC eX (aC aI (aA 5) (eC (.int 0))) (eC kC)) (cK ks ds a0 a1 (some (Tr.d (.op s a b))) w6 w7)=.ok true:=by cases s<;>rfl
     refine⟨some (Tr.d (.op s a b)),some (.int v),some (.int u),?_⟩
     rw[zbw]
     show (((aS (aC eX (aC aI (aA 5) (eC (.int 0))) (eC kC)) (cK ks ds a0 a1 (some (Tr.d (.op s a b))) w6 w7)).bind (fun k=>bif k then LJ ⟨cK ks ds a0 a1 (some (Tr.d (.op s a b))) w6 w7,v::u::xs,s2⟩ else LL ⟨cK ks ds a0 a1 (some (Tr.d (.op s a b))) w6 w7,v::u::xs,s2⟩)).bind _)=_
     rw[t1]
     show ((bif most xs.length&&decide (Sk.room 21 s2) then R.ok (⟨cK ks ds a0 a1 (some (Tr.d (.op s a b))) (some (.int v)) (some (.int u)),(Sk.q_drawn s.str s2 u v).1::xs,(Sk.q_drawn s.str s2 u v).2⟩:Sk.JS) else .bad).bind _)=_
     rw[hm,h];rfl
    ·unfold cU at h
     rw[ha,xba,hb] at h;cases h
end
theorem zbx{ds:List D}{e:DSt->R D}{σ:DSt}{g:D->D}(hl:ds.length<=1000000)(h:∀d∈ds,∃a b,d=.tup [a,b]/\e (some a::some b::σ)=.ok (g d)):sX 2 [0,1] (.ok ds) (fE 2) iG e σ=.ok (ds.map g):=by
 have go:∀ds:List D,(∀d∈ds,∃a b,d=.tup [a,b]/\e (some a::some b::σ)=.ok (g d))->eS [0,1] (fE 2) iG e (List.replicate 2 none++σ) ds=.ok (ds.map g):=by
  intro ds
  induction ds with
  |nil=>intro _;rfl
  |cons d ds ih=>
   intro h
   obtain⟨a,b,e1,e2⟩:=h d xa7
   have i2:=ih fun d' hd=>h d' (xas _ hd)
   subst e1
   show (e (some a::some b::σ)).bind (fun y=>(eS [0,1] (fE 2) iG e (List.replicate 2 none++σ) ds).bind fun ys=>.ok (y::ys))=_
   rw[e2,i2];rfl
 show (bif most ds.length then _ else _)=_
 rw[j4 hl,go ds h];rfl
def uL:D->D
 |.tup [a,b]=>.tup [b,a]
 |d=>d
def fT(k:Nat):List Str->List D
 |[]=>[]
 |_::ns=>.int (k:Int)::fT (k+1) ns
def iA(k:Nat):List Str->Str->Option Int
 |[],_=>none
 |n::ns,x=>if n=x then some (k:Int) else iA (k+1) ns x
theorem NT:∀(ns:List Str) (k:Nat),l7 ((fY k (ns.map .str)).map uL)=some (ns,fT k ns)
 |[],_=>rfl
 |n::ns,k=>by
  have:=NT ns (k+1)
  rw[xa5]
  show (tK (.tup [.str n,.int (k:Int)])).bind (fun x=>(l7 ((fY (k+1) (ns.map .str)).map uL)).bind fun r=>some (x.1::r.1,x.2::r.2))=_
  rw[this];rfl
theorem NU:∀(ns:List Str) (k:Nat) (x:Str),eY (ns.map Sum.inr) (fT k ns) (.inr x)=(iA k ns x).map D.int
 |[],_,_=>rfl
 |n::ns,k,x=>by
  rw[xa5]
  show (if (Sum.inr n:Key)=.inr x then some (D.int (k:Int)) else eY (ns.map Sum.inr) (fT (k+1) ns) (.inr x))=_
  unfold iA
  by_cases h:n=x
  ·rw[xal (by rw[h]),xal h];rfl
  ·rw[xak (fun e=>h (Sum.inr.inj e)),xak h,NU ns (k+1) x]
theorem NV:∀(ns:List Str) (k:Nat) (d:D),d∈fY k (ns.map .str)->∃i n,d=.tup [.int i,.str n]
 |[],_,_,h=>by cases h
 |n::ns,k,d,h=>by
  rw[xa5] at h
  rcases xa1.mp h with h|h
  ·exact⟨_,_,h⟩
  ·exact NV ns (k+1) d h
def out:Option (Int×Sk.SK)->R (List D×Int)
 |some (r,sk)=>.ok (sk.plan.map Sk.deedD,r)
 |none=>.err (.exc "NoName" [])
theorem zby{t:Tr}{ns:List Str}(hN:o0 t)(h2:t.many<=100)(hn:ns.length<=1000)(hd:j7 ns=true) :
  gE [t.d,.lst (ns.map .str)]=out (cU (iA 4 ns) t (Sk.sk0 0 1 2 3 (4+(ns.length:Int)))):=by
 have hl:fN 2 [0,1] (qM (aB (aA 1) aF) (aK cA (aB (eC jJ) aF))) (fE 2) iG (kN (aB (aA 1) (aB (aA 0) aF))) [some t.d,some (.lst (ns.map .str)),none,none,none,none,none,none]=.ok ((fY 4 (ns.map .str)).map uL):=by
  rw[nZ,show qM (aB (aA 1) aF) (aK cA (aB (eC jJ) aF)) [some t.d,some (.lst (ns.map .str)),none,none,none,none,none,none]=.ok (fY 4 (ns.map .str)) from rfl]
  refine zbx (by rw[xT,xai];omega) fun d h=>?_
  obtain⟨i,n,rfl⟩:=NV ns 4 d h
  exact⟨_,_,rfl,rfl⟩
 have hdict:aK oG (aB (cM (fN 2 [0,1] (qM (aB (aA 1) aF) (aK cA (aB (eC jJ) aF))) (fE 2) iG (kN (aB (aA 1) (aB (aA 0) aF))))) aF) [some t.d,some (.lst (ns.map .str)),none,none,none,none,none,none]=.ok (.dct (ns.map Sum.inr) (fT 4 ns)):=by
  rw[wU,wV,nR,hl]
  show (oG [.lst ((fY 4 (ns.map .str)).map uL)]).noerr=_
  unfold oG
  simp only[NT,hd,cond_true];rfl
 rw[zaV]
 unfold tW yP
 rw[lZ,hdict]
 have ea:aB (eC jJ) (aB (aC a7 (aK cA (aB (eC jJ) aF)) (aK cA (aB (aA 1) aF))) aF) [some t.d,some (.lst (ns.map .str)),some (.dct (ns.map Sum.inr) (fT 4 ns)),none,none,none,none,none]=.ok [.tup [.int 0,.int 1,.int 2,.int 3],.int (4+(ns.length:Int))]:=by
  show pZ _ (pZ (lX a7 (.ok (.int 4)) (.ok (.int ((ns.map D.str).length:Int)))) (.ok []))=_
  rw[xai];rfl
 show Sk.sSumL _ tV 3 4 [some t.d,some (.lst (ns.map .str)),some (.dct (ns.map Sum.inr) (fT 4 ns)),none,none,none,none,none]=_
 unfold Sk.sSumL
 rw[ea]
 show ((tV ⟨cK (ns.map Sum.inr) (fT 4 ns) (some t.d) (some (.lst (ns.map .str))) none none none,[],Sk.sk0 0 1 2 3 (4+(ns.length:Int))⟩)).bind Sk.outSumL=_
 have ei:c6 (bI hU (aB (aA 0) aF)) (cK (ns.map Sum.inr) (fT 4 ns) (some t.d) (some (.lst (ns.map .str))) none none none)=.ok (post t):=by
  have:bI hU (aB (aA 0) aF) (cK (ns.map Sum.inr) (fT 4 ns) (some t.d) (some (.lst (ns.map .str))) none none none)=.ok (.lst (post t)):=by
   show hU [t.d]=_
   exact zbf t (by omega)
  rw[show c6 (bI hU (aB (aA 0) aF)) (cK (ns.map Sum.inr) (fT 4 ns) (some t.d) (some (.lst (ns.map .str))) none none none)=(bI hU (aB (aA 0) aF) (cK (ns.map Sum.inr) (fT 4 ns) (some t.d) (some (.lst (ns.map .str))) none none none)).bind wB from rfl,this];rfl
 obtain⟨h1,h3⟩:=zM ⟨NU ns 4⟩ (some t.d) (some (.lst (ns.map .str))) t [] (Sk.sk0 0 1 2 3 (4+(ns.length:Int))) [] none none none hN (by omega) (by simp;omega) ⟨by show 0+_<=100000;omega,by show 0+_<=100000;omega⟩
 rw[xbn] at h1 h3
 unfold tV
 show ((c6 (bI hU (aB (aA 0) aF)) (cK (ns.map Sum.inr) (fT 4 ns) (some t.d) (some (.lst (ns.map .str))) none none none)).bind _).bind Sk.outSumL=_
 rw[ei]
 show (Sk.jLoop 5 gD (post t) ⟨cK (ns.map Sum.inr) (fT 4 ns) (some t.d) (some (.lst (ns.map .str))) none none none,[],Sk.sk0 0 1 2 3 (4+(ns.length:Int))⟩).bind Sk.outSumL=_
 cases he:cU (iA 4 ns) t (Sk.sk0 0 1 2 3 (4+(ns.length:Int))) with
 |none=>rw[h3 he];rfl
 |some v=>
  obtain⟨r,sk'⟩:=v
  obtain⟨y5,y6,y7,e⟩:=h1 r sk' he
  rw[e];rfl
def bF:Tr->List Str
 |.nm x=>[x]
 |.nb _=>[]
 |.op _ a b=>bF a++bF b
theorem NW:∀(ns:List Str) (k:Nat) (x:Str),x∉ns->iA k ns x=none
 |[],_,_,_=>rfl
 |n::ns,k,x,h=>by
  unfold iA
  rw[xak (fun e=>h (by rw[e];exact xa7))]
  exact NW ns (k+1) x fun hx=>h (xas _ hx)
theorem NX:∀(ns:List Str) (k:Nat) (x:Str),x∈ns->∃n:Int,iA k ns x=some n/\(k:Int)<=n/\n<(k:Int)+(ns.length:Int)
 |[],_,_,h=>by cases h
 |n::ns,k,x,h=>by
  unfold iA
  by_cases e:n=x
  ·rw[xal e];exact⟨_,rfl,xbk _,by rw[xao];omega⟩
  ·rw[xak e]
   obtain⟨i,h1,h2,h3⟩:=NX ns (k+1) x (by
    rcases xa1.mp h with h|h
    ·exact xaq h.symm e
    ·exact h)
   exact⟨i,h1,by omega,by rw[xao];omega⟩
theorem zN{ns:List Str}:∀(t:Tr) (sk:Sk.SK),(∃x∈bF t,x∉ns)->cU (iA 4 ns) t sk=none
 |.nm x,sk,⟨y,h1,h2⟩=>by
  have:y=x:=xbg.mp h1
  subst this
  unfold cU
  rw[NW ns 4 y h2];rfl
 |.nb _,_,⟨_,h1,_⟩=>by cases h1
 |.op s a b,sk,⟨y,h1,h2⟩=>by
  unfold cU
  cases ha:cU (iA 4 ns) a sk with
  |none=>rfl
  |some u=>
   rw[xba]
   rcases xbe.mp h1 with h|h
   ·rw[zN a sk ⟨y,h,h2⟩] at ha;cases ha
   ·rw[zN b u.2 ⟨y,h,h2⟩];rfl
theorem zO{ns:List Str}{m:Int}(hm:m=4+(ns.length:Int)):∀(t:Tr) (sk:Sk.SK),LmNa.Wf m sk->(∀x∈bF t,x∈ns)->∃v,cU (iA 4 ns) t sk=some v/\LmNa.GP m sk v
 |.nm x,sk,W,h=>by
  obtain⟨n,e,h1,h2⟩:=NX ns 4 x (h x (xbg.mpr rfl))
  refine⟨(n,sk),by unfold cU;rw[e];rfl,⟨⟨W,xbk _,xbk _⟩,?_,?_⟩⟩
  ·show 0<=n;omega
  ·show n<sk.pegs;have:=W.pg;omega
 |.nb i,sk,W,_=>⟨Sk.q_whole sk i,rfl,LmNa.w_whole W i⟩
 |.op s a b,sk,W,h=>by
  obtain⟨u,eu,gu⟩:=zO hm a sk W fun x hx=>h x (xbe.mpr (.inl hx))
  obtain⟨v,ev,gv⟩:=zO hm b u.2 gu.wf fun x hx=>h x (xbe.mpr (.inr hx))
  refine⟨_,?_,(LmNa.w_drawn s.str gv.wf (gv.pg gu.at_) gv.at_).on (gu.trans gv.toGo)⟩
  unfold cU
  rw[eu,xba,ev,xba]
end LmNb
open L2 DL Mir
namespace LmNc
open LmA LmY LmWa LmWb LmWc LmWd LmWf LmWg LmWh LmWi TxtA
theorem zbz(dg:List Int)(hl:dg.length=6)(hb:∀n∈dg,0<=n/\n<1000000)(ns:List Str)(hn:ns.length=5)(hp:∀x∈ns,Pn x):∃t:Tr,kE [.lst (dg.map .int),.lst (ns.map .str)]=.ok t.d/\dP t/\t.many=1:=by
 obtain⟨d2,g2,a2,b2⟩:=iQ dg hb 2 (by omega)
 obtain⟨d3,g3,a3,b3⟩:=iQ dg hb 3 (by omega)
 obtain⟨d4,g4,a4,b4⟩:=iQ dg hb 4 (by omega)
 obtain⟨d5,g5,a5,b5⟩:=iQ dg hb 5 (by omega)
 have g2:aI (.lst (dg.map .int)) (.int 2)=.ok (.int d2):=g2
 have g3:aI (.lst (dg.map .int)) (.int 3)=.ok (.int d3):=g3
 have g4:aI (.lst (dg.map .int)) (.int 4)=.ok (.int d4):=g4
 have g5:aI (.lst (dg.map .int)) (.int 5)=.ok (.int d5):=g5
 rw[za1];unfold t5;kd_p
 rw[g2];kst_p1
 by_cases h:0<d2%3
 ·rw[xah h];kd_p
  rw[g3];kd_p
  rw[jA _ _ (by rw[xai,hn];decide)];kd_p
  have m:=eK (i:=d3) (j:=((ns.map D.str).length:Int)) (by rw[xai,hn];decide)
  rw[xai,hn] at m ⊢
  obtain⟨j,hj⟩:∃j:Nat,d3%((5:Nat):Int)=(j:Int):=⟨(d3%((5:Nat):Int)).toNat,by omega⟩
  have hj5:j<ns.length:=by omega
  rw[hj,qD (d:=.str ns[j]) (by rw[xbd,xa0 hj5];rfl)];kd_p
  exact⟨.nm ns[j],rfl,hp _ (xb5 hj5),rfl⟩
 ·rw[xax h];kd_p
  unfold L9;kd_p
  rw[g5];kst_p1
  have m3:=eK (i:=d3) (j:=10) (by decide)
  have m4:=eK (i:=d4) (j:=1000) (by decide)
  have m5:=eK (i:=d3) (j:=1000) (by decide)
  by_cases h16:d5%16=1
  ·rw[xah h16];kd_p
   rw[g3,g4];kst_p1
   exact⟨.nb (d3*1000+d4%1000),rfl,⟨by omega,by omega⟩,rfl⟩
  ·rw[xax h16];kd_p
   unfold L8;kd_p
   rw[g3,g5];kst_p1
   have:d5%4=0\/d5%4=1\/d5%4=2\/d5%4=3:=by omega
   rcases this with h|h|h|h<;>rw[h]
   ·rw[show aI (.lst [.int 10,.int 10,.int 10,.int 1000]) (.int 0)=.ok (.int 10) from rfl];kst_p1;exact⟨.nb (d3%10),rfl,⟨by omega,by omega⟩,rfl⟩
   ·rw[show aI (.lst [.int 10,.int 10,.int 10,.int 1000]) (.int 1)=.ok (.int 10) from rfl];kst_p1;exact⟨.nb (d3%10),rfl,⟨by omega,by omega⟩,rfl⟩
   ·rw[show aI (.lst [.int 10,.int 10,.int 10,.int 1000]) (.int 2)=.ok (.int 10) from rfl];kst_p1;exact⟨.nb (d3%10),rfl,⟨by omega,by omega⟩,rfl⟩
   ·rw[show aI (.lst [.int 10,.int 10,.int 10,.int 1000]) (.int 3)=.ok (.int 1000) from rfl];kst_p1;exact⟨.nb (d3%1000),rfl,⟨by omega,by omega⟩,rfl⟩
section
variable(C:D)(ns:List Str)(hn:ns.length=5)(hp:∀x∈ns,Pn x)
theorem zbA(z3 z4:Option D):∀(n:Nat) (ts:List Tr) (z5:Option D),ts.length=n->1<=n->n<=1000->(∀t∈ts,dP t)->∃(t:Tr) (z:Option D),cV t6 yV [some C,some (.lst (ns.map .str)),some (.lst (ts.map Tr.d)),z3,z4,z5]=.ok (.nx [some C,some (.lst (ns.map .str)),some (.lst [t.d]),z3,z4,z])/\dP t/\t.many=gF ts:=by
 intro n
 induction n with
 |zero=>intro ts z5 h1 h2;omega
 |succ n ih=>
  intro ts z5 h1 h2 h3 hg
  by_cases hn1:n=0
  ·subst hn1
   match ts,h1 with
   |[t],_=>
    refine⟨t,z5,?_,hg t (by simp),by unfold gF;simp⟩
    rw[xQ (by unfold t6;kd_p;rfl)];rfl
  ·obtain⟨us,a,b,rfl⟩:=NI ts (by omega)
   have hlu:us.length+2=n+1:=by simp at h1;omega
   have m:=eK (i:=(((us++[a]).map Tr.d).length:Int)) (j:=4) (by decide)
   obtain⟨s,hs⟩:=sg2 _ m.1 m.2
   obtain⟨t,z,e1,e2,e3⟩:=ih (us++[.op s a b]) (some b.d) (by simp;omega) (by omega) (by omega) (fun t ht=>by
    rcases xbe.mp ht with h|h
    ·exact hg t (by simp[h])
    ·rw[xbg.mp h];exact⟨hg a (by simp),hg b (by simp)⟩)
   refine⟨t,z,?_,e2,by rw[e3,mL,mL,mL];show gF us+(a.many+b.many)=_;omega⟩
   rw[sW (σ':=[some C,some (.lst (ns.map .str)),some (.lst ((us++[Tr.op s a b]).map Tr.d)),z3,z4,some b.d]) ?_ ?_,e1]
   ·unfold t6;kd_p
    rw[xah (by simp;omega)]
   ·unfold yV ME
    rw[c8,zH (xs:=(us++[a]).map Tr.d) (d:=b.d) (by rw[xa9 (l₂:=[b])];rfl),eW]
    show qL [2] 2 2 _ (aA 5) [some C,some (.lst (ns.map .str)),some (.lst ((us++[a]).map Tr.d)),z3,z4,some b.d]=_
    rw[xa9] at m hs ⊢
    rw[show [a].map Tr.d=[a.d] from rfl] at *
    rw[zbl (d1:=.str s.str) ?_ rfl (by simp;omega)]
    ·rw[xa9];rfl
    ·kd_p
     rw[jA _ _ (by decide)];kd_p
     exact hs
include hn hp in
theorem NZ(cs:List Int)(h1:cs≠[])(h2:cs.length<=1000):∃t:Tr,oS [.lst (cs.map .int),.lst (ns.map .str)]=.ok t.d/\dP t/\t.many<=cs.length:=by
 rw[za2];unfold t7 MH MG MF;kd_p
 have turn:∀(j:Nat) (d:D) (σ:DSt),(cs.map D.int)[j]? = some d->(∃(ts:List Tr) (z3 z4 z5:Option D),σ=[some (.lst (cs.map .int)),some (.lst (ns.map .str)),some (.lst (ts.map Tr.d)),z3,z4,z5]/\(0<j->ts≠[])/\gF ts<=j/\∀t∈ts,dP t)->
   ∃σ',(mG (σ.set 3 (some d))=.ok (.nx σ')\/mG (σ.set 3 (some d))=.ok (.ct σ'))/\∃(ts:List Tr) (z3 z4 z5:Option D),σ'=[some (.lst (cs.map .int)),some (.lst (ns.map .str)),some (.lst (ts.map Tr.d)),z3,z4,z5]/\(0<j+1->ts≠[])/\gF ts<=j+1/\∀t∈ts,dP t:=by
  rintro j d σ hd ⟨ts,z3,z4,z5,rfl,h0,hm,hg⟩
  have hj:j<cs.length:=by
   have:=(xaf.mp hd).1
   simpa using this
  have hlt:=zJ ts
  obtain⟨c,rfl⟩:∃c,d=.int c:=by
   rw[xbd,xa0 hj] at hd
   exact⟨_,(xaw hd).symm⟩
  obtain⟨dg,e,hl,hb⟩:=zF c 6 (by decide)
  have e:fS [.int c,.int 6]=.ok (.lst (dg.map .int)):=e
  obtain⟨d0,g0,a0,b0⟩:=iQ dg hb 0 (by omega)
  obtain⟨d1,g1,a1,b1⟩:=iQ dg hb 1 (by omega)
  have g0:aI (.lst (dg.map .int)) (.int 0)=.ok (.int d0):=g0
  have g1:aI (.lst (dg.map .int)) (.int 1)=.ok (.int d1):=g1
  have set4:∀g,j0 (jX [2] 4 (bI fS (aB (aA 3) (aB (eC (.int 6)) aF))) [some (.lst (cs.map .int)),some (.lst (ns.map .str)),some (.lst (ts.map Tr.d)),some (.int c),z4,z5]) g=g [some (.lst (cs.map .int)),some (.lst (ns.map .str)),some (.lst (ts.map Tr.d)),some (.int c),some (.lst (dg.map .int)),z5]:=fun g=>by
   rw[xD,show bI fS (aB (aA 3) (aB (eC (.int 6)) aF)) (mask [2] [some (.lst (cs.map .int)),some (.lst (ns.map .str)),some (.lst (ts.map Tr.d)),some (.int c),z4,z5])=.ok (.lst (dg.map .int)) from e,qB];rfl
  show ∃σ',(mG [some (.lst (cs.map .int)),some (.lst (ns.map .str)),some (.lst (ts.map Tr.d)),some (.int c),z4,z5]=.ok (.nx σ')\/mG [some (.lst (cs.map .int)),some (.lst (ns.map .str)),some (.lst (ts.map Tr.d)),some (.int c),z4,z5]=.ok (.ct σ'))/\_
  unfold mG
  rw[c8,set4]
  have push:∃σ',(jY [2] 2 (bI kE (aB (aA 4) (aB (aA 1) aF))) [some (.lst (cs.map .int)),some (.lst (ns.map .str)),some (.lst (ts.map Tr.d)),some (.int c),some (.lst (dg.map .int)),z5]=.ok (.nx σ')\/jY [2] 2 (bI kE (aB (aA 4) (aB (aA 1) aF))) [some (.lst (cs.map .int)),some (.lst (ns.map .str)),some (.lst (ts.map Tr.d)),some (.int c),some (.lst (dg.map .int)),z5]=.ok (.ct σ'))/\
    ∃(ts:List Tr) (z3 z4 z5:Option D),σ'=[some (.lst (cs.map .int)),some (.lst (ns.map .str)),some (.lst (ts.map Tr.d)),z3,z4,z5]/\(0<j+1->ts≠[])/\gF ts<=j+1/\∀t∈ts,dP t:=by
   obtain⟨t,et,gt,mt⟩:=zbz dg hl hb ns hn hp
   refine⟨_,.inl ?_,ts++[t],some (.int c),some (.lst (dg.map .int)),z5,rfl,by simp,by rw[mL,mt];omega,fun u hu=>?_⟩
   ·rw[sU,show bL [some (.lst (cs.map .int)),some (.lst (ns.map .str)),some (.lst (ts.map Tr.d)),some (.int c),some (.lst (dg.map .int)),z5] 2=.ok (ts.map Tr.d) from rfl,
     show bI kE (aB (aA 4) (aB (aA 1) aF)) (mask [2] [some (.lst (cs.map .int)),some (.lst (ns.map .str)),some (.lst (ts.map Tr.d)),some (.int c),some (.lst (dg.map .int)),z5])=.ok t.d from et,xA _ _ _ _ (by simp;omega),xa9];rfl
   ·rcases xbe.mp hu with h|h
    ·exact hg u h
    ·rw[xbg.mp h];exact gt
  unfold MC;kd_p
  by_cases hlen:1<ts.length
  ·rw[xah (by simp;omega)];kd_p
   rw[g0];kst_p1
   by_cases he:d0%2=0
   ·rw[xah he];kd_p
    obtain⟨us,a,b,rfl⟩:=NI ts hlen
    have m:=eK (i:=d1) (j:=4) (by decide)
    obtain⟨s,hs⟩:=sg1 _ m.1 m.2
    refine⟨_,.inl ?_,us++[.op s a b],some (.int c),some (.lst (dg.map .int)),some b.d,rfl,by simp,?_,fun u hu=>?_⟩
    ·unfold MB MA
     rw[c8,zH (xs:=us.map Tr.d++[a.d]) (d:=b.d) (by rw[xa9,xa9];rfl),eW]
     show qF [2] 2 2 _ (aA 5) [some (.lst (cs.map .int)),some (.lst (ns.map .str)),some (.lst (us.map Tr.d++[a.d])),some (.int c),some (.lst (dg.map .int)),some b.d]=_
     rw[zbk (d1:=.str s.str) ?_ (by simp only[xa2,xai,xao,xbo] at hlt ⊢;omega)]
     ·rw[xa9];rfl
     ·kd_p
      rw[g1];kst_p1
      exact hs
    ·rw[mL]
     rw[mL,mL] at hm
     show gF us+(a.many+b.many)<=_
     omega
    ·rcases xbe.mp hu with h|h
     ·exact hg u (by simp[h])
     ·rw[xbg.mp h];exact⟨hg a (by simp),hg b (by simp)⟩
   ·rw[xax he];kd_p
    exact push
  ·rw[xax (by simp;omega)];kd_p
   exact push
 obtain⟨σ',e,ts,z3,z4,z5,rfl,hne,hm,hg⟩:=xP (i:=3) (fb:=mG) _ _ turn [some (.lst (cs.map .int)),some (.lst (ns.map .str)),some (.lst []),none,none,none] ⟨[],none,none,none,rfl,by simp,by simp[gF],by simp⟩
 rw[xai] at hne hm
 rw[e];kd_p
 have hc:0<cs.length:=xct.mpr h1
 obtain⟨t,z,e1,e2,e3⟩:=zbA (.lst (cs.map .int)) ns z3 z4 ts.length ts z5 rfl (xct.mpr (hne hc)) (by have:=zJ ts;omega) hg
 rw[e1];kd_p
 exact⟨t,rfl,e2,by omega⟩
end
section
variable(ns:List Str)(hn:ns.length=5)(hp:∀x∈ns,Pn x)
include hn hp
theorem zbB:∀(n:Nat) (cs:List Int) (t:Tr),cs.length=n->1<=n->n<=64->dP t->t.many<=n->∃(cs':List Int) (t':Tr),cV t9 yY [some (.lst (cs.map .int)),some (.lst (ns.map .str)),some t.d]=.ok (.nx [some (.lst (cs'.map .int)),some (.lst (ns.map .str)),some t'.d])/\dP t'/\t'.many<=n:=by
 intro n
 induction n using Nat.strongRecOn with
 |_ n ih=>
  intro cs t h1 h2 h3 hg hm
  obtain⟨l,el,l1,l2⟩:=zK t 64 0 hg (by omega) (by omega)
  have el:qV [t.d,.int 0]=.ok (.str (aQ l)):=el
  obtain⟨d,ed,hd⟩:=zbm l
  have hc:t9 [some (.lst (cs.map .int)),some (.lst (ns.map .str)),some t.d]=.ok (decide (8<d)):=by
   unfold t9;kd_p
   rw[el];kd_p
   rw[ed];kd_p
  by_cases h8:8<d
  ·rw[xah h8] at hc
   have h2':2<=n:=by
    rcases Nat.lt_or_ge n 2 with h|h
    ·have:=hd (l2 (by have:=t.pos;omega));omega
    ·exact h
   have ht:(cs.take (n/2)).length=n/2:=by rw[xb4];omega
   obtain⟨t1,e1,g1,m1⟩:=NZ ns hn hp (cs.take (n/2)) (fun hz=>by rw[hz] at ht;simp at ht;omega) (by omega)
   obtain⟨cs',t',e2,g2,m2⟩:=ih (n/2) (by omega) (cs.take (n/2)) t1 ht (by omega) (by omega) g1 (by omega)
   refine⟨cs',t',?_,g2,by omega⟩
   rw[sW hc (σ':=[some (.lst ((cs.take (n/2)).map .int)),some (.lst (ns.map .str)),some t1.d]) ?_,e2]
   unfold yY MR
   have hsl:eU (aA 0) fV (dS (aC lR (aK cA (aB (aA 0) aF)) (eC (.int 2)))) [some (.lst (cs.map .int)),some (.lst (ns.map .str)),some t.d]=.ok (.lst ((cs.take (n/2)).map .int)):=by
    rw[Lk42.eSl_to _ _ _ (cs.map D.int) (n/2) rfl ?_,List.map_take]
    kd_p
    rw[xG _ _ (by decide +kernel) (by decide),xai,h1];rfl
   rw[c8,lZ,hsl];kd_p
   rw[e1];kd_p
  ·rw[xax h8] at hc
   exact⟨cs,t,xQ hc,hg,hm⟩
theorem zbC(cs:List Int)(h1:cs≠[])(h2:cs.length<=64):∃t:Tr,qW [.lst (cs.map .int),.lst (ns.map .str)]=.ok t.d/\dP t/\t.many<=64:=by
 obtain⟨t,e,g,m⟩:=NZ ns hn hp cs h1 (by omega)
 obtain⟨cs',t',e2,g2,m2⟩:=zbB ns hn hp cs.length cs t rfl (xct.mpr h1) h2 g m
 rw[za4];unfold uA MT MS;kd_p
 rw[e];kd_p
 rw[e2];kd_p
 exact⟨t',rfl,g2,by omega⟩
end
end LmNc
open L2 DL Mir
namespace LmNd
open LmA LmY LmWa LmWb LmWc LmWd LmWf LmWg LmWh LmWi LmNa LmNb LmNc TxtA
def Fo:List Deed->Int->Int->Int->Int->Prop
 |[],p,l,p',l'=>p=p'/\l=l'
 |(w,a,b)::ds,p,l,p',l'=>(w="line"/\(0<=a/\a<p)/\(0<=b/\b<p)/\Fo ds p (l+1) p' l')\/(w="peg"/\(0<=a/\a<l)/\(0<=b/\b<l)/\Fo ds (p+1) l p' l')
theorem Fo.snoc:∀{ds:List Deed} {d:Deed} {p l p' l' p'' l'':Int},Fo ds p l p' l'->Fo [d] p' l' p'' l''->Fo (ds++[d]) p l p'' l''
 |[],d,p,l,p',l',p'',l'',h,h2=>by obtain⟨rfl,rfl⟩:=h;exact h2
 |(w,a,b)::ds,d,p,l,p',l',p'',l'',h,h2=>by
  rcases h with⟨h1,h3,h4,h5⟩|⟨h1,h3,h4,h5⟩
  ·exact .inl ⟨h1,h3,h4,Fo.snoc h5 h2⟩
  ·exact .inr ⟨h1,h3,h4,Fo.snoc h5 h2⟩
theorem zbD{m:Int}{ds:List Deed}{p l:Int}(h:Fm m ds p l):Fo ds m 0 p l:=by
 induction h with
 |nil=>exact⟨rfl,rfl⟩
 |line h h1 h2 ih=>exact ih.snoc (.inl ⟨rfl,h1,h2,rfl,rfl⟩)
 |peg h h1 h2 ih=>exact ih.snoc (.inr ⟨rfl,h1,h2,rfl,rfl⟩)
theorem uM{A B P L d:Option D}{k n:Int}(h:0<=n/\n<k):fL [A,B,P,L,d,some (.int k),some (.int n)]=.ok (.nx [A,B,P,L,d,some (.int k),some (.int n)]):=by
 unfold fL
 have e1:dB (aS (bI hV (aB (aA 6) aF))) [A,B,P,L,d,some (.int k),some (.int n)]=.ok false:=by
  show nW (lY (hV [.int n]))=_
  rw[NC];rfl
 have e2:dB (aS (jV pT lS (eC (.int 0)) (aA 6) (aA 5))) [A,B,P,L,d,some (.int k),some (.int n)]=.ok false:=by
  kd_p
  rw[xah h.1];kd_p
  rw[xah h.2];kd_p
 rw[kR,nU,e1,nV,e2,nX,nO]
theorem turn_ok{w:Str}{a b p l p' l':Int}(h:Fo [(w,a,b)] p l p' l')(A B z5 z6:Option D):∃y5 y6,mI [A,B,some (.int p),some (.int l),some (.tup [.str w,.int a,.int b]),z5,z6]=.ok (.nx [A,B,some (.int p'),some (.int l'),some (.tup [.str w,.int a,.int b]),y5,y6]):=by
 unfold mI
 rcases h with⟨rfl,h1,h2,rfl,rfl⟩|⟨rfl,h1,h2,rfl,rfl⟩
 ·refine⟨some (.int p),some (.int b),?_⟩
  have hc:(fD (dB (aS (aK (g2 bE) (aB (aA 4) (aB (eC (.ty "tuple")) aF))))) (fD (aS (aC c7 (aK cA (aB (aA 4) aF)) (eC (.int 3)))) (aS (aC dN (aC aI (aA 4) (eC (.int 0))) (cM (cS (aB (eC (.str "line")) (aB (eC (.str "peg")) aF)))))))) [A,B,some (.int p),some (.int l),some (.tup [.str "line",.int a,.int b]),z5,z6]=.ok false:=by rfl
  rw[c8,kR,hc,nX,nO,eW]
  unfold y3
  rw[c8,show bP 5 (aC aI (cM (cS (aB (aA 2) (aB (aA 3) aF)))) (aK cT (aB (aC bX (aC aI (aA 4) (eC (.int 0))) (eC (.str "peg"))) aF))) [A,B,some (.int p),some (.int l),some (.tup [.str "line",.int a,.int b]),z5,z6]=.ok (.nx [A,B,some (.int p),some (.int l),some (.tup [.str "line",.int a,.int b]),some (.int p),z6]) from rfl,eW]
  unfold y2
  rw[c8,show gR [] [6] bN (c6 (eU (aA 4) (dS (eC (.int 1))) fV)) fL [A,B,some (.int p),some (.int l),some (.tup [.str "line",.int a,.int b]),some (.int p),z6]=gU (fL [A,B,some (.int p),some (.int l),some (.tup [.str "line",.int a,.int b]),some (.int p),some (.int a)]) (cY [6] bN fL [.int b]) from rfl,uM h1,l0,
   show cY [6] bN fL [.int b] [A,B,some (.int p),some (.int l),some (.tup [.str "line",.int a,.int b]),some (.int p),some (.int a)]=gU (fL [A,B,some (.int p),some (.int l),some (.tup [.str "line",.int a,.int b]),some (.int p),some (.int b)]) (cY [6] bN fL []) from rfl,uM h2,l0,sV,eW]
  unfold y1 y0
  show R.ok (aE.nx [A,B,some (.int (p+0)),some (.int (l+1)),some (.tup [.str "line",.int a,.int b]),some (.int p),some (.int b)])=_
  rw[Int.add_zero]
 ·refine⟨some (.int l),some (.int b),?_⟩
  have hc:(fD (dB (aS (aK (g2 bE) (aB (aA 4) (aB (eC (.ty "tuple")) aF))))) (fD (aS (aC c7 (aK cA (aB (aA 4) aF)) (eC (.int 3)))) (aS (aC dN (aC aI (aA 4) (eC (.int 0))) (cM (cS (aB (eC (.str "line")) (aB (eC (.str "peg")) aF)))))))) [A,B,some (.int p),some (.int l),some (.tup [.str "peg",.int a,.int b]),z5,z6]=.ok false:=by rfl
  rw[c8,kR,hc,nX,nO,eW]
  unfold y3
  rw[c8,show bP 5 (aC aI (cM (cS (aB (aA 2) (aB (aA 3) aF)))) (aK cT (aB (aC bX (aC aI (aA 4) (eC (.int 0))) (eC (.str "peg"))) aF))) [A,B,some (.int p),some (.int l),some (.tup [.str "peg",.int a,.int b]),z5,z6]=.ok (.nx [A,B,some (.int p),some (.int l),some (.tup [.str "peg",.int a,.int b]),some (.int l),z6]) from rfl,eW]
  unfold y2
  rw[c8,show gR [] [6] bN (c6 (eU (aA 4) (dS (eC (.int 1))) fV)) fL [A,B,some (.int p),some (.int l),some (.tup [.str "peg",.int a,.int b]),some (.int l),z6]=gU (fL [A,B,some (.int p),some (.int l),some (.tup [.str "peg",.int a,.int b]),some (.int l),some (.int a)]) (cY [6] bN fL [.int b]) from rfl,uM h1,l0,
   show cY [6] bN fL [.int b] [A,B,some (.int p),some (.int l),some (.tup [.str "peg",.int a,.int b]),some (.int l),some (.int a)]=gU (fL [A,B,some (.int p),some (.int l),some (.tup [.str "peg",.int a,.int b]),some (.int l),some (.int b)]) (cY [6] bN fL []) from rfl,uM h2,l0,sV,eW]
  unfold y1 y0
  show R.ok (aE.nx [A,B,some (.int (p+1)),some (.int (l+0)),some (.tup [.str "peg",.int a,.int b]),some (.int l),some (.int b)])=_
  rw[Int.add_zero]
theorem N0:∀(ds:List Deed) (p l p' l':Int),Fo ds p l p' l'->∀(A B z4 z5 z6:Option D),∃y4 y5 y6,cY [4] bN mI (ds.map Sk.deedD) [A,B,some (.int p),some (.int l),z4,z5,z6]=.ok (.nx [A,B,some (.int p'),some (.int l'),y4,y5,y6])
 |[],p,l,p',l',h,A,B,z4,z5,z6=>by obtain⟨rfl,rfl⟩:=h;exact⟨z4,z5,z6,rfl⟩
 |(w,a,b)::ds,p,l,p',l',h,A,B,z4,z5,z6=>by
  obtain⟨p1,l1,h1,h2⟩:∃p1 l1,Fo [(w,a,b)] p l p1 l1/\Fo ds p1 l1 p' l':=by
   rcases h with⟨e,h1,h2,h3⟩|⟨e,h1,h2,h3⟩
   ·exact⟨p,l+1,.inl ⟨e,h1,h2,rfl,rfl⟩,h3⟩
   ·exact⟨p+1,l,.inr ⟨e,h1,h2,rfl,rfl⟩,h3⟩
  obtain⟨y5,y6,e⟩:=turn_ok h1 A B z5 z6
  obtain⟨w4,w5,w6,e2⟩:=N0 ds p1 l1 p' l' h2 A B (some (.tup [.str w,.int a,.int b])) y5 y6
  refine⟨w4,w5,w6,?_⟩
  rw[xa5,qE]
  show gU (mI [A,B,some (.int p),some (.int l),some (.tup [.str w,.int a,.int b]),z5,z6]) _=_
  rw[e,l0,e2]
theorem zbE{ds:List Deed}{m p l r:Int}(h:Fm (4+m) ds p l)(hr:0<=r/\r<p):mJ [.tup [.lst (ds.map Sk.deedD),.int r],.int m]=.ok (.bl true):=by
 obtain⟨y4,y5,y6,e⟩:=N0 ds _ _ _ _ (zbD h) (some (.tup [.lst (ds.map Sk.deedD),.int r])) (some (.int m)) none none none
 rw[za7]
 unfold uD
 have hc:(fD (dB (aS (aK (g2 bE) (aB (aA 0) (aB (eC (.ty "tuple")) aF))))) (fD (aS (aC c7 (aK cA (aB (aA 0) aF)) (eC (.int 2)))) (fD (dB (aS (aK (g2 bE) (aB (aC aI (aA 0) (eC (.int 0))) (aB (eC (.ty "list")) aF))))) (dB (aS (bI hV (aB (aC aI (aA 0) (eC (.int 1))) aF))))))) [some (.tup [.lst (ds.map Sk.deedD),.int r]),some (.int m),none,none,none,none,none]=.ok false:=by
  have e4:dB (aS (bI hV (aB (aC aI (aA 0) (eC (.int 1))) aF))) [some (.tup [.lst (ds.map Sk.deedD),.int r]),some (.int m),none,none,none,none,none]=.ok false:=by
   show nW (lY (hV [.int r]))=_
   rw[NC];rfl
  rw[nU,show dB (aS (aK (g2 bE) (aB (aA 0) (aB (eC (.ty "tuple")) aF)))) [some (.tup [.lst (ds.map Sk.deedD),.int r]),some (.int m),none,none,none,none,none]=.ok false from rfl,nV,nU,show aS (aC c7 (aK cA (aB (aA 0) aF)) (eC (.int 2))) [some (.tup [.lst (ds.map Sk.deedD),.int r]),some (.int m),none,none,none,none,none]=.ok false from rfl,nV,nU,show dB (aS (aK (g2 bE) (aB (aC aI (aA 0) (eC (.int 0))) (aB (eC (.ty "list")) aF)))) [some (.tup [.lst (ds.map Sk.deedD),.int r]),some (.int m),none,none,none,none,none]=.ok false from rfl,nV,e4]
 rw[c8,kR,hc,nX,nO,eW]
 unfold M6 M5;kd_p
 unfold M4
 rw[c8,show gR [] [4] bN (c6 (aC aI (aA 0) (eC (.int 0)))) mI [some (.tup [.lst (ds.map Sk.deedD),.int r]),some (.int m),some (.int (4+m)),some (.int 0),none,none,none]=cY [4] bN mI (ds.map Sk.deedD) [some (.tup [.lst (ds.map Sk.deedD),.int r]),some (.int m),some (.int (4+m)),some (.int 0),none,none,none] from rfl,e,eW]
 unfold M3
 kd_p
 rw[oZ];kd_p
 rw[xah hr.1];kd_p
 rw[xah hr.2]
theorem uN:∀(t:Tr) (n:Nat),t.many<=n->t.many<=1000->oX n [t.d]=.ok (.lst ((bF t).map .str))/\(bF t).length<=t.many
 |.nm x,n,hn,_=>by
  obtain⟨j,rfl⟩:∃j,n=j+1:=⟨n-1,by have:1<=n:=hn;omega⟩
  refine⟨?_,xag _⟩
  rw[yZ];rfl
 |.nb i,n,hn,_=>by
  obtain⟨j,rfl⟩:∃j,n=j+1:=⟨n-1,by have:1<=n:=hn;omega⟩
  refine⟨?_,xbc _⟩
  rw[yZ];rfl
 |.op s a b,n,hn,h2=>by
  have pa:=a.pos
  have pb:=b.pos
  have hm:(Tr.op s a b).many=a.many+b.many:=rfl
  obtain⟨j,rfl⟩:∃j,n=j+1:=⟨n-1,by omega⟩
  obtain⟨ea,la⟩:=uN a j (by omega) (by omega)
  obtain⟨eb,lb⟩:=uN b j (by omega) (by omega)
  refine⟨?_,by show (bF a++bF b).length<=a.many+b.many;rw[xa2];omega⟩
  rw[yZ];unfold oW M0 MZ;kd_p
  unfold Tr.d;kd_p
  rw[show bX (.str s.str) (.str "name")=.ok (.bl false) from by cases s<;>rfl];kd_p
  rw[show bX (.str s.str) (.str "number")=.ok (.bl false) from by cases s<;>rfl];kd_p
  rw[ea,eb];kd_p
  rw[show a7 (.lst ((bF a).map D.str)) (.lst ((bF b).map .str))=.ok (.lst ((bF a++bF b).map .str)) from by
   show (bif cQ (((bF a).map D.str).length+((bF b).map D.str).length) then R.ok (D.lst ((bF a).map D.str++(bF b).map D.str)) else .bad)=_
   rw[show cQ (((bF a).map D.str).length+((bF b).map D.str).length)=true from xah (by rw[xai,xai];exact xaz (show _<=1000 by omega) (by decide)),xa9];rfl];kd_p
  rfl
theorem zbF:oV [.exc "NoName" []]=.ok (.bl true):=by
 rw[za5];unfold uB MY MX MW MV MU;kd_p
 simp only[eF (show cH "NoName" "NoPlace"=some false by decide +kernel),eF (show cH "NoName" "Same"=some false by decide +kernel),eF (show cH "NoName" "NoFloor"=some false by decide +kernel),eF (show cH "NoName" "Endless"=some false by decide +kernel),eF (show cH "NoName" "NoDeed"=some false by decide +kernel),eF (show cH "NoName" "NoText"=some false by decide +kernel),eF (show cH "NoName" "NoName"=some true by decide +kernel),eF (show cH "NoName" "TooMany"=some false by decide +kernel),eF (show cH "NoName" "NoChange"=some false by decide +kernel),eF (show cH "NoName" "NoFrame"=some false by decide +kernel),eF (show cH "NoName" "NoValue"=some false by decide +kernel),eF (show cH "NoName" "Unlike"=some false by decide +kernel),eF (show cH "NoName" "NoRatio"=some false by decide +kernel),eF (show cH "NoName" "NoBow"=some false by decide +kernel),eF (show cH "NoName" "NoRow"=some false by decide +kernel),eF (show cH "NoName" "ChalkError"=some true by decide +kernel)]
 kd_p
 rfl
theorem zbG{t ns:D}(h:gE [t,ns]=.err (.exc "NoName" [])):oY [t,ns]=.ok (.bl true):=by
 have hv:l5 gE [t,ns]=.err (.exc "NoName" []):=by unfold l5;rw[h];rfl
 rw[za6];unfold uC M2 M1;kd_p
 rw[hv];kd_p
 rw[WV _ _ _ _ _ _ (show cH "NoName" "ChalkError"=some true by decide +kernel)];kd_p
 rw[eF (show cH "NoName" "NoName"=some true by decide +kernel)];kd_p
 rw[zbF];kd_p
end LmNd
open L2 DL Mir
namespace Lk61
open LmA LmY LmWa LmWb LmWc LmWd LmWf LmWg LmWh LmWi LmNa LmNb LmNc LmNd TxtA
open LmC (cell zE)
theorem zP{α:Type}{xs:List α}{f g:α->D}{c:DSt->R Bool}{e:DSt->R D}{σ:DSt}{p:α->Bool}(hl:xs.length<=1000000)(hc:∀a∈xs,c (some (f a)::σ)=.ok (p a))(he:∀a∈xs,e (some (f a)::σ)=.ok (g a)):sX 1 [0] (.ok (xs.map f)) bN c e σ=.ok ((xs.filter p).map g):=by
 have go:∀xs:List α,(∀a∈xs,c (some (f a)::σ)=.ok (p a))->(∀a∈xs,e (some (f a)::σ)=.ok (g a))->eS [0] bN c e (List.replicate 1 none++σ) (xs.map f)=.ok ((xs.filter p).map g):=by
  intro xs
  induction xs with
  |nil=>intro _ _;rfl
  |cons d ds ih=>
   intro hc he
   have ih':=ih (fun d' hd=>hc d' (xas _ hd)) (fun d' hd=>he d' (xas _ hd))
   show (c (some (f d)::σ)).bind (fun k=>bif k then (e (some (f d)::σ)).bind (fun y=>(eS [0] bN c e (List.replicate 1 none++σ) (ds.map f)).bind fun ys=>.ok (y::ys)) else eS [0] bN c e (List.replicate 1 none++σ) (ds.map f))=_
   rw[hc d xa7,he d xa7,ih']
   cases hp:p d with
   |true=>rw[List.filter_cons_of_pos hp];rfl
   |false=>rw[List.filter_cons_of_neg (by rw[hp];exact xa4)];rfl
 show (bif most (xs.map f).length then _ else _)=_
 rw[j4 (by rw[xai];exact hl),go xs hc he];rfl
theorem zbH(x y:Str):aZ (.str x) (.str y)=decide (x=y):=by
 unfold aZ;rfl
theorem zbI(x:Str)(ys:List Str):dU (.str x) (ys.map .str)=true:=by
 unfold dU
 rw[xap,xbh]
 refine⟨rfl,fun d hd=>?_⟩
 obtain⟨q,_,rfl⟩:=xby.mp hd
 rfl
theorem N1(x:Str):∀ys:List Str,jB (.str x) (ys.map .str)=decide (x∈ys)
 |[]=>rfl
 |y::ys=>by
  have ih:=N1 x ys
  unfold jB at *
  rw[xa5,xb7,ih,zbH]
  by_cases e:x=y
  ·subst e;simp
  ·have e':¬y=x:=fun z=>e z.symm
   simp[e,e']
theorem N2(x:Str)(ys:List Str):dN (.str x) (.lst (ys.map .str))=.ok (.bl (!decide (x∈ys))):=by
 rw[W9 (zbI x ys),N1]
theorem N3:∀{ns:List Str},ns.Nodup->j7 ns=true
 |[],_=>rfl
 |n::ns,h=>by
  obtain⟨h1,h2⟩:=xbz.mp h
  unfold j7
  rw[N3 h2,Bool.and_true]
  simpa using h1
theorem zbJ(xs:List Str):c7 (.lst (xs.map .str)) (.lst [])=.ok (.bl (!xs.isEmpty)):=by
 unfold c7
 rw[show eE (.lst (xs.map D.str)) (.lst [])=true from by
  unfold eE
  rw[show bO 9 (.lst (xs.map D.str))=(xs.map D.str).all (bO 8) from by unfold bO;rfl,show (xs.map D.str).all (bO 8)=true from by
   rw[xbh]
   intro d hd
   obtain⟨q,_,rfl⟩:=xby.mp hd
   rfl];rfl]
 cases xs with
 |nil=>rfl
 |cons x xs=>rfl
theorem N4(ds:List Deed):bO 9 (.lst (ds.map Sk.deedD))=true:=by
 have h:(ds.map Sk.deedD).all (bO 8)=true:=by
  rw[xbh]
  intro d hd
  obtain⟨x,_,rfl⟩:=xby.mp hd
  rfl
 rw[show bO 9 (.lst (ds.map Sk.deedD))=(ds.map Sk.deedD).all (bO 8) from by unfold bO;rfl,h]
theorem zbK(ds:List Deed):c7 (.lst (ds.map Sk.deedD)) (.lst (ds.map Sk.deedD))=.ok (.bl false):=by
 unfold c7 eE
 rw[N4,wH 9 _ (N4 ds)];rfl
theorem zbL{t:Tr}(hg:dP t)(hm:t.many<=64){ls:List Str}(hd:ls.Nodup)(hl:ls.length<=100)(s0 s1 s4 s5 s6 z8 z9:Option D) :
  ∃y8 y9,uF [s0,s1,some t.d,some (.lst ((bF t).map .str)),s4,s5,s6,some (.lst (ls.map .str)),z8,z9]=.ok (.nx [s0,s1,some t.d,some (.lst ((bF t).map .str)),s4,s5,s6,some (.lst (ls.map .str)),y8,y9]):=by
 have hs:=zby hg.nums (show t.many<=100 by omega) (show ls.length<=1000 by omega) (N3 hd)
 have hnl:=(uN t 64 hm (by omega)).2
 unfold uF
 have hc:aS (aC c7 (cM (fN 1 [0] (c6 (aA 3)) bN (aS (aC dN (aA 0) (aA 8))) (aA 0))) (cM (cS aF))) [s0,s1,some t.d,some (.lst ((bF t).map .str)),s4,s5,s6,some (.lst (ls.map .str)),z8,z9]=.ok (!((bF t).filter fun x=>!decide (x∈ls)).isEmpty):=by
  have hl:fN 1 [0] (c6 (aA 3)) bN (aS (aC dN (aA 0) (aA 8))) (aA 0) [s0,s1,some t.d,some (.lst ((bF t).map .str)),s4,s5,s6,some (.lst (ls.map .str)),z8,z9]=.ok (((bF t).filter fun x=>!decide (x∈ls)).map .str):=by
   rw[nZ,show c6 (aA 3) [s0,s1,some t.d,some (.lst ((bF t).map .str)),s4,s5,s6,some (.lst (ls.map .str)),z8,z9]=.ok ((bF t).map .str) from rfl]
   refine zP (by omega) (fun x _=>?_) fun x _=>rfl
   kd_p
   rw[N2];kd_p
  rw[wW,sQ,nR,hl]
  show lY (c7 (.lst (((bF t).filter fun x=>!decide (x∈ls)).map .str)) (.lst []))=_
  rw[zbJ];rfl
 rw[kR,hc]
 by_cases hx:∃x∈bF t,x∉ls
 ·have he:((bF t).filter fun x=>!decide (x∈ls)).isEmpty=false:=by
   obtain⟨x,h1,h2⟩:=hx
   rw[List.isEmpty_eq_false_iff_exists_mem]
   exact⟨x,xcl.mpr ⟨h1,by simp[h2]⟩⟩
  rw[he]
  rw[zN t _ hx] at hs
  have hr:=zbG hs
  refine⟨z8,z9,?_⟩
  show sT (nW (lY (oY [t.d,.lst (ls.map .str)]))) _ _ _=_
  rw[hr];rfl
 ·have hx:∀x∈bF t,x∈ls:=fun x h=>Classical.byContradiction fun h2=>hx ⟨x,h,h2⟩
  have he:((bF t).filter fun x=>!decide (x∈ls)).isEmpty=true:=by
   rw[List.isEmpty_iff,List.filter_eq_nil_iff]
   intro x h
   simp[hx x h]
  rw[he]
  obtain⟨⟨r,sk⟩,e,g⟩:=zO rfl t _ (wf0 (show (4:Int)<=4+(ls.length:Int) by omega)) hx
  rw[e] at hs
  have hs:gE [t.d,.lst (ls.map .str)]=.ok (sk.plan.map Sk.deedD,r):=hs
  have hgr:=(rB t _ _ _ hg.nums e).1
  rw[show (Sk.sk0 0 1 2 3 (4+(ls.length:Int))).plan.length=0 from rfl] at hgr
  have hmost:most (sk.plan.map Sk.deedD).length=true:=j4 (by rw[xai];omega)
  have hf:=zbE g.wf.fm g.at_
  refine⟨none,some (.lst (sk.plan.map Sk.deedD)),?_⟩
  show (gE [t.d,.lst (ls.map .str)]).bind (fun r=>uE [s0,s1,some t.d,some (.lst ((bF t).map .str)),s4,s5,s6,some (.lst (ls.map .str)),some (.tup [.lst r.1,.int r.2]),z9])=_
  rw[hs]
  show uE [s0,s1,some t.d,some (.lst ((bF t).map .str)),s4,s5,s6,some (.lst (ls.map .str)),some (.tup [.lst (sk.plan.map Sk.deedD),.int r]),z9]=_
  unfold uE
  have h1:(dB (aS (bI mJ (aB (aA 8) (aB (aK cA (aB (aA 7) aF)) aF))))) [s0,s1,some t.d,some (.lst ((bF t).map .str)),s4,s5,s6,some (.lst (ls.map .str)),some (.tup [.lst (sk.plan.map Sk.deedD),.int r]),z9]=.ok false:=by
   show nW (lY (mJ [.tup [.lst (sk.plan.map Sk.deedD),.int r],.int ((ls.map D.str).length:Int)]))=_
   rw[xai,hf];rfl
  unfold xU
  rw[h1]
  show zD [s0,s1,some t.d,some (.lst ((bF t).map .str)),s4,s5,s6,some (.lst (ls.map .str)),some (.tup [.lst (sk.plan.map Sk.deedD),.int r]),z9]=_
  unfold zD
  show (bif most (sk.plan.map Sk.deedD).length then zC [s0,s1,some t.d,some (.lst ((bF t).map .str)),s4,s5,s6,some (.lst (ls.map .str)),some (.tup [.lst (sk.plan.map Sk.deedD),.int r]),some (.lst (sk.plan.map Sk.deedD))] else .bad)=_
  rw[hmost,cond_true]
  unfold zC
  show (bif most (sk.plan.map Sk.deedD).length then zB [s0,s1,some t.d,some (.lst ((bF t).map .str)),s4,s5,s6,some (.lst (ls.map .str)),some (.tup [.lst (sk.plan.map Sk.deedD++[.non]),.int r]),some (.lst (sk.plan.map Sk.deedD))] else .bad)=_
  rw[hmost,cond_true]
  unfold zB
  show zA [s0,s1,some t.d,some (.lst ((bF t).map .str)),s4,s5,s6,some (.lst (ls.map .str)),none,some (.lst (sk.plan.map Sk.deedD))]=_
  unfold zA
  have h2:l5 gE [t.d,.lst (ls.map .str)]=.ok (.tup [.lst (sk.plan.map Sk.deedD),.int r]):=by unfold l5;rw[hs];rfl
  rw[kR];kd_p
  rw[h2];kd_p
  rw[mK];kd_p
  rw[zbK];kd_p
def oth:List Str:=["other","yetother"]
theorem turn_ok(ns:List Int){xs:List Str}(h5:xs.length=5)(hnd:xs.Nodup){t:Tr}(hg:dP t)(hm:t.many<=64)(k:Nat)(z5 z6 z7 z8 z9:Option D) :
  ∃y5 y6 y7 y8 y9,uG [some (.lst (ns.map .int)),some (.lst (xs.map .str)),some t.d,some (.lst ((bF t).map .str)),some (.int (k:Int)),z5,z6,z7,z8,z9]=.ok (.nx [some (.lst (ns.map .int)),some (.lst (xs.map .str)),some t.d,some (.lst ((bF t).map .str)),some (.int (k:Int)),y5,y6,y7,y8,y9]):=by
 obtain⟨dg,ed,hl,hb⟩:=zF (cell ns k) 8 (by decide)
 have ed:fS [.int (cell ns k),.int 8]=.ok (.lst (dg.map .int)):=ed
 have ck:kD [.lst (ns.map .int),.int (k:Int)]=.ok (.int (cell ns k)):=zE ns k
 obtain⟨d6,g6,a6,b6⟩:=iQ dg hb 6 (by omega)
 have g6:aI (.lst (dg.map .int)) (.int 6)=.ok (.int d6):=g6
 have m6:=eK (i:=d6) (j:=3) (by decide)
 obtain⟨n6,hn6⟩:∃n:Nat,d6%3=(n:Int):=⟨(d6%3).toNat,by omega⟩
 unfold uG;kd_p
 rw[ck];kd_p
 rw[ed];kd_p
 unfold M8
 have hmo:eU (cM (fN 1 [0] (c6 (cM (cS (aB (eC (.str "other")) (aB (eC (.str "yetother")) aF))))) bN (aS (aC dN (aA 0) (aA 2))) (aA 0))) fV (dS (aC cR (aC aI (aA 5) (eC (.int 6))) (eC (.int 3)))) [some (.lst (ns.map .int)),some (.lst (xs.map .str)),some t.d,some (.lst ((bF t).map .str)),some (.int (k:Int)),some (.lst (dg.map .int)),z6,z7,z8,z9]=.ok (.lst (((oth.filter fun x=>!decide (x∈xs)).take n6).map .str)):=by
  rw[Lk42.eSl_to _ _ _ ((oth.filter fun x=>!decide (x∈xs)).map .str) n6 ?_ ?_,List.map_take]
  ·rw[nR,nZ,show c6 (cM (cS (aB (eC (.str "other")) (aB (eC (.str "yetother")) aF)))) [some (.lst (ns.map .int)),some (.lst (xs.map .str)),some t.d,some (.lst ((bF t).map .str)),some (.int (k:Int)),some (.lst (dg.map .int)),z6,z7,z8,z9]=.ok (oth.map .str) from rfl,zP (g:=.str) (p:=fun x=>!decide (x∈xs)) (by decide) (fun x _=>?_) fun x _=>rfl]
   ·rfl
   ·kd_p
    rw[N2];kd_p
  ·kd_p
   rw[g6];kst_p1
   rw[hn6]
 rw[c8,lZ,hmo,qB,eW]
 have hfl:∀x∈(oth.filter fun x=>!decide (x∈xs)).take n6,x∉xs:=fun x hx=>by
  have:=(xcl.mp (List.mem_of_mem_take hx)).2
  simpa using this
 have hfn:((oth.filter fun x=>!decide (x∈xs)).take n6).Nodup:=(List.Nodup.sublist List.filter_sublist (by decide)).sublist (List.take_sublist _ _)
 have hfc:((oth.filter fun x=>!decide (x∈xs)).take n6).length<=2:=xaz (List.take_sublist _ _).length_le (List.filter_sublist (l:=oth)).length_le
 generalize ((oth.filter fun x=>!decide (x∈xs)).take n6)=mo at hfl hfn hfc
 unfold M7
 show ∃y5 y6 y7 y8 y9,aV _ uF [some (.lst (ns.map .int)),some (.lst (xs.map .str)),some t.d,some (.lst ((bF t).map .str)),some (.int (k:Int)),some (.lst (dg.map .int)),some (.lst (mo.map .str)),z7,z8,z9]=_
 have hli:fN 1 [0] (iF i7 (aB (eC (.int 5)) aF)) bN (aS (aC iI (aC cR (aC aI (aA 6) (aA 0)) (eC (.int 4))) (eC (.int 0)))) (aC aI (aA 2) (aA 0)) [some (.lst (ns.map .int)),some (.lst (xs.map .str)),some t.d,some (.lst ((bF t).map .str)),some (.int (k:Int)),some (.lst (dg.map .int)),some (.lst (mo.map .str)),z7,z8,z9] =
   .ok ((((List.range 5).filter fun j=>decide (0<dg.getD j 0%4)).map fun j=>xs.getD j "").map .str):=by
  have hj:∀j∈List.range 5,j<5:=fun j h=>List.mem_range.mp h
  rw[nZ,show iF i7 (aB (eC (.int 5)) aF) [some (.lst (ns.map .int)),some (.lst (xs.map .str)),some t.d,some (.lst ((bF t).map .str)),some (.int (k:Int)),some (.lst (dg.map .int)),some (.lst (mo.map .str)),z7,z8,z9]=.ok ((List.range 5).map fun j:Nat=>.int (j:Int)) from rfl,
   zP (g:=fun j=>.str (xs.getD j "")) (p:=fun j=>decide (0<dg.getD j 0%4)) (by decide) (fun j h=>?_) fun j h=>?_,List.map_map]
  ·rfl
  ·have:=hj j h
   kd_p
   rw[qD (d:=.int (dg.getD j 0)) (by rw[xbd,List.getD_eq_getElem?_getD,xa0 (show j<dg.length by omega)];rfl)];kd_p
   rw[jA _ _ (by decide)];kd_p
  ·have:=hj j h
   kd_p
   rw[qD (d:=.str (xs.getD j "")) (by rw[xbd,List.getD_eq_getElem?_getD,xa0 (show j<xs.length by omega)];rfl)]
 have hsub:(((List.range 5).filter fun j=>decide (0<dg.getD j 0%4)).map fun j=>xs.getD j "").Sublist xs:=by
  have h1:(((List.range 5).filter fun j=>decide (0<dg.getD j 0%4)).map fun j=>xs.getD j "").Sublist ((List.range 5).map fun j=>xs.getD j ""):=List.filter_sublist.map _
  have h2:((List.range 5).map fun j=>xs.getD j "")=xs:=by
   match xs,h5 with
   |[a,b,c,d,e],_=>rfl
  rw[h2] at h1
  exact h1
 generalize (((List.range 5).filter fun j=>decide (0<dg.getD j 0%4)).map fun j=>xs.getD j "")=su at hli hsub
 have hsl:=hsub.length_le
 have hnd2:(su++mo).Nodup:=List.nodup_append.mpr ⟨hnd.sublist hsub,hfn,fun a ha b hb e=>hfl b hb (e▸hsub.subset ha)⟩
 have hadd:a7 (.lst (su.map D.str)) (.lst (mo.map .str))=.ok (.lst ((su++mo).map .str)):=by
  show (bif cQ ((su.map D.str).length+(mo.map D.str).length) then R.ok (D.lst (su.map D.str++mo.map D.str)) else .bad)=_
  rw[show cQ ((su.map D.str).length+(mo.map D.str).length)=true from xah (by rw[xai,xai];exact xaz (show _<=1000 by omega) (by decide)),xa9];rfl
 obtain⟨y8,y9,e⟩:=zbL hg hm hnd2 (by rw[xa2];omega) (some (.lst (ns.map .int))) (some (.lst (xs.map .str))) (some (.int (k:Int))) (some (.lst (dg.map .int))) (some (.lst (mo.map .str))) z8 z9
 refine⟨some (.lst (dg.map .int)),some (.lst (mo.map .str)),some (.lst ((su++mo).map .str)),y8,y9,?_⟩
 rw[c8,lZ,sQ,nR,hli]
 show j0 (qA 7 (a7 (.lst (su.map .str)) (.lst (mo.map .str))) _) _=_
 rw[hadd,qB,eW]
 exact e
theorem law_ok(ns:List Int)(h:ns.length<=63):uI [.lst (ns.map .int)]=.ok (.bl true):=by
 obtain⟨xs,ex,h5,hnd,hp⟩:=zbh (cell ns 0)
 have c0:kD [.lst (ns.map .int),.int 0]=.ok (.int (cell ns 0)):=zE ns 0
 rw[za9];unfold uH;kd_p
 rw[c0];kd_p
 rw[ex];kd_p
 unfold NB;kd_p
 rw[LmX.eSl_mid _ _ _ _ (ns.map D.int) 1 40 rfl rfl rfl]
 obtain⟨cs,ec,hc⟩:∃cs:List Int,((ns.map D.int).drop (min 1 (ns.map D.int).length)).take (min 40 (ns.map D.int).length-min 1 (ns.map D.int).length)=cs.map D.int/\cs.length<=40:=by
  refine⟨(ns.drop (min 1 (ns.map D.int).length)).take (min 40 (ns.map D.int).length-min 1 (ns.map D.int).length),by rw[List.map_take,List.map_drop],?_⟩
  rw[xb4,List.length_drop,xai]
  omega
 rw[ec];kd_p
 rw[show a7 (.lst (cs.map D.int)) (.lst [.int 1])=.ok (.lst ((cs++[1]).map .int)) from by
  show (bif cQ ((cs.map D.int).length+1) then R.ok (D.lst (cs.map D.int++[.int 1])) else .bad)=_
  rw[show cQ ((cs.map D.int).length+1)=true from xah (by rw[xai];exact xaz (show cs.length+1<=63 by omega) (by decide)),xa9];rfl];kd_p
 obtain⟨t,et,hg,hm⟩:=zbC xs h5 hp (cs++[1]) (by simp) (by simp;omega)
 rw[et];kd_p
 unfold NA;kd_p
 rw[show qX [t.d]=.ok (.lst ((bF t).map .str)) from (uN t 64 hm (by omega)).1];kd_p
 unfold M9
 have hr:∃ds:List D,kO [.int 40,.int (max 41 (min (ns.length:Int) 50))]=.ok ds/\∀d∈ds,∃k:Nat,d=.int (k:Int):=by
  refine⟨dE 40 (max 41 (min (ns.length:Int) 50)-40).toNat,?_,fun d hd=>?_⟩
  ·show (bif dF 40&&dF (max 41 (min (ns.length:Int) 50)) then R.ok _ else .bad)=_
   rw[show dF (max 41 (min (ns.length:Int) 50))=true from by unfold dF;simp;omega];rfl
  ·unfold dE at hd
   obtain⟨i,_,rfl⟩:=xby.mp hd
   exact⟨40+i,by rw[Int.natCast_add];rfl⟩
 obtain⟨ds,e1,e2⟩:=hr
 rw[c8,xM,show iF kO (aB (eC (.int 40)) (aB (aK nM (aB (eC (.int 41)) (aB (aK pW (aB (aK cA (aB (aA 0) aF)) (aB (eC (.int 50)) aF))) aF))) aF)) (mask [] [some (.lst (ns.map .int)),some (.lst (xs.map .str)),some t.d,some (.lst ((bF t).map .str)),none,none,none,none,none,none])=kO [.int 40,.int (max 41 (min (((ns.map D.int).length:Nat):Int) 50))] from rfl,xai,e1,xN]
 obtain⟨σ',e,z4,z5,z6,z7,z8,z9,rfl⟩:=xO (i:=4) (fb:=uG) (fun σ=>∃z4 z5 z6 z7 z8 z9:Option D,σ=[some (.lst (ns.map .int)),some (.lst (xs.map .str)),some t.d,some (.lst ((bF t).map .str)),z4,z5,z6,z7,z8,z9]) ds (by
  rintro d hd σ ⟨z4,z5,z6,z7,z8,z9,rfl⟩
  obtain⟨k,rfl⟩:=e2 d hd
  obtain⟨y5,y6,y7,y8,y9,e⟩:=turn_ok ns h5 hnd hg hm k z5 z6 z7 z8 z9
  exact⟨_,.inl e,_,y5,y6,y7,y8,y9,rfl⟩) [some (.lst (ns.map .int)),some (.lst (xs.map .str)),some t.d,some (.lst ((bF t).map .str)),none,none,none,none,none,none] ⟨none,none,none,none,none,none,rfl⟩
 rw[e];rfl
end Lk61
end
section
namespace Kx
open L2 DL Mir
local macro_rules | `(tactic| kd_p1)=>`(tactic| (first|exact Or.inl rfl|exact Or.inr (Or.inl rfl)|exact Or.inr (Or.inr rfl)))
local macro_rules | `(tactic| kcj_m)=>`(tactic| (first|exact Or.inl rfl|exact Or.inr rfl))
local macro_rules | `(tactic| kcf_m)=>`(tactic| (first|exact .inl rfl|exact .inr rfl|assumption))
local macro_rules | `(tactic| walk_at "C")=>`(tactic| first|assumption|exact XC.lc (by assumption) _ _ _ _ _ _|exact XC.nox (by assumption))
local macro_rules | `(tactic| walk_at "H")=>`(tactic| first|assumption|exact XC.calm (by walk_at "C")|rfl)
local macro_rules | `(tactic| walk_at "F")=>`(tactic| first|exact pU|exact wL|exact kP|exact VQ|exact VT|exact CI|exact CG (by walk_at "C")|exact wM (by walk_at "C")|exact W7 (by walk_at "C")|exact W8 (by walk_at "C")|exact YI (by walk_at "C"))
local macro_rules | `(tactic| walk_at "E")=>`(tactic| first|((with_reducible refine @BN _ _ _ _ _ ?_ ?_ ?_ ?_);rfl;(first|exact Or.inl rfl|exact Or.inr (Or.inl rfl)|exact Or.inr (Or.inr rfl));decide;decide)|((with_reducible refine @dQ _ _ _ _ _ _ ?_ ?_ ?_);walk_at "E";walk_at "E";rfl)|((with_reducible refine @gL _ _ _ _ _))|((with_reducible refine @gN _ _))|((with_reducible refine @BV _ _ _ _ _ _ _ ?_ ?_ ?_);walk_at "E";walk_at "E";(intro _ _;rfl))|((with_reducible refine @CC _ _ _ _ _ _ _ ?_ ?_);walk_at "E";walk_at "E")|((with_reducible refine @rN _ _ _ _ _))|((with_reducible refine @BW _ _ _ _ _ _ _ _ _ _ (by walk_at "C") ?_ ?_ ?_ ?_ ?_ ?_);walk_at "H";walk_at "E";rfl;decide;rfl;rfl)|((with_reducible refine @VN _ _ _ _ _ _ _ ?_ ?_);walk_at "E";walk_at "E")|((with_reducible refine @WC _ _ _ _ _ _ _ ?_ ?_ ?_ ?_ ?_);walk_at "H";walk_at "E";rfl;rfl;rfl)|((with_reducible refine @fQ _ _ _ _ _ _ _ _ _ ?_ ?_ ?_ ?_);walk_at "F";walk_at "E";walk_at "E";(first|exact c5 _ (by decide) (by decide)|rfl))|((with_reducible refine @lV _ _ _ _ _ _ _ ?_ ?_ ?_ ?_ ?_);walk_at "H";walk_at "E";rfl;rfl;rfl)|((with_reducible refine @BQ _ _ _ _ _ (by assumption) ?_ ?_);rfl;decide)|((with_reducible refine @UO _ _ _ _ _ ?_);walk_at "E")|((with_reducible refine @V1 _ _ _ _ _ _ _ ?_ ?_ ?_ ?_ ?_);walk_at "H";walk_at "E";rfl;rfl;rfl)|((with_reducible refine @DF.val _ _ _ _ ?_);walk_at "E")|((with_reducible refine @VL _ _ _ _ _ _ _ ?_ ?_);walk_at "E";walk_at "E")|((with_reducible refine @WI _ _ _ _ ?_);walk_at "E")|((with_reducible refine @CJ _ _ _ _ _ _ _ _ _ ?_ ?_ ?_ ?_);walk_at "F";walk_at "E";walk_at "E";(first|exact c5 _ (by decide) (by decide)|rfl))|((with_reducible refine @UE _ _ _ _ _))|((with_reducible refine @UT _ _ _ _ _ ?_);walk_at "E")|((with_reducible refine @CT _ _ _ _ _ _ _ _ _ _ ?_ ?_ ?_);walk_at "E";walk_at "E";walk_at "E")|((with_reducible refine @WP _ _ _ _ _ ?_ ?_ ?_);walk_at "H";rfl;decide)|((with_reducible refine @VM _ _ _ _ _ _ _ ?_ ?_);walk_at "E";walk_at "E")|((with_reducible refine @UU _ _ _ _ _ _ _ ?_ ?_ ?_ ?_);walk_at "H";walk_at "E";rfl;rfl)|((with_reducible refine @XH _ _ _ _ _ _ _ ?_ ?_ ?_);walk_at "E";walk_at "E";(intro _ _;rfl))|((with_reducible refine @CP _ _))|((with_reducible refine @UN _ _ _ _ _ _ ?_);walk_at "E")|((with_reducible refine @nF _ _ _ _ _ ?_);walk_at "E")|((with_reducible refine @VO _ _ _ _ _ _ _ ?_ ?_);walk_at "E";walk_at "E")|((with_reducible refine @V9 _ _ _ _ _ _ _ ?_ ?_ ?_ ?_ ?_ ?_);walk_at "H";walk_at "H";walk_at "E";rfl;rfl;rfl)|((with_reducible refine @vU _ _ _ _ _ ?_);walk_at "E")|((with_reducible refine @vT _ _ _ _ _ ?_);walk_at "E")|((with_reducible refine @XE _ _ _ _ _ ?_);walk_at "E")|((with_reducible refine @VJ _ _ _ _ _ _ _ ?_ ?_);walk_at "E";walk_at "E")|((with_reducible refine @W4 _ _ _ _ _ _ _ ?_ ?_ ?_ ?_ ?_);walk_at "H";walk_at "E";rfl;rfl;rfl)|((with_reducible refine @XN _ _ _ _ _ _ _ _ ?_ ?_ ?_ ?_ ?_ ?_ ?_);walk_at "E";walk_at "E";rfl;rfl;rfl;rfl;rfl)|((with_reducible refine @Y8 _ _ _ _ _ _ _ _ _ _ _ _ ?_ ?_ ?_ ?_ ?_ ?_ ?_ ?_ ?_);walk_at "H";walk_at "E";walk_at "E";rfl;rfl;rfl;rfl;rfl;rfl)|((with_reducible refine @YG _ _ _ _ _ _ _ _ (by walk_at "C") ?_ ?_ ?_);walk_at "E";walk_at "E";(intro _ _;rfl))|((with_reducible refine @BO _ _ _ _))|((with_reducible refine @pK _ _ _ _ _ _ _ _ ?_ ?_);walk_at "E";walk_at "E")|((with_reducible refine @lM _ _ _ _ _ _ _ _ ?_ ?_);walk_at "E";walk_at "E")|((with_reducible refine @UV _ _ _ _ _ _ _ _ ?_ ?_ ?_ ?_ ?_);walk_at "H";walk_at "E";rfl;rfl;rfl)|((with_reducible refine @V8 _ _ _ _ _ _ _ ?_ ?_ ?_ ?_ ?_ ?_);walk_at "H";walk_at "H";walk_at "E";rfl;rfl;rfl)|((with_reducible refine @pJ _ _ _ _ ?_ ?_);walk_at "E";(intro _;rfl))|((with_reducible refine @vW _ _ _ _ _ _ ?_);walk_at "E")|((refine @gL _ _ _ _ _))|((refine @rN _ _ _ _ _))|((refine @fQ _ _ _ _ _ _ _ _ _ ?_ ?_ ?_ ?_);walk_at "F";walk_at "E";walk_at "E";(first|exact c5 _ (by decide) (by decide)|rfl))|((refine @BQ _ _ _ _ _ (by assumption) ?_ ?_);rfl;decide)|((refine @nF _ _ _ _ _ ?_);walk_at "E")|((refine @vU _ _ _ _ _ ?_);walk_at "E")|((refine @vT _ _ _ _ _ ?_);walk_at "E")|((refine @lM _ _ _ _ _ _ _ _ ?_ ?_);walk_at "E";walk_at "E")|((refine @pJ _ _ _ _ ?_ ?_);walk_at "E";(intro _;rfl)))
local macro_rules | `(tactic| walk_at "GS")=>`(tactic| first|exact @PP _|((refine @PQ _ _ _ _ _ ?_ ?_ ?_);((refine @uT _ _ _ _ ?_ ?_ ?_ ?_);assumption;rfl;(first|exact Or.inl rfl|exact Or.inr rfl);(first|exact .inl rfl|exact .inr rfl|assumption));walk_at "GS";rfl))
local macro_rules | `(tactic| walk_at "G")=>`(tactic| first|((with_reducible refine @UR _ _ _ _ ?_ ?_ ?_ ?_);assumption;rfl;(first|exact Or.inl rfl|exact Or.inr rfl);(first|exact .inl rfl|exact .inr rfl|assumption))|((with_reducible refine @US _ _ _ _ _ _ ?_ ?_ ?_ ?_ ?_);walk_at "H";walk_at "GS";rfl;rfl;rfl))
local macro_rules | `(tactic| kst_p)=>`(tactic| exact @rV _ _ _ _ _ _ _ _ _ (by assumption) (by walk_at "E") (by rfl) (by kcj_m) (by rfl) (by kcf_m))
local macro_rules | `(tactic| walk_at "s3")=>`(tactic| exact @nJ _ _ _ _ _ _ _ _ (by walk_at "E"))
local macro_rules | `(tactic| walk_at "s5")=>`(tactic| exact @U2 _ _ _ _ _ _ _ _ _ _ _ (by assumption) (by walk_at "E") (by rfl) (by rfl) (by kcj_m) (by rfl) (by kcf_m))
local macro_rules | `(tactic| walk_at "s1")=>`(tactic| exact @U1 _ _ _ _ _ _ _ _ _ _ (by assumption) (by walk_at "E") (by rfl) (by rfl) (by kcj_m) (by rfl) (by kcf_m))
local macro_rules | `(tactic| walk_at "s7")=>`(tactic| exact @U6 _ _ _ _ _ _ _ _ _ _ _ _ (by walk_at "E") (by rfl) (by rfl) (by kd_p1) (by decide) (by decide) (by rfl) (by rfl) (by rfl) (by rfl) (by rfl) (by rfl))
local macro_rules | `(tactic| walk_at "sU")=>`(tactic| exact @YN _ _ _ _ _ _ _ _ _ _ _ _ (by walk_at "E") (by rfl) (by rfl) (by kd_p1) (by decide) (by decide) (by rfl) (by rfl) (by rfl) (by rfl) (by rfl) (by rfl))
local macro_rules | `(tactic| kst_p2)=>`(tactic| exact(@cX _ _ _ _ _ _ _ (by walk_at "s3")))
local macro_rules | `(tactic| walk_at "I3")=>`(tactic| exact(@gQ _ _ _ _ _ _ _ _ _ _ _ _ (by walk_at "E") (by kst_p2) (@jW _ _ _ _)))
set_option maxHeartbeats 4000000
variable{P:Program}{w:World}{K:xFg}{mg:Str->Option Value}{base:Heap}{f:Addr}{fd:FuncData}{k:Nat}
local macro_rules | `(tactic| kpf_c)=>`(tactic| exact⟨rfl,rfl,rfl,by decide +kernel,rfl,by decide +kernel,by decide +kernel⟩)
local macro_rules | `(tactic| walk_at "b0")=>`(tactic| exact fun _ _ _ _ _ _=>us0 (rfl))
local macro_rules | `(tactic| walk_at "b1")=>`(tactic| exact fun _ _ _ _ _ _=>j6 (fun _=>rfl))
local macro_rules | `(tactic| walk_at "b2")=>`(tactic| exact fun _ _ _ _ _ _=>n8 (fun _ _=>rfl))
local macro_rules | `(tactic| walk_at "b3")=>`(tactic| exact fun _ _ _ _ _ _=>gX (fun _ _ _=>rfl))
local macro_rules | `(tactic| walk_at "b4")=>`(tactic| exact fun _ _ _ _ _ _=>us4 (fun _ _ _ _=>rfl))
local macro_rules | `(tactic| walk_at "b5")=>`(tactic| exact fun _ _ _ _ _ _=>us5 (fun _ _ _ _ _=>rfl))
def top(i:Nat):Stmt:=PySem.Challenge.pw_chalkline_k61_names_that_lack.main.body.getD i (.Pass ⟨0,0,0,0⟩)
theorem zbM(F:FA K mg "_law_mixed" (top 30) ["_law_cell_here","_law_k"] f fd):bA P w K mg base (k+1) "_law_mixed" oR:=F.ok (own':=[]) (N:=["_law_cell_here","_law_k","_law_number"]) (by kpf_c) rfl rfl fun _ _ _ _ _ _ C L nd=>(@aW _ _ _ _ _ _ _ _ _ _ (by kst_p) (@aW _ _ _ _ _ _ _ _ _ _ (by kst_p) (@aW _ _ _ _ _ _ _ _ _ _ (by kst_p) (by kst_p2))))
theorem zbN(F:FA K mg "_law_digits" (top 31) ["_law_cell_here","_law_many"] f fd)(q1:mg "range"=none)(q0:bA P w K mg base k "_law_mixed" oR):bA P w K mg base (k+1) "_law_digits" fS:=F.ok (own':=[]) (N:=["_law_cell_here","_law_many","_law_found","_law_number","_law_k"]) (by kpf_c) rfl rfl fun _ _ _ _ _ _ C L nd=>(@aW _ _ _ _ _ _ _ _ _ _ (by walk_at "s5") (@aW _ _ _ _ _ _ _ _ _ _ (by walk_at "s1") (@aW _ _ _ _ _ _ _ _ _ _ (@lQ _ _ _ _ _ _ _ _ _ _ _ _ L C.calm (by walk_at "E") (by walk_at "G") (@cX _ _ _ _ _ _ _ (@gQ _ _ _ _ _ _ _ _ _ _ _ _ (@DW.dt _ _ _ _ (@BT _ _ _ _ _ _ _ _ (by walk_at "E") (@vT _ _ _ _ _ (@fQ _ _ _ _ _ _ _ _ _ (@kP _) (by walk_at "E") (@gL _ _ _ _ _) (by first|exact c5 _ (by decide) (by decide)|rfl))))) (@aW _ _ _ _ _ _ _ _ _ _ (by walk_at "s7") (@cX _ _ _ _ _ _ _ (by walk_at "s1"))) (@cX _ _ _ _ _ _ _ (by walk_at "s7")))) (by rfl) (by intro _;rfl)) (@rS _ _ _ _ _ _ _ _ 2 (by rfl) (by rfl) (by kst_p2)))))
theorem zbO(F:FA K mg "_law_words" (top 32) ["_law_cell_here","_law_many"] f fd)(q1:mg "range"=none)(q0:bA P w K mg base k "_law_digits" fS):bA P w K mg base (k+1) "_law_words" qU:=F.ok (own':=[]) (N:=["_law_cell_here","_law_many","_law_letters","_law_digits_here","_law_tail","_law_j"]) (by kpf_c) rfl rfl fun _ _ _ _ _ _ C L nd=>(@aW _ _ _ _ _ _ _ _ _ _ (by kst_p) (@aW _ _ _ _ _ _ _ _ _ _ (by kst_p) (@aW _ _ _ _ _ _ _ _ _ _ (by kst_p) (@aW _ _ _ _ _ _ _ _ _ _ (@lQ _ _ _ _ _ _ _ _ _ _ _ _ L C.calm (by walk_at "E") (by walk_at "G") (@cX _ _ _ _ _ _ _ (by kst_p)) (by rfl) (by intro _;rfl)) (@aW _ _ _ _ _ _ _ _ _ _ (by walk_at "I3") (@cX _ _ _ _ _ _ _ (@nJ _ _ _ _ _ _ _ _ (@DF.val _ _ _ _ (@pL _ _ _ _ _ _ _ _ _ _ _ _ _ _ _ C.calm (LC.of (k:=1) (NY:=["_law_k","_law_cell_here","_law_many","_law_letters","_law_digits_here","_law_tail","_law_j"]) (N:=["_law_cell_here","_law_many","_law_letters","_law_digits_here","_law_tail","_law_j"]) (sc0:=(bB (top 32))) rfl rfl (by decide +kernel)) rfl (by walk_at "E") (fun _ _ _ _ nd2=>⟨(by walk_at "G"),(@BZ _ _),(by walk_at "E")⟩) (by intro _;rfl))))))))))
theorem zbP(F:FA K mg "_law_leaf" (top 33) ["_law_digits_here","_law_names"] f fd)(q0:mg "len"=none):bA P w K mg base (k+1) "_law_leaf" kE:=F.ok (own':=[]) (N:=["_law_digits_here","_law_names"]) (by kpf_c) rfl rfl fun _ _ _ _ _ _ C L nd=>(@aW _ _ _ _ _ _ _ _ _ _ (@gQ _ _ _ _ _ _ _ _ _ _ _ _ (@fQ _ _ _ _ _ _ _ _ _ (@kP _) (by walk_at "E") (@gL _ _ _ _ _) (by first|exact c5 _ (by decide) (by decide)|rfl)) (by kst_p2) (@jW _ _ _ _)) (@aW _ _ _ _ _ _ _ _ _ _ (by walk_at "I3") (by kst_p2)))
theorem zbQ(F:FA K mg "_law_tree" (top 34) ["_law_cells","_law_names"] f fd)(q2:mg "len"=none)(q0:bA P w K mg base k "_law_digits" fS)(q1:bA P w K mg base k "_law_leaf" kE):bA P w K mg base (k+1) "_law_tree" oS:=F.ok (own':=[]) (N:=["_law_cells","_law_names","_law_stack","_law_cell_here","_law_digits_here","_law_other"]) (by kpf_c) rfl rfl fun _ _ _ _ _ _ C L nd=>(@aW _ _ _ _ _ _ _ _ _ _ (by walk_at "s5") (@aW _ _ _ _ _ _ _ _ _ _ (@lQ _ _ _ _ _ _ _ _ _ _ _ _ L C.calm (by walk_at "E") (by walk_at "G") (@aW _ _ _ _ _ _ _ _ _ _ (by walk_at "s1") (@cX _ _ _ _ _ _ _ (@gQ _ _ _ _ _ _ _ _ _ _ _ _ (@DW.dt _ _ _ _ (@BT _ _ _ _ _ _ _ _ (@fQ _ _ _ _ _ _ _ _ _ (@kP _) (by walk_at "E") (@gL _ _ _ _ _) (by first|exact c5 _ (by decide) (by decide)|rfl)) (by walk_at "E"))) (@aW _ _ _ _ _ _ _ _ _ _ (@xV _ _ _ _ _ _ _ _ _ 2 5 _ _ nd (by rfl) (by rfl) (by rfl) (by rfl) (by kd_p1) (by decide) (by decide) (by kcj_m) (by rfl) (by rfl) (by rfl) (by kcf_m)) (@cX _ _ _ _ _ _ _ (@X1 _ _ _ _ _ _ _ _ _ _ _ _ _ 2 2 _ _ _ _ _ _ (by walk_at "E") (by walk_at "E") (by rfl) (by rfl) (by rfl) (by rfl) (by kd_p1) (by decide) (by decide) (by kd_p1) (by decide) (by decide) (by rfl) (by rfl) (by rfl) (by rfl) (by rfl) (by rfl) (by rfl) (by rfl) (by rfl) (by rfl) (by rfl)))) (@cX _ _ _ _ _ _ _ (by walk_at "s7"))))) (by rfl) (by intro _;rfl)) (@aW _ _ _ _ _ _ _ _ _ _ (@wG _ _ _ _ _ _ _ _ _ L (@fQ _ _ _ _ _ _ _ _ _ (@kP _) (by walk_at "E") (@gL _ _ _ _ _) (by first|exact c5 _ (by decide) (by decide)|rfl)) (@aW _ _ _ _ _ _ _ _ _ _ (@xV _ _ _ _ _ _ _ _ _ 2 5 _ _ nd (by rfl) (by rfl) (by rfl) (by rfl) (by kd_p1) (by decide) (by decide) (by kcj_m) (by rfl) (by rfl) (by rfl) (by kcf_m)) (@cX _ _ _ _ _ _ _ (@YJ _ _ _ _ _ _ _ _ _ _ _ _ _ 2 2 _ _ _ _ _ _ (by walk_at "E") (by walk_at "E") (by rfl) (by rfl) (by rfl) (by rfl) (by kd_p1) (by decide) (by decide) (by kd_p1) (by decide) (by decide) (by rfl) (by rfl) (by rfl) (by rfl) (by rfl) (by rfl) (by rfl) (by rfl) (by rfl) (by rfl) (by rfl))))) (@rS _ _ _ _ _ _ _ _ 2 (by rfl) (by rfl) (by kst_p2)))))
theorem zbR(F:FA K mg "_law_deep" (top 36) ["_law_text"] f fd)(q0:mg "int"=none)(q1:mg "max"=none):bA P w K mg base (k+1) "_law_deep" oU:=F.ok (own':=[]) (N:=["_law_text","_law_deep_here","_law_most","_law_sign"]) (by kpf_c) rfl rfl fun _ _ _ _ _ _ C L nd=>(@aW _ _ _ _ _ _ _ _ _ _ (by kst_p) (@aW _ _ _ _ _ _ _ _ _ _ (by kst_p) (@aW _ _ _ _ _ _ _ _ _ _ (@lQ _ _ _ _ _ _ _ _ _ _ _ _ L C.calm (by walk_at "E") (by walk_at "G") (@aW _ _ _ _ _ _ _ _ _ _ (by kst_p) (@cX _ _ _ _ _ _ _ (by kst_p))) (by rfl) (by intro _;rfl)) (by kst_p2))))
theorem zbS(F:FA K mg "_law_part" (top 35) ["_law_tree_here","_law_least"] f fd)(q0:mg "str"=none)(q1:mg "int"=none):bA P w K mg base (k+1+64) "_law_part" qV:=show bA P w K mg base (k+1+64) "_law_part" (oA (fun m=>cG 2 4 (kZ m)) 64) from F.deep (own':=[]) (N:=["_law_tree_here","_law_least","_law_close","_law_text"]) (by kpf_c) rfl rfl (fun j m F__law_part _ _ _ _ _ _ C L nd=>(@aW _ _ _ _ _ _ _ _ _ _ (by walk_at "I3") (@aW _ _ _ _ _ _ _ _ _ _ (by walk_at "I3") (@aW _ _ _ _ _ _ _ _ _ _ (by kst_p) (@aW _ _ _ _ _ _ _ _ _ _ (by kst_p) (@aW _ _ _ _ _ _ _ _ _ _ (@gQ _ _ _ _ _ _ _ _ _ _ _ _ (@fQ _ _ _ _ _ _ _ _ _ (@pU _) (by walk_at "E") (by walk_at "E") (by first|exact c5 _ (by decide) (by decide)|rfl)) (by kst_p2) (@jW _ _ _ _)) (by kst_p2))))))) 64
theorem zbT(F:FA K mg "_law_shallow" (top 37) ["_law_cells","_law_names"] f fd)(q3:mg "len"=none)(q0:bA P w K mg base k "_law_tree" oS)(q1:bA P w K mg base k "_law_deep" oU)(q2:bA P w K mg base k "_law_part" qV):bA P w K mg base (k+1) "_law_shallow" qW:=F.ok (own':=[]) (N:=["_law_cells","_law_names","_law_tree_here"]) (by kpf_c) rfl rfl fun _ _ _ _ _ _ C L nd=>(@aW _ _ _ _ _ _ _ _ _ _ (by kst_p) (@aW _ _ _ _ _ _ _ _ _ _ (@wG _ _ _ _ _ _ _ _ _ L (@fQ _ _ _ _ _ _ _ _ _ (@kP _) (by walk_at "E") (@gL _ _ _ _ _) (by first|exact c5 _ (by decide) (by decide)|rfl)) (@aW _ _ _ _ _ _ _ _ _ _ (by kst_p) (@cX _ _ _ _ _ _ _ (by kst_p)))) (by kst_p2)))
theorem zbU(F:FA K mg "_law_names_in" (top 39) ["_law_tree_here"] f fd):bA P w K mg base (k+1+64) "_law_names_in" qX:=show bA P w K mg base (k+1+64) "_law_names_in" (oA (fun m=>cG 1 1 (oW m)) 64) from F.deep (own':=[]) (N:=["_law_tree_here"]) (by kpf_c) rfl rfl (fun j m F__law_names_in _ _ _ _ _ _ C L nd=>(@aW _ _ _ _ _ _ _ _ _ _ (by walk_at "I3") (@aW _ _ _ _ _ _ _ _ _ _ (by walk_at "I3") (by kst_p2)))) 64
theorem zbV(F:FA K mg "_law_cell" (top 28) ["_law_script","_law_k"] f fd)(q0:mg "len"=none):bA P w K mg base (k+1) "_law_cell" kD:=F.ok (own':=[]) (N:=["_law_script","_law_k"]) (by kpf_c) rfl rfl fun _ _ _ _ _ _ C L nd=>(@aW _ _ _ _ _ _ _ _ _ _ (@gQ _ _ _ _ _ _ _ _ _ _ _ _ (@fQ _ _ _ _ _ _ _ _ _ (@pU _) (by walk_at "E") (by walk_at "E") (by first|exact c5 _ (by decide) (by decide)|rfl)) (by kst_p2) (@jW _ _ _ _)) (by kst_p2))
theorem zbW(F:FA K mg "parts_of" (top 22) ["expression"] f fd)(q1:mg "len"=none)(q0:∃u v,mg "SIGNS"=some u/\aM v u/\∀G,aR K mg G kC v):bA P w K mg base (k+1) "parts_of" hU:=F.ok (own':=[]) (N:=["expression","parts","waiting","part"]) (by kpf_c) rfl rfl fun _ _ _ _ _ _ C L nd=>(@aW _ _ _ _ _ _ _ _ _ _ (by walk_at "s5") (@aW _ _ _ _ _ _ _ _ _ _ (by walk_at "s5") (@aW _ _ _ _ _ _ _ _ _ _ (@wG _ _ _ _ _ _ _ _ _ L (@fQ _ _ _ _ _ _ _ _ _ (@kP _) (by walk_at "E") (@gL _ _ _ _ _) (by first|exact c5 _ (by decide) (by decide)|rfl)) (@aW _ _ _ _ _ _ _ _ _ _ (@xV _ _ _ _ _ _ _ _ _ 2 3 _ _ nd (by rfl) (by rfl) (by rfl) (by rfl) (by kd_p1) (by decide) (by decide) (by kcj_m) (by rfl) (by rfl) (by rfl) (by kcf_m)) (@aW _ _ _ _ _ _ _ _ _ _ (by walk_at "s7") (@cX _ _ _ _ _ _ _ (@gQ _ _ _ _ _ _ _ _ _ _ _ _ (by walk_at "E") (@cX _ _ _ _ _ _ _ (by walk_at "sU")) (@jW _ _ _ _)))))) (@rS _ _ _ _ _ _ _ _ 2 (by rfl) (by rfl) (@aW _ _ _ _ _ _ _ _ _ _ (@X0 _ _ _ _ _ _ _ 1 _ _ (by rfl) (by rfl) (by kd_p1) (by decide) (by decide) (by rfl) (by rfl) (by rfl)) (@rS _ _ _ _ _ _ _ _ 1 (by rfl) (by rfl) (by kst_p2)))))))
theorem zbX(F:FA K mg "sum_plan" (top 25) ["expression","names"] f fd){q4:Addr}(q5:mg "NoName"=some (.ref q4))(q6:PySem.W.excIn K q4 [.type "ValueError",.type "Exception",.type "BaseException",.type "object"] "ValueError.__new__"=true)(q7:iZ K mg "NoName" q4){q10:Addr}(q11:Sk.SkG P w K mg base k q10)(q8:mg "dict"=none)(q0:mg "enumerate"=none)(q9:mg "len"=none)(q1:∃u v,mg "FRAME"=some u/\aM v u/\∀G,aR K mg G jJ v)(q2:∃u v,mg "SIGNS"=some u/\aM v u/\∀G,aR K mg G kC v)(q3:bA P w K mg base k "parts_of" hU):gW P w K mg base (k+1) "sum_plan" gE:=F.okL  (N:=["expression","names","pegs","sketch","done","part","other","one"]) (by kpf_c) rfl rfl fun _ _ _ _ _ _ C L nd=>(@zaN _ _ _ _ _ _ (@rV _ _ _ _ _ _ _ _ 2 nd (@ZB _ _ _ _ _ _ C.calm q8 (@dQ _ _ _ _ _ _ (@DF.val _ _ _ _ (@pL _ _ _ _ _ _ _ _ _ _ _ _ _ _ _ C.calm (LC.of (k:=2) (NY:=["number","name","expression","names","pegs","sketch","done","part","other","one"]) (N:=["expression","names","pegs","sketch","done","part","other","one"]) (sc0:=(bB (top 25))) rfl rfl (by decide +kernel)) rfl (by walk_at "E") (fun _ _ _ _ nd2=>⟨(by walk_at "G"),(@BZ _ _),(by walk_at "E")⟩) (by intro _;rfl))) (@gN _ _) (by rfl)) (by rfl) (by rfl) (by rfl)) (by rfl) (by kcj_m) (by rfl) (by kcf_m)) (@Sk.dsl_sum _ _ _ _ _ _ _ _ _ 3 4 nd C q11 (by walk_at "E") (@Sk.j1_for _ _ _ _ _ _ _ _ 5 _ _ _ _ L C.calm (by walk_at "E") (by walk_at "G") (@Sk.js_one _ _ _ _ _ _ _ (@Sk.j1_if _ _ _ _ _ _ _ _ _ _ _ _ (by walk_at "E") (@Sk.js_cons _ _ _ _ _ _ _ _ _ (@Sk.j1_pop _ _ _ _ _ _ _ _ _ _ 6 _ _ nd (by rfl) (by rfl) (by rfl) (by kd_p1) (by decide) (by decide) (by kcj_m) (by rfl) (by rfl) (by rfl) (by kcf_m)) (@Sk.js_cons _ _ _ _ _ _ _ _ _ (@Sk.j1_pop _ _ _ _ _ _ _ _ _ _ 7 _ _ nd (by rfl) (by rfl) (by rfl) (by kd_p1) (by decide) (by decide) (by kcj_m) (by rfl) (by rfl) (by rfl) (by kcf_m)) (@Sk.js_one _ _ _ _ _ _ _ (@Sk.j1_drawn _ _ _ _ _ _ _ _ _ _ _ _ _ _ _ _ _ _ _ _ _ C q11 (by walk_at "E") (by walk_at "E") (by walk_at "E") (by rfl) (by rfl) (by kd_p1) (by decide) (by decide) (by kd_p1) (by decide) (by decide) (by rfl) (by rfl) (by rfl) (by rfl) (by rfl) (by rfl) (by rfl) (by rfl) (by rfl) (by rfl) (by rfl) (by rfl))))) (@Sk.js_one _ _ _ _ _ _ _ (@Sk.j1_if _ _ _ _ _ _ _ _ _ _ _ _ (by walk_at "E") (@Sk.js_one _ _ _ _ _ _ _ (@Sk.j1_whole _ _ _ _ _ _ _ _ _ _ _ _ _ _ _ _ _ _ C q11 (by walk_at "E") (by rfl) (by rfl) (by kd_p1) (by decide) (by decide) (by kd_p1) (by decide) (by decide) (by rfl) (by rfl) (by rfl) (by rfl) (by rfl) (by rfl) (by rfl) (by rfl) (by rfl))) (@Sk.js_one _ _ _ _ _ _ _ (@Sk.j1_if _ _ _ _ _ _ _ _ _ _ _ _ (by walk_at "E") (@Sk.js_one _ _ _ _ _ _ _ (@Sk.j1_app _ _ _ _ _ _ _ _ _ _ _ _ (by walk_at "E") (by rfl) (by kd_p1) (by decide) (by decide) (by rfl) (by rfl) (by rfl) (by rfl) (by rfl) (by rfl))) (@Sk.js_one _ _ _ _ _ _ _ (@Sk.j1_raise _ _ _ _ _ _ _ (@WK _ _ _ _ _ _ _ _ _ _ _ _ _ _ _ _ _ _ _ _ _ _ _ _ _ _ q6 q7 (by rfl) (by decide)))))))))) (by rfl) (by intro _;rfl)) _ _ _ _ _ _ _ _ _ _ _ _ _ _ _ _ (by rfl) (by rfl) (by rfl) (by kd_p1) (by kd_p1) (by kcj_m) (by kcj_m) (by kcf_m) (by kcf_m) (by rfl) (by rfl) (by rfl) (by rfl) (by rfl) (by rfl) (by exact fun _ _=>rfl) (by rfl) (by rfl)))
theorem zbY(F:FA K mg "_law_alone" (top 38) ["_law_error"] f fd){q6:Addr}(q7:mg "NoPlace"=some (.ref q6)){q32:Addr}(q33:mg "Same"=some (.ref q32)){q8:Addr}(q9:mg "NoFloor"=some (.ref q8)){q10:Addr}(q11:mg "Endless"=some (.ref q10)){q20:Addr}(q21:mg "NoDeed"=some (.ref q20)){q22:Addr}(q23:mg "NoText"=some (.ref q22)){q24:Addr}(q25:mg "NoName"=some (.ref q24)){q12:Addr}(q13:mg "TooMany"=some (.ref q12)){q4:Addr}(q5:mg "NoChange"=some (.ref q4)){q14:Addr}(q15:mg "NoFrame"=some (.ref q14)){q16:Addr}(q17:mg "NoValue"=some (.ref q16)){q26:Addr}(q27:mg "Unlike"=some (.ref q26)){q18:Addr}(q19:mg "NoRatio"=some (.ref q18)){q28:Addr}(q29:mg "NoBow"=some (.ref q28)){q30:Addr}(q31:mg "NoRow"=some (.ref q30)){q0:Addr}(q1:mg "ChalkError"=some (.ref q0))(q34:mg "int"=none)(q2:mg "isinstance"=none)(q3:mg "ValueError"=none):bA P w K mg base (k+1) "_law_alone" oV:=F.ok (own':=[]) (N:=["_law_error","_law_many"]) (by kpf_c) rfl rfl fun _ _ _ _ _ _ C L nd=>(@aW _ _ _ _ _ _ _ _ _ _ (by kst_p) (@aW _ _ _ _ _ _ _ _ _ _ (by kst_p) (@aW _ _ _ _ _ _ _ _ _ _ (by kst_p) (@aW _ _ _ _ _ _ _ _ _ _ (by kst_p) (@aW _ _ _ _ _ _ _ _ _ _ (by kst_p) (@cX _ _ _ _ _ _ _ (@nJ _ _ _ _ _ _ _ _ (@pK _ _ _ _ _ _ _ _ (by walk_at "E") (@pK _ _ _ _ _ _ _ _ (by walk_at "E") (@vW _ _ _ _ _ _ (@lV _ _ _ _ _ _ _ q2 (@dQ _ _ _ _ _ _ (by walk_at "E") (@dQ _ _ _ _ _ _ (@nA _ _ _ _ _ q3 VZ (by rfl) (by decide) (by decide)) (@gN _ _) (by rfl)) (by rfl)) (by rfl) (by rfl) (by rfl))))))))))))
theorem zbZ(F:FA K mg "_law_refused" (top 40) ["_law_tree_here","_law_names"] f fd){q0:Addr}(q1:mg "ChalkError"=some (.ref q0)){q5:Addr}(q6:mg "NoName"=some (.ref q5))(q2:mg "isinstance"=none)(q4:gW P w K mg base k "sum_plan" gE)(q3:bA P w K mg base k "_law_alone" oV):bA P w K mg base (k+1) "_law_refused" oY:=F.ok (own':=[]) (N:=["_law_tree_here","_law_names","_law_kept","_law_error"]) (by kpf_c) rfl rfl fun _ _ _ _ _ _ C L nd=>(@aW _ _ _ _ _ _ _ _ _ _ (by kst_p) (@aW _ _ _ _ _ _ _ _ _ _ (@WO _ _ _ _ 3 _ _ _ _ _ _ _ _ _ rfl rfl nd q1 (@WL _ _ _ (@WN _ _ _ _ _ _ _ _ _ _ C.room (gW.pub q4) (by walk_at "E") (by rfl) (by decide) (by rfl) (by rfl) (by rfl))) (fun _=>(@cX _ _ _ _ _ _ _ (by kst_p))) (by rfl) (by rfl) (by rfl) (by decide)) (@cX _ _ _ _ _ _ _ (@nJ _ _ _ _ _ _ _ _ (@pK _ _ _ _ _ _ _ _ (@CJ _ _ _ _ _ _ _ _ _ (@CI _) (by walk_at "E") (@BO _ _ _ _) (by first|exact c5 _ (by decide) (by decide)|rfl)) (by walk_at "E"))))))
theorem zb0(F:FA K mg "_law_whole" (top 29) ["_law_found"] f fd)(q0:mg "isinstance"=none)(q2:mg "int"=none)(q1:mg "bool"=none):bA P w K mg base (k+1) "_law_whole" hV:=F.ok (own':=[]) (N:=["_law_found"]) (by kpf_c) rfl rfl fun _ _ _ _ _ _ C L nd=>(@cX _ _ _ _ _ _ _ (@nJ _ _ _ _ _ _ _ _ (@pK _ _ _ _ _ _ _ _ (@lV _ _ _ _ _ _ _ q0 (@dQ _ _ _ _ _ _ (by walk_at "E") (@dQ _ _ _ _ _ _ (@nA _ _ _ _ _ q2 CK (by rfl) (by decide) (by decide)) (@gN _ _) (by rfl)) (by rfl)) (by rfl) (by rfl) (by rfl)) (@vW _ _ _ _ _ _ (@UK _ _ _ _ _ (@lV _ _ _ _ _ _ _ q0 (@dQ _ _ _ _ _ _ (by walk_at "E") (@dQ _ _ _ _ _ _ (@nA _ _ _ _ _ q1 VX (by rfl) (by decide) (by decide)) (@gN _ _) (by rfl)) (by rfl)) (by rfl) (by rfl) (by rfl)))))))
theorem zb1(F:FA K mg "_law_in_form" (top 41) ["_law_found","_law_many"] f fd)(q0:mg "isinstance"=none)(q2:mg "tuple"=none)(q4:mg "len"=none)(q3:mg "list"=none)(q5:mg "int"=none)(q1:bA P w K mg base k "_law_whole" hV):bA P w K mg base (k+1) "_law_in_form" mJ:=F.ok (own':=[]) (N:=["_law_found","_law_many","_law_pegs","_law_lines","_law_deed","_law_known","_law_number"]) (by kpf_c) rfl rfl fun _ _ _ _ _ _ C L nd=>(@aW _ _ _ _ _ _ _ _ _ _ (@gQ _ _ _ _ _ _ _ _ _ _ _ _ (@DW.dt _ _ _ _ (@lM _ _ _ _ _ _ _ _ (@nF _ _ _ _ _ (@pJ _ _ _ _ (@lV _ _ _ _ _ _ _ q0 (@dQ _ _ _ _ _ _ (by walk_at "E") (@dQ _ _ _ _ _ _ (@nA _ _ _ _ _ q2 CL (by rfl) (by decide) (by decide)) (@gN _ _) (by rfl)) (by rfl)) (by rfl) (by rfl) (by rfl)) (by intro _;rfl))) (@lM _ _ _ _ _ _ _ _ (by walk_at "E") (@lM _ _ _ _ _ _ _ _ (@nF _ _ _ _ _ (@pJ _ _ _ _ (@lV _ _ _ _ _ _ _ q0 (@dQ _ _ _ _ _ _ (by walk_at "E") (@dQ _ _ _ _ _ _ (@nA _ _ _ _ _ q3 CM (by rfl) (by decide) (by decide)) (@gN _ _) (by rfl)) (by rfl)) (by rfl) (by rfl) (by rfl)) (by intro _;rfl))) (by walk_at "E"))))) (by kst_p2) (@jW _ _ _ _)) (@aW _ _ _ _ _ _ _ _ _ _ (by kst_p) (@aW _ _ _ _ _ _ _ _ _ _ (by kst_p) (@aW _ _ _ _ _ _ _ _ _ _ (@lQ _ _ _ _ _ _ _ _ _ _ _ _ L C.calm (by walk_at "E") (by walk_at "G") (@aW _ _ _ _ _ _ _ _ _ _ (@gQ _ _ _ _ _ _ _ _ _ _ _ _ (@DW.dt _ _ _ _ (@lM _ _ _ _ _ _ _ _ (@nF _ _ _ _ _ (@pJ _ _ _ _ (@lV _ _ _ _ _ _ _ q0 (@dQ _ _ _ _ _ _ (by walk_at "E") (@dQ _ _ _ _ _ _ (@nA _ _ _ _ _ q2 CL (by rfl) (by decide) (by decide)) (@gN _ _) (by rfl)) (by rfl)) (by rfl) (by rfl) (by rfl)) (by intro _;rfl))) (by walk_at "E"))) (by kst_p2) (@jW _ _ _ _)) (@aW _ _ _ _ _ _ _ _ _ _ (by kst_p) (@aW _ _ _ _ _ _ _ _ _ _ (@lQ _ _ _ _ _ _ _ _ _ _ _ _ L C.calm (by walk_at "E") (by walk_at "G") (@cX _ _ _ _ _ _ _ (@gQ _ _ _ _ _ _ _ _ _ _ _ _ (@DW.dt _ _ _ _ (@lM _ _ _ _ _ _ _ _ (by walk_at "E") (@vU _ _ _ _ _ (@nF _ _ _ _ _ (@VV _ _ _ _ _ _ _ _ _ _ _ _ _ (@wL _) (@pU _) (@gL _ _ _ _ _) (by walk_at "E") (by walk_at "E") (by with_unfolding_all rfl)))))) (by kst_p2) (@jW _ _ _ _))) (by rfl) (by intro _;rfl)) (@aW _ _ _ _ _ _ _ _ _ _ (by kst_p) (@cX _ _ _ _ _ _ _ (by kst_p)))))) (by rfl) (by intro _;rfl)) (@cX _ _ _ _ _ _ _ (@nJ _ _ _ _ _ _ _ _ (@VU _ _ _ _ _ _ _ _ _ _ _ _ _ (@wL _) (@pU _) (@gL _ _ _ _ _) (by walk_at "E") (by walk_at "E") (by with_unfolding_all rfl))))))))
abbrev iB:Stmt:=top 42
theorem N5:cD ["_law_script","_law_names","_law_tree_here","_law_wanted","_law_k","_law_digits_here","_law_more","_law_listed","_law_found","_law_kept"] ["_law_script"] (bB iB):=by kpf_c
theorem zb2(F:bT K "law" "law" iB f fd)(q8:mg "range"=none)(q10:mg "max"=none)(q11:mg "min"=none)(q12:mg "len"=none)(q9:mg "list"=none)(q5:bA P w K mg base k "_law_words" qU)(q6:bA P w K mg base k "_law_cell" kD)(q1:bA P w K mg base k "_law_shallow" qW)(q0:bA P w K mg base k "_law_names_in" qX)(q4:bA P w K mg base k "_law_digits" fS)(q2:bA P w K mg base k "_law_refused" oY)(q7:gW P w K mg base k "sum_plan" gE)(q3:bA P w K mg base k "_law_in_form" mJ):cF P w K mg base (bM P w) (k+1) f fd ["_law_script"] (lO K mg uI):=by
 refine WQ (own':=[]) F N5 rfl rfl fun X E hX C L=>?_
 obtain⟨cdv,A,outer,s,H,rfl⟩:=hX
 have nd:=N5.nd
 exact(@aW _ _ _ _ _ _ _ _ _ _ (by kst_p) (@aW _ _ _ _ _ _ _ _ _ _ (by kst_p) (@aW _ _ _ _ _ _ _ _ _ _ (by kst_p) (@aW _ _ _ _ _ _ _ _ _ _ (@lQ _ _ _ _ _ _ _ _ _ _ _ _ L C.calm (by walk_at "E") (by walk_at "G") (@aW _ _ _ _ _ _ _ _ _ _ (by kst_p) (@aW _ _ _ _ _ _ _ _ _ _ (@rV _ _ _ _ _ _ _ _ 6 nd (@CT _ _ _ _ _ _ _ _ _ _ (@DF.val _ _ _ _ (@pL _ _ _ _ _ _ _ _ _ _ _ _ _ _ _ C.calm (LC.of (k:=1) (NY:=["_law_name","_law_script","_law_names","_law_tree_here","_law_wanted","_law_k","_law_digits_here","_law_more","_law_listed","_law_found","_law_kept"]) (N:=["_law_script","_law_names","_law_tree_here","_law_wanted","_law_k","_law_digits_here","_law_more","_law_listed","_law_found","_law_kept"]) (sc0:=(bB iB)) rfl rfl (by decide +kernel)) rfl (by walk_at "E") (fun _ _ _ _ nd2=>⟨(by walk_at "G"),(@wE _ _ _ _ (by walk_at "E")),(by walk_at "E")⟩) (by intro _;rfl))) (@CP _ _) (by walk_at "E")) (by rfl) (by kcj_m) (by rfl) (by kcf_m)) (@aW _ _ _ _ _ _ _ _ _ _ (@rV _ _ _ _ _ _ _ _ 7 nd (@CC _ _ _ _ _ _ _ (@DF.val _ _ _ _ (@pL _ _ _ _ _ _ _ _ _ _ _ _ _ _ _ C.calm (LC.of (k:=1) (NY:=["_law_j","_law_script","_law_names","_law_tree_here","_law_wanted","_law_k","_law_digits_here","_law_more","_law_listed","_law_found","_law_kept"]) (N:=["_law_script","_law_names","_law_tree_here","_law_wanted","_law_k","_law_digits_here","_law_more","_law_listed","_law_found","_law_kept"]) (sc0:=(bB iB)) rfl rfl (by decide +kernel)) rfl (by walk_at "E") (fun _ _ _ _ nd2=>⟨(by walk_at "G"),(@wE _ _ _ _ (@fQ _ _ _ _ _ _ _ _ _ (@kP _) (by walk_at "E") (@gL _ _ _ _ _) (by first|exact c5 _ (by decide) (by decide)|rfl))),(by walk_at "E")⟩) (by intro _;rfl))) (by walk_at "E")) (by rfl) (by kcj_m) (by rfl) (by kcf_m)) (@cX _ _ _ _ _ _ _ (@gQ _ _ _ _ _ _ _ _ _ _ _ _ (@fQ _ _ _ _ _ _ _ _ _ (@wM _ _ _ C) (@DF.val _ _ _ _ (@pL _ _ _ _ _ _ _ _ _ _ _ _ _ _ _ C.calm (LC.of (k:=1) (NY:=["_law_name","_law_script","_law_names","_law_tree_here","_law_wanted","_law_k","_law_digits_here","_law_more","_law_listed","_law_found","_law_kept"]) (N:=["_law_script","_law_names","_law_tree_here","_law_wanted","_law_k","_law_digits_here","_law_more","_law_listed","_law_found","_law_kept"]) (sc0:=(bB iB)) rfl rfl (by decide +kernel)) rfl (by walk_at "E") (fun _ _ _ _ nd2=>⟨(by walk_at "G"),(@wE _ _ _ _ (by walk_at "E")),(by walk_at "E")⟩) (by intro _;rfl))) (by walk_at "E") (by first|exact c5 _ (by decide) (by decide)|rfl)) (@cX _ _ _ _ _ _ _ (by walk_at "I3")) (@zaO _ _ _ _ _ _ _ 8 _ _ _ _ _ _ _ _ _ _ nd C q7 (by walk_at "E") (@XV _ _ _ _ _ _ _ _ _ _ _ _ (by walk_at "E") (by kst_p2) (@zaQ _ _ _ _ _ _ _ _ 9 _ _ _ _ _ _ _ _ _ nd q9 (@zaR _ _ _ _ _ _ _ _ _ _ _ _ _ _ _ _ _ (@zaP _ _ _ _ _ _ _ (@cX _ _ _ _ _ _ _ (@gQ _ _ _ _ _ _ _ _ _ _ _ _ (@fQ _ _ _ _ _ _ _ _ _ (@wM _ _ _ C) (@BV _ _ _ _ _ _ _ (@BW _ _ _ _ _ _ _ _ _ _ C (gW.pub q7) (by walk_at "E") (by rfl) (by decide) (by rfl) (by rfl)) (@gL _ _ _ _ _) (by intro _ _;rfl)) (by walk_at "E") (by first|exact c5 _ (by decide) (by decide)|rfl)) (by kst_p2) (@jW _ _ _ _)))) (by rfl) (by kd_p1) (by decide) (by decide) (by exact fun _ _=>rfl) (by rfl) (by rfl) (by rfl) (by rfl) (by rfl) (by rfl)) (by rfl) (by rfl) (by rfl) (by kd_p1) (by decide) (by decide) (by kcj_m) (by exact fun _ _=>rfl) (by rfl) (by rfl) (by rfl) (by rfl) (by kcf_m))) (by rfl) (by decide) (by rfl) (by rfl) (by rfl) (by kcj_m) (by rfl) (by kcf_m))))))) (by rfl) (by intro _;rfl)) (by kst_p2)))))
set_option maxHeartbeats 4000000 in
theorem all_mk{l:PySem.W.OpenLaw}{w:World}{K:xFg}{h:Heap}{mg:Str->Option Value}{fa f16:Addr}(X:K.In h)(G:h.Ns mainGlobals mg)(hfa:mg "law"=some (.ref fa))
  {od16 an16:Option Addr} {sl16:Array (Option Value)} {oc16 kV16 dc16 pm16 cd16 ct16:Value}
  {C_ChalkError C_NoPlace C_Same C_NoFloor C_Endless C_NoDeed C_NoText C_TooMany C_NoChange C_NoFrame C_NoValue C_Unlike C_NoRatio C_NoBow C_NoRow:Addr}
  (d0:FD K "_law_mixed" (top 30))
  (d1:FD K "_law_digits" (top 31))
  (d2:FD K "_law_words" (top 32))
  (d3:FD K "_law_leaf" (top 33))
  (d4:FD K "_law_tree" (top 34))
  (d5:FD K "_law_deep" (top 36))
  (d6:FD K "_law_part" (top 35))
  (d7:FD K "_law_shallow" (top 37))
  (d8:FD K "_law_names_in" (top 39))
  (d9:FD K "_law_cell" (top 28))
  (d10:FD K "parts_of" (top 22))
  (d11:FD K "sum_plan" (top 25))
  (d12:FD K "_law_alone" (top 38))
  (d13:FD K "_law_refused" (top 40))
  (d14:FD K "_law_whole" (top 29))
  (d15:FD K "_law_in_form" (top 41))
  (a16:PySem.W.nsIn K mainGlobals "law"=some (some (.ref f16))) (l16:K.lookup f16=some ⟨oc16,od16,.func (PySem.W.fnOf "law" "law" (iX iB) (dZ iB) (bB iB) .none kV16 dc16 pm16 an16 cd16 ct16),sl16⟩) (c16:PySem.W.codeIn K cd16 "law"=true) (k16:PySem.W.keepIn K (.ref f16)=true)
  {CS:Addr} (sA:PySem.W.nsIn K mainGlobals "Sketch"=some (some (.ref CS))) (sB:PySem.W.plainGet K CS Str.empty=true) (sC:PySem.W.hasDictIn K CS=true) (sD:PySem.W.plainOver K CS=true) (sE:PySem.W.findIn K (.ref CS) "__setattr__"=some (some (.builtin "object.__setattr__"))) (sF:PySem.W.makesIn K CS=true) (sG:PySem.W.keepIn K (.ref CS)=true)
  (sn0:PySem.W.findIn K (.ref CS) "lines"=some none)
  (sn1:PySem.W.findIn K (.ref CS) "drawn"=some none)
  (sn2:PySem.W.findIn K (.ref CS) "plan"=some none)
  (sn3:PySem.W.findIn K (.ref CS) "pegs"=some none)
  (sn4:PySem.W.findIn K (.ref CS) "east"=some none)
  (sn5:PySem.W.findIn K (.ref CS) "north"=some none)
  (sn6:PySem.W.findIn K (.ref CS) "corner"=some none)
  (sn7:PySem.W.findIn K (.ref CS) "top"=some none)
  (sm0:Sk.MD K CS "__init__" "Sketch.__init__" (aO Sk.sCls 0))
  (sm1:Sk.MD K CS "line" "Sketch.line" (aO Sk.sCls 1))
  (sm2:Sk.MD K CS "peg" "Sketch.peg" (aO Sk.sCls 2))
  (sm3:Sk.MD K CS "base" "Sketch.base" (aO Sk.sCls 3))
  (sm4:Sk.MD K CS "upright" "Sketch.upright" (aO Sk.sCls 4))
  (sm5:Sk.MD K CS "far" "Sketch.far" (aO Sk.sCls 5))
  (sm6:Sk.MD K CS "level" "Sketch.level" (aO Sk.sCls 6))
  (sm7:Sk.MD K CS "unit" "Sketch.unit" (aO Sk.sCls 7))
  (sm8:Sk.MD K CS "high" "Sketch.high" (aO Sk.sCls 8))
  (sm9:Sk.MD K CS "heading" "Sketch.heading" (aO Sk.sCls 9))
  (sm10:Sk.MD K CS "falling" "Sketch.falling" (aO Sk.sCls 10))
  (sm11:Sk.MD K CS "slid" "Sketch.slid" (aO Sk.sCls 11))
  (sm13:Sk.MD K CS "turned" "Sketch.turned" (aO Sk.sCls 13))
  (sm12:Sk.MD K CS "raised" "Sketch.raised" (aO Sk.sCls 12))
  (sm15:Sk.MD K CS "added" "Sketch.added" (aO Sk.sCls 15))
  (sm16:Sk.MD K CS "less" "Sketch.less" (aO Sk.sCls 16))
  (sm17:Sk.MD K CS "product" "Sketch.product" (aO Sk.sCls 17))
  (sm18:Sk.MD K CS "quotient" "Sketch.quotient" (aO Sk.sCls 18))
  (sm19:Sk.MD K CS "slope" "Sketch.slope" (aO Sk.sCls 19))
  (sm20:Sk.MD K CS "doubled" "Sketch.doubled" (aO Sk.sCls 20))
  (sm21:Sk.MD K CS "whole" "Sketch.whole" (aO Sk.sCls 21))
  (d99:FD K "drawn_by" Sk.sDrawn)
  (xd_NoName:XD K "NoName")
  (z_range:PySem.W.nsIn K mainGlobals "range"=some none)
  (z_len:PySem.W.nsIn K mainGlobals "len"=some none)
  (z_int:PySem.W.nsIn K mainGlobals "int"=some none)
  (z_max:PySem.W.nsIn K mainGlobals "max"=some none)
  (z_str:PySem.W.nsIn K mainGlobals "str"=some none)
  (z_dict:PySem.W.nsIn K mainGlobals "dict"=some none)
  (z_enumerate:PySem.W.nsIn K mainGlobals "enumerate"=some none)
  (z_isinstance:PySem.W.nsIn K mainGlobals "isinstance"=some none)
  (z_ValueError:PySem.W.nsIn K mainGlobals "ValueError"=some none)
  (z_bool:PySem.W.nsIn K mainGlobals "bool"=some none)
  (z_tuple:PySem.W.nsIn K mainGlobals "tuple"=some none)
  (z_list:PySem.W.nsIn K mainGlobals "list"=some none)
  (z_min:PySem.W.nsIn K mainGlobals "min"=some none)
  (z_abs:PySem.W.nsIn K mainGlobals "abs"=some none)
  (e_ChalkError:PySem.W.nsIn K mainGlobals "ChalkError"=some (some (.ref C_ChalkError)))
  (e_NoPlace:PySem.W.nsIn K mainGlobals "NoPlace"=some (some (.ref C_NoPlace)))
  (e_Same:PySem.W.nsIn K mainGlobals "Same"=some (some (.ref C_Same)))
  (e_NoFloor:PySem.W.nsIn K mainGlobals "NoFloor"=some (some (.ref C_NoFloor)))
  (e_Endless:PySem.W.nsIn K mainGlobals "Endless"=some (some (.ref C_Endless)))
  (e_NoDeed:PySem.W.nsIn K mainGlobals "NoDeed"=some (some (.ref C_NoDeed)))
  (e_NoText:PySem.W.nsIn K mainGlobals "NoText"=some (some (.ref C_NoText)))
  (e_TooMany:PySem.W.nsIn K mainGlobals "TooMany"=some (some (.ref C_TooMany)))
  (e_NoChange:PySem.W.nsIn K mainGlobals "NoChange"=some (some (.ref C_NoChange)))
  (e_NoFrame:PySem.W.nsIn K mainGlobals "NoFrame"=some (some (.ref C_NoFrame)))
  (e_NoValue:PySem.W.nsIn K mainGlobals "NoValue"=some (some (.ref C_NoValue)))
  (e_Unlike:PySem.W.nsIn K mainGlobals "Unlike"=some (some (.ref C_Unlike)))
  (e_NoRatio:PySem.W.nsIn K mainGlobals "NoRatio"=some (some (.ref C_NoRatio)))
  (e_NoBow:PySem.W.nsIn K mainGlobals "NoBow"=some (some (.ref C_NoBow)))
  (e_NoRow:PySem.W.nsIn K mainGlobals "NoRow"=some (some (.ref C_NoRow)))
  {a_SIGNS:Addr} {t0_SIGNS t1_SIGNS t2_SIGNS t3_SIGNS:Tok} {n_SIGNS:Nat} {sl_SIGNS:Array (Option Value)} (q_SIGNS:PySem.W.nsIn K mainGlobals "SIGNS"=some (some (.ref a_SIGNS))) (lq_SIGNS:K.lookup a_SIGNS=some ⟨.type "tuple",none,.seq #[.str "+" t0_SIGNS,.str "-" t1_SIGNS,.str "*" t2_SIGNS,.str "/" t3_SIGNS] n_SIGNS,sl_SIGNS⟩)
  {a_FRAME:Addr} {t0_FRAME t1_FRAME t2_FRAME t3_FRAME:Tok} {n_FRAME:Nat} {sl_FRAME:Array (Option Value)} (q_FRAME:PySem.W.nsIn K mainGlobals "FRAME"=some (some (.ref a_FRAME))) (lq_FRAME:K.lookup a_FRAME=some ⟨.type "tuple",none,.seq #[.int 0 t0_FRAME,.int 1 t1_FRAME,.int 2 t2_FRAME,.int 3 t3_FRAME] n_FRAME,sl_FRAME⟩)
  (hlaw:∀ns:List Int,ns.length<=63->uI [.lst (ns.map .int)]=.ok (.bl true))
  : ∃fd:FuncData,(∀(s:Shared) (v:Value),BindsTo s fd ⟨[v],[]⟩ [("_law_script",v)])/\∀base:Heap,K.In base->base.Ns mainGlobals mg->cF l.prog w K mg base (bM l.prog w) 67 fa fd ["_law_script"] (sP K):=by
 have e:=hfa.symm.trans (xa3 X G a16)
 cases e
 obtain⟨f0,v0,F0⟩:=d0.go X G ["_law_cell_here","_law_k"] (by walk_at "b2")
 obtain⟨f1,v1,F1⟩:=d1.go X G ["_law_cell_here","_law_many"] (by walk_at "b2")
 obtain⟨f2,v2,F2⟩:=d2.go X G ["_law_cell_here","_law_many"] (by walk_at "b2")
 obtain⟨f3,v3,F3⟩:=d3.go X G ["_law_digits_here","_law_names"] (by walk_at "b2")
 obtain⟨f4,v4,F4⟩:=d4.go X G ["_law_cells","_law_names"] (by walk_at "b2")
 obtain⟨f5,v5,F5⟩:=d5.go X G ["_law_text"] (by walk_at "b1")
 obtain⟨f6,v6,F6⟩:=d6.go X G ["_law_tree_here","_law_least"] (by walk_at "b2")
 obtain⟨f7,v7,F7⟩:=d7.go X G ["_law_cells","_law_names"] (by walk_at "b2")
 obtain⟨f8,v8,F8⟩:=d8.go X G ["_law_tree_here"] (by walk_at "b1")
 obtain⟨f9,v9,F9⟩:=d9.go X G ["_law_script","_law_k"] (by walk_at "b2")
 obtain⟨f10,v10,F10⟩:=d10.go X G ["expression"] (by walk_at "b1")
 obtain⟨f11,v11,F11⟩:=d11.go X G ["expression","names"] (by walk_at "b2")
 obtain⟨f12,v12,F12⟩:=d12.go X G ["_law_error"] (by walk_at "b1")
 obtain⟨f13,v13,F13⟩:=d13.go X G ["_law_tree_here","_law_names"] (by walk_at "b2")
 obtain⟨f14,v14,F14⟩:=d14.go X G ["_law_found"] (by walk_at "b1")
 obtain⟨f15,v15,F15⟩:=d15.go X G ["_law_found","_law_many"] (by walk_at "b2")
 have F16:=vG (st:=iB) l16 c16 k16
 have m16:=xa3 X G a16
 obtain⟨C_NoName,c_NoName,y_NoName,x_NoName⟩:=xd_NoName.go X G
 have n_range:=xa8 X G z_range
 have n_len:=xa8 X G z_len
 have n_int:=xa8 X G z_int
 have n_max:=xa8 X G z_max
 have n_str:=xa8 X G z_str
 have n_dict:=xa8 X G z_dict
 have n_enumerate:=xa8 X G z_enumerate
 have n_isinstance:=xa8 X G z_isinstance
 have n_ValueError:=xa8 X G z_ValueError
 have n_bool:=xa8 X G z_bool
 have n_tuple:=xa8 X G z_tuple
 have n_list:=xa8 X G z_list
 have n_min:=xa8 X G z_min
 have n_abs:=xa8 X G z_abs
 have c_ChalkError:=xa3 X G e_ChalkError
 have c_NoPlace:=xa3 X G e_NoPlace
 have c_Same:=xa3 X G e_Same
 have c_NoFloor:=xa3 X G e_NoFloor
 have c_Endless:=xa3 X G e_Endless
 have c_NoDeed:=xa3 X G e_NoDeed
 have c_NoText:=xa3 X G e_NoText
 have c_TooMany:=xa3 X G e_TooMany
 have c_NoChange:=xa3 X G e_NoChange
 have c_NoFrame:=xa3 X G e_NoFrame
 have c_NoValue:=xa3 X G e_NoValue
 have c_Unlike:=xa3 X G e_Unlike
 have c_NoRatio:=xa3 X G e_NoRatio
 have c_NoBow:=xa3 X G e_NoBow
 have c_NoRow:=xa3 X G e_NoRow
 refine⟨PySem.W.fnOf "law" "law" (iX iB) (dZ iB) (bB iB) .none kV16 dc16 pm16 an16 cd16 ct16,fun s v=>.of_eq rfl,fun base _ _=>?_⟩
 have k_SIGNS_is:∃u v,mg "SIGNS"=some u/\aM v u/\∀G,aR K mg G kC v:=⟨_,.ref a_SIGNS,xa3 X G q_SIGNS,rfl,fun _=>XO (l:=[("+",t0_SIGNS),("-",t1_SIGNS),("*",t2_SIGNS),("/",t3_SIGNS)]) lq_SIGNS rfl (show 4<=100 by decide)⟩
 have k_FRAME_is:∃u v,mg "FRAME"=some u/\aM v u/\∀G,aR K mg G jJ v:=⟨_,.ref a_FRAME,xa3 X G q_FRAME,rfl,fun _=>XQ (l:=[(0,t0_FRAME),(1,t1_FRAME),(2,t2_FRAME),(3,t3_FRAME)]) lq_FRAME rfl (show 4<=100 by decide)⟩
 obtain⟨f99,v99,F99⟩:=d99.go X G ["sign","sketch","one","other"] (by walk_at "b4")
 have GS:=Sk.skg (P:=l.prog) (w:=w) (base:=base) (xa3 X G sA) ⟨⟨⟨sB,sC,sD,sE⟩,sn0,sn1,sn2,sn3⟩,sn4,sn5,sn6,sn7⟩ sF sG sm0 sm1 sm2 sm3 sm4 sm5 sm6 sm7 sm8 sm9 sm10 sm11 sm13 sm12 sm15 sm16 sm17 sm18 sm19 sm20 sm21 F99 n_abs n_range
 have G0:bA l.prog w K mg base 1 "_law_mixed" oR:=zbM (k:=0) F0
 have G1:=zbN (k:=1) F1 n_range G0
 have G2:=zbO (k:=2) F2 n_range G1
 have G3:bA l.prog w K mg base 1 "_law_leaf" kE:=zbP (k:=0) F3 n_len
 have G4:=zbQ (k:=2) F4 n_len G1 (G3.mono (by decide:1<=2))
 have G5:bA l.prog w K mg base 1 "_law_deep" oU:=zbR (k:=0) F5 n_int n_max
 have G6:bA l.prog w K mg base 65 "_law_part" qV:=zbS (k:=0) F6 n_str n_int
 have G7:=zbT (k:=65) F7 n_len (G4.mono (by decide:3<=65)) (G5.mono (by decide:1<=65)) G6
 have G8:bA l.prog w K mg base 65 "_law_names_in" qX:=zbU (k:=0) F8
 have G9:bA l.prog w K mg base 1 "_law_cell" kD:=zbV (k:=0) F9 n_len
 have G10:bA l.prog w K mg base 1 "parts_of" hU:=zbW (k:=0) F10 n_len k_SIGNS_is
 have G11:=zbX (k:=7) F11 c_NoName y_NoName x_NoName (GS.mono (by decide:7<=7)) n_dict n_enumerate n_len k_FRAME_is k_SIGNS_is (G10.mono (by decide:1<=7))
 have G12:bA l.prog w K mg base 1 "_law_alone" oV:=zbY (k:=0) F12 c_NoPlace c_Same c_NoFloor c_Endless c_NoDeed c_NoText c_NoName c_TooMany c_NoChange c_NoFrame c_NoValue c_Unlike c_NoRatio c_NoBow c_NoRow c_ChalkError n_int n_isinstance n_ValueError
 have G13:=zbZ (k:=8) F13 c_ChalkError c_NoName n_isinstance G11 (G12.mono (by decide:1<=8))
 have G14:bA l.prog w K mg base 1 "_law_whole" hV:=zb0 (k:=0) F14 n_isinstance n_int n_bool
 have G15:=zb1 (k:=1) F15 n_isinstance n_tuple n_len n_list n_int G14
 exact WR (zb2 (P:=l.prog) (w:=w) (base:=base) (k:=66) F16 n_range n_max n_min n_len n_list (G2.mono (by decide:3<=66)) (G9.mono (by decide:1<=66)) G7 (G8.mono (by decide:65<=66)) (G1.mono (by decide:2<=66)) (G13.mono (by decide:9<=66)) (G11.mono (by decide:8<=66)) (G15.mono (by decide:2<=66))) hlaw
end Kx
structure PySem.W.Fast:Prop where
 (tw1003634773301878827 tw10056253562634090016 tw1009010191605621541 tw10090222310505389108 tw10122283395856766378 tw10192550512187684613 tw10204721190669070601 tw10236658410515389726 tw10252361999548608427 tw10352804897138057796 tw10373394488445881873 tw10413097542042579600 tw10423118456703903966 tw10467569871112217016 tw10470810631781309644 tw10523192499170444135 tw10571839188090618432 tw10571975209986363519 tw10585054177896376144 tw10604445865127734896 tw10628244146562479883 tw10632644099393141841 tw10639714541077254314 tw10725838143298539636 tw1073219937764166083 tw10738450495901722537 tw10835738045693343707 tw10862978702383176618 tw10866335757048434212 tw10916456480279849952 tw10929320398567662687 tw10940766677454407663 tw10986920246389389388 tw11058947702511093481 tw11064394848361913714 tw11174770116169164519 tw11191740381191717688 tw11192117195196061330 tw11194528587500016988 tw11239467839532537745
  tw11252410145889646908 tw11316494883127697871 tw11321469882438996834 tw11321659820249540996 tw11383200270454015247 tw11475321867212953519 tw11538993528925071045 tw11572511665541861994 tw11591555753724872927 tw11638333174837662339 tw11648944712683159596 tw11719354189175691805 tw1174523362742260505 tw11778077839199390547 tw11780008470378633616 tw11847682105371294726 tw11892947443743744856 tw11904180718585219173 tw11915732373682805697 tw11969624869936779213 tw11998851353147443622 tw12005364263193179592 tw12041621289727004939 tw12093075620524764474 tw12148392794662726227 tw12187791968383573443 tw12219581732874189053 tw12257804069223846116 tw12319884704111413207 tw1240478091078545559 tw12441872157813087494 tw12498783581148296610 tw1251062437295370340 tw12609420143277717530 tw12617818272863144778 tw12648549741853440475 tw12698043174210113069 tw12724130374147298146 tw12732835434518168623 tw12733051079475012539
  tw12734557172684424701 tw12778631667933572593 tw12797341128890444073 tw12806704862293233705 tw12834806229315928569 tw12836003605234695920 tw12837464452094753609 tw12840170281857310902 tw12869653681572784436 tw12895669536410316739 tw12896578469918872117 tw12922763388559689663 tw12942565464483465658 tw12965298205605550233 tw12972033556920153664 tw13019474530681305478 tw13057464377338556330 tw13066808811159943993 tw13087961635894201516 tw13110052029878219249 tw13127880331844282253 tw13157524525244592276 tw13185127274892916431 tw13262546102897905681 tw13277309304699349062 tw1331337610503290024 tw13355135304369136178 tw13365151270749087587 tw13425054102963620161 tw13480643181256695612 tw13506139185222333537 tw13514199162389974865 tw13528304979852201122 tw13540639005909732169 tw13543077311608754216 tw13577963952946580105 tw1359290465062149925 tw1360441327295404320 tw13608229840756581882 tw13664491133435734761
  tw13696924057834888905 tw13714882176655075962 tw13719650527473415855 tw13771839209926831599 tw13812719316784038970 tw13813690476663727920 tw13815010469011532834 tw13858360817065012538 tw13925130675317969822 tw13968113460902322744 tw13969843629125423035 tw13976665580083923767 tw1407567371841483322 tw14077504679897018747 tw14090738345295107005 tw14143342959614484593 tw14146037428434504329 tw14176477456402286067 tw14196769546275888156 tw14203504668184702981 tw14223988035132561394 tw14248712479579345728 tw14250627110377616360 tw14268892392139252511 tw14271609805384874569 tw14296225417043395790 tw14403930967240959251 tw14404654942824738650 tw14421538868856670146 tw1448185871529103215 tw14492553193510932615 tw14505307928054941274 tw14512457428915533335 tw14572187566572798943 tw14573548487901849991 tw14592145498346742856 tw14593233698475956285 tw14660988605990721753 tw14662489471574082113 tw14696215668064067940
  tw14762697863460794934 tw14787770766726624765 tw14794622422140503451 tw14834954042658874608 tw14890570047591490104 tw14899783749440324697 tw14968406572171467601 tw14987159600516448847 tw14988879610847567278 tw15031742235718849797 tw15045345624464867284 tw15093436091602003188 tw15212375051791803471 tw15266188549912004021 tw1527759956544941804 tw15313722366442694831 tw15342670284303262498 tw15353571268923619111 tw15393040879508673565 tw15408890710648332038 tw15459898673456954439 tw15471529519639156423 tw15472204582465158373 tw15476680912852997322 tw15478936478257132281 tw1547948979732491333 tw1548613570724219516 tw15506303450475046122 tw15561377594498112183 tw15566113036075111979 tw15586599352170434529 tw15621023866060356949 tw15662575649034345132 tw15679847719476643883 tw15699841346384280385 tw15712541305062814771 tw15765510809413999979 tw15877232457289955984 tw15904454950093333495 tw15909898406006936644
  tw15937790518165541915 tw15962070360318323081 tw15987051545051447565 tw16031114399399323580 tw16049859680059760464 tw16079617643865260190 tw16082086805991518188 tw16149296854727165287 tw16154231428827858625 tw16232352920763348493 tw16258644617958047933 tw162700693657286213 tw16274478302416177508 tw16297119823271336537 tw16318024160008697617 tw1642013990442138104 tw16435867450617219580 tw16550008470364848490 tw16567783678157978348 tw16619736139794507005 tw16634795960628712013 tw1664018714341804201 tw16674256861554016472 tw16678550901618666442 tw16683170861046142803 tw16687923490699648991 tw1670249656391540577 tw16746382424967281454 tw16764526779991551122 tw16821334591434290070 tw16838384059325384576 tw16855791899649759979 tw16887846942256940728 tw16925562154975028034 tw16928514441794612671 tw17026498509352737316 tw17069299955300216033 tw17079689948884385285 tw17089220478316283385 tw17122989278576585461
  tw17131076313096927628 tw17132415359534260094 tw17141297661141841032 tw17155320621838310613 tw17204365012530013923 tw1720713376748621388 tw17242109677371854672 tw17265597127023304516 tw17272881540196184041 tw17275249147837427613 tw17275588871865925111 tw17325882265577691010 tw17398260528384557594 tw17409447633657531964 tw17415886813506891371 tw17421289085724375080 tw17432957714822208815 tw17470892701286399998 tw17478809114322650969 tw17485226845500541623 tw17546297548429006654 tw17553771900632148345 tw17575984478110057660 tw17577464393724374381 tw17589380743610721326 tw17606160480160314754 tw17611505768634608027 tw17613463990022315179 tw17630955162687115411 tw17674506182925853314 tw17719641519202192248 tw17783018797001043419 tw1779659964893512993 tw1780233427249866653 tw1789597982928235880 tw1793389690404972202 tw17958345002153793709 tw17996116416398136338 tw18051756494087994187 tw18070061260295171416
  tw18105168066705142642 tw18137215626474337139 tw18160587218923087643 tw18172747712233799562 tw18175123194748427570 tw18185990013048584114 tw18229604489296775317 tw1823405335962317852 tw18256790453997455080 tw182585696619806692 tw18288607555441983193 tw18289869329938953906 tw18296298855429473929 tw18331505915478289759 tw2012166001956285747 tw2100568397161656995 tw2113109479915499225 tw2171134247138184402 tw2171274216051836953 tw2188035917116637444 tw2222089308672516763 tw2259699127182404115 tw2264387047731609895 tw228457413071859107 tw2310494126584352730 tw2358233294226808903 tw2358619092788256321 tw2368023634155316809 tw2525825705131972932 tw2532195943860639796 tw2563058679807415940 tw2590122320201134023 tw2615394735517482397 tw2638914000363841382 tw2690518606901074288 tw2702779659553994980 tw2704869908970309941 tw2733098343205804603 tw282351106343554408 tw2909149280258363729
  tw2911976992482673971 tw295896899515383824 tw3054556514071530065 tw3066057849308259694 tw30852248425380515 tw3108038236307117587 tw3134314650256101289 tw3144790045850017130 tw3164273255198386515 tw3170460465420710327 tw321163719324660422 tw3242353598597518621 tw3248307949400300793 tw325758110436454396 tw3264634027361244106 tw3270590743067180268 tw3320647637805385676 tw3321313493611070026 tw3345707253751134762 tw3354673181545856481 tw3445924677292602781 tw3451912548740082242 tw3460865675353080507 tw3479993822858864976 tw3484400217118889242 tw3526791009842005502 tw3577265107041008029 tw3582304335765286664 tw3623810989149824505 tw366604759270978473 tw370578513489978067 tw3744927830284583849 tw3873480683992478084 tw387565604572827355 tw3947399084651246080 tw3966969458746819276 tw4003810587795180142 tw4046806786468447743 tw406619669554466362 tw4089185694543661754
  tw4107020004038302164 tw4108989900060130004 tw4145305988529436458 tw4160253261559391844 tw4173911966768746796 tw422629191530310186 tw4235243929928096793 tw4261869122088194661 tw4266561585407879132 tw4293256797866451977 tw4300890202856416790 tw4376730370146680581 tw4376989180812131306 tw4386840423757810700 tw4526374326937569638 tw4591232916133856269 tw4619371846340908985 tw4654621870687795172 tw4672004174546029397 tw4675195403616091853 tw473221547531738770 tw4733554546873137209 tw4736655713269452213 tw4753085881303808420 tw4785709937185778603 tw4797502190550304493 tw4829285243635300008 tw4858064331382033776 tw4909416529519426526 tw4935028931842366549 tw5005323842717071456 tw5008675998754502515 tw5025523808722716825 tw5125241818302727303 tw5139385067136174290 tw5164605986364938185 tw5167397439924408686 tw5178247628778921423 tw5197661996122734491 tw5207069341015428125
  tw5250789417036027956 tw5272919188419214451 tw5278849149520648919 tw5329201768407039335 tw5335655558097920781 tw5363710305527261306 tw5558116098912727404 tw5575400709142210571 tw5584183356609684099 tw5611704017499041599 tw5681791473456811472 tw5700774478140430548 tw5706526962379143080 tw5707557688974889331 tw5712580680324366957 tw5721691133396987708 tw5750898879256957823 tw5760807118518746241 tw5809724783587262123 tw5815382953982257237 tw5821786859244809463 tw5829521085409176276 tw5835464465022758287 tw5838708324955760294 tw5841021914175798995 tw586064506396173424 tw5874184584588661659 tw5934500067453008781 tw6028223610921119087 tw6030350701583972579 tw6044231732559084057 tw605286538526238189 tw6056256300724195326 tw6056978768120576234 tw6073879551693733953 tw6079495847092863504 tw6088936275017628285 tw6102650332108239466 tw6116914376622553310 tw6123702143799899566
  tw6140157508795816751 tw61684335170899647 tw6183367339793597740 tw6187709993940845027 tw6247039991252583575 tw6249993507727471479 tw6290111766859083393 tw6340175432292821260 tw6341548262841186910 tw636421475798961707 tw6372292414941305895 tw6383793931162757447 tw6392497274230055652 tw6413945755489701223 tw6419919755295299618 tw6446115926000678242 tw6506805665523174192 tw6533299967026463301 tw6534747692564991270 tw6554001180907823594 tw6623311829379331114 tw6665390434934155322 tw6672990012839634481 tw6682952767464527514 tw6689467148777631132 tw6745097183048014593 tw6810819067597692208 tw6832736234943671120 tw692816617096490174 tw6942584722020307356 tw6959159021009281998 tw6975168977938385472 tw6986490951675920466 tw700440525589397210 tw7008525834213221241 tw7022064547301818116 tw7036735234896976276 tw7084962925362098046 tw7178337693293733151 tw7197920126591446943
  tw7203113858944032447 tw7213377112300388953 tw7225722487715735782 tw7229355358021509903 tw7323418348650083746 tw7356818100381822276 tw7366443643820552384 tw7405658955207011510 tw7406990909955962205 tw7484874957173740609 tw7508325809655206059 tw7531421078336374288 tw7532611437425906613 tw7544751708880384855 tw7559664677099597252 tw7584161262795657683 tw7596061611587369657 tw7613345725142300595 tw7622933336688255482 tw7639738399884745828 tw764439996090112654 tw7649896878143166458 tw7673897230610197764 tw7679149844149329089 tw774788788317526335 tw7757584162942134425 tw7769867886602253067 tw7770202788674615844 tw7790674870403697108 tw7837701673141580767 tw7845828508547846044 tw7862677820699389407 tw7863782713656209088 tw7864506141575836933 tw7918451673821205603 tw7921351611174096411 tw7931745142559826664 tw7939215321235902709 tw8087174700922487504 tw8115357005007347778
  tw8177479899403608170 tw8183671833891527325 tw8193781822111243292 tw8233089762797967145 tw8402895844253690790 tw841389243680583349 tw8455006937986823448 tw8461308892105439380 tw8521467887693800667 tw8526316565758551670 tw8554412101086118777 tw8556095786173795676 tw8565925504409888014 tw8567748440045200271 tw8569696097630898341 tw8582004653018338834 tw8596447712636885542 tw8612269724593198782 tw8612666725811004956 tw8674037113368262964 tw8705297249495449040 tw8716509266448808317 tw87252590280435644 tw8732912612258974629 tw8777319290581733478 tw8785243863882169079 tw879565470165562032 tw8825391441222236977 tw8841937813702133443 tw8848676713782263117 tw8874389921721324761 tw8889422693161776142 tw8890884312253779148 tw889623337246225848 tw8896839002088327723 tw8904527157399806016 tw8908650667429974008 tw8931995620668980614 tw8978869081144888802 tw8997123616092992917
  tw9027193937454936907 tw9073923142114382787 tw909089030143814167 tw9118709285849303304 tw9172596287981342076 tw9181514513146584164 tw9204049273846120103 tw9247538075378947178 tw9254113450682722244 tw9292348948350825037 tw9329000838697391250 tw9338066777538940788 tw9422868164392453320 tw9455817411066464353 tw9462690540349299349 tw9477701238947311798 tw9482151288991556092 tw9485910507655245440 tw9497118008601185949 tw9528874127644971675 tw9529266635089285740 tw9596719475898865423 tw9605541549474848585 tw962237896498986177 tw9638040091450210316 tw9734237588879229455 tw9740524216347727225 tw9741947553157973564 tw9779947045435507571 tw9811330171630069009 tw9812082942585389893 tw9829618290948043190 tw9845405351284371398 tw9873800141560843381 tw9888826751080003498 tw991580476258718130 tw9939174297953486501 tw9954605059284891268 tw996290461514248711 tw9967159150867911941
  tw9978237711334512255:True)
open PySem.W PyProof.Rows
local macro_rules | `(tactic| walk_at "FD")=>`(tactic| (refine' DL.FD.mk' ?a ?l ?c ?k;(case a=>k_is);(case l=>k_is);(case c=>k_is);(case k=>k_is)))
local macro_rules | `(tactic| walk_at "MD")=>`(tactic| (refine' Sk.MD.mk' ?a ?i ?l ?c ?k;(case a=>k_is);(case i=>k_is);(case l=>k_is);(case c=>k_is);(case k=>k_is)))
local macro_rules | `(tactic| walk_at "NR")=>`(tactic| first|(refine' DL.NR.ff ?h ?a ?t;(case h=>decide);(case a=>k_is);(case t=>kit_is))|(refine' DL.NR.tt ?h ?a ?t ?u;(case h=>decide);(case a=>k_is);(case t=>kit_is);(case u=>kts_exm))|(refine' DL.NR.no ?a;(case a=>k_is)))
local macro_rules | `(tactic| walk_at "XD")=>`(tactic| (refine' DL.XD.mk' ?e ?y ?g ?i ?b ?o ?a ?s ?t ?v ?r0 ?r1 ?r2 ?r3 ?r4 ?r5 ?r6 ?r7 ?r8 ?r9 ?r10 ?r11 ?r12 ?r13 ?r14 ?r15;(case e=>k_is);(case y=>k_exc);(case g|i|b|o|a|s|t=>k_is);(case v=>kit_is);(case r0|r1|r2|r3|r4|r5|r6|r7|r8|r9|r10|r11|r12|r13|r14|r15=>walk_at "NR")))
set_option maxRecDepth 100000 in
set_option maxHeartbeats 0 in
theorem PySem.Challenge.cw_chalkline_k61_names_that_lack_holds : PySem.Challenge.rw_chalkline_k61_names_that_lack.Holds := by
 w_on;o_law;k_head;(case hw=>w_witness2)
 k_fill
 refine DL.walkD (l:=PySem.Challenge.rw_chalkline_k61_names_that_lack) 67 ⟨rfl,by decide,by decide⟩ rfl rfl (fun w h Y=>PySem.W.kIn_of Y) ?F
 case F=>
  intro w mg fa h KX G hmg
  refine' Kx.all_mk KX G hmg ?d0 ?d1 ?d2 ?d3 ?d4 ?d5 ?d6 ?d7 ?d8 ?d9 ?d10 ?d11 ?d12 ?d13 ?d14 ?d15 ?a16 ?l16 ?c16 ?k16 ?sA ?sB ?sC ?sD ?sE ?sF ?sG ?sn0 ?sn1 ?sn2 ?sn3 ?sn4 ?sn5 ?sn6 ?sn7 ?sm0 ?sm1 ?sm2 ?sm3 ?sm4 ?sm5 ?sm6 ?sm7 ?sm8 ?sm9 ?sm10 ?sm11 ?sm13 ?sm12 ?sm15 ?sm16 ?sm17 ?sm18 ?sm19 ?sm20 ?sm21 ?d99 ?xd_NoName ?z_range ?z_len ?z_int ?z_max ?z_str ?z_dict ?z_enumerate ?z_isinstance ?z_ValueError ?z_bool ?z_tuple ?z_list ?z_min ?z_abs ?e_ChalkError ?e_NoPlace ?e_Same ?e_NoFloor ?e_Endless ?e_NoDeed ?e_NoText ?e_TooMany ?e_NoChange ?e_NoFrame ?e_NoValue ?e_Unlike ?e_NoRatio ?e_NoBow ?e_NoRow ?q_SIGNS ?lq_SIGNS ?q_FRAME ?lq_FRAME ?hlaw
  (case d0|d1|d2|d3|d4|d5|d6|d7|d8|d9|d10|d11|d12|d13|d14|d15=>walk_at "FD")
  (case a16|l16|c16|k16|sA|sB|sC|sD|sE|sF|sG|sn0|sn1|sn2|sn3|sn4|sn5|sn6|sn7=>k_is)
  (case sm0|sm1|sm2|sm3|sm4|sm5|sm6|sm7|sm8|sm9|sm10|sm11|sm13|sm12|sm15|sm16|sm17|sm18|sm19|sm20|sm21=>walk_at "MD")
  (case d99=>walk_at "FD")
  (case xd_NoName=>walk_at "XD")
  (case z_range|z_len|z_int|z_max|z_str|z_dict|z_enumerate|z_isinstance|z_ValueError|z_bool|z_tuple|z_list|z_min|z_abs|e_ChalkError|e_NoPlace|e_Same|e_NoFloor|e_Endless|e_NoDeed|e_NoText|e_TooMany|e_NoChange|e_NoFrame|e_NoValue|e_Unlike|e_NoRatio|e_NoBow|e_NoRow|q_SIGNS|lq_SIGNS|q_FRAME|lq_FRAME=>k_is)
  (case hlaw=>exact Lk61.law_ok)
end