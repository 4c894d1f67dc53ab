import PyProof.Rows.All
import Wide.All
import OpenK.AllK
import Wide.FinOn
import Lean
import PyProof.EqAt
import PyProof.EqKinds
import PyProof.TupleCall
import PyProof.NeKinds
import KE.KTryMore
import PyProof.NsDelKeeps
import PySem.SetTable
import PyProof.StrLawsChain
import PyProof.StrBlockL
import KE.KIntText
import PyProof.DictTable
import PyProof.SliceStr2
import PyProof.MeetsStr
import PyProof.StrWalks
import PyProof.TupleKey
import PyProof.SetKind
import PyProof.Rows.SetFrom
import PyProof.ZipIter
import PyProof.Rows.ZipGen
import PyProof.LayNew
import PyProof.ExcInit
import PyProof.ExcClass3
import PyProof.EnumFor
import PyProof.EnumMake
import PyProof.EnumStmt
import PyProof.Rows.StrNews
import KE.KDictSum
import KE.KSortTup
import PyProof.DictWalks
import PyProof.DictRoadsH
import PyProof.DictKeyH
import PyProof.AutoSeq1
import PySem.Challenge.RW_chalkline_k58_values
set_option Elab.async false
set_option linter.all false
set_option compiler.extract_closed false
set_option maxRecDepth 100000
set_option maxHeartbeats 1000000
section
open PySem PyProof.Rows
abbrev xFg := PySem.W.Frag
abbrev xaa := @wpAny_bind
abbrev xab := @List.getElem?_eq_some_iff
abbrev xad := @Heap.get?_push_of_some
abbrev xae := @List.getElem?_set_ne
abbrev xaf := @Nat.lt_of_lt_of_le
abbrev xag := @List.size_toArray
abbrev xah := @decide_eq_true
abbrev xai := @Heap.lt_size
abbrev xaj := @wpAny_pure
abbrev xak := @absurd
abbrev xal := @decide_eq_false
abbrev xam := @Nat.le_refl
abbrev xan := @of_decide_eq_true
abbrev xao := @if_neg
abbrev xap := @Bool.false_ne_true
abbrev xaq := @List.mem_cons_of_mem
abbrev xar := @List.length_map
abbrev xas := @List.getElem?_set_self
abbrev xat := @List.length_append
abbrev xau := @Bool.and_eq_true
abbrev xav := @if_pos
abbrev xaw := @List.length_cons
abbrev xax := @PySem.W.mg_of
abbrev xay := @Ne.symm
abbrev xaz := @List.mem_cons
abbrev xa0 := @Option.some.inj
abbrev xa1 := @Nat.le_trans
abbrev xa2 := @List.getElem?_map
abbrev xa3 := @List.mem_cons_self
abbrev xa4 := @Heap.get?_push_size
abbrev xa5 := @Nat.ne_of_lt
abbrev xa6 := @List.getElem?_eq_getElem
abbrev xa7 := @PySem.W.mg_none_of
abbrev xa8 := @List.mem_append_right
abbrev xa9 := @List.map_append
abbrev xba := @List.map_cons
abbrev xbb := @Heap.get?_update_other
abbrev xbc := @List.all_eq_true
abbrev xbd := @Nat.lt_irrefl
abbrev xbe := @Array.getElem?_eq_some_iff
abbrev xbf := @List.not_mem_nil
abbrev xbg := @Array.getElem?_eq_getElem
abbrev xbh := @List.mem_append
abbrev xbi := @Option.isSome_iff_exists
abbrev xbj := @List.length_take
abbrev xbk := @List.lookup_cons
abbrev xbl := @List.mem_singleton
abbrev xbm := @List.append_nil
abbrev xbn := @Array.getElem?_toList
abbrev xbo := @List.find?_cons
abbrev xbp := @List.reverse_cons
abbrev xbq := @List.getElem_mem
abbrev xbr := @Nat.lt_of_le_of_lt
abbrev xbs := @List.length_nil
abbrev xbt := @List.zip_cons_cons
abbrev xbu := @Option.isSome_map
abbrev xbv := @List.mem_of_getElem?
abbrev xbw := @Nat.zero_le
abbrev xbx := @List.filterMap_cons
abbrev xby := @Array.length_toList
abbrev xbz := @List.nodup_cons
abbrev xb0 := @List.getElem?_append_left
abbrev xb1 := @List.drop_eq_getElem_cons
abbrev xb2 := @Nat.le_of_lt
abbrev xb3 := @List.mem_map
abbrev xb4 := @Nat.zero_add
abbrev xb5 := @List.getElem?_replicate
abbrev xb6 := @List.any_cons
abbrev xb7 := @List.filter_cons
abbrev xb8 := @List.length_replicate
abbrev xb9 := @List.eq_nil_or_concat
abbrev xcb := @List.concat_eq_append
abbrev xcc := @Bool.and_eq_true_iff
abbrev xcd := @List.getElem?_range
abbrev xcf := @List.length_pos_iff
end
open PySem
section
namespace L2
open PySem.Spec PyProof.Rows
abbrev Key := Sum Int Str
def keyIs : Key -> Value -> Bool
  | .inl k, v => Value.isInt k v
  | .inr x, v => Value.isStrOf x v
def keyH (w : World) : Key -> Int
  | .inl k => hashInt k
  | .inr x => hashStr w x
theorem keyIs_shape : ∀ {k : Key} {v : Value}, keyIs k v = true -> (∃ i t, k = Sum.inl i /\ v = Value.int i t) \/ (∃ x t, k = Sum.inr x /\ v = Value.str x t)
  | .inl i, v, h => by
    obtain ⟨t, e⟩ := Value.isInt_shape (k := i) (v := v) h
    exact .inl ⟨i, t, rfl, e⟩
  | .inr x, v, h => by
    obtain ⟨t, e⟩ := Value.isStrOf_shape (x := x) (v := v) h
    exact .inr ⟨x, t, rfl, e⟩
theorem keyIs_int (i : Int) (t : Tok) : keyIs (.inl i) (.int i t) = true := by simp [keyIs, Value.isInt]
theorem keyIs_str (x : Str) (t : Tok) : keyIs (.inr x) (.str x t) = true := by simp [keyIs, Value.isStrOf]
theorem key_ll (a b : Int) : decide ((Sum.inl a : Key) = Sum.inl b) = (a == b) := by
  by_cases e : a = b
  · subst e; simp
  · have h : ¬ (Sum.inl a : Key) = Sum.inl b := fun q => e (Sum.inl.inj q)
    rw [xal h]
    exact (beq_eq_false_iff_ne.mpr e).symm
theorem key_rr (a b : Str) : decide ((Sum.inr a : Key) = Sum.inr b) = decide (a = b) := by
  by_cases e : a = b
  · subst e; simp
  · have h : ¬ (Sum.inr a : Key) = Sum.inr b := fun q => e (Sum.inr.inj q)
    rw [xal h, xal e]
theorem key_lr (a : Int) (b : Str) : decide ((Sum.inl a : Key) = Sum.inr b) = false := xal (fun q => nomatch q)
theorem key_rl (a : Str) (b : Int) : decide ((Sum.inr a : Key) = Sum.inl b) = false := xal (fun q => nomatch q)
def mixKind (prog : Program) (w : World) : PySem.KeyKind prog w Key where
  is := keyIs
  hash := keyH w
  inj := fun v a b ha hb => by
    rcases keyIs_shape ha with ⟨i, t, rfl, rfl⟩ | ⟨x, t, rfl, rfl⟩
    · rcases keyIs_shape hb with ⟨j, u, rfl, e⟩ | ⟨y, u, rfl, e⟩
      · injection e with e1 _; rw [e1]
      · exact nomatch e
    · rcases keyIs_shape hb with ⟨j, u, rfl, e⟩ | ⟨y, u, rfl, e⟩
      · exact nomatch e
      · injection e with e1 _; rw [e1]
  byValue := fun k v h => by
    rcases keyIs_shape h with ⟨i, t, rfl, rfl⟩ | ⟨x, t, rfl, rfl⟩ <;> rfl
  pyHash := fun hv h => by
    rcases keyIs_shape hv with ⟨i, t, rfl, rfl⟩ | ⟨x, t, rfl, rfl⟩
    · exact wpAny_pyHash_int h
    · exact wpAny_pyHash_str h
  eqBool := fun hu hv h => by
    rcases keyIs_shape hu with ⟨i, t, rfl, rfl⟩ | ⟨x, t, rfl, rfl⟩
    · rcases keyIs_shape hv with ⟨j, u, rfl, rfl⟩ | ⟨y, u, rfl, rfl⟩
      · rw [key_ll] at h; exact wpAny_eqBool_int h
      · rw [key_lr] at h; exact SeqAt.EqAt.int_str i t y u _ _ _ _ h
    · rcases keyIs_shape hv with ⟨j, u, rfl, rfl⟩ | ⟨y, u, rfl, rfl⟩
      · rw [key_rl] at h; exact SeqAt.EqAt.str_int x t j u _ _ _ _ h
      · rw [key_rr] at h; exact wpAny_eqBool_str h
  «strs» := fun k x t v h => by
    rcases keyIs_shape h with ⟨i, u, rfl, e⟩ | ⟨y, u, rfl, e⟩
    · exact nomatch e
    · injection e with e1 _
      subst e1
      cases v <;> rfl
theorem mixKind_int (prog : Program) (w : World) (i : Int) (t : Tok) : (mixKind prog w).is (.inl i) (.int i t) = true := keyIs_int i t
theorem mixKind_str (prog : Program) (w : World) (x : Str) (t : Tok) : (mixKind prog w).is (.inr x) (.str x t) = true := keyIs_str x t
end L2
namespace L2
open PySem.Spec PyProof.Rows
inductive V where
  | non | bl (b : Bool) | int (i : Int) | str (x : Str) | byt (b : Array UInt8) | flt (b : UInt64) | ref (a : Addr) | ty (n : String)
  deriving DecidableEq
def RelV : V -> Value -> Prop
  | .non, u => u = Value.none
  | .bl b, u => u = Value.bool b
  | .int i, u => ∃ t, u = Value.int i t
  | .str x, u => ∃ t, u = Value.str x t
  | .byt b, u => ∃ t, u = Value.bytes b t
  | .flt b, u => ∃ t, u = Value.float b t
  | .ref a, u => u = Value.ref a
  | .ty n, u => u = Value.type n
abbrev Vals : List V -> List Value -> Prop := Paired RelV
theorem Vals.length {xs : List V} {us : List Value} (r : Vals xs us) : xs.length = us.length := Paired.length r
theorem Vals.get : ∀ {xs : List V} {us : List Value} {i : Nat} {x : V}, Vals xs us -> xs[i]? = some x -> ∃ u, us[i]? = some u /\ RelV x u
  | _, _, _, _, .nil, e => by simp at e
  | _, _, 0, _, .cons r _, e => by simp at e; subst e; exact ⟨_, rfl, r⟩
  | _, _, i + 1, x, .cons _ t, e => by
    obtain ⟨u, h1, h2⟩ := Vals.get (i := i) (x := x) t (by simpa using e)
    exact ⟨u, by simpa using h1, h2⟩
theorem Vals.append : ∀ {xs ys : List V} {us ws : List Value}, Vals xs us -> Vals ys ws -> Vals (xs ++ ys) (us ++ ws)
  | _, _, _, _, .nil, s => s
  | _, _, _, _, .cons r t, s => .cons r (Vals.append t s)
theorem Vals.take : ∀ {xs : List V} {us : List Value} (n : Nat), Vals xs us -> Vals (xs.take n) (us.take n)
  | _, _, 0, _ => .nil
  | _, _, _ + 1, .nil => .nil
  | _, _, n + 1, .cons r t => .cons r (Vals.take n t)
theorem Vals.drop : ∀ {xs : List V} {us : List Value} (n : Nat), Vals xs us -> Vals (xs.drop n) (us.drop n)
  | _, _, 0, r => r
  | _, _, _ + 1, .nil => .nil
  | _, _, n + 1, .cons _ t => Vals.drop n t
def RelO : Option V -> Option Value -> Prop
  | some v, some u => RelV v u
  | none, none => True
  | _, _ => False
def KV {κ : Type} : List (κ × V) -> List (κ × Value) -> Prop := Paired fun (p : κ × V) (q : κ × Value) => p.1 = q.1 /\ RelV p.2 q.2
def kV : Key -> V
  | .inl i => .int i
  | .inr x => .str x
inductive HO where
  | lst (xs : List V)
  | tup (xs : List V)
  | dK (kvs : List (Key × V)) | dT (kvs : List (List Key × V))
  | set (S : Int -> Bool) (n : Nat)
  | ins (C dx : Addr) (fs : List (Str × V))
  | own (x : Addr)
  | xd (fs : List (Str × V))
  | met (f x : Addr)
  | rng (lo hi : Int)
  | frz (o : Obj) (u : HO)
  | tbl (ps : Array Value)
  | ext (φ : Heap -> Prop)
abbrev Hp := Addr -> Option HO
def upd (H : Hp) (a : Addr) (o : HO) : Hp := fun b => if b = a then some o else H b
theorem upd_same {H : Hp} {a : Addr} {o : HO} : upd H a o a = some o := by unfold upd; rw [xav rfl]
theorem upd_ne {H : Hp} {a b : Addr} {o : HO} (h : b ≠ a) : upd H a o b = H b := by unfold upd; rw [xao h]
theorem ne_of {H : Hp} {a b : Addr} {o u : HO} (h : H a = some o) (h' : H b = some u) (d : o ≠ u) : a ≠ b := by
  intro e; subst e; rw [h] at h'; exact d (xa0 h')
theorem ne_of_none {H : Hp} {a b : Addr} {o : HO} (h : H a = some o) (h' : H b = none) : a ≠ b := by
  intro e; subst e; rw [h] at h'; cases h'
def TupN (h : Heap) (a : Addr) (items : Array Value) : Prop := ∃ o, h.get? a = some o /\ o.cls = .type "tuple" /\ (∃ n, o.data = .seq items n) /\ o.dict = none
theorem TupN.tup {h : Heap} {a : Addr} {items : Array Value} (x : TupN h a items) : IsTup h a items := by
  obtain ⟨o, e, c, d, _⟩ := x; exact ⟨o, e, c, d⟩
theorem TupN.new (h : Heap) (items : Array Value) : TupN (h.push { cls := .type "tuple", data := .seq items }) h.objs.size items := ⟨_, xa4 h rfl, rfl, ⟨0, rfl⟩, rfl⟩
section
variable (P : Program) (w : World)
def ObjOk (H : Hp) (h : Heap) (a : Addr) : HO -> Prop
  | .lst xs => xs.length <= sizeLine /\ ∃ (its : List Value) (n : Nat), Vals xs its /\ h.get? a = some { cls := .type "list", data := .seq its.toArray n }
  | .tup xs => xs.length <= sizeLine /\ ∃ its : List Value, Vals xs its /\ TupN h a its.toArray
  | .dK kvs => kvs.length <= sizeLine /\ (a == sysModules) = false /\ ∃ vs, KV kvs vs /\ h.DictOf (mixKind P w) a vs
  | .dT kvs => kvs.length <= sizeLine /\ (a == sysModules) = false /\ ∃ xs : List (List Key × Addr × Value),
      Paired (fun (p : List Key × V) (q : List Key × Addr × Value) => p.1 = q.1 /\ H q.2.1 = some (.tup (p.1.map kV)) /\ RelV p.2 q.2.2) kvs xs /\
      ∃ o es ep, h.get? a = some o /\ o.ExactDict /\ o.data = .dict es ep /\ es.toList = xs.map (entryOfKey (tupleKind (mixKind P w))) /\ (xs.map (·.1)).Nodup
  | .set S n => h.SetOf (intKind P w) a S n
  | .ins C dx fs => H dx = some (.own a) /\ fs.length <= 1000 /\ dx ≠ a /\ h.get? a = some (PySem.W.instObj C dx) /\
      ∃ mA, h.Ns1 dx mA /\ (∀ f, RelO (fs.lookup f) (mA f)) /\ PySem.Within mA (fs.map (·.1))
  | .own _ => ∃ o, h.get? a = some o
  | .xd fs => ∃ mA, h.Ns1 a mA /\ ∀ f, RelO (fs.lookup f) (mA f)
  | .rng lo hi => ∃ t u v, h.get? a = some { cls := .type "range", data := .fields #[.int lo t, .int hi u, .int 1 v] }
  | .frz o u => h.get? a = some o /\ ObjOk H h a u
  | .tbl ps => h.get? a = some { cls := .none, data := .fields ps }
  | .met f x => h.get? a = some (PySem.W.methodObj (.ref f) (.ref x))
  | .ext φ => φ h /\ (∃ o, h.get? a = some o) /\ ∀ h1 h2 : Heap, φ h1 -> (∀ o, h1.get? a = some o -> h2.get? a = some o) -> φ h2
def HOk (H : Hp) (h : Heap) : Prop := ∀ a o, H a = some o -> ObjOk P w H h a o
end
section
variable {P : Program} {w : World} {H H' : Hp} {h h' : Heap} {a : Addr} {o : HO}
theorem ObjOk.lt (x : ObjOk P w H h a o) : a < h.objs.size := by
  cases o with
  | lst xs => obtain ⟨_, _, _, _, e⟩ := x; exact xai e
  | tup xs => obtain ⟨_, _, _, p⟩ := x; exact p.tup.lt
  | dK kvs => obtain ⟨_, _, _, _, o, _, _, e, _⟩ := x; exact xai e
  | dT kvs => obtain ⟨_, _, _, _, o, _, _, e, _⟩ := x; exact xai e
  | set S n => obtain ⟨o, _, _, _, e, _⟩ := x; exact xai e
  | ins C dx fs => obtain ⟨_, _, _, e, _⟩ := x; exact xai e
  | own y => obtain ⟨_, e⟩ := x; exact xai e
  | xd fs => obtain ⟨_, ⟨_, _, _, e, _⟩, _⟩ := x; exact xai e
  | rng lo hi => obtain ⟨_, _, _, e⟩ := x; exact xai e
  | frz ob u => obtain ⟨e, _⟩ := x; exact xai e
  | tbl ps => exact xai (show h.get? a = some _ from x)
  | met f y => exact xai (show h.get? a = some _ from x)
  | ext φ => obtain ⟨_, ⟨_, e⟩, _⟩ := x; exact xai e
theorem Paired.mapP {α β : Type} {F G : α -> β -> Prop} : ∀ {l₁ : List α} {l₂ : List β}, Paired F l₁ l₂ -> (∀ a b, F a b -> G a b) -> Paired G l₁ l₂
  | _, _, .nil, _ => .nil
  | _, _, .cons r t, f => .cons (f _ _ r) (Paired.mapP t f)
theorem ObjOk.stay (x : ObjOk P w H h a o) (k : ∀ b u, (b = a \/ H b = some (.own a)) -> h.get? b = some u -> h'.get? b = some u)
    (ho : ∀ b, H b = some (.own a) -> H' b = some (.own a)) (ht : ∀ b xs, H b = some (.tup xs) -> H' b = some (.tup xs)) : ObjOk P w H' h' a o := by
  induction o with
  | lst xs => obtain ⟨z, its, n, r, e⟩ := x; exact ⟨z, its, n, r, k _ _ (.inl rfl) e⟩
  | tup xs => obtain ⟨z, its, r, ob, e, c⟩ := x; exact ⟨z, its, r, ob, k _ _ (.inl rfl) e, c⟩
  | dK kvs => obtain ⟨z, y, vs, r, ob, es, ep, e, c⟩ := x; exact ⟨z, y, vs, r, ob, es, ep, k _ _ (.inl rfl) e, c⟩
  | dT kvs =>
    obtain ⟨z, y, xs, r, ob, es, ep, e, c⟩ := x
    exact ⟨z, y, xs, Paired.mapP r fun p q z => ⟨z.1, ht _ _ z.2.1, z.2.2⟩, ob, es, ep, k _ _ (.inl rfl) e, c⟩
  | set S n => obtain ⟨ob, es, ep, t, e, c⟩ := x; exact ⟨ob, es, ep, t, k _ _ (.inl rfl) e, c⟩
  | ins C dx fs =>
    obtain ⟨d, z, ne, e, mA, ⟨od, es, ep, e2, c⟩, r⟩ := x
    exact ⟨ho _ d, z, ne, k _ _ (.inl rfl) e, mA, ⟨od, es, ep, k _ _ (.inr d) e2, c⟩, r⟩
  | own y => obtain ⟨ob, e⟩ := x; exact ⟨ob, k _ _ (.inl rfl) e⟩
  | xd fs => obtain ⟨mA, ⟨od, es, ep, e, c⟩, r⟩ := x; exact ⟨mA, ⟨od, es, ep, k _ _ (.inl rfl) e, c⟩, r⟩
  | rng lo hi => obtain ⟨t, u, v, e⟩ := x; exact ⟨t, u, v, k _ _ (.inl rfl) e⟩
  | frz ob u ih => obtain ⟨e, q⟩ := x; exact ⟨k _ _ (.inl rfl) e, ih q⟩
  | tbl ps =>
    have e : h.get? a = some { cls := .none, data := .fields ps } := x
    show h'.get? a = some { cls := .none, data := .fields ps }
    exact k a _ (.inl rfl) e
  | met f y =>
    have e : h.get? a = some (PySem.W.methodObj (.ref f) (.ref y)) := x
    show h'.get? a = some (PySem.W.methodObj (.ref f) (.ref y))
    exact k a _ (.inl rfl) e
  | ext φ => obtain ⟨p, ⟨o, e⟩, st⟩ := x; exact ⟨st _ _ p fun o q => k _ _ (.inl rfl) q, ⟨o, k _ _ (.inl rfl) e⟩, st⟩
theorem HOk.lt (x : HOk P w H h) (e : H a = some o) : a < h.objs.size := (x a o e).lt
theorem HOk.fresh (x : HOk P w H h) (e : h.objs.size <= a) : H a = none := by
  cases q : H a with
  | none => rfl
  | some u => exact xak (xaf (x.lt q) e) (xbd _)
theorem HOk.kept (x : HOk P w H h) (k : ∀ b u, h.get? b = some u -> h'.get? b = some u) : HOk P w H h' := fun a o e =>
  (x a o e).stay (fun b u _ q => k b u q) (fun _ q => q) fun _ _ q => q
theorem HOk.laid (x : HOk P w H h) (k : ∀ b u, h.get? b = some u -> h'.get? b = some u) (hp : h.objs.size <= a) (new : ObjOk P w (upd H a o) h' a o) : HOk P w (upd H a o) h' := fun b u e => by
  have hn := x.fresh hp
  by_cases hb : b = a
  · subst hb; rw [upd_same] at e; cases e; exact new
  · rw [upd_ne hb] at e
    exact (x b u e).stay (fun c v _ q => k c v q) (fun c q => by rw [upd_ne (ne_of_none q hn)]; exact q) fun c xs q => by rw [upd_ne (ne_of_none q hn)]; exact q
end
def Rd (H : Hp) (a : Addr) (u : HO) : Prop := H a = some u \/ ∃ o, H a = some (.frz o u)
theorem Rd.ok {P : Program} {w : World} {H : Hp} {h : Heap} {a : Addr} {u : HO} (r : Rd H a u) (x : HOk P w H h) : ObjOk P w H h a u := by
  rcases r with r | ⟨o, r⟩
  · exact x a u r
  · obtain ⟨_, q⟩ := x a _ r
    exact q
def Mut : Option HO -> Prop
  | some (.lst _) => True
  | some (.dK _) => True
  | some (.dT _) => True
  | some (.set _ _) => True
  | some (.ins _ _ _) => True
  | some (.ext _) => True
  | _ => False
section
variable {P : Program} {w : World} {H : Hp} {h h' : Heap} {x e : Addr} {o' : HO}
theorem HOk.write (ok : HOk P w H h) (mu : Mut (H x)) (he : e = x \/ H e = some (.own x)) (k : ∀ b u, b ≠ e -> h.get? b = some u -> h'.get? b = some u) (heo : ∃ u, h'.get? e = some u)
    (new : ObjOk P w (upd H x o') h' x o') : HOk P w (upd H x o') h' := fun b u q => by
  have nown : ∀ c y, H c = some (.own y) -> c ≠ x := fun c y r z => by subst z; rw [r] at mu; exact mu
  have ntup : ∀ c xs, H c = some (.tup xs) -> c ≠ x := fun c xs r z => by subst z; rw [r] at mu; exact mu
  by_cases hb : b = x
  · subst hb; rw [upd_same] at q; cases q; exact new
  · rw [upd_ne hb] at q
    by_cases hbe : b = e
    · have q' : H b = some (.own x) := by
        rcases he with z | z
        · exact xak (hbe.trans z) hb
        · rw [hbe]; exact z
      rw [q] at q'; cases q'
      obtain ⟨v, hv⟩ := heo
      exact ⟨v, by rw [hbe]; exact hv⟩
    · refine (ok b u q).stay (fun c v hc r => k c v ?_ r) (fun c r => by rw [upd_ne (nown c b r)]; exact r) fun c xs r => by rw [upd_ne (ntup c xs r)]; exact r
      rcases hc with rfl | hc
      · exact hbe
      · rintro rfl
        rcases he with z | z
        · exact nown c b hc z
        · rw [hc] at z; cases z; exact hb rfl
end
structure Un (fs ex : List Addr) (H H' : Hp) (h h' : Heap) : Prop where
  keep : ∀ b o, h.get? b = some o -> H b = none -> b ∉ fs -> b ∉ ex -> h'.get? b = some o
  slot : ∀ b o, h.get? b = some o -> H b = none -> b ∈ fs -> b ∉ ex -> ∃ sl, h'.get? b = some { o with slots := sl }
  free : ∀ b o, h.get? b = some o -> H b = none -> b ∉ ex -> H' b = none
  there : ∀ b o, h.get? b = some o -> b ∉ ex -> ∃ o', h'.get? b = some o'
  tups : ∀ b xs, H b = some (.tup xs) -> H' b = some (.tup xs)
  frzs : ∀ b o u, H b = some (.frz o u) -> H' b = some (.frz o u)
  tbls : ∀ b ps, H b = some (.tbl ps) -> ∃ more, H' b = some (.tbl (ps ++ more))
section
variable {fs fs' ex ex' : List Addr} {H H1 H2 : Hp} {h h1 h2 h' : Heap} {a x e : Addr} {o : HO}
theorem Un.any (u : Un fs ex H H1 h h1) {b : Addr} {ob : Obj} (q : h.get? b = some ob) (n : H b = none) (hx : b ∉ ex) : ∃ sl, h1.get? b = some { ob with slots := sl } := by
  by_cases hb : b ∈ fs
  · exact u.slot b ob q n hb hx
  · exact ⟨ob.slots, u.keep b ob q n hb hx⟩
theorem Un.kept (k : ∀ b u, h.get? b = some u -> h'.get? b = some u) : Un fs ex H H h h' :=
  ⟨fun b ob q _ _ _ => k b ob q, fun b ob q _ _ _ => ⟨ob.slots, k b ob q⟩, fun _ _ _ n _ => n, fun b ob q _ => ⟨ob, k b ob q⟩, fun _ _ q => q, fun _ _ _ q => q, fun _ ps q => ⟨#[], by rw [q]; simp⟩⟩
theorem Un.refl : Un fs ex H H h h := Un.kept fun _ _ q => q
theorem Un.laid (k : ∀ b u, h.get? b = some u -> h'.get? b = some u) (hp : h.objs.size <= a) (hn : H a = none) : Un fs ex H (upd H a o) h h' where
  keep := fun b u q _ _ _ => k b u q
  slot := fun b u q _ _ _ => ⟨u.slots, k b u q⟩
  free := fun b u q n _ => by rw [upd_ne (xa5 (xaf (xai q) hp))]; exact n
  there := fun b u q _ => ⟨u, k b u q⟩
  tups := fun b xs q => by rw [upd_ne (ne_of_none q hn)]; exact q
  frzs := fun b u xs q => by rw [upd_ne (ne_of_none q hn)]; exact q
  tbls := fun b ps q => ⟨#[], by rw [upd_ne (ne_of_none q hn), q]; simp⟩
theorem Un.write (mu : Mut (H x)) (he : e = x \/ H e = some (.own x)) (k : ∀ b u, b ≠ e -> h.get? b = some u -> h'.get? b = some u) (heo : ∃ u, h'.get? e = some u) : Un fs ex H (upd H x o) h h' := by
  have hx : ∀ b, H b = none -> b ≠ x := fun b n z => by subst z; rw [n] at mu; exact mu
  have hb : ∀ b, H b = none -> b ≠ e := fun b n z => by
    subst z
    rcases he with r | r
    · exact hx b n r
    · rw [n] at r; cases r
  have hm : ∀ b u, H b = some u -> ¬ Mut (some u) -> b ≠ x := fun b u q nm z => by subst z; rw [q] at mu; exact nm mu
  refine ⟨fun b u q n _ _ => k b u (hb b n) q, fun b u q n _ _ => ⟨u.slots, k b u (hb b n) q⟩, fun b u q n _ => by rw [upd_ne (hx b n)]; exact n, fun b u q _ => ?_,
    fun b xs q => by rw [upd_ne (hm b _ q fun z => z)]; exact q, fun b u xs q => by rw [upd_ne (hm b _ q fun z => z)]; exact q, fun b ps q => ⟨#[], by rw [upd_ne (hm b _ q fun z => z), q]; simp⟩⟩
  by_cases hbe : b = e
  · subst hbe; exact heo
  · exact ⟨u, k b u hbe q⟩
end
def trk (h : Heap) (H : Hp) : List Addr := (List.range h.objs.size).filter fun a => (H a).isSome
def hidT (h : Heap) (H : Hp) : Heap := PySem.W.hideAll h (trk h H)
theorem hidT_size (h : Heap) (H : Hp) : (hidT h H).objs.size = h.objs.size := PySem.W.hideAll_size _ _
theorem hidT_get {h : Heap} {H : Hp} {b : Addr} {o : Obj} (e : h.get? b = some o) (n : H b = none) : (hidT h H).get? b = some o :=
  PySem.W.hideAll_get _ e fun hm => by
    have q : (H b).isSome = true := (List.mem_filter.mp hm).2
    rw [n] at q; simp at q
theorem of_hidT {h : Heap} {H : Hp} {b : Addr} {o : Obj} (e : (hidT h H).get? b = some o) : h.get? b = some o /\ H b = none := by
  have e' : h.get? b = some o := PySem.W.of_hideAll (trk h H) e
  refine ⟨e', ?_⟩
  cases q : H b with
  | none => rfl
  | some x =>
    have hm : b ∈ trk h H := List.mem_filter.mpr ⟨List.mem_range.mpr (xai e'), by simp [q]⟩
    have z : (hidT h H).get? b = none := PySem.W.hideAll_none (trk h H) hm
    rw [z] at e; cases e
def allNews (g h : Heap) (L : Addr) : List (Addr × Obj) := (List.range h.objs.size).filterMap fun a => if a = L \/ (g.get? a).isSome = true then none else (h.get? a).map fun o => (a, o)
def rest (g h : Heap) (L d : Addr) : List (Addr × Obj) := (allNews g h L).filter fun p => decide (p.1 ≠ d)
end L2
namespace L2
open PySem.Spec PyProof.Rows
structure Mod (K : xFg) (mg : Str -> Option Value) (base : Heap) : Prop where
  kin : K.In base
  glob : base.Ns mainGlobals mg
  blt : ∃ mb, base.Ns builtinsNs mb /\ ∀ x : Str, x ≠ "__name__" -> mb x = bootBuiltins x
  nolimit : base.NoLimit
structure Cx where
  prog : Program
  w : World
  K : xFg
  mg : Str -> Option Value
  base : Heap
  A : Around
  N : List Str
  s₀ : Shared
  H₀ : Hp
  env : Env
  outer : List Env
  stack : List Env
  ex : List Addr
  fn : Str -> Bool
  calm : Bool
  pn : List (Addr × Obj)
  xe : Value -> Shared -> Prop
def frs (l : List Env) : List Addr := l.filterMap (·.frame)
abbrev Cx.fs (X : Cx) : List Addr := frs X.outer
def Vis (sc : Scope) (x : Str) : Prop := sc.names.lookup x = some .local \/ sc.names.lookup x = some .cell \/ sc.names.lookup x = some .free
def Loc (sc : Scope) (x : Str) : Prop := sc.names.lookup x = some .local \/ sc.names.lookup x = some .cell
def Look (env : Env) (h : Heap) (m : Str -> Option Value) (x : Str) (u : Value) : Prop :=
  (env.kindOf x = some .local /\ m x = some u) \/ ((env.kindOf x = some .cell \/ env.kindOf x = some .free) /\ ∃ c, env.cells.lookup x = some c /\ h.IsCell c (some u))
structure Cx.Ok (X : Cx) : Prop where
  mod : Mod X.K X.mg X.base
  kind : X.env.scope.kind = .function
  glob : X.env.globals = mainGlobals
  blt : X.env.builtins = builtinsNs
  above : X.s₀.heap.objs.size <= X.env.locals
  inj : ∀ x y c, X.env.cells.lookup x = some c -> X.env.cells.lookup y = some c -> x = y
  has : ∀ x, (X.env.kindOf x = some .cell \/ X.env.kindOf x = some .free) -> ∃ c, X.env.cells.lookup x = some c
  cab : ∀ x c, X.fn x = true -> X.env.cells.lookup x = some c -> X.s₀.heap.objs.size <= c
  hd : X.calm = true -> X.A.handled = none
  frames : X.A.frames = some X.stack
  stk : X.stack = X.outer \/ (X.stack = X.env :: X.outer /\ X.env.frame = some X.env.locals)
  exf : ∀ b ∈ X.ex, b ≠ X.env.locals /\ ∀ x c, X.env.cells.lookup x = some c -> c ≠ b
  bs : ∀ b o, X.base.get? b = some o -> X.s₀.heap.get? b = some o /\ X.H₀ b = none
  bsz : X.base.objs.size <= X.s₀.heap.objs.size
  noex : ∀ b o, X.base.get? b = some o -> b ∉ X.ex
  exfs : ∀ b ∈ X.ex, b ∉ X.fs
  funs : X.s₀.heap.FunFrames X.base X.outer
  frf : ∀ b ∈ X.fs, X.H₀ b = none
structure Inv (X : Cx) (pins : List (Addr × Obj)) (Z : List (Option V)) (H : Hp) (s : Shared) : Prop where
  ok : X.Ok
  os : s.os = X.s₀.os
  bare : AllBare s.gens
  base : Un X.fs X.ex X.H₀ H X.s₀.heap s.heap
  loc : ∃ m, s.heap.Ns X.env.locals m /\ ∀ (i : Nat) (x : Str) (v : V), X.N[i]? = some x -> Z[i]? = some (some v) -> Vis X.env.scope x -> ∃ u, RelV v u /\ Look X.env s.heap m x u
  cell : ∀ x c, X.env.cells.lookup x = some c -> ∃ v, s.heap.IsCell c v
  free : H X.env.locals = none
  freeC : ∀ x c, X.env.cells.lookup x = some c -> H c = none
  pin : ∀ p ∈ X.pn ++ pins, s.heap.get? p.1 = some p.2 /\ H p.1 = none /\ p.1 ≠ X.env.locals /\ p.1 ∉ X.fs /\ ∀ v, p.2.data ≠ .cell v
  hok : HOk X.prog X.w H s.heap
  len : Z.length = X.N.length
section
variable {X : Cx} {pins : List (Addr × Obj)} {Z : List (Option V)} {H H' : Hp} {s : Shared} {h' : Heap}
theorem Cx.Ok.nofr (ok : X.Ok) {b : Addr} {o : Obj} (e : X.base.get? b = some o) : b ∉ X.fs := fun hb => by
  have := (ok.funs.mem hb).1
  rw [e] at this; cases this
theorem Inv.bs (I : Inv X pins Z H s) : ∀ b o, X.base.get? b = some o -> s.heap.get? b = some o /\ H b = none := fun b o e =>
  ⟨I.base.keep b o (I.ok.bs b o e).1 (I.ok.bs b o e).2 (I.ok.nofr e) (I.ok.noex b o e), I.base.free b o (I.ok.bs b o e).1 (I.ok.bs b o e).2 (I.ok.noex b o e)⟩
theorem Inv.bk (I : Inv X pins Z H s) : ∀ b o, X.base.get? b = some o -> s.heap.get? b = some o := fun b o e => (I.bs b o e).1
theorem Inv.mod (I : Inv X pins Z H s) : Mod X.K X.mg X.base := I.ok.mod
theorem Inv.kIn (I : Inv X pins Z H s) : X.K.In s.heap := I.ok.mod.kin.keeps I.bk
theorem Inv.fr (I : Inv X pins Z H s) : ∃ m, Fr X.base X.env.locals s.heap m :=
  let ⟨m, hn, _⟩ := I.loc
  ⟨m, hn, I.bk, xa1 I.ok.bsz I.ok.above⟩
theorem Inv.lt (I : Inv X pins Z H s) : X.env.locals < s.heap.objs.size := let ⟨_, hn, _⟩ := I.loc; hn.lt
theorem Inv.sz (I : Inv X pins Z H s) : X.s₀.heap.objs.size <= s.heap.objs.size := xa1 I.ok.above (xb2 I.lt)
theorem Inv.nofs (I : Inv X pins Z H s) {a : Addr} (h : s.heap.objs.size <= a) : a ∉ X.fs := fun hb => by
  obtain ⟨_, o, ho, _⟩ := I.ok.funs.mem hb
  exact xak (xaf (xai ho) (xa1 I.sz h)) (xbd _)
theorem Inv.cne (I : Inv X pins Z H s) : ∀ x c, X.env.cells.lookup x = some c -> c ≠ X.env.locals := fun x c e z => by
  obtain ⟨v, o, ho, hd⟩ := I.cell x c e
  obtain ⟨m, ⟨o', es, ep, ho', hd', _⟩, _⟩ := I.loc
  rw [z, ho'] at ho; cases ho; rw [hd'] at hd; cases hd
theorem Inv.funs (I : Inv X pins Z H s) : s.heap.FunFrames X.base X.outer := by
  have all : ∀ (l : List Env), (∀ b ∈ frs l, b ∈ X.fs) -> X.s₀.heap.FunFrames X.base l -> s.heap.FunFrames X.base l := by
    intro l
    induction l with
    | nil => intro _ _; trivial
    | cons env r ih =>
      intro hs hl
      obtain ⟨hk, ⟨L, o, hf, hn, ho, hd⟩, hr⟩ := hl
      have hL : L ∈ X.fs := hs L (by unfold frs; rw [xbx, hf]; exact xa3)
      obtain ⟨sl, e⟩ := I.base.slot L o ho (I.ok.frf L hL) hL fun z => I.ok.exfs L z hL
      exact ⟨hk, ⟨L, _, hf, hn, e, hd⟩, ih (fun b hb => hs b (by unfold frs; rw [xbx, hf]; exact xaq _ hb)) hr⟩
  exact all X.outer (fun _ hb => hb) I.ok.funs
theorem Inv.stack (I : Inv X pins Z H s) : s.heap.FunFrames X.base X.stack := by
  rcases I.ok.stk with e | ⟨e, hf⟩
  · rw [e]; exact I.funs
  · rw [e]
    obtain ⟨m, hn, _⟩ := I.loc
    refine .cons (by rw [I.ok.kind]; decide) hf hn ?_ I.funs
    exact Heap.get?_none_of_le (xa1 I.ok.bsz I.ok.above)
theorem Inv.stkSub (I : Inv X pins Z H s) : ∀ b ∈ frs X.stack, b ∈ X.env.locals :: X.fs := fun b hb => by
  rcases I.ok.stk with e | ⟨e, hf⟩
  · rw [e] at hb; exact xaq _ hb
  · rw [e] at hb
    unfold frs at hb
    rw [xbx, hf] at hb
    exact hb
theorem Inv.stkFree (I : Inv X pins Z H s) : ∀ b ∈ frs X.stack, H b = none := fun b hb => by
  rcases xaz.mp (I.stkSub b hb) with e | hb
  · rw [e]; exact I.free
  · obtain ⟨_, o, ho, _⟩ := I.ok.funs.mem hb
    exact I.base.free b o ho (I.ok.frf b hb) fun z => I.ok.exfs b z hb
theorem Inv.step {g' : Array GenState} {t' : Nat} {d' : Drawn} {ch : List Addr} (I : Inv X pins Z H s)
    (hch : ∀ b ∈ ch, (b ∈ X.ex \/ X.s₀.heap.objs.size <= b) /\ b ≠ X.env.locals /\ (∀ x c, X.env.cells.lookup x = some c -> c ≠ b) /\ ∀ p ∈ X.pn ++ pins, p.1 ≠ b)
    (keep : ∀ b o, b ≠ X.env.locals -> b ∉ X.fs -> b ∉ ch -> s.heap.get? b = some o -> H b = none -> h'.get? b = some o)
    (slot : ∀ b o, b ≠ X.env.locals -> b ∈ X.fs -> b ∉ ch -> s.heap.get? b = some o -> H b = none -> ∃ sl, h'.get? b = some { o with slots := sl }) (free : ∀ b o, b ∉ ch -> s.heap.get? b = some o -> H b = none -> H' b = none)
    (there : ∀ b o, b ∉ ch -> s.heap.get? b = some o -> ∃ o', h'.get? b = some o')
    (tups : ∀ b xs, H b = some (.tup xs) -> H' b = some (.tup xs)) (frzs : ∀ b o u, H b = some (.frz o u) -> H' b = some (.frz o u)) (tbls : ∀ b ps, H b = some (.tbl ps) -> ∃ more, H' b = some (.tbl (ps ++ more)))
    (ns : ∀ m, s.heap.Ns X.env.locals m -> h'.Ns X.env.locals m) (hok : HOk X.prog X.w H' h') (hg : AllBare g') :
    Inv X pins Z H' { s with heap := h', gens := g', drawn := d', toks := t' } := by
  have neL : ∀ b o, X.s₀.heap.get? b = some o -> b ≠ X.env.locals := fun b o e => xa5 (xaf (xai e) I.ok.above)
  have neC : ∀ b o, X.s₀.heap.get? b = some o -> b ∉ X.ex -> b ∉ ch := fun b o e hx hb => by
    rcases (hch b hb).1 with z | z
    · exact hx z
    · exact xak (xaf (xai e) z) (xbd _)
  have cellK : ∀ x c, X.env.cells.lookup x = some c -> ∀ v, s.heap.IsCell c v -> h'.IsCell c v := fun x c e v ⟨o, ho, hd⟩ => by
    have nch : c ∉ ch := fun z => (hch c z).2.2.1 x c e rfl
    by_cases hc : c ∈ X.fs
    · obtain ⟨sl, q⟩ := slot c o (I.cne x c e) hc nch ho (I.freeC x c e)
      exact ⟨_, q, hd⟩
    · exact ⟨o, keep c o (I.cne x c e) hc nch ho (I.freeC x c e), hd⟩
  refine ⟨I.ok, I.os, hg, ⟨fun b o e n hb hx => ?_, fun b o e n hb hx => ?_, fun b o e n hx => ?_, fun b o e hx => ?_, fun b xs e => tups b xs (I.base.tups b xs e), fun b o xs e => frzs b o xs (I.base.frzs b o xs e), fun b ps e => ?_⟩, ?_, fun x c e => ?_, ?_, fun x c e => ?_, fun p hp => ?_, hok, I.len⟩
  · exact keep b o (neL b o e) hb (neC b o e hx) (I.base.keep b o e n hb hx) (I.base.free b o e n hx)
  · obtain ⟨sl, e1⟩ := I.base.slot b o e n hb hx
    obtain ⟨sl', e2⟩ := slot b _ (neL b o e) hb (neC b o e hx) e1 (I.base.free b o e n hx)
    exact ⟨sl', e2⟩
  · obtain ⟨o', e1⟩ := I.base.there b o e hx
    exact free b o' (neC b o e hx) e1 (I.base.free b o e n hx)
  · obtain ⟨o', e1⟩ := I.base.there b o e hx
    exact there b o' (neC b o e hx) e1
  · obtain ⟨m1, e1⟩ := I.base.tbls b ps e
    obtain ⟨m2, e2⟩ := tbls b _ e1
    exact ⟨m1 ++ m2, by rw [e2, Array.append_assoc]⟩
  · obtain ⟨m, hn, hl⟩ := I.loc
    refine ⟨m, ns m hn, fun i x v e1 e2 e3 => ?_⟩
    obtain ⟨u, r, l⟩ := hl i x v e1 e2 e3
    refine ⟨u, r, ?_⟩
    rcases l with l | ⟨k, c, e, z⟩
    · exact .inl l
    · exact .inr ⟨k, c, e, cellK x c e _ z⟩
  · obtain ⟨v, z⟩ := I.cell x c e
    exact ⟨v, cellK x c e v z⟩
  · obtain ⟨m, ⟨o, _, _, ho, _⟩, _⟩ := I.loc
    exact free _ o (fun z => (hch _ z).2.1 rfl) ho I.free
  · obtain ⟨v, o, ho, hd⟩ := I.cell x c e
    exact free c o (fun z => (hch c z).2.2.1 x c e rfl) ho (I.freeC x c e)
  · obtain ⟨e, n, ne, nf, d⟩ := I.pin p hp
    have nch : p.1 ∉ ch := fun z => (hch p.1 z).2.2.2 p hp rfl
    exact ⟨keep p.1 p.2 ne nf nch e n, free p.1 p.2 nch e n, ne, nf, d⟩
theorem Inv.un {t' : Nat} (I : Inv X pins Z H s) (u : Un X.fs [] H H' s.heap h') (hok : HOk X.prog X.w H' h') : Inv X pins Z H' { s with heap := h', toks := t' } := by
  obtain ⟨m, ⟨o, es, ep, ho, r⟩, _⟩ := id I.loc
  obtain ⟨sl, hL⟩ := u.any ho I.free (by simp)
  exact I.step (g' := s.gens) (d' := s.drawn) (ch := []) (fun _ z => nomatch z) (fun b o _ hb _ e n => u.keep b o e n hb (by simp)) (fun b o _ hb _ e n => u.slot b o e n hb (by simp)) (fun b o _ e n => u.free b o e n (by simp)) (fun b o _ e => u.there b o e (by simp)) u.tups u.frzs u.tbls (fun m' hm => by
    obtain ⟨o', es', ep', ho', r'⟩ := hm
    rw [ho] at ho'; cases ho'
    exact ⟨_, es', ep', hL, r'⟩) hok I.bare
theorem Inv.call {g' : Array GenState} {t' : Nat} {d' : Drawn} {ch : List Addr} (I : Inv X pins Z H s) (u : Un (frs X.stack) ch H H' s.heap h') (hok : HOk X.prog X.w H' h') (hg : AllBare g')
    (hch : ∀ b ∈ ch, (b ∈ X.ex \/ X.s₀.heap.objs.size <= b) /\ b ≠ X.env.locals /\ (∀ x c, X.env.cells.lookup x = some c -> c ≠ b) /\ ∀ p ∈ X.pn ++ pins, p.1 ≠ b) :
    Inv X pins Z H' { s with heap := h', gens := g', drawn := d', toks := t' } := by
  obtain ⟨m, ⟨o, es, ep, ho, r⟩, _⟩ := id I.loc
  obtain ⟨sl, hL⟩ := u.any ho I.free fun z => (hch _ z).2.1 rfl
  exact I.step (ch := ch) hch (fun b o hL hb hc e n => u.keep b o e n (fun z => (xaz.mp (I.stkSub b z)).elim hL hb) hc) (fun b o _ _ hc e n => u.any e n hc) (fun b o hc e n => u.free b o e n hc) (fun b o hc e => u.there b o e hc) u.tups u.frzs u.tbls (fun m' hm => by
    obtain ⟨o', es', ep', ho', r'⟩ := hm
    rw [ho] at ho'; cases ho'
    exact ⟨_, es', ep', hL, r'⟩) hok hg
theorem Inv.turned {t' : Nat} {it : Addr} (I : Inv X pins Z H s) (k : ∀ b o, b ≠ it -> s.heap.get? b = some o -> h'.get? b = some o) (hn : H it = none) (hL : it ≠ X.env.locals)
    (h1 : it ∈ X.ex \/ X.s₀.heap.objs.size <= it) (h2 : ∀ x c, X.env.cells.lookup x = some c -> c ≠ it) (h3 : ∀ p ∈ X.pn ++ pins, p.1 ≠ it) : Inv X pins Z H { s with heap := h', toks := t' } := by
  have nit : ∀ b u, H b = some u -> b ≠ it := fun b u e z => by rw [z, hn] at e; cases e
  refine I.step (g' := s.gens) (d' := s.drawn) (ch := [it]) (fun b hb => ?_) (fun b o _ _ hc e _ => k b o (fun z => hc (by simp [z])) e) (fun b o _ _ hc e _ => ⟨o.slots, k b o (fun z => hc (by simp [z])) e⟩) (fun _ _ _ _ n => n)
    (fun b o hc e => ⟨o, k b o (fun z => hc (by simp [z])) e⟩) (fun _ _ e => e) (fun _ _ _ e => e) (fun b ps e => ⟨#[], by rw [e]; simp⟩) (fun m hm => ?_) (fun b u e => ?_) I.bare
  · have e : b = it := by simpa using hb
    subst e
    exact ⟨h1, hL, h2, h3⟩
  · obtain ⟨o, es, ep, ho, r⟩ := hm
    exact ⟨o, es, ep, k _ o (xay hL) ho, r⟩
  · refine (I.hok b u e).stay (fun c v hc q => k c v ?_ q) (fun _ q => q) fun _ _ q => q
    rcases hc with z | z
    · rw [z]; exact nit b u e
    · exact nit c _ z
theorem Inv.tok (I : Inv X pins Z H s) (t : Nat) : Inv X pins Z H { s with toks := t } := I.un (h' := s.heap) (t' := t) Un.refl I.hok
theorem Inv.kept {t' : Nat} (I : Inv X pins Z H s) (k : ∀ b u, s.heap.get? b = some u -> h'.get? b = some u) : Inv X pins Z H { s with heap := h', toks := t' } := I.un (Un.kept k) (I.hok.kept k)
theorem Inv.laid {a : Addr} {o : HO} {t' : Nat} (I : Inv X pins Z H s) (k : ∀ b u, s.heap.get? b = some u -> h'.get? b = some u) (hp : s.heap.objs.size <= a) (new : ObjOk X.prog X.w (upd H a o) h' a o) :
    Inv X pins Z (upd H a o) { s with heap := h', toks := t' } := I.un (Un.laid k hp (I.hok.fresh hp)) (I.hok.laid k hp new)
theorem Inv.write {x e : Addr} {o : HO} {t' : Nat} (I : Inv X pins Z H s) (mu : Mut (H x)) (he : e = x \/ H e = some (.own x)) (k : ∀ b u, b ≠ e -> s.heap.get? b = some u -> h'.get? b = some u) (heo : ∃ u, h'.get? e = some u)
    (new : ObjOk X.prog X.w (upd H x o) h' x o) : Inv X pins Z (upd H x o) { s with heap := h', toks := t' } := I.un (Un.write mu he k heo) (I.hok.write mu he k heo new)
theorem Inv.weak {Z' : List (Option V)} (I : Inv X pins Z H s) (hl : Z'.length = Z.length) (w : ∀ (i : Nat) v, Z'[i]? = some (some v) -> Z[i]? = some (some v)) : Inv X pins Z' H s :=
  ⟨I.ok, I.os, I.bare, I.base, let ⟨m, hn, hl'⟩ := I.loc; ⟨m, hn, fun i x v e1 e2 e3 => hl' i x v e1 (w i v e2) e3⟩, I.cell, I.free, I.freeC, I.pin, I.hok, hl.trans I.len⟩
theorem Inv.pins_of {pins' : List (Addr × Obj)} (I : Inv X pins Z H s) (h : ∀ p ∈ pins', s.heap.get? p.1 = some p.2 /\ H p.1 = none /\ p.1 ≠ X.env.locals /\ p.1 ∉ X.fs /\ ∀ v, p.2.data ≠ .cell v) : Inv X pins' Z H s :=
  ⟨I.ok, I.os, I.bare, I.base, I.loc, I.cell, I.free, I.freeC, fun p hp => (xbh.mp hp).elim (fun z => I.pin p (List.mem_append_left _ z)) (h p), I.hok, I.len⟩
theorem nodup_ix {N : List Str} (hN : N.Nodup) {i j : Nat} {x : Str} (a : N[i]? = some x) (b : N[j]? = some x) : i = j := by
  obtain ⟨h1, e1⟩ := xab.mp a
  obtain ⟨h2, e2⟩ := xab.mp b
  exact (List.getElem_inj hN).mp (e1.trans e2.symm)
theorem store_ok2 {M : Model} {A : Around} {E : Value -> Shared -> Prop} {i : Nat} {x : Str} {v : V} {u : Value} {Q : Unit -> Shared -> Prop} (I : Inv X pins Z H s) (hN : X.N.Nodup) (hi : X.N[i]? = some x) (hx : Loc X.env.scope x) (r : RelV v u)
    (h : ∀ s', Inv X pins (Z.set i (some v)) H s' -> (∃ a, Heap.SameBut a s.heap s'.heap /\ (a = X.env.locals \/ X.env.cells.lookup x = some a)) -> Q () s') (hf : X.fn x = true \/ X.env.scope.names.lookup x = some .local := by first | exact .inl rfl | exact .inr rfl | assumption) : wpAny M A (storeName X.env x u) Q E s := by
  obtain ⟨m, hn, hl⟩ := id I.loc
  have hcls : (X.env.scope.kind == .class || (X.env.scope.kind == .module && X.env.locals != X.env.globals)) = false := by rw [I.ok.kind]; rfl
  have hiZ : i < Z.length := by rw [I.len]; exact (xab.mp hi).1
  have cne := I.cne
  have tracked : ∀ {a : Addr} {h' : Heap}, (∃ o, s.heap.get? a = some o /\ H a = none) -> Heap.SameBut a s.heap h' -> HOk X.prog X.w H h' := fun {a h'} ha hs b ob e => by
    obtain ⟨_, _, hfree⟩ := ha
    refine (I.hok b ob e).stay (fun c w' hc q => (hs.2 c ?_).trans q) (fun _ q => q) fun _ _ q => q
    rintro rfl
    rcases hc with rfl | hc
    · rw [hfree] at e; cases e
    · rw [hfree] at hc; cases hc
  rcases hx with hk | hk
  · refine wpAny_storeName_local hk hn (fun h' hn' hs => ?_) hcls
    obtain ⟨oL, _, _, hoL, _⟩ := id hn
    refine h _ ⟨I.ok, I.os, I.bare, ⟨fun b o e n hb hx => ?_, fun b o e n hb hx => ?_, I.base.free, fun b o e hx => ?_, I.base.tups, I.base.frzs, I.base.tbls⟩, ⟨_, hn', fun j y v' e1 e2 e3 => ?_⟩, fun y c e => ?_, I.free, I.freeC, fun p hp => ?_, tracked ⟨oL, hoL, I.free⟩ hs, by simpa using I.len⟩ ⟨_, hs, .inl rfl⟩
    · exact (hs.2 b (xa5 (xaf (xai e) I.ok.above))).trans (I.base.keep b o e n hb hx)
    · obtain ⟨sl, e1⟩ := I.base.slot b o e n hb hx
      exact ⟨sl, (hs.2 b (xa5 (xaf (xai e) I.ok.above))).trans e1⟩
    · obtain ⟨o', e1⟩ := I.base.there b o e hx
      exact ⟨o', (hs.2 b (xa5 (xaf (xai e) I.ok.above))).trans e1⟩
    · by_cases hj : j = i
      · subst hj
        rw [hi] at e1; cases e1
        rw [xas hiZ] at e2
        cases e2
        exact ⟨u, r, .inl ⟨hk, by simp⟩⟩
      · rw [xae (xay hj)] at e2
        obtain ⟨u', r', q⟩ := hl j y v' e1 e2 e3
        refine ⟨u', r', ?_⟩
        rcases q with ⟨k, e⟩ | ⟨k, c, e, z⟩
        · refine .inl ⟨k, ?_⟩
          have : y ≠ x := fun e => hj (nodup_ix hN e1 (e ▸ hi))
          simp [this, e]
        · exact .inr ⟨k, c, e, z.sameBut hs (cne y c e)⟩
    · obtain ⟨w', z⟩ := I.cell y c e
      exact ⟨w', z.sameBut hs (cne y c e)⟩
    · obtain ⟨e, n, ne, nf, d⟩ := I.pin p hp
      exact ⟨(hs.2 p.1 ne).trans e, n, ne, nf, d⟩
  · have hfn : X.fn x = true := by
      rcases hf with z | z
      · exact z
      · rw [z] at hk; cases hk
    obtain ⟨c, hc⟩ := I.ok.has x (.inl hk)
    obtain ⟨w', z⟩ := I.cell x c hc
    refine wpAny_storeName_cell I.ok.kind hk hc z (fun h' hc' hs => ?_)
    obtain ⟨oc, hoc, hocd⟩ := id z
    refine h { s with heap := h' } ⟨I.ok, I.os, I.bare, ⟨fun b o e n hb hx => ?_, fun b o e n hb hx => ?_, I.base.free, fun b o e hx => ?_, I.base.tups, I.base.frzs, I.base.tbls⟩, ⟨m, hn.sameBut hs (xay (cne x c hc)), fun j y v' e1 e2 e3 => ?_⟩, fun y c' e => ?_, I.free, I.freeC, fun p hp => ?_, tracked ⟨oc, hoc, I.freeC x c hc⟩ hs, by simpa using I.len⟩ ⟨c, hs, .inr hc⟩
    · exact (hs.2 b (xa5 (xaf (xai e) (I.ok.cab x c hfn hc)))).trans (I.base.keep b o e n hb hx)
    · obtain ⟨sl, e1⟩ := I.base.slot b o e n hb hx
      exact ⟨sl, (hs.2 b (xa5 (xaf (xai e) (I.ok.cab x c hfn hc)))).trans e1⟩
    · obtain ⟨o', e1⟩ := I.base.there b o e hx
      exact ⟨o', (hs.2 b (xa5 (xaf (xai e) (I.ok.cab x c hfn hc)))).trans e1⟩
    · by_cases hj : j = i
      · subst hj
        rw [hi] at e1; cases e1
        rw [xas hiZ] at e2
        cases e2
        exact ⟨u, r, .inr ⟨.inl hk, c, hc, hc'⟩⟩
      · rw [xae (xay hj)] at e2
        obtain ⟨u', r', q⟩ := hl j y v' e1 e2 e3
        refine ⟨u', r', ?_⟩
        rcases q with q | ⟨k, c', e, z'⟩
        · exact .inl q
        · refine .inr ⟨k, c', e, z'.sameBut hs ?_⟩
          rintro rfl
          exact hj (nodup_ix hN e1 (I.ok.inj _ _ _ e hc ▸ hi))
    · by_cases hcc : c' = c
      · subst hcc; exact ⟨_, hc'⟩
      · obtain ⟨w2, z2⟩ := I.cell y c' e
        exact ⟨w2, z2.sameBut hs hcc⟩
    · obtain ⟨e, n, ne, nf, d⟩ := I.pin p hp
      refine ⟨(hs.2 p.1 ?_).trans e, n, ne, nf, d⟩
      intro q
      rw [q, hoc] at e
      have q' : oc = p.2 := xa0 e
      exact d w' (by rw [<- q']; exact hocd)
theorem store_ok {M : Model} {A : Around} {E : Value -> Shared -> Prop} {i : Nat} {x : Str} {v : V} {u : Value} {Q : Unit -> Shared -> Prop} (I : Inv X pins Z H s) (hN : X.N.Nodup) (hi : X.N[i]? = some x) (hx : Loc X.env.scope x) (r : RelV v u)
    (h : ∀ s', Inv X pins (Z.set i (some v)) H s' -> Q () s') (hf : X.fn x = true \/ X.env.scope.names.lookup x = some .local := by first | exact .inl rfl | exact .inr rfl | assumption) : wpAny M A (storeName X.env x u) Q E s :=
  store_ok2 I hN hi hx r (fun s' I' _ => h s' I') hf
theorem Inv.call' {s' : Shared} {ch : List Addr} (I : Inv X pins Z H s) (ho : s'.os = s.os) (u : Un (frs X.stack) ch H H' s.heap s'.heap) (hok : HOk X.prog X.w H' s'.heap) (hg : AllBare s'.gens)
    (hch : ∀ b ∈ ch, (b ∈ X.ex \/ X.s₀.heap.objs.size <= b) /\ b ≠ X.env.locals /\ (∀ x c, X.env.cells.lookup x = some c -> c ≠ b) /\ ∀ p ∈ X.pn ++ pins, p.1 ≠ b) : Inv X pins Z H' s' := by
  obtain ⟨h', g', d', t', o'⟩ := s'
  have e : o' = s.os := ho
  subst e
  exact I.call (g' := g') (t' := t') (d' := d') u hok hg hch
end
abbrev XK := Value -> Option Addr -> Hp -> Prop
abbrev St := List (Option V)
abbrev VK := V -> Hp -> Prop
abbrev TE := St -> Hp -> VK -> Prop
abbrev TT := St -> Hp -> (Bool -> Hp -> Prop) -> Prop
abbrev TA := St -> Hp -> (List V -> Hp -> Prop) -> Prop
structure Ends where
  nx : St -> Hp -> Prop
  rt : VK
  bk : St -> Hp -> Prop := fun _ _ => False
  ct : St -> Hp -> Prop := fun _ _ => False
abbrev TS := Ends -> St -> Hp -> Prop
def EP (X : Cx) (pins : List (Addr × Obj)) (Z : St) (Q : VK) (u : Value) (s' : Shared) : Prop := ∃ v H', Inv X pins Z H' s' /\ RelV v u /\ Q v H'
def TP (X : Cx) (pins : List (Addr × Obj)) (Z : St) (Q : Bool -> Hp -> Prop) (b : Bool) (s' : Shared) : Prop := ∃ H', Inv X pins Z H' s' /\ Q b H'
def AP (X : Cx) (pins : List (Addr × Obj)) (Z : St) (Q : List V -> Hp -> Prop) (us : List Value) (s' : Shared) : Prop := ∃ vs H', Inv X pins Z H' s' /\ Vals vs us /\ Q vs H'
def SP (X : Cx) (pins : List (Addr × Obj)) (D : Ends) (f : Flow) (s' : Shared) : Prop :=
  match f with
  | .next => ∃ Z' H', Inv X pins Z' H' s' /\ D.nx Z' H'
  | .brk => ∃ Z' H', Inv X pins Z' H' s' /\ D.bk Z' H'
  | .cont => ∃ Z' H', Inv X pins Z' H' s' /\ D.ct Z' H'
  | .ret u => ∃ v Z' H', Inv X pins Z' H' s' /\ RelV v u /\ D.rt v H'
def PE (X : Cx) (e : Expr) (t : TE) : Prop :=
  ∀ (pins : List (Addr × Obj)) (s : Shared) (Z : St) (H : Hp) (Q : VK), Inv X pins Z H s -> t Z H Q -> wpAny (model X.prog X.w) X.A (eval e X.env) (EP X pins Z Q) X.xe s
def PT (X : Cx) (e : Expr) (t : TT) : Prop :=
  ∀ (pins : List (Addr × Obj)) (s : Shared) (Z : St) (H : Hp) (Q : Bool -> Hp -> Prop), Inv X pins Z H s -> t Z H Q -> wpAny (model X.prog X.w) X.A (isTrue e X.env (eval e X.env)) (TP X pins Z Q) X.xe s
def PW (X : Cx) (e : Expr) (t : TT) : Prop :=
  ∀ (whole : Sem Value) (pins : List (Addr × Obj)) (s : Shared) (Z : St) (H : Hp) (Q : Bool -> Hp -> Prop), Inv X pins Z H s -> t Z H Q -> wpAny (model X.prog X.w) X.A (isTrue e X.env whole) (TP X pins Z Q) X.xe s
def PA (X : Cx) (es : List Expr) (t : TA) : Prop :=
  ∀ (pos : Pos) (pins : List (Addr × Obj)) (s : Shared) (Z : St) (H : Hp) (Q : List V -> Hp -> Prop), Inv X pins Z H s -> t Z H Q -> wpAny (model X.prog X.w) X.A (spliced (backTo pos (starEach es X.env))) (AP X pins Z Q) X.xe s
def PS (X : Cx) (st : Stmt) (t : TS) : Prop :=
  ∀ (pins : List (Addr × Obj)) (s : Shared) (Z : St) (H : Hp) (D : Ends), Inv X pins Z H s -> t D Z H -> wpAny (model X.prog X.w) X.A (exec st X.env) (SP X pins D) X.xe s
def PSs (X : Cx) (st : List Stmt) (t : TS) : Prop :=
  ∀ (pins : List (Addr × Obj)) (s : Shared) (Z : St) (H : Hp) (D : Ends), Inv X pins Z H s -> t D Z H -> wpAny (model X.prog X.w) X.A (execs st X.env) (SP X pins D) X.xe s
theorem thn {α : Type} {t : Sem α} {Q Q' : α -> Shared -> Prop} {M : Model} {A : Around} {E : Value -> Shared -> Prop} {s : Shared} (h : wpAny M A t Q E s) (hQ : ∀ a s, Q a s -> Q' a s) : wpAny M A t Q' E s := wpAny_mono h hQ fun _ _ x => x
end L2
namespace L2
open PySem.Spec PyProof.Rows
section
variable {X : Cx}
theorem bin {a b : Expr} {ta tb : TE} (ha : PE X a ta) (hb : PE X b tb) {pins : List (Addr × Obj)} {s : Shared} {Z : St} {H : Hp} {R : V -> V -> Hp -> Prop} (I : Inv X pins Z H s) (h : ta Z H fun x H1 => tb Z H1 fun y H2 => R x y H2)
    {α : Type} {Q : α -> Shared -> Prop} {f : Value -> Value -> Sem α}
    (hf : ∀ v u s2 x y H2, Inv X pins Z H2 s2 -> RelV x v -> RelV y u -> R x y H2 -> wpAny (model X.prog X.w) X.A (f v u) Q X.xe s2) :
    wpAny (model X.prog X.w) X.A (eval a X.env) (fun v s₁ => wpAny (model X.prog X.w) X.A (eval b X.env) (fun u s₂ => wpAny (model X.prog X.w) X.A (f v u) Q X.xe s₂) X.xe s₁) X.xe s := by
  refine thn (ha pins s Z H _ I h) fun v s1 ⟨x, H1, I1, r1, q1⟩ => ?_
  refine thn (hb pins s1 Z H1 _ I1 q1) fun u s2 ⟨y, H2, I2, r2, q2⟩ => ?_
  exact hf v u s2 x y H2 I2 r1 r2 q2
def tVar (i : Nat) : TE := fun Z H Q => ∃ v, Z[i]? = some (some v) /\ Q v H
def tC (v : V) : TE := fun _ H Q => Q v H
theorem pe_var {i : Nat} {x : Str} {pos : Pos} (hN : X.N[i]? = some x) (hv : Vis X.env.scope x) (hd : (x == ("__debug__" : Str)) = false := by decide) (hcd : (x == ("__classdict__" : Str)) = false := by decide) : PE X (.Name x pos) (tVar i) := by
  intro pins s Z H Q I h
  obtain ⟨v, e, h⟩ := h
  obtain ⟨m, hn, hl⟩ := I.loc
  obtain ⟨u, r, l⟩ := hl i x v hN e hv
  have fin : EP X pins Z Q u s := ⟨v, H, I, r, h⟩
  rcases l with ⟨hk, hm⟩ | ⟨hk, c, hc, hcell⟩
  · exact wpAny_Name (wpAny_loadName_local I.ok.kind hk hn hm fin) hd
  · rcases hk with hk | hk
    · exact wpAny_Name (wpAny_loadName_cell I.ok.kind hk hc hcell fin) hd
    · exact wpAny_Name (wpAny_loadName_free I.ok.kind hk hc hcell fin hcd) hd
theorem pe_int {i j pos} : PE X (.Constant (.int i) j pos) (tC (.int i)) := fun _ _ _ H _ I h => wpAny_Constant_int ⟨.int i, H, I.tok _, ⟨_, rfl⟩, h⟩
theorem pe_bl {b j pos} : PE X (.Constant (.bool b) j pos) (tC (.bl b)) := fun _ _ _ H _ I h => Constant_bool ⟨.bl b, H, I, rfl, h⟩
theorem pe_non {j pos} : PE X (.Constant .none j pos) (tC .non) := fun _ _ _ H _ I h => Constant_none ⟨.non, H, I, rfl, h⟩
theorem pe_str {x j pos} : PE X (.Constant (.str x) j pos) (tC (.str x)) := fun _ _ _ H _ I h => Calls.Constant_str ⟨.str x, H, I.tok _, ⟨_, rfl⟩, h⟩
def Gl (X : Cx) (x : Str) : Prop := X.env.kindOf x = some .globalImplicit
theorem ld_glob {E : Value -> Shared -> Prop} {pins : List (Addr × Obj)} {s : Shared} {Z : St} {H : Hp} {x : Str} {u : Value} {pos : Pos} {Q : Value -> Shared -> Prop} (I : Inv X pins Z H s) (hg : Gl X x) (hm : X.mg x = some u) (h : Q u s)
    (hd : (x == ("__debug__" : Str)) = false := by decide) : wpAny (model X.prog X.w) X.A (eval (.Name x pos) X.env) Q E s :=
  Calls.Name_function_global I.ok.kind hg (Calls.loadGlobal_global (by rw [I.ok.glob]; exact I.mod.glob.keeps I.bk) hm h) hd
theorem ld_blt {E : Value -> Shared -> Prop} {pins : List (Addr × Obj)} {s : Shared} {Z : St} {H : Hp} {x : Str} {u : Value} {pos : Pos} {Q : Value -> Shared -> Prop} (I : Inv X pins Z H s) (hg : Gl X x) (hm : X.mg x = none) (hv : bootBuiltins x = some u) (h : Q u s)
    (hn : x ≠ "__name__" := by decide) (hd : (x == ("__debug__" : Str)) = false := by decide) : wpAny (model X.prog X.w) X.A (eval (.Name x pos) X.env) Q E s := by
  obtain ⟨mb, h1, h2⟩ := I.mod.blt
  exact Calls.Name_function_global I.ok.kind hg (Calls.loadGlobal_builtin (by rw [I.ok.glob]; exact I.mod.glob.keeps I.bk) hm (by rw [I.ok.blt]; exact h1.keeps I.bk) ((h2 x hn).trans hv) h) hd
theorem pe_glob {x : Str} {v : V} {u : Value} {pos : Pos} (hg : Gl X x) (hm : X.mg x = some u) (r : RelV v u) (hd : (x == ("__debug__" : Str)) = false := by decide) : PE X (.Name x pos) (tC v) :=
  fun _ _ _ H _ I h => ld_glob I hg hm ⟨v, H, I, r, h⟩ hd
theorem pe_bltn {x : Str} {v : V} {u : Value} {pos : Pos} (hg : Gl X x) (hm : X.mg x = none) (hv : bootBuiltins x = some u) (r : RelV v u) (hn : x ≠ "__name__" := by decide) (hd : (x == ("__debug__" : Str)) = false := by decide) : PE X (.Name x pos) (tC v) :=
  fun _ _ _ H _ I h => ld_blt I hg hm hv ⟨v, H, I, r, h⟩ hn hd
variable {a b : Expr} {ta tb : TE} {pos : Pos}
def PC (X : Cx) (op : CmpOp) (a b : Expr) (t : TE) : Prop :=
  ∀ (pins : List (Addr × Obj)) (s : Shared) (Z : St) (H : Hp) (Q : VK), Inv X pins Z H s -> t Z H Q ->
    wpAny (model X.prog X.w) X.A (eval a X.env) (fun v s₁ => wpAny (model X.prog X.w) X.A (eval b X.env) (fun u s₂ => wpAny (model X.prog X.w) X.A (compareOp op v u) (EP X pins Z Q) X.xe s₂) X.xe s₁) X.xe s
theorem nobehind (b : Expr) {op : CmpOp} (h : op ≠ .In) (h2 : op ≠ .NotIn) : behindInMarks op b = false := by
  have e1 : (op == CmpOp.In) = false := by cases op <;> first | rfl | exact xak rfl h
  have e2 : (op == CmpOp.NotIn) = false := by cases op <;> first | rfl | exact xak rfl h2
  cases b <;> simp [behindInMarks, e1, e2]
def tB (t : TE) : TT := fun Z H Q => t Z H fun x H1 => ∃ c, x = .bl c /\ Q c H1
theorem pt_cmp {op : CmpOp} {t : TE} (h : PC X op a b t) (h1 : behindInMarks op b = false := by first | exact nobehind _ (by decide) (by decide) | rfl) : PT X (.Compare a [op] [b] pos) (tB t) := by
  intro pins s Z H Q I hw
  refine wpAny_isTrue_Compare1 (thn (h pins s Z H _ I hw) fun v s1 h1 => thn h1 fun u s2 h2 => thn h2 fun c s3 ⟨x, H1, I1, r1, q1⟩ => ?_) h1
  obtain ⟨d, rfl, q⟩ := q1
  cases r1
  exact wpAny_truthy_bool ⟨H1, I1, q⟩
theorem pt_val {e : Expr} {t : TE} (h : PE X e t) (he : ∀ whole, isTrue e X.env whole = (do let v <- whole; standAt e.pos; holding [v] (truthy v)) := by intro _; rfl) : PT X e (tB t) := by
  intro pins s Z H Q I hw
  refine isTrue_plain (thn (h pins s Z H _ I hw) fun v s1 ⟨x, H1, I1, r1, q1⟩ => ?_) (he _)
  obtain ⟨d, rfl, q⟩ := q1
  cases r1
  exact wpAny_truthy_bool ⟨H1, I1, q⟩
variable {tA tB' : TT} {rest : List Expr}
def tAnd (t u : TT) : TT := fun Z H Q => t Z H fun c H1 => if c = true then u Z H1 Q else Q false H1
def tOr (t u : TT) : TT := fun Z H Q => t Z H fun c H1 => if c = true then Q true H1 else u Z H1 Q
def tNot (t : TT) : TT := fun Z H Q => t Z H fun c H1 => Q (!c) H1
theorem pw_and1 (ha : PT X a tA) : PW X (.BoolOp .And [a] pos) tA := by
  intro wh pins s Z H Q I h
  refine isTrue_and (thn (ha pins s Z H Q I h) fun c s1 e => ?_)
  cases c with
  | true => exact isTrue_and_nil e
  | false => exact e
theorem pw_or1 (ha : PT X a tA) : PW X (.BoolOp .Or [a] pos) tA := by
  intro wh pins s Z H Q I h
  refine isTrue_or (thn (ha pins s Z H Q I h) fun c s1 e => ?_)
  cases c with
  | false => exact isTrue_or_nil e
  | true => exact e
theorem pw_and (ha : PT X a tA) (hb : PW X (.BoolOp .And (b :: rest) pos) tB') : PW X (.BoolOp .And (a :: b :: rest) pos) (tAnd tA tB') := by
  intro wh pins s Z H Q I h
  refine isTrue_and (thn (ha pins s Z H _ I h) fun c s1 ⟨H1, I1, q1⟩ => ?_)
  cases c with
  | true => exact hb wh pins s1 Z H1 Q I1 q1
  | false => exact ⟨H1, I1, q1⟩
theorem pw_or (ha : PT X a tA) (hb : PW X (.BoolOp .Or (b :: rest) pos) tB') : PW X (.BoolOp .Or (a :: b :: rest) pos) (tOr tA tB') := by
  intro wh pins s Z H Q I h
  refine isTrue_or (thn (ha pins s Z H _ I h) fun c s1 ⟨H1, I1, q1⟩ => ?_)
  cases c with
  | true => exact ⟨H1, I1, q1⟩
  | false => exact hb wh pins s1 Z H1 Q I1 q1
theorem pt_not (ha : PT X a tA) : PT X (.UnaryOp .Not a pos) (tNot tA) := by
  intro pins s Z H Q I h
  exact isTrue_not (ha pins s Z H (fun c H1 => Q (!c) H1) I h)
def tAndV (ta tb : TE) : TE := fun Z H Q => ta Z H fun x H1 => ∃ c, x = .bl c /\ if c = true then tb Z H1 Q else Q (.bl false) H1
def tNotV (ta : TE) : TE := fun Z H Q => ta Z H fun x H1 => ∃ c, x = .bl c /\ Q (.bl (!c)) H1
theorem pe_one {op} {t : TE} (h : PE X a t) : PE X (.BoolOp op [a] pos) t := fun pins s Z H Q I hw => BoolOp_one (h pins s Z H Q I hw)
theorem pe_and (ha : PE X a ta) (hb : PE X (.BoolOp .And (b :: rest) pos) tb) : PE X (.BoolOp .And (a :: b :: rest) pos) (tAndV ta tb) := by
  intro pins s Z H Q I h
  refine BoolOp_and (thn (ha pins s Z H _ I h) fun v s1 ⟨x, H1, I1, r1, q1⟩ => ?_)
  obtain ⟨c, rfl, q1⟩ := q1
  cases r1
  refine wpAny_truthy_bool ?_
  cases c with
  | true => exact hb pins s1 Z H1 Q I1 q1
  | false => exact ⟨.bl false, H1, I1, rfl, q1⟩
theorem pe_not (ha : PE X a ta) : PE X (.UnaryOp .Not a pos) (tNotV ta) := by
  intro pins s Z H Q I h
  refine UnaryOp_ (thn (ha pins s Z H _ I h) fun v s1 ⟨x, H1, I1, r1, q1⟩ => ?_)
  obtain ⟨c, rfl, q1⟩ := q1
  cases r1
  exact not_of (wpAny_truthy_bool ⟨.bl (!c), H1, I1, rfl, q1⟩)
end
end L2
namespace L2
open PySem.Spec PyProof.Rows
def SqL (K : xFg) (H : Hp) (a : Addr) (xs : List V) : Prop :=
  Rd H a (.lst xs) \/
    ∃ (o : Obj) (its : Array Value) (n : Nat), K.lookup a = some o /\ o.cls = .type "list" /\ o.dict = none /\ o.data = .seq its n /\ its.size <= sizeLine /\ Vals xs its.toList
def SqT (K : xFg) (H : Hp) (a : Addr) (xs : List V) : Prop :=
  Rd H a (.tup xs) \/
    ∃ (o : Obj) (its : Array Value) (n : Nat), K.lookup a = some o /\ o.cls = .type "tuple" /\ o.data = .seq its n /\ its.size <= sizeLine /\ Vals xs its.toList /\ o.dict = none
def absV : Value -> Option V
  | .none => some .non
  | .bool b => some (.bl b)
  | .int i _ => some (.int i)
  | .str x _ => some (.str x)
  | .bytes b _ => some (.byt b)
  | .float b _ => some (.flt b)
  | .ref a => some (.ref a)
  | .type n => some (.ty n)
  | _ => none
theorem RelV.abs {x : V} {u : Value} (r : RelV x u) : absV u = some x := by
  cases x with
  | non => cases r; rfl
  | bl _ => cases r; rfl
  | int _ => obtain ⟨t, rfl⟩ := r; rfl
  | str _ => obtain ⟨t, rfl⟩ := r; rfl
  | byt _ => obtain ⟨t, rfl⟩ := r; rfl
  | flt _ => obtain ⟨t, rfl⟩ := r; rfl
  | ref _ => cases r; rfl
  | ty _ => cases r; rfl
theorem RelV.inj {x y : V} {u : Value} (r : RelV x u) (q : RelV y u) : x = y := xa0 (r.abs.symm.trans q.abs)
theorem Vals.inj : ∀ {xs ys : List V} {us : List Value}, Vals xs us -> Vals ys us -> xs = ys
  | _, _, _, .nil, .nil => rfl
  | _, _, _, .cons r t, .cons r' t' => by rw [r.inj r', Vals.inj t t']
section
variable {X : Cx} {pins : List (Addr × Obj)} {Z : St} {H : Hp} {s : Shared} {a : Addr} {xs ys : List V}
theorem SqL.of {K : xFg} (h : H a = some (.lst xs)) : SqL K H a xs := .inl (.inl h)
theorem SqT.of {K : xFg} (h : H a = some (.tup xs)) : SqT K H a xs := .inl (.inl h)
theorem Inv.list (I : Inv X pins Z H s) (h : SqL X.K H a xs) : ∃ its : List Value, Vals xs its /\ PlainL s.heap a its.toArray /\ xs.length <= sizeLine := by
  rcases h with h | ⟨o, its, n, hk, hc, hd, hs, hz, r⟩
  · obtain ⟨z, its, n, r, e⟩ := h.ok I.hok
    exact ⟨its, r, ⟨_, n, e, rfl, rfl, rfl⟩, z⟩
  · refine ⟨its.toList, r, ⟨o, n, I.kIn a o hk, hc, hd, by simpa using hs⟩, ?_⟩
    have e := r.length
    simp only [xby] at e
    omega
theorem Inv.tupN (I : Inv X pins Z H s) (h : SqT X.K H a xs) : ∃ its : List Value, Vals xs its /\ TupN s.heap a its.toArray /\ xs.length <= sizeLine := by
  rcases h with h | ⟨o, its, n, hk, hc, hs, hz, r, hd⟩
  · obtain ⟨z, its, r, p⟩ := h.ok I.hok
    exact ⟨its, r, p, z⟩
  · refine ⟨its.toList, r, ⟨o, I.kIn a o hk, hc, ⟨n, by simpa using hs⟩, hd⟩, ?_⟩
    have e := r.length
    simp only [xby] at e
    omega
theorem Inv.tuple (I : Inv X pins Z H s) (h : SqT X.K H a xs) : ∃ its : List Value, Vals xs its /\ IsTup s.heap a its.toArray /\ xs.length <= sizeLine := by
  obtain ⟨its, r, p, z⟩ := I.tupN h
  exact ⟨its, r, p.tup, z⟩
theorem Inv.list_inj (I : Inv X pins Z H s) (h : SqL X.K H a xs) (h' : SqL X.K H a ys) : xs = ys := by
  obtain ⟨its, r, ⟨o, n, e, _, _, d⟩, _⟩ := I.list h
  obtain ⟨its', r', ⟨o', n', e', _, _, d'⟩, _⟩ := I.list h'
  rw [e] at e'; cases e'
  rw [d] at d'
  injection d' with d1 _
  have : its = its' := by simpa using congrArg Array.toList d1
  subst this
  exact r.inj r'
theorem Inv.tuple_inj (I : Inv X pins Z H s) (h : SqT X.K H a xs) (h' : SqT X.K H a ys) : xs = ys := by
  obtain ⟨its, r, ⟨o, e, _, n, d⟩, _⟩ := I.tuple h
  obtain ⟨its', r', ⟨o', e', _, n', d'⟩, _⟩ := I.tuple h'
  rw [e] at e'; cases e'
  rw [d] at d'
  injection d' with d1 _
  have : its = its' := by simpa using congrArg Array.toList d1
  subst this
  exact r.inj r'
end
abbrev Cx.wish (X : Cx) (E : Value -> Shared -> Prop) : Cx := { X with xe := E }
abbrev Cx.nox (X : Cx) : Cx := X.wish fun _ _ => False
theorem Cx.Ok.wish {X : Cx} (ok : X.Ok) (E : Value -> Shared -> Prop) : (X.wish E).Ok :=
  ⟨ok.mod, ok.kind, ok.glob, ok.blt, ok.above, ok.inj, ok.has, ok.cab, ok.hd, ok.frames, ok.stk, ok.exf, ok.bs, ok.bsz, ok.noex, ok.exfs, ok.funs, ok.frf⟩
theorem Cx.Ok.unwish {X : Cx} {E : Value -> Shared -> Prop} (ok : (X.wish E).Ok) : X.Ok :=
  ⟨ok.mod, ok.kind, ok.glob, ok.blt, ok.above, ok.inj, ok.has, ok.cab, ok.hd, ok.frames, ok.stk, ok.exf, ok.bs, ok.bsz, ok.noex, ok.exfs, ok.funs, ok.frf⟩
section
variable {X : Cx} {pins : List (Addr × Obj)} {Z : St} {H : Hp} {s : Shared} {E : Value -> Shared -> Prop}
theorem Inv.wish (I : Inv X pins Z H s) (E : Value -> Shared -> Prop) : Inv (X.wish E) pins Z H s := ⟨I.ok.wish E, I.os, I.bare, I.base, I.loc, I.cell, I.free, I.freeC, I.pin, I.hok, I.len⟩
theorem Inv.unwish (I : Inv (X.wish E) pins Z H s) : Inv X pins Z H s := ⟨I.ok.unwish, I.os, I.bare, I.base, I.loc, I.cell, I.free, I.freeC, I.pin, I.hok, I.len⟩
end
section
variable {X : Cx} {st : Stmt} {rest : List Stmt} {t u : TS} {e : Expr} {te : TE} {pos : Pos}
def tNext : TS := fun D Z H => D.nx Z H
def tSeq (t u : TS) : TS := fun D Z H => t { D with nx := u D } Z H
theorem pss_nil : PSs X [] tNext := fun _ _ Z H _ I h => wpAny_execs_nil ⟨Z, H, I, h⟩
theorem pss_cons (h1 : PS X st t) (h2 : PSs X rest u) : PSs X (st :: rest) (tSeq t u) := by
  intro pins s Z H D I h
  refine wpAny_execs_cons (thn (h1 pins s Z H { D with nx := u D } I h) fun f s1 q => ?_)
  cases f with
  | next =>
    obtain ⟨Z', H', I', q⟩ := q
    exact h2 pins s1 Z' H' D I' q
  | ret v => exact q
  | brk => exact q
  | cont => exact q
theorem pss_one (h1 : PS X st t) : PSs X [st] t := by
  intro pins s Z H D I h
  refine wpAny_execs_cons (thn (h1 pins s Z H D I h) fun f s1 q => ?_)
  cases f with
  | next => exact wpAny_execs_nil q
  | ret v => exact q
  | brk => exact q
  | cont => exact q
theorem Inv.quiet {pins : List (Addr × Obj)} {Z : St} {H : Hp} {s : Shared} (I : Inv X pins Z H s) : interactive X.env = false := by simp [interactive, I.ok.kind]
def tDrop (te : TE) : TS := fun D Z H => te Z H fun _ H1 => D.nx Z H1
theorem ps_expr (he : PE X e te) (hs : swapsWith e none pos.line X.env = pure false := by rfl) : PS X (.Expr e pos) (tDrop te) := by
  intro pins s Z H D I h
  exact wpAny_Expr_any (thn (he pins s Z H _ I h) fun v s1 ⟨x, H1, I1, r1, q1⟩ => ⟨Z, H1, I1, q1⟩) I.quiet hs
def tRet (te : TE) : TS := fun D Z H => te Z H D.rt
theorem ps_ret (he : PE X e te) : PS X (.Return (some e) pos) (tRet te) := by
  intro pins s Z H D I h
  exact wpAny_Return_some (thn (he pins s Z H _ I h) fun v s1 ⟨x, H1, I1, r1, q1⟩ => ⟨x, Z, H1, I1, r1, q1⟩)
def tIfS (c : TT) (t u : TS) : TS := fun D Z H => c Z H fun b H1 => if b = true then t D Z H1 else u D Z H1
theorem ps_if {c : Expr} {a b : List Stmt} {tc : TT} (hc : PT X c tc) (ha : PSs X a t) (hb : PSs X b u) : PS X (.If c a b pos) (tIfS tc t u) := by
  intro pins s Z H D I h
  refine wpAny_If (thn (hc pins s Z H _ I h) fun d s1 ⟨H1, I1, q1⟩ => ?_)
  cases d with
  | true => exact ha pins s1 Z H1 D I1 q1
  | false => exact hb pins s1 Z H1 D I1 q1
end
abbrev TG := V -> St -> Hp -> (St -> Hp -> Prop) -> Prop
abbrev TGs := List V -> St -> Hp -> (St -> Hp -> Prop) -> Prop
def PG (X : Cx) (target : Expr) (t : TG) : Prop :=
  ∀ (pins : List (Addr × Obj)) (s : Shared) (Z : St) (H : Hp) (v : V) (u : Value) (Q : St -> Hp -> Prop), Inv X pins Z H s -> RelV v u -> t v Z H Q ->
    wpAny (model X.prog X.w) X.A (assign target X.env u) (fun _ s' => ∃ Z' H', Inv X pins Z' H' s' /\ Q Z' H') X.xe s
def PGs (X : Cx) (ts : List Expr) (t : TGs) : Prop :=
  ∀ (pins : List (Addr × Obj)) (s : Shared) (Z : St) (H : Hp) (vs : List V) (us : List Value) (Q : St -> Hp -> Prop), Inv X pins Z H s -> Vals vs us -> t vs Z H Q ->
    wpAny (model X.prog X.w) X.A (assignInOrder ((assignEach ts X.env).map (·.2)) us) (fun _ s' => ∃ Z' H', Inv X pins Z' H' s' /\ Q Z' H') X.xe s
abbrev TSet := V -> V -> V -> Hp -> (Hp -> Prop) -> Prop
section
variable {X : Cx} {pos : Pos}
def gName (i : Nat) : TG := fun v Z H Q => Q (Z.set i (some v)) H
theorem pg_name {i : Nat} {x : Str} (hN : X.N.Nodup) (hi : X.N[i]? = some x) (hx : Loc X.env.scope x) (hf : X.fn x = true \/ X.env.scope.names.lookup x = some .local := by first | exact .inl rfl | exact .inr rfl | assumption) : PG X (.Name x pos) (gName i) := by
  intro pins s Z H v u Q I r h
  exact wpAny_assign_Name (store_ok I hN hi hx r (fun s' I' => ⟨_, H, I', h⟩) hf)
def gNil : TGs := fun vs Z H Q => vs = [] /\ Q Z H
def gCons (t : TG) (u : TGs) : TGs := fun vs Z H Q => ∃ v r, vs = v :: r /\ t v Z H fun Z' H' => u r Z' H' Q
theorem pgs_nil : PGs X [] gNil := by
  intro pins s Z H vs us Q I r h
  obtain ⟨e, h⟩ := h
  subst e
  cases r
  exact assignInOrder_nil ⟨Z, H, I, h⟩
theorem pgs_cons {e : Expr} {es : List Expr} {t : TG} {u : TGs} (h1 : PG X e t) (h2 : PGs X es u)
    (hs : (assignEach (e :: es) X.env).map (·.2) = assign e X.env :: (assignEach es X.env).map (·.2) := by rfl) : PGs X (e :: es) (gCons t u) := by
  intro pins s Z H vs us Q I r h
  obtain ⟨v, vr, e1, h⟩ := h
  subst e1
  cases r with
  | cons r rr =>
    rw [hs]
    refine assignInOrder_cons (thn (h1 pins s Z H _ _ _ I r h) fun _ s1 ⟨Z1, H1, I1, q1⟩ => ?_)
    exact h2 pins s1 Z1 H1 _ _ Q I1 rr q1
def gTup (K : xFg) (n : Nat) (t : TGs) : TG := fun v Z H Q => ∃ a xs, v = .ref a /\ SqT K H a xs /\ xs.length = n /\ t xs Z H Q
theorem pg_tup {es : List Expr} {k : Nat} {t : TGs} {n : Nat} (hc : X.calm = true) (h : PGs X es t)
    (hn : (assignEach es X.env).length = n := by rfl) (hst : (assignEach es X.env).findIdx? (·.1) = none := by rfl) : PG X (.Tuple es k pos) (gTup X.K n t) := by
  intro pins s Z H v u Q I r hw
  obtain ⟨a, xs, e1, hq, hl, hw⟩ := hw
  subst e1
  cases r
  obtain ⟨its, rv, ht, hz⟩ := I.tuple hq
  refine assign_Tuple_tuple (I.ok.hd hc) ht (by simp [hn, <- hl, rv.length]) hst fun h' hx => ?_
  have I1 : Inv X pins Z H { s with heap := h' } := I.kept (t' := s.toks) fun b o e => hx b o (xa5 (xai e)) e
  exact h pins _ Z H xs _ Q I1 (by simpa using rv) hw
def gSub (to ti : TE) (t : TSet) : TG := fun v Z H Q => to Z H fun o H1 => ti Z H1 fun i H2 => t o i v H2 fun H3 => Q Z H3
def tAsg (te : TE) (g : TG) : TS := fun D Z H => te Z H fun x H1 => g x Z H1 D.nx
theorem ps_set {i : Nat} {x : Str} {e : Expr} {te : TE} {pos' : Pos} (hN : X.N.Nodup) (hi : X.N[i]? = some x) (hx : Loc X.env.scope x) (he : PE X e te) (hs : swapsWith e (some (.Name x pos')) pos.line X.env = pure false := by rfl) (hf : X.fn x = true \/ X.env.scope.names.lookup x = some .local := by first | exact .inl rfl | exact .inr rfl | assumption) :
    PS X (.Assign [.Name x pos'] e pos) (tAsg te (gName i)) := by
  intro pins s Z H D I h
  refine wpAny_Assign_Name (thn (he pins s Z H _ I h) fun v s1 ⟨y, H1, I1, r1, q1⟩ => ?_) hs
  exact store_ok I1 hN hi hx r1 (fun s2 I2 => ⟨_, H1, I2, q1⟩) hf
def tPar (i j : Nat) (ta : TA) : TS := fun D Z H => ta Z H fun vs H1 => ∃ v w, vs = [v, w] /\ D.nx ((Z.set i (some v)).set j (some w)) H1
theorem ps_par {i j : Nat} {x y : Str} {a b : Expr} {ta : TA} {px py pt : Pos} {kt k2 pt2} (hc : X.calm = true) (hN : X.N.Nodup) (hi : X.N[i]? = some x) (hj : X.N[j]? = some y) (hij : i ≠ j)
    (hx : X.env.scope.names.lookup x = some .local) (hy : X.env.scope.names.lookup y = some .local) (ha : PA X [a, b] ta)
    (hw : swappedStores [.Tuple [.Name x px, .Name y py] kt pt] (.Tuple [a, b] k2 pt2) X.env = pure (some [x, y]))
    (hs : swapsWithSole [.Tuple [.Name x px, .Name y py] kt pt] (.Tuple [a, b] k2 pt2) pos.line X.env = pure false := by rfl) :
    PS X (.Assign [.Tuple [.Name x px, .Name y py] kt pt] (.Tuple [a, b] k2 pt2) pos) (tPar i j ta) := by
  intro pins s Z H D I h
  rw [exec_Assign_arm]
  refine xaa (wpAny_standAt ?_)
  rw [hs]
  refine xaa (xaj ?_)
  rw [xao (by decide)]
  refine xaa (Tuple_ (thn (ha _ pins s Z H _ I h) fun us s1 ⟨vs, H1, I1, r1, q1⟩ => ?_))
  obtain ⟨v, w, e1, q1⟩ := q1
  subst e1
  obtain ⟨u1, u2, rfl, rv, rw'⟩ : ∃ u1 u2, us = [u1, u2] /\ RelV v u1 /\ RelV w u2 := by
    cases r1 with
    | cons p q =>
      cases q with
      | cons p' q' =>
        cases q'
        exact ⟨_, _, rfl, p, p'⟩
  refine wpAny_newObj_type ?_ (by show 2 <= sizeLine; decide)
  have I2 : Inv X pins Z H1 { s1 with heap := s1.heap.push { cls := .type "tuple", data := .seq [u1, u2].toArray } } := I1.kept (t' := s1.toks) fun b o e => xad _ e
  rw [hw]
  refine xaa (xaj ?_)
  show wpAny (model X.prog X.w) X.A (do rule "assign.swapped-stores"; let items <- unpackItems (.ref s1.heap.objs.size) 2 none; assignInOrder [fun v => bindName X.env y v, fun v => bindName X.env x v] items.reverse; pure Flow.next) _ _ _
  refine xaa (wpAny_rule (xaa (unpackItems_tuple (items := #[u1, u2]) (I.ok.hd hc) (IsTup.new s1.heap _) fun h' hx' => ?_)))
  have I3 := I2.kept (h' := h') (t' := s1.toks) fun b o e => hx' b o (xa5 (xai e)) e
  show wpAny _ _ (assignInOrder [fun v => bindName X.env y v, fun v => bindName X.env x v] [u2, u1] >>= fun _ => pure Flow.next) _ _ _
  refine xaa (assignInOrder_cons (wpAny_bindName (store_ok I3 hN hj (.inl hy) rw' (fun s2 I4 => ?_) (.inr hy))))
  refine assignInOrder_cons (wpAny_bindName (store_ok I4 hN hi (.inl hx) rv (fun s3 I5 => assignInOrder_nil (xaj ?_)) (.inr hx)))
  rw [List.set_comm _ _ (xay hij)] at I5
  exact ⟨_, H1, I5, q1⟩
end
section
variable {X : Cx} {pos : Pos}
def tWhile (c : TT) (tb : TS) : TS := fun D Z H => ∃ W : Nat -> St -> Hp -> Prop, (∃ m, W m Z H) /\ ∀ m Z H, W m Z H ->
  c Z H fun b H1 => if b = true then ∃ N : St -> Hp -> Prop, (∀ Z' H', N Z' H' -> ∃ m', m' < m /\ W m' Z' H') /\ tb { D with nx := N, ct := N, bk := D.nx } Z H1 else D.nx Z H1
theorem ps_while {c : Expr} {body : List Stmt} {tc : TT} {tb : TS} (hp : PassesOwn (model X.prog X.w) X.A X.env X.xe) (hc : PT X c tc) (hb : PSs X body tb) : PS X (.While c body [] pos) (tWhile tc tb) := by
  intro pins s Z H D I h
  obtain ⟨W, ⟨m0, w0⟩, turn⟩ := h
  refine wpAny_While (codeAny_whileLoop (fun n s' => ∃ Z' H', Inv X pins Z' H' s' /\ W n Z' H') ?_ m0 ⟨Z, H, I, w0⟩)
  rintro n s1 ⟨Z1, H1, I1, w1⟩
  refine wpAny_passesOwn hp (thn (hc pins s1 Z1 H1 _ I1 (turn n Z1 H1 w1)) fun b s2 ⟨H2, I2, q2⟩ => ?_)
  cases b with
  | true =>
    obtain ⟨N, hN, q2⟩ := q2
    rw [xav rfl]
    refine wpAny_passesOwn hp (thn (hb pins s2 Z1 H2 _ I2 q2) fun f s3 q3 => ?_)
    cases f with
    | next =>
      obtain ⟨Z3, H3, I3, n3⟩ := q3
      obtain ⟨m', hm, w3⟩ := hN Z3 H3 n3
      exact ⟨m', hm, Z3, H3, I3, w3⟩
    | cont =>
      obtain ⟨Z3, H3, I3, n3⟩ := q3
      obtain ⟨m', hm, w3⟩ := hN Z3 H3 n3
      exact ⟨m', hm, Z3, H3, I3, w3⟩
    | brk => exact q3
    | ret v => exact q3
  | false =>
    rw [xao xap]
    exact wpAny_execs_nil ⟨Z1, H2, I2, q2⟩
end
structure It where
  go : Nat -> Hp -> Prop
  yld : Nat -> Hp -> V -> Hp -> Prop
  stop : Nat -> Hp -> Prop
def FpOk (X : Cx) (pins : List (Addr × Obj)) (H : Hp) (b : Addr) : Prop :=
  H b = none /\ b ≠ X.env.locals /\ b ∉ X.fs /\ (b ∈ X.ex \/ X.s₀.heap.objs.size <= b) /\ (∀ x c, X.env.cells.lookup x = some c -> c ≠ b) /\ ∀ p ∈ X.pn ++ pins, p.1 ≠ b
theorem Inv.fpOk {X : Cx} {pins : List (Addr × Obj)} {Z : St} {H H' : Hp} {s : Shared} {b : Addr} (I : Inv X pins Z H s) (hb : s.heap.objs.size <= b) (hn : H' b = none) : FpOk X pins H' b := by
  refine ⟨hn, Nat.ne_of_gt (xaf I.lt hb), I.nofs hb, .inr (xa1 I.sz hb), fun x c e z => ?_, fun p hp z => ?_⟩
  · obtain ⟨v, q⟩ := I.cell x c e
    exact xak (xaf q.lt (by rw [z]; exact hb)) (xbd _)
  · exact xak (xaf (xai (I.pin p hp).1) (by rw [z]; exact hb)) (xbd _)
structure Turn (P : Program) (w : World) (K : xFg) (tg : Expr) (J : It) (fp : List Addr) (it : Addr) (tn : Nat -> Heap -> Prop) : Prop where
  mem : it ∈ fp
  obj : ∀ i h, tn i h -> ∀ b ∈ fp, ∃ o, h.get? b = some o /\ ∀ v, o.data ≠ .cell v
  keep : ∀ i h h', tn i h -> (∀ b ∈ fp, ∀ o, h.get? b = some o -> h'.get? b = some o) -> tn i h'
  item : ∀ (X : Cx), X.prog = P -> X.w = w -> X.K = K -> X.calm = true -> ∀ (i : Nat) (pins : List (Addr × Obj)) (s : Shared) (Z : St) (H : Hp) (E : Value -> Shared -> Prop), Inv X pins Z H s -> (∀ b ∈ fp, FpOk X pins H b) -> tn i s.heap -> J.go i H ->
    wpAny (model P w) X.A (pyNext (.ref it)) (fun r s1 => ∃ u, r = some u /\
      wpAny (model P w) X.A (letOwnedTupleGo tg (.ref it) u) (fun _ s2 => ∃ x H', Inv X pins Z H' s2 /\ RelV x u /\ J.yld i H x H' /\ tn (i + 1) s2.heap /\ ∀ b ∈ fp, H' b = none) E s1) E s
  done : ∀ (X : Cx), X.prog = P -> X.w = w -> X.K = K -> X.calm = true -> ∀ (i : Nat) (pins : List (Addr × Obj)) (s : Shared) (Z : St) (H : Hp) (E : Value -> Shared -> Prop), Inv X pins Z H s -> (∀ b ∈ fp, FpOk X pins H b) -> tn i s.heap -> J.stop i H ->
    wpAny (model P w) X.A (pyNext (.ref it)) (fun r s1 => r = none /\ Inv X pins Z H s1) E s
  self : ∀ (A : Around) (i : Nat) (s : Shared) (Q : Value -> Shared -> Prop) (E : Value -> Shared -> Prop), tn i s.heap -> Q (.ref it) s -> wpAny (model P w) A (pyIter (.ref it)) Q E s
abbrev TI := St -> Hp -> (It -> Hp -> Prop) -> Prop
def PIE (X : Cx) (pins : List (Addr × Obj)) (Z : St) (tg : Expr) (R : It -> Hp -> Prop) (itv : Value) (s2 : Shared) : Prop :=
  ∃ (it : Addr) (fp : List Addr) (tn : Nat -> Heap -> Prop) (J : It) (H' : Hp), itv = .ref it /\ Inv X pins Z H' s2 /\ Turn X.prog X.w X.K tg J fp it tn /\ tn 0 s2.heap /\ (∀ b ∈ fp, FpOk X pins H' b) /\ R J H'
def PI (X : Cx) (tg iter : Expr) (wi : TI) : Prop :=
  ∀ (pins : List (Addr × Obj)) (s : Shared) (Z : St) (H : Hp) (R : It -> Hp -> Prop), Inv X pins Z H s -> wi Z H R ->
    wpAny (model X.prog X.w) X.A (eval iter X.env) (fun v s1 => wpAny (model X.prog X.w) X.A (pyIter v) (PIE X pins Z tg R) X.xe s1) X.xe s
theorem go_of {M : Model} {A : Around} {E : Value -> Shared -> Prop} {s : Shared} {tg : Expr} {it : Addr} {u : Value} {o : Obj} {n : String} {vs : Array Value} {Q : Unit -> Shared -> Prop} (ho : s.heap.get? it = some o) (hc : o.cls = .type n) (hd : o.data = .fields vs)
    (hn : ["enumerate", "zip", "dict_itemiterator", "dict_reverseitemiterator", "odict_iterator", "itertools.zip_longest", "itertools.pairwise"].contains n = false) (hQ : Q () s) : wpAny M A (letOwnedTupleGo tg (.ref it) u) Q E s := by
  unfold letOwnedTupleGo
  cases tg <;> first
    | exact xaj hQ
    | (cases u <;> first
        | exact xaj hQ
        | (refine xaa (wpAny_load ho ?_)
           rw [hc, hd]
           show wpAny M A (if (["enumerate", "zip", "dict_itemiterator", "dict_reverseitemiterator", "odict_iterator", "itertools.zip_longest", "itertools.pairwise"].contains n && vs[0]? == some (rawInt _)) = true then _ else _) Q E s
           rw [xao (by intro h; rw [hn, Bool.false_and] at h; cases h)]
           exact xaj hQ))
def Itl (K : xFg) (a : Addr) : It :=
  ⟨fun i H => ∃ xs x, SqL K H a xs /\ xs[i]? = some x, fun i H x H' => H' = H /\ ∀ xs, SqL K H a xs -> xs[i]? = some x, fun i H => ∃ xs, SqL K H a xs /\ xs.length <= i⟩
def Itt (K : xFg) (a : Addr) : It :=
  ⟨fun i H => ∃ xs x, SqT K H a xs /\ xs[i]? = some x, fun i H x H' => H' = H /\ ∀ xs, SqT K H a xs -> xs[i]? = some x, fun i H => ∃ xs, SqT K H a xs /\ xs.length <= i⟩
def Itr (lo : Int) (n : Nat) : It := ⟨fun i _ => i < n, fun i H x H' => H' = H /\ x = .int (lo + i), fun i _ => n <= i⟩
theorem turn_list {P : Program} {w : World} {K : xFg} {tg : Expr} (a it : Addr) : Turn P w K tg (Itl K a) [it] it (fun i h => h.IsListIter it a i) where
  mem := by simp
  obj := fun i h st b hb => by
    have e : b = it := by simpa using hb
    subst e
    obtain ⟨o, e, c, d⟩ := st
    exact ⟨o, e, fun v z => by rw [d] at z; cases z⟩
  keep := fun i h h' st k => st.at fun o e => k it (by simp) o e
  item := by
    intro X hP hw hK hc i pins s Z H E I hf st hg
    subst hP hw hK
    obtain ⟨xs, x, hq, hx⟩ := hg
    obtain ⟨its, rv, p, hz⟩ := I.list hq
    obtain ⟨u, hu, ru⟩ := rv.get hx
    obtain ⟨f0, f1, f2, f3, f4, f5⟩ := hf it (by simp)
    refine wpAny_pyNext_list_item st p.isList (x := u) (by simpa using hu) fun h' st' sb => ?_
    have I1 : Inv X pins Z H { s with heap := h' } := I.turned (t' := s.toks) (fun b o hb e => (sb.2 b hb).trans e) f0 f1 f3 f4 f5
    obtain ⟨o, e, c, d⟩ := id st'
    exact ⟨u, rfl, go_of (s := { s with heap := h' }) e c d (by decide) ⟨x, H, I1, ru, ⟨rfl, fun ys hy => by rw [I.list_inj hy hq]; exact hx⟩, st', fun b hb => (hf b hb).1⟩⟩
  done := by
    intro X hP hw hK hc i pins s Z H E I hf st hg
    subst hP hw hK
    obtain ⟨xs, hq, hx⟩ := hg
    obtain ⟨its, rv, p, hz⟩ := I.list hq
    obtain ⟨f0, f1, f2, f3, f4, f5⟩ := hf it (by simp)
    have hl := rv.length
    exact wpAny_pyNext_list_end (I.ok.hd hc) st p.isList (by simp; omega) fun h' eb => ⟨rfl, I.turned (t' := s.toks) (fun b o hb e => eb b o hb e) f0 f1 f3 f4 f5⟩
  self := fun _ _ _ _ _ st h => wpAny_pyIter_listiter st h
theorem turn_tuple {P : Program} {w : World} {K : xFg} {tg : Expr} (a it : Addr) : Turn P w K tg (Itt K a) [it] it (fun i h => h.IsTupleIter it a i) where
  mem := by simp
  obj := fun i h st b hb => by
    have e : b = it := by simpa using hb
    subst e
    obtain ⟨o, e, c, d⟩ := st
    exact ⟨o, e, fun v z => by rw [d] at z; cases z⟩
  keep := fun i h h' st k => st.at fun o e => k it (by simp) o e
  item := by
    intro X hP hw hK hc i pins s Z H E I hf st hg
    subst hP hw hK
    obtain ⟨xs, x, hq, hx⟩ := hg
    obtain ⟨its, rv, p, hz⟩ := I.tuple hq
    obtain ⟨u, hu, ru⟩ := rv.get hx
    obtain ⟨f0, f1, f2, f3, f4, f5⟩ := hf it (by simp)
    refine wpAny_pyNext_tuple_item st (show s.heap.IsTuple a its.toArray from p) (x := u) (by simpa using hu) fun h' st' sb => ?_
    have I1 : Inv X pins Z H { s with heap := h' } := I.turned (t' := s.toks) (fun b o hb e => (sb.2 b hb).trans e) f0 f1 f3 f4 f5
    obtain ⟨o, e, c, d⟩ := id st'
    exact ⟨u, rfl, go_of (s := { s with heap := h' }) e c d (by decide) ⟨x, H, I1, ru, ⟨rfl, fun ys hy => by rw [I.tuple_inj hy hq]; exact hx⟩, st', fun b hb => (hf b hb).1⟩⟩
  done := by
    intro X hP hw hK hc i pins s Z H E I hf st hg
    subst hP hw hK
    obtain ⟨xs, hq, hx⟩ := hg
    obtain ⟨its, rv, p, hz⟩ := I.tuple hq
    obtain ⟨f0, f1, f2, f3, f4, f5⟩ := hf it (by simp)
    have hl := rv.length
    exact wpAny_pyNext_tuple_end (I.ok.hd hc) st (show s.heap.IsTuple a its.toArray from p) (by simp; omega) fun h' eb => ⟨rfl, I.turned (t' := s.toks) (fun b o hb e => eb b o hb e) f0 f1 f3 f4 f5⟩
  self := fun _ _ _ _ _ st h => wpAny_pyIter_tupleiter st h
theorem turn_range {P : Program} {w : World} {K : xFg} {tg : Expr} (it : Addr) (lo : Int) (n : Nat) : Turn P w K tg (Itr lo n) [it] it (fun i h => IsRangeIter h it (lo + (i : Nat) * 1) ((n : Int) - (i : Nat)) 1) where
  mem := by simp
  obj := fun i h st b hb => by
    have e : b = it := by simpa using hb
    subst e
    exact ⟨_, st, fun v z => by
      have z' : Data.fields _ = Data.cell v := z
      cases z'⟩
  keep := fun i h h' st k => k it (by simp) _ st
  item := by
    intro X hP hw hK hc i pins s Z H E I hf st hg
    subst hP hw hK
    obtain ⟨f0, f1, f2, f3, f4, f5⟩ := hf it (by simp)
    have W := Walks.range (prog := X.prog) (w := X.w) (I.ok.hd hc) it lo 1 n
    refine W.item i s _ _ hg st fun v h' tk hv st' kk => ?_
    obtain ⟨t, rfl⟩ := hv
    have I1 : Inv X pins Z H { s with heap := h', toks := tk } := I.turned (fun b o hb e => kk b o (by simpa using hb) e) f0 f1 f3 f4 f5
    refine ⟨_, rfl, go_of (s := { s with heap := h', toks := tk }) (n := "range_iterator") st' rfl rfl (by decide) ⟨.int (lo + i), H, I1, ⟨t, ?_⟩, ⟨rfl, rfl⟩, st', fun b hb => (hf b hb).1⟩⟩
    rw [Int.mul_one]
  done := by
    intro X hP hw hK hc i pins s Z H E I hf st hg
    subst hP hw hK
    obtain ⟨f0, f1, f2, f3, f4, f5⟩ := hf it (by simp)
    exact wpAny_pyNext_range_end (I.ok.hd hc) st (by have : n <= i := hg; omega) fun h' eb => ⟨rfl, I.turned (t' := s.toks) (fun b o hb e => eb b o hb e) f0 f1 f3 f4 f5⟩
  self := fun _ _ _ _ _ st h => wpAny_pyIter_rangeiter st h
end L2
namespace L2
open PySem.Spec PyProof.Rows
section
variable {X : Cx} {tg : Expr}
def iList (K : xFg) (tl : TE) : TI := fun Z H R => tl Z H fun x H1 => ∃ a, x = .ref a /\ (∃ xs, SqL K H1 a xs) /\ R (Itl K a) H1
def iTup (K : xFg) (tl : TE) : TI := fun Z H R => tl Z H fun x H1 => ∃ a, x = .ref a /\ (∃ xs, SqT K H1 a xs) /\ R (Itt K a) H1
theorem pi_list {l : Expr} {tl : TE} (hl : PE X l tl) : PI X tg l (iList X.K tl) := by
  intro pins s Z H R I h
  refine thn (hl pins s Z H _ I h) fun v s1 ⟨x, H1, I1, r1, q1⟩ => ?_
  obtain ⟨a, e, ⟨xs, hq⟩, q⟩ := q1
  subst e
  cases r1
  obtain ⟨its, rv, p, hz⟩ := I1.list hq
  refine wpAny_pyIter_list p.isList ?_
  refine ⟨s1.heap.objs.size, [s1.heap.objs.size], _, _, H1, rfl, I1.kept (t' := s1.toks) fun b o e => xad _ e, turn_list a _, ⟨_, xa4 _ rfl, rfl, rfl⟩, fun b hb => ?_, q⟩
  have e : b = s1.heap.objs.size := by simpa using hb
  subst e
  exact I1.fpOk (xam _) (I1.hok.fresh (xam _))
theorem pi_tup {l : Expr} {tl : TE} (hl : PE X l tl) : PI X tg l (iTup X.K tl) := by
  intro pins s Z H R I h
  refine thn (hl pins s Z H _ I h) fun v s1 ⟨x, H1, I1, r1, q1⟩ => ?_
  obtain ⟨a, e, ⟨xs, hq⟩, q⟩ := q1
  subst e
  cases r1
  obtain ⟨its, rv, p, hz⟩ := I1.tuple hq
  refine wpAny_pyIter_tuple (show s1.heap.IsTuple a its.toArray from p) ?_
  refine ⟨s1.heap.objs.size, [s1.heap.objs.size], _, _, H1, rfl, I1.kept (t' := s1.toks) fun b o e => xad _ e, turn_tuple a _, ⟨_, xa4 _ rfl, rfl, rfl⟩, fun b hb => ?_, q⟩
  have e : b = s1.heap.objs.size := by simpa using hb
  subst e
  exact I1.fpOk (xam _) (I1.hok.fresh (xam _))
theorem range_it {pins : List (Addr × Obj)} {Z : St} {H : Hp} {s : Shared} {R : It -> Hp -> Prop} {E : Value -> Shared -> Prop} {lo hi : Int} {t u v : Tok} {tk : Nat} (I : Inv X pins Z H s) (h1 : -(2 ^ 62) <= lo) (h2 : lo < 2 ^ 62) (h3 : -(2 ^ 62) <= hi) (h4 : hi < 2 ^ 62)
    (q : R (Itr lo (hi - lo).toNat) H) : wpAny (model X.prog X.w) X.A (pyIter (.ref s.heap.objs.size)) (PIE X pins Z tg R) E { s with heap := s.heap.push { cls := .type "range", data := .fields #[.int lo t, .int hi u, .int 1 v] }, toks := tk } := by
  refine wpAny_pyIter_range (IsRange.new ..) (small_one h1 h2 h3 h4) ?_
  have I1 : Inv X pins Z H { s with heap := s.heap.push { cls := .type "range", data := .fields #[.int lo t, .int hi u, .int 1 v] }, toks := tk } := I.kept fun b o e => xad _ e
  refine ⟨(s.heap.push { cls := .type "range", data := .fields #[.int lo t, .int hi u, .int 1 v] }).objs.size, [(s.heap.push { cls := .type "range", data := .fields #[.int lo t, .int hi u, .int 1 v] }).objs.size], _, _, H, rfl,
    I1.kept (t' := tk) fun b o e => xad _ e, turn_range _ lo (hi - lo).toNat, ?_, fun b hb => ?_, q⟩
  · have e1 : lo + ((0 : Nat) : Int) * 1 = lo := by simp
    have e2 : (((hi - lo).toNat : Nat) : Int) - ((0 : Nat) : Int) = Builtin.Range.rangeSize lo hi 1 := by rw [rangeSize_one]; split <;> omega
    show IsRangeIter _ _ (lo + ((0 : Nat) : Int) * 1) ((((hi - lo).toNat : Nat) : Int) - ((0 : Nat) : Int)) 1
    rw [e1, e2]
    exact xa4 _ rfl
  · have e : b = (s.heap.push { cls := .type "range", data := .fields #[.int lo t, .int hi u, .int 1 v] }).objs.size := by simpa using hb
    subst e
    exact I1.fpOk (xam _) (I1.hok.fresh (xam _))
def iRng1 (ta : TA) : TI := fun Z H R => ta Z H fun vs H1 => ∃ j : Int, vs = [.int j] /\ -(2 ^ 62) <= j /\ j < 2 ^ 62 /\ R (Itr 0 j.toNat) H1
theorem pi_range1 {a : Expr} {ta : TA} {p pos : Pos} (hg : Gl X "range") (hm : X.mg "range" = none) (ha : PA X [a] ta) (hs : starEach [a] X.env = [(false, eval a X.env)] := by rfl) : PI X tg (.Call (.Name "range" p) [a] [] pos) (iRng1 ta) := by
  intro pins s Z H R I h
  refine Call_ (ld_blt I hg hm boot_range (PyProof.Rows.callWith_type1 (thn (ha pos pins s Z H _ I h) fun us s1 ⟨vs, H1, I1, r1, q1⟩ => ?_) hs rfl))
  obtain ⟨j, e, q1, q2, q⟩ := q1
  subst e
  cases r1 with
  | cons r rr =>
    cases rr
    obtain ⟨t, rfl⟩ := r
    exact call_range_1 (range_it I1 (by omega) (by omega) q1 q2 (by simpa using q))
def tFor (wi : TI) (g : TG) (tb : TS) : TS := fun D Z H => wi Z H fun J H1 => ∃ W : Nat -> Nat -> St -> Hp -> Prop, (∃ m, W 0 m Z H1) /\ ∀ i m Z H, W i m Z H ->
  (J.stop i H /\ D.nx Z H) \/ (J.go i H /\ ∃ N : St -> Hp -> Prop, (∀ Z' H', N Z' H' -> ∃ m', m' < m /\ W (i + 1) m' Z' H') /\ ∀ x H', J.yld i H x H' -> g x Z H' fun Z2 H2 => tb { D with nx := N, ct := N, bk := D.nx } Z2 H2)
def pinsAt (fp : List Addr) (h : Heap) : List (Addr × Obj) := fp.filterMap fun b => (h.get? b).map fun o => (b, o)
theorem mem_pinsAt {fp : List Addr} {h : Heap} {b : Addr} {o : Obj} (hb : b ∈ fp) (e : h.get? b = some o) : (b, o) ∈ pinsAt fp h := List.mem_filterMap.mpr ⟨b, hb, by rw [e]; rfl⟩
theorem of_pinsAt {fp : List Addr} {h : Heap} {p : Addr × Obj} (hp : p ∈ pinsAt fp h) : p.1 ∈ fp /\ h.get? p.1 = some p.2 := by
  obtain ⟨b, hb, e⟩ := List.mem_filterMap.mp hp
  cases q : h.get? b with
  | none => rw [q] at e; cases e
  | some o =>
    rw [q] at e
    have e' : (b, o) = p := xa0 e
    subst e'
    exact ⟨hb, q⟩
theorem Inv.pinned {pins : List (Addr × Obj)} {Z : St} {H : Hp} {s : Shared} {fp : List Addr} (I : Inv X pins Z H s) (hf : ∀ b ∈ fp, FpOk X pins H b) (ho : ∀ b ∈ fp, ∃ o, s.heap.get? b = some o /\ ∀ v, o.data ≠ .cell v) : Inv X (pins ++ pinsAt fp s.heap) Z H s :=
  I.pins_of fun p hp => (xbh.mp hp).elim (fun z => I.pin p (xa8 _ z)) fun z => by
    obtain ⟨hb, e⟩ := of_pinsAt z
    obtain ⟨f0, f1, f2, _⟩ := hf p.1 hb
    obtain ⟨o, e', d⟩ := ho p.1 hb
    rw [e] at e'; cases e'
    exact ⟨e, f0, f1, f2, d⟩
theorem Inv.unpinned {pins pl : List (Addr × Obj)} {Z : St} {H : Hp} {s : Shared} (I : Inv X (pins ++ pl) Z H s) : Inv X pins Z H s := I.pins_of fun p hp => I.pin p (xa8 _ (List.mem_append_left _ hp))
theorem ps_for {iter : Expr} {body : List Stmt} {wi : TI} {g : TG} {tb : TS} {pos : Pos} (hp : PassesOwn (model X.prog X.w) X.A X.env X.xe) (hc : X.calm = true) (hi : PI X tg iter wi) (hg : PG X tg g) (hb : PSs X body tb)
    (hs : ∀ x, foldedSetIterable iter X.env x = pure x := by intro _; rfl) : PS X (.For tg iter body [] pos) (tFor wi g tb) := by
  intro pins s Z H D I h
  refine wpAny_For (thn (hi pins s Z H _ I h) fun v s1 h1 => thn h1 fun itv s2 h2 => ?_) hs
  obtain ⟨it, fp, tn, J, H2, e, I2, T, st2, f2, W, ⟨m0, w0⟩, turn⟩ := h2
  subst e
  have stat : ∀ {H' : Hp}, (∀ b ∈ fp, H' b = none) -> ∀ b ∈ fp, FpOk X pins H' b := fun hn b hb => ⟨hn b hb, (f2 b hb).2⟩
  refine codeAny_forLoop_any (fun n s' => ∃ i Z' H', Inv X pins Z' H' s' /\ tn i s'.heap /\ (∀ b ∈ fp, H' b = none) /\ W i n Z' H') ?_ m0 ⟨0, Z, H2, I2, st2, fun b hb => (f2 b hb).1, w0⟩
  rintro n s3 ⟨i, Z3, H3, I3, st3, fr3, w3⟩
  rcases turn i n Z3 H3 w3 with ⟨stop, qn⟩ | ⟨go, N, hN, step⟩
  · refine wpAny_passesOwn hp (thn (T.done X rfl rfl rfl hc i pins s3 Z3 H3 X.xe I3 (stat fr3) st3 stop) fun r s4 ⟨hr, I4⟩ => ?_)
    subst hr
    exact wpAny_execs_nil ⟨Z3, H3, I4, qn⟩
  · refine wpAny_passesOwn hp (thn (T.item X rfl rfl rfl hc i pins s3 Z3 H3 X.xe I3 (stat fr3) st3 go) fun r s4 ⟨u, hr, h4⟩ => ?_)
    subst hr
    refine wpAny_passesOwn hp (thn h4 fun _ s5 ⟨x, H5, I5, r5, y5, st5, fr5⟩ => ?_)
    have I5' := I5.pinned (stat fr5) (T.obj _ _ st5)
    refine wpAny_passesOwn hp (thn (hg _ s5 Z3 H5 x u _ I5' r5 (step x H5 y5)) fun _ s6 ⟨Z6, H6, I6, q6⟩ => ?_)
    refine wpAny_passesOwn hp (thn (hb _ s6 Z6 H6 _ I6 q6) fun f s7 q7 => ?_)
    have again : ∀ {Z7 : St} {H7 : Hp}, Inv X (pins ++ pinsAt fp s5.heap) Z7 H7 s7 -> N Z7 H7 -> ∃ m, m < n /\ ∃ i Z' H', Inv X pins Z' H' s7 /\ tn i s7.heap /\ (∀ b ∈ fp, H' b = none) /\ W i m Z' H' := fun {Z7 H7} I7 n7 => by
      obtain ⟨m', hm, w7⟩ := hN Z7 H7 n7
      refine ⟨m', hm, i + 1, Z7, H7, I7.unpinned, T.keep _ _ _ st5 fun b hb o e => (I7.pin (b, o) (xa8 _ (xa8 _ (mem_pinsAt hb e)))).1, fun b hb => ?_, w7⟩
      obtain ⟨o, e, d⟩ := T.obj _ _ st5 b hb
      exact (I7.pin (b, o) (xa8 _ (xa8 _ (mem_pinsAt hb e)))).2.1
    cases f with
    | next => obtain ⟨Z7, H7, I7, n7⟩ := q7; exact again I7 n7
    | cont => obtain ⟨Z7, H7, I7, n7⟩ := q7; exact again I7 n7
    | brk => obtain ⟨Z7, H7, I7, q7⟩ := q7; exact ⟨Z7, H7, I7.unpinned, q7⟩
    | ret v => obtain ⟨x7, Z7, H7, I7, r7, q7⟩ := q7; exact ⟨x7, Z7, H7, I7.unpinned, r7, q7⟩
end
end L2
namespace L2
open PySem.Spec PyProof.Rows
abbrev R2 := V -> V -> Hp -> VK -> Prop
def OpR (X : Cx) (f : Value -> Value -> Sem Value) (r : R2) : Prop :=
  ∀ (pins : List (Addr × Obj)) (s : Shared) (Z : St) (H : Hp) (x y : V) (v u : Value) (Q : VK), Inv X pins Z H s -> RelV x v -> RelV y u -> r x y H Q ->
    wpAny (model X.prog X.w) X.A (f v u) (EP X pins Z Q) X.xe s
def UnR (X : Cx) (f : Value -> Sem Value) (r : V -> Hp -> VK -> Prop) : Prop :=
  ∀ (pins : List (Addr × Obj)) (s : Shared) (Z : St) (H : Hp) (x : V) (v : Value) (Q : VK), Inv X pins Z H s -> RelV x v -> r x H Q ->
    wpAny (model X.prog X.w) X.A (f v) (EP X pins Z Q) X.xe s
def CallR (X : Cx) (f : Value) (r : List V -> Hp -> VK -> Prop) : Prop :=
  ∀ (pins : List (Addr × Obj)) (s : Shared) (Z : St) (H : Hp) (xs : List V) (us : List Value) (Q : VK), Inv X pins Z H s -> Vals xs us -> r xs H Q ->
    wpAny (model X.prog X.w) X.A (call f us) (EP X pins Z Q) X.xe s
def tOp (r : R2) (ta tb : TE) : TE := fun Z H Q => ta Z H fun x H1 => tb Z H1 fun y H2 => r x y H2 Q
def tUn (r : V -> Hp -> VK -> Prop) (ta : TE) : TE := fun Z H Q => ta Z H fun x H1 => r x H1 Q
def rI (C : Int -> Int -> Prop) (g : Int -> Int -> V) : R2 := fun x y H Q => ∃ i j, x = .int i /\ y = .int j /\ C i j /\ Q (g i j) H
def rI0 (g : Int -> Int -> V) : R2 := fun x y H Q => ∃ i j, x = .int i /\ y = .int j /\ Q (g i j) H
def rU (g : Int -> V) : V -> Hp -> VK -> Prop := fun x H Q => ∃ i, x = .int i /\ Q (g i) H
section
variable {X : Cx} {a b c : Expr} {ta tb tc : TE} {pos : Pos}
theorem binT (ha : PE X a ta) (hb : PE X b tb) {pins : List (Addr × Obj)} {s : Shared} {Z : St} {H : Hp} {R : V -> V -> Hp -> Prop} (I : Inv X pins Z H s)
    (h : ta Z H fun x H1 => tb Z H1 fun y H2 => R x y H2) {Q : Value -> Shared -> Prop} {f : Value -> Value -> Sem Value}
    (hf : ∀ v u s2 x y H2, Inv X pins Z H2 s2 -> RelV x v -> RelV y u -> R x y H2 -> wpAny (model X.prog X.w) X.A (f v u) Q X.xe s2) :
    wpAny (model X.prog X.w) X.A (eval a X.env) (fun v s₁ => wpAny (model X.prog X.w) X.A (eval b X.env) (fun u s₂ => wpAny (model X.prog X.w) X.A (f v u) Q X.xe s₂) X.xe s₁) X.xe s := by
  refine thn (ha pins s Z H _ I h) fun v s1 ⟨x, H1, I1, r1, q1⟩ => ?_
  refine thn (hb pins s1 Z H1 _ I1 q1) fun u s2 ⟨y, H2, I2, r2, q2⟩ => ?_
  exact hf v u s2 x y H2 I2 r1 r2 q2
theorem pe_op {op : Operator} {r : R2} (ho : OpR X (binaryOp op) r) (ha : PE X a ta) (hb : PE X b tb) : PE X (.BinOp a op b pos) (tOp r ta tb) := by
  intro pins s Z H Q I h
  exact wpAny_BinOp (binT ha hb I h fun v u s2 x y H2 I2 rx ry q => ho pins s2 Z H2 x y v u Q I2 rx ry q)
theorem pe_un {op : UnaryOp} {r : V -> Hp -> VK -> Prop} (ho : UnR X (unaryOp op) r) (ha : PE X a ta) : PE X (.UnaryOp op a pos) (tUn r ta) := by
  intro pins s Z H Q I h
  exact UnaryOp_ (thn (ha pins s Z H _ I h) fun v s1 ⟨x, H1, I1, r1, q1⟩ => ho pins s1 Z H1 x v Q I1 r1 q1)
theorem opI {f : Value -> Value -> Sem Value} {C : Int -> Int -> Prop} {g : Int -> Int -> Int}
    (rule : ∀ (i j : Int) (t u : Tok) (s : Shared) (Q : Value -> Shared -> Prop) (E : Value -> Shared -> Prop), C i j -> Q (.int (g i j) s.toks) { s with toks := s.toks + 1 } -> wpAny (model X.prog X.w) X.A (f (.int i t) (.int j u)) Q E s) :
    OpR X f (rI C fun i j => .int (g i j)) := by
  intro pins s Z H x y v u Q I rx ry h
  obtain ⟨i, j, rfl, rfl, hc, q⟩ := h
  obtain ⟨t, rfl⟩ := rx
  obtain ⟨t', rfl⟩ := ry
  exact rule i j t t' s _ _ hc ⟨.int (g i j), H, I.tok _, ⟨_, rfl⟩, q⟩
theorem opI0 {f : Value -> Value -> Sem Value} {g : Int -> Int -> Int}
    (rule : ∀ (i j : Int) (t u : Tok) (s : Shared) (Q : Value -> Shared -> Prop) (E : Value -> Shared -> Prop), Q (.int (g i j) s.toks) { s with toks := s.toks + 1 } -> wpAny (model X.prog X.w) X.A (f (.int i t) (.int j u)) Q E s) :
    OpR X f (rI0 fun i j => .int (g i j)) := by
  intro pins s Z H x y v u Q I rx ry h
  obtain ⟨i, j, rfl, rfl, q⟩ := h
  obtain ⟨t, rfl⟩ := rx
  obtain ⟨t', rfl⟩ := ry
  exact rule i j t t' s _ _ ⟨.int (g i j), H, I.tok _, ⟨_, rfl⟩, q⟩
theorem opB0 {f : Value -> Value -> Sem Value} {g : Int -> Int -> Bool}
    (rule : ∀ (i j : Int) (t u : Tok) (s : Shared) (Q : Value -> Shared -> Prop) (E : Value -> Shared -> Prop), Q (.bool (g i j)) s -> wpAny (model X.prog X.w) X.A (f (.int i t) (.int j u)) Q E s) :
    OpR X f (rI0 fun i j => .bl (g i j)) := by
  intro pins s Z H x y v u Q I rx ry h
  obtain ⟨i, j, rfl, rfl, q⟩ := h
  obtain ⟨t, rfl⟩ := rx
  obtain ⟨t', rfl⟩ := ry
  exact rule i j t t' s _ _ ⟨.bl (g i j), H, I, rfl, q⟩
def CPow (i j : Int) : Prop := 0 <= j /\ j <= 1000000 /\ i.natAbs < 2 ^ 64
theorem op_add : OpR X (binaryOp .Add) (rI0 fun i j => .int (i + j)) := opI0 fun _ _ _ _ _ _ _ q => add_int q
theorem op_modN : OpR X (binaryOp .Mod) (rI (fun _ j => j ≠ 0) fun i j => .int (i.fmod j)) := opI fun _ _ _ _ _ _ _ hc q => mod_int' hc q
theorem op_pow : OpR X (binaryOp .Pow) (rI CPow fun i j => .int (i ^ j.toNat)) := opI fun _ _ _ _ _ _ _ hc q => pow_int_small hc.1 hc.2.1 hc.2.2 q
theorem unI {f : Value -> Sem Value} {g : Int -> Int}
    (rule : ∀ (i : Int) (t : Tok) (s : Shared) (Q : Value -> Shared -> Prop) (E : Value -> Shared -> Prop), Q (.int (g i) s.toks) { s with toks := s.toks + 1 } -> wpAny (model X.prog X.w) X.A (f (.int i t)) Q E s) :
    UnR X f (rU fun i => .int (g i)) := by
  intro pins s Z H x v Q I rx h
  obtain ⟨i, rfl, q⟩ := h
  obtain ⟨t, rfl⟩ := rx
  exact rule i t s _ _ ⟨.int (g i), H, I.tok _, ⟨_, rfl⟩, q⟩
theorem un_neg : UnR X (unaryOp .USub) (rU fun i => .int (-i)) := unI fun _ _ _ _ _ q => neg_int q
end
section
variable {X : Cx} {a b c : Expr} {ta tb tc : TE} {pos : Pos}
theorem fin_bl {pins : List (Addr × Obj)} {Z : St} {H : Hp} {s : Shared} {Q : VK} {k k' : Bool} (I : Inv X pins Z H s) (q : Q (.bl k) H) (e : k = k') : EP X pins Z Q (.bool k') s := by
  subst e
  exact ⟨.bl k, H, I, rfl, q⟩
theorem op_lt : OpR X (compareOp .Lt) (rI0 fun i j => .bl (decide (i < j))) := opB0 fun _ _ _ _ _ _ _ q => lt_int q
theorem op_le : OpR X (compareOp .LtE) (rI0 fun i j => .bl (decide (i <= j))) := opB0 fun _ _ _ _ _ _ _ q => le_int q
theorem op_gt : OpR X (compareOp .Gt) (rI0 fun i j => .bl (decide (j < i))) := opB0 fun _ _ _ _ _ _ _ q => gt_int q
theorem op_ge : OpR X (compareOp .GtE) (rI0 fun i j => .bl (decide (j <= i))) := opB0 fun _ _ _ _ _ _ _ q => ge_int q
theorem op_in_str : OpR X (compareOp .In) (fun x y H Q => ∃ i j, x = .str i /\ y = .str j /\ Q (.bl (!(Builtin.Str.occurrences j i 0 j.length 1).isEmpty)) H) := by
  intro pins s Z H x y v u Q I rx ry h
  obtain ⟨i, j, rfl, rfl, q⟩ := h
  obtain ⟨t, rfl⟩ := rx
  obtain ⟨t', rfl⟩ := ry
  exact in_str (fin_bl I q rfl)
theorem op_isN : OpR X (compareOp .Is) (fun x y H Q => y = .non /\ Q (.bl (decide (x = .non))) H) := by
  intro pins s Z H x y v u Q I rx ry h
  obtain ⟨rfl, q⟩ := h
  cases ry
  refine is_none_gen (fin_bl I q ?_)
  cases x <;> first
    | (cases rx; rfl)
    | (obtain ⟨t, rfl⟩ := rx; rfl)
theorem op_notN : OpR X (compareOp .IsNot) (fun x y H Q => y = .non /\ Q (.bl (!decide (x = .non))) H) := by
  intro pins s Z H x y v u Q I rx ry h
  obtain ⟨rfl, q⟩ := h
  cases ry
  refine isnot_none_gen (fin_bl I q ?_)
  cases x <;> first
    | (cases rx; rfl)
    | (obtain ⟨t, rfl⟩ := rx; rfl)
theorem OpR.or {f : Value -> Value -> Sem Value} {r r' : R2} (h : OpR X f r) (h' : OpR X f r') : OpR X f (fun x y H Q => r x y H Q \/ r' x y H Q) := by
  intro pins s Z H x y v u Q I rx ry q
  rcases q with q | q
  · exact h pins s Z H x y v u Q I rx ry q
  · exact h' pins s Z H x y v u Q I rx ry q
theorem pe_cmpR {op : CmpOp} {r : R2} (ho : OpR X (compareOp op) r) (ha : PE X a ta) (hb : PE X b tb) (hm : behindInMarks op b = false) : PE X (.Compare a [op] [b] pos) (tOp r ta tb) := by
  intro pins s Z H Q I h
  exact wpAny_Compare1 (binT ha hb I h fun v u s2 x y H2 I2 rx ry q => ho pins s2 Z H2 x y v u Q I2 rx ry q) hm
def tTest (t : TE) : TT := fun Z H Q => t Z H fun x H' => ∃ k, x = .bl k /\ Q k H'
theorem pt_cmpR {op : CmpOp} {r : R2} (ho : OpR X (compareOp op) r) (ha : PE X a ta) (hb : PE X b tb) (hm : behindInMarks op b = false) : PT X (.Compare a [op] [b] pos) (tTest (tOp r ta tb)) := by
  intro pins s Z H Q I h
  refine wpAny_isTrue_Compare1 (thn (ha pins s Z H _ I h) fun v s1 ⟨x, H1, I1, r1, q1⟩ => thn (hb pins s1 Z H1 _ I1 q1) fun u s2 ⟨y, H2, I2, r2, q2⟩ =>
    thn (ho pins s2 Z H2 x y v u _ I2 r1 r2 q2) fun c s3 ⟨z, H3, I3, r3, k, e, q3⟩ => ?_) hm
  subst e
  cases r3
  exact wpAny_truthy_bool ⟨H3, I3, q3⟩
theorem line63 : (sizeLine : Nat) < 2 ^ 63 := by rw [sizeLine_eq]; decide
theorem op_add_str : OpR X (binaryOp .Add) (fun x y H Q => ∃ i j, x = .str i /\ y = .str j /\ i.length + j.length <= sizeLine /\ Q (.str (i ++ j)) H) := by
  intro pins s Z H x y v u Q I rx ry h
  obtain ⟨i, j, rfl, rfl, hz, q⟩ := h
  obtain ⟨t, rfl⟩ := rx
  obtain ⟨t', rfl⟩ := ry
  exact add_str (fun t' tk => ⟨.str (i ++ j), H, I.tok _, ⟨_, rfl⟩, q⟩) hz
def PlainIxT (b : Expr) : Prop := ∀ o i, subscripted b false o i = operate [o, i] (getItem o i)
theorem pe_item_str (ha : PE X a ta) (hb : PE X b tb) (hs : PlainIxT b) :
    PE X (.Subscript a b pos) (tOp (fun x y H Q => ∃ z i c, x = .str z /\ y = .int i /\ 0 <= i /\ i < 2 ^ 63 /\ i < z.length /\ z.cps[i.toNat]? = some c /\ Q (.str ⟨#[c]⟩) H) ta tb) := by
  intro pins s Z H Q I h
  refine Subscript_ (binT ha hb I h fun v u s2 x y H2 I2 rx ry q => ?_)
  obtain ⟨z, i, c, rfl, rfl, h0, h63, h1, hc, q⟩ := q
  obtain ⟨t, rfl⟩ := rx
  obtain ⟨t', rfl⟩ := ry
  have e : seqIndex? i z.length = some i.toNat := PySem.StrLaws.seqIndex_nonneg h0 h1
  exact tail_any (typeIs_str s2 z t) slot_str_getitem.lookup (getItem_str (c := c) (by
    have e1 : decide (i < -(2 ^ 63 : Int)) = false := xal (by omega)
    have e2 : decide (i ≥ 2 ^ 63) = false := xal (by omega)
    rw [e1, e2] <;> rfl) (by rw [e]; exact hc) ⟨.str ⟨#[c]⟩, H2, I2.tok _, ⟨_, rfl⟩, q⟩) (hs _ _)
theorem vals1 {x : V} {us : List Value} (r : Vals [x] us) : ∃ u, us = [u] /\ RelV x u := by
  cases r with
  | cons r1 r2 => cases r2; exact ⟨_, rfl, r1⟩
theorem vals2 {x y : V} {us : List Value} (r : Vals [x, y] us) : ∃ u w', us = [u, w'] /\ RelV x u /\ RelV y w' := by
  cases r with
  | cons r1 r2 =>
    cases r2 with
    | cons r3 r4 => cases r4; exact ⟨_, _, rfl, r1, r3⟩
theorem call_abs : CallR X (.builtin "abs") (fun xs H Q => ∃ i, xs = [.int i] /\ Q (.int (if i < 0 then -i else i)) H) := by
  intro pins s Z H xs us Q I r h
  obtain ⟨i, rfl, q⟩ := h
  obtain ⟨u, rfl, t, rfl⟩ := vals1 r
  exact call_abs_int fun u tk => ⟨.int (if i < 0 then -i else i), H, I.tok _, ⟨_, rfl⟩, q⟩
theorem call_max2 (hc : X.calm = true) : CallR X (.builtin "max") (fun xs H Q => ∃ i j, xs = [.int i, .int j] /\ Q (.int (if j > i then j else i)) H) := by
  intro pins s Z H xs us Q I r h
  obtain ⟨i, j, rfl, q⟩ := h
  obtain ⟨u, w', rfl, ⟨t, rfl⟩, ⟨t', rfl⟩⟩ := vals2 r
  refine max_two_ints (I.ok.hd hc) fun h' tk k => ⟨_, H, I.kept k, ?_, q⟩
  by_cases hj : j > i
  · rw [xav hj, xav hj]; exact ⟨_, rfl⟩
  · rw [xao hj, xao hj]; exact ⟨_, rfl⟩
theorem call_int1 : CallR X (.type "int") (fun xs H Q => (∃ i, xs = [.int i] /\ Q (.int i) H) \/ ∃ k, xs = [.bl k] /\ Q (.int (if k then 1 else 0)) H) := by
  intro pins s Z H xs us Q I r h
  rcases h with ⟨i, rfl, q⟩ | ⟨k, rfl, q⟩
  · obtain ⟨u, rfl, t, rfl⟩ := vals1 r
    exact call_int_int ⟨.int i, H, I, ⟨_, rfl⟩, q⟩
  · obtain ⟨u, rfl, r1⟩ := vals1 r
    cases r1
    exact call_int_bool ⟨.int (if k then 1 else 0), H, I.tok _, ⟨_, rfl⟩, q⟩
theorem call_str_int : CallR X (.type "str") (fun xs H Q => ∃ i, xs = [.int i] /\ i.natAbs.log2 < 1920 /\ Q (.str (toString i)) H) := by
  intro pins s Z H xs us Q I r h
  obtain ⟨i, rfl, hz, q⟩ := h
  obtain ⟨u, rfl, t, rfl⟩ := vals1 r
  exact PySem.P.str_of_int hz ⟨.str _, H, I.tok _, ⟨_, rfl⟩, q⟩
end
end L2
namespace L2
open PySem.Spec PyProof.Rows
theorem RelO.some_of {v : V} {o : Option Value} (r : RelO (some v) o) : ∃ u, o = some u /\ RelV v u := by
  cases o with
  | none => exact (show False from r).elim
  | some u => exact ⟨u, rfl, r⟩
end L2
namespace L2
open PySem.Spec PyProof.Rows
structure Room (k : Nat) (A : Around) : Prop where
  hd : A.handled = none
  dp : A.depth + 3 * k + 5 < recursionLimit
  un : A.units + 16 * k + 200 < cLine
theorem Room.mono {j k : Nat} {A : Around} (r : Room k A) (h : j <= k) : Room j A := ⟨r.hd, by have := r.dp; omega, by have := r.un; omega⟩
theorem Room.deeper {k : Nat} {A : Around} (r : Room (k + 1) A) (env : Env) : Room k (A.deeper env) :=
  ⟨r.hd, by have := r.dp; show A.depth + 1 + 3 * k + 5 < _; omega, by have := r.un; show A.units + 3 + 16 * k + 200 < _; omega⟩
theorem Room.depth {k : Nat} {A : Around} (r : Room k A) : A.depth < recursionLimit := by have := r.dp; omega
def tNil : TA := fun _ H Q => Q [] H
def tCons (ta : TE) (tr : TA) : TA := fun Z H Q => ta Z H fun x H1 => tr Z H1 fun xs H2 => Q (x :: xs) H2
section
variable {X : Cx} {e : Expr} {es : List Expr} {te : TE} {t : TA} {pos : Pos}
theorem pa_nil : PA X [] tNil := fun _ _ _ _ H Q I h => Calls.spliced_nil ⟨[], H, I, .nil, h⟩
theorem pa_cons (ha : PE X e te) (hr : PA X es t) (hs : starEach (e :: es) X.env = (false, eval e X.env) :: starEach es X.env := by rfl) : PA X (e :: es) (tCons te t) := by
  intro pos pins s Z H Q I h
  rw [hs]
  show wpAny _ _ (spliced ((false, eval e X.env) :: backTo pos (starEach es X.env))) _ _ s
  refine Calls.spliced_cons (thn (ha pins s Z H _ I h) fun u s1 ⟨x, H1, I1, r1, q1⟩ => ?_)
  exact thn (hr pos pins s1 Z H1 _ I1 q1) fun us s2 ⟨xs, H2, I2, r2, q2⟩ => ⟨x :: xs, H2, I2, .cons r1 r2, q2⟩
def tTup (t : TA) : TE := fun Z H Q => t Z H fun xs H1 => xs.length <= sizeLine /\ ∀ p, H1 p = none -> Q (.ref p) (upd H1 p (.tup xs))
def tLst (t : TA) : TE := fun Z H Q => t Z H fun xs H1 => xs.length <= sizeLine /\ ∀ p, H1 p = none -> Q (.ref p) (upd H1 p (.lst xs))
theorem pe_tup {x1} (h : PA X es t) : PE X (.Tuple es x1 pos) (tTup t) := by
  intro pins s Z H Q I hq
  refine wpAny_Tuple_spliced (thn (h pos pins s Z H _ I hq) fun us s1 ⟨xs, H1, I1, r, z, q⟩ => ⟨by rw [<- r.length]; exact z, ?_⟩)
  have hf : H1 s1.heap.objs.size = none := I1.hok.fresh (xam _)
  refine ⟨.ref s1.heap.objs.size, upd H1 s1.heap.objs.size (.tup xs), I1.laid (t' := s1.toks) (fun b u e => xad _ e) (xam _) ?_, rfl, q _ hf⟩
  exact ⟨z, us, r, ⟨_, xa4 _ rfl, rfl, ⟨_, rfl⟩, rfl⟩⟩
theorem pe_lst (h : PA X es t) : PE X (.List es pos) (tLst t) := by
  intro pins s Z H Q I hq
  refine wpAny_List_spliced (thn (h pos pins s Z H _ I hq) fun us s1 ⟨xs, H1, I1, r, z, q⟩ => ⟨by rw [<- r.length]; exact z, ?_⟩)
  have hf : H1 s1.heap.objs.size = none := I1.hok.fresh (xam _)
  refine ⟨.ref s1.heap.objs.size, upd H1 s1.heap.objs.size (.lst xs), I1.laid (t' := s1.toks) (fun b u e => xad _ e) (xam _) ?_, rfl, q _ hf⟩
  exact ⟨z, us, 0, r, xa4 _ rfl⟩
end
abbrev Sp := List V -> Hp -> VK -> XK -> Prop
abbrev CXT := List Env -> Hp -> Shared -> XK -> Value -> Shared -> Prop
structure Env0 (P : Program) (w : World) (K : xFg) (mg : Str -> Option Value) (base : Heap) (A : Around) (outer : List Env) (s : Shared) (H : Hp) : Prop where
  frames : A.frames = some outer
  mod : Mod K mg base
  bs : ∀ b o, base.get? b = some o -> s.heap.get? b = some o /\ H b = none
  bsz : base.objs.size <= s.heap.objs.size
  funs : s.heap.FunFrames base outer
  frf : ∀ b ∈ frs outer, H b = none
  hok : HOk P w H s.heap
  bare : AllBare s.gens
def CE (outer : List Env) (P : Program) (w : World) (H : Hp) (s : Shared) (Q : VK) (u : Value) (s' : Shared) : Prop :=
  ∃ v H', s'.os = s.os /\ AllBare s'.gens /\ Un (frs outer) [] H H' s.heap s'.heap /\ HOk P w H' s'.heap /\ RelV v u /\ Q v H'
def CR (CX : CXT) (outer : List Env) (P : Program) (w : World) (H : Hp) (s : Shared) (Q : VK) (E : XK) (r : Result) (s' : Shared) : Prop :=
  match r with
  | .ok (.ret u) => CE outer P w H s Q u s'
  | .ok _ => False
  | .error e => CX outer H s E e s'
structure FnOk (P : Program) (w : World) (K : xFg) (mg : Str -> Option Value) (base : Heap) (CX : CXT) (k : Nat) (f : Addr) (fd : FuncData) (ps : List Str) (sp : Sp) : Prop where
  len : ∀ vs H Q E, sp vs H Q E -> vs.length = ps.length
  run : ∀ (A : Around) (outer : List Env) (s : Shared) (H : Hp) (args : Args) (us : List Value) (vs : List V) (Q : VK) (E : XK), Room k A -> Env0 P w K mg base A outer s H -> BindsTo s fd args (ps.zip us) -> Vals vs us -> sp vs H Q E ->
    codeAny (model P w) A (.call (.ref f) args) (CR CX outer P w H s Q E) s
theorem FnOk.mono {P : Program} {w : World} {K : xFg} {mg : Str -> Option Value} {base : Heap} {CX : CXT} {j k : Nat} {f : Addr} {fd : FuncData} {ps : List Str} {sp : Sp} (F : FnOk P w K mg base CX j f fd ps sp) (h : j <= k) :
    FnOk P w K mg base CX k f fd ps sp := ⟨F.len, fun A outer s H args us vs Q E hr => F.run A outer s H args us vs Q E (hr.mono h)⟩
theorem FnOk.imp {P : Program} {w : World} {K : xFg} {mg : Str -> Option Value} {base : Heap} {CX : CXT} {k : Nat} {f : Addr} {fd : FuncData} {ps : List Str} {sp sp' : Sp} (F : FnOk P w K mg base CX k f fd ps sp)
    (h : ∀ vs H Q E, sp' vs H Q E -> sp vs H Q E) : FnOk P w K mg base CX k f fd ps sp' :=
  ⟨fun vs H Q E q => F.len vs H Q E (h _ _ _ _ q), fun A outer s H args us vs Q E hr he hb hv hs => F.run A outer s H args us vs Q E hr he hb hv (h _ _ _ _ hs)⟩
section
variable {X : Cx} {pins : List (Addr × Obj)} {Z : St} {H : Hp} {s s' : Shared}
theorem Inv.env0 (I : Inv X pins Z H s) : Env0 X.prog X.w X.K X.mg X.base X.A X.stack s H :=
  ⟨I.ok.frames, I.ok.mod, I.bs, xa1 I.ok.bsz I.sz, I.stack, I.stkFree, I.hok, I.bare⟩
theorem Inv.after {Q : VK} {u : Value} (I : Inv X pins Z H s) (h : CE X.stack X.prog X.w H s Q u s') : EP X pins Z Q u s' := by
  obtain ⟨v, H', os, bare, un, hok, r, q⟩ := h
  obtain ⟨hh, g, d, t, os'⟩ := s'
  obtain rfl : os' = s.os := os
  exact ⟨v, H', I.call (h' := hh) (g' := g) (d' := d) (t' := t) (ch := []) un hok bare (fun b z => xak z (by simp)), r, q⟩
end
def tCall (sp : Sp) (dvs : List V) (E : XK) (t : TA) : TE := fun Z H Q => t Z H fun vs H1 => sp (vs ++ dvs) H1 Q E
def Binds (K : xFg) (fd : FuncData) (ps : List Str) (ds : List Value) : Prop :=
  ∀ (s : Shared) (us : List Value), K.In s.heap -> (us ++ ds).length = ps.length -> BindsTo s fd ⟨us, []⟩ (ps.zip (us ++ ds))
theorem Binds.all {K : xFg} {fd : FuncData} {ps : List Str} (h : ∀ us : List Value, us.length = ps.length -> bindArgs fd ⟨us, []⟩ = pure (ps.zip us)) : Binds K fd ps [] := fun s us _ hl => by
  rw [xbm] at hl ⊢
  exact .of_eq (h us hl)
def Passes (CX : CXT) (X : Cx) (E : XK) : Prop := ∀ (pins : List (Addr × Obj)) (Z : St) (H : Hp) (s : Shared) (e : Value) (s' : Shared), Inv X pins Z H s -> CX X.stack H s E e s' -> X.xe e s'
section
variable {X : Cx} {CX : CXT} {k : Nat} {f C : Addr} {fd : FuncData} {ps : List Str} {sp : Sp} {dvs : List V} {ds : List Value} {E : XK} {x m : Str} {p pos apos : Pos} {e o : Expr} {es : List Expr} {ta : TE} {t : TA}
theorem run_fn {pins : List (Addr × Obj)} {Z : St} {H : Hp} {s : Shared} {Q : VK} {us : List Value} {vs : List V} (F : FnOk X.prog X.w X.K X.mg X.base CX k f fd ps sp) (hr : Room k X.A) (hb : Binds X.K fd ps ds) (hd : Vals dvs ds) (hx : Passes CX X E)
    (I : Inv X pins Z H s) (r : Vals vs us) (h : sp (vs ++ dvs) H Q E) : wpAny (model X.prog X.w) X.A (call (.ref f) us) (EP X pins Z Q) X.xe s := by
  have r2 : Vals (vs ++ dvs) (us ++ ds) := r.append hd
  have hl : (us ++ ds).length = ps.length := by rw [<- r2.length]; exact F.len _ _ _ _ h
  refine wpAny_call (codeAny_mono (F.run X.A X.stack s H ⟨us, []⟩ (us ++ ds) (vs ++ dvs) Q E hr I.env0 (hb s us I.kIn hl) r2 h) fun r s' hq => ?_)
  cases r with
  | error e => exact hx pins Z H s e s' I hq
  | ok fl =>
    cases fl with
    | ret u => exact I.after hq
    | next => exact False.elim hq
    | brk => exact False.elim hq
    | cont => exact False.elim hq
theorem pe_call (F : FnOk X.prog X.w X.K X.mg X.base CX k f fd ps sp) (hr : Room k X.A) (hg : Gl X x) (hm : X.mg x = some (.ref f)) (hk : PySem.W.keepIn X.K (.ref f) = true) (hb : Binds X.K fd ps ds) (hd : Vals dvs ds) (hx : Passes CX X E)
    (ha : PA X (e :: es) t) (hdb : (x == ("__debug__" : Str)) = false := by decide) (he : starEach (e :: es) X.env = (false, eval e X.env) :: starEach es X.env := by rfl) (hpl : (backTo pos (starEach es X.env)).any (·.1) = false := by rfl) :
    PE X (.Call (.Name x p) (e :: es) [] pos) (tCall sp dvs E t) := by
  intro pins s Z H Q I h
  refine wpAny_Call_Name_kw (ld_glob I hg hm ?_ hdb)
  refine PySem.W.callWith_K (h₀ := X.base) I.ok.mod.kin hk (thn (ha pos pins s Z H _ I h) fun us s1 ⟨vs, H1, I1, r, q⟩ => ⟨I1.kIn, ?_⟩) he hpl
  exact run_fn F hr hb hd hx I1 r q
end
structure FnScope (N P : List Str) (sc : Scope) : Prop where
  kind : sc.kind = .function
  co : sc.isCoroutine = false
  gen : sc.isGenerator = false
  nd : N.Nodup
  pre : N.take P.length = P
  par : ∀ x ∈ P, sc.names.lookup x = some .local \/ sc.names.lookup x = some .cell
  nofree : ∀ y ∈ sc.names, y.2 ≠ .free
theorem bindL_out {kindOf : Str -> Option NameKind} {x : Str} : ∀ {binds : List (Str × Value)} {m : Str -> Option Value}, (∀ v, (x, v) ∉ binds) -> bindL kindOf binds m x = m x
  | [], _, _ => rfl
  | (n, v) :: r, m, h => by
    unfold bindL
    rw [bindL_out fun w hw => h w (xaq _ hw)]
    split
    · have : x ≠ n := by rintro rfl; exact h v xa3
      simp [this]
    · rfl
theorem bindC_out {kindOf : Str -> Option NameKind} {x : Str} : ∀ {binds : List (Str × Value)} {m : Str -> Option Value}, (∀ v, (x, v) ∉ binds) -> bindC kindOf binds m x = m x
  | [], _, _ => rfl
  | (n, v) :: r, m, h => by
    unfold bindC
    rw [bindC_out fun w hw => h w (xaq _ hw)]
    split
    · rfl
    · have : x ≠ n := by rintro rfl; exact h v xa3
      simp [this]
theorem bindL_get {kindOf : Str -> Option NameKind} {x : Str} {v : Value} : ∀ {P : List Str} {vs : List Value} {i : Nat} {m : Str -> Option Value}, P.Nodup -> P[i]? = some x -> vs[i]? = some v -> kindOf x = some .local ->
    bindL kindOf (P.zip vs) m x = some v
  | [], _, _, _, _, h, _, _ => by simp at h
  | _ :: _, [], _, _, _, _, h, _ => by simp at h
  | p :: P, w :: vs, 0, m, nd, h1, h2, hk => by
    simp at h1 h2; subst h1; subst h2
    show bindL kindOf ((p, w) :: P.zip vs) m p = _
    unfold bindL
    rw [bindL_out fun v hv => (xbz.mp nd).1 (List.of_mem_zip hv).1, xav hk]
    simp
  | p :: P, w :: vs, i + 1, m, nd, h1, h2, hk => by
    show bindL kindOf ((p, w) :: P.zip vs) m x = _
    unfold bindL
    exact bindL_get (i := i) (xbz.mp nd).2 (by simpa using h1) (by simpa using h2) hk
theorem bindC_get {kindOf : Str -> Option NameKind} {x : Str} {v : Value} : ∀ {P : List Str} {vs : List Value} {i : Nat} {m : Str -> Option Value}, P.Nodup -> P[i]? = some x -> vs[i]? = some v -> kindOf x ≠ some .local ->
    bindC kindOf (P.zip vs) m x = some v
  | [], _, _, _, _, h, _, _ => by simp at h
  | _ :: _, [], _, _, _, _, h, _ => by simp at h
  | p :: P, w :: vs, 0, m, nd, h1, h2, hk => by
    simp at h1 h2; subst h1; subst h2
    show bindC kindOf ((p, w) :: P.zip vs) m p = _
    unfold bindC
    rw [bindC_out fun v hv => (xbz.mp nd).1 (List.of_mem_zip hv).1, xao hk]
    simp
  | p :: P, w :: vs, i + 1, m, nd, h1, h2, hk => by
    show bindC kindOf ((p, w) :: P.zip vs) m x = _
    unfold bindC
    exact bindC_get (i := i) (xbz.mp nd).2 (by simpa using h1) (by simpa using h2) hk
def start (N : List Str) (vs : List V) : St := vs.map some ++ List.replicate (N.length - vs.length) none
def cxOf (CX : CXT) (P : Program) (w : World) (K : xFg) (mg : Str -> Option Value) (base : Heap) (N : List Str) (qual : Str) (scope : Scope) (f : Addr) (cd : Value) (A : Around) (outer : List Env) (s : Shared) (H : Hp) (E : XK) : Cx where
  prog := P
  w := w
  K := K
  mg := mg
  base := base
  A := A.deeper (envOfC qual scope s.heap.objs.size f cd)
  N := N
  s₀ := s
  H₀ := H
  env := envOfC qual scope s.heap.objs.size f cd
  outer := outer
  stack := envOfC qual scope s.heap.objs.size f cd :: outer
  ex := []
  calm := true
  fn := fun _ => true
  pn := []
  xe := fun e s' => wpAny (model P w) (A.deeper (envOfC qual scope s.heap.objs.size f cd)) (leaving (envOfC qual scope s.heap.objs.size f cd) e) (fun _ s'' => CX outer H s E e s'') (fun e' s'' => CX outer H s E e' s'') s'
theorem cell_has {sc : Scope} {n : Nat} {x : Str} (h : sc.names.lookup x = some .cell) : ∃ c, (cellsFrom n sc.names []).lookup x = some c := by
  have q := PySem.W.cellsFrom_some sc.names n [] (.inl h)
  exact xbi.mp q
theorem inv_start {CX : CXT} {P : Program} {w : World} {K : xFg} {mg : Str -> Option Value} {base : Heap} {N ps : List Str} {qual : Str} {scope : Scope} {f : Addr} {cd : Value} {A : Around} {outer : List Env} {s s1 : Shared} {H : Hp} {E : XK} {us : List Value} {vs : List V}
    (S : FnScope N ps scope) (hd : A.handled = none) (e0 : Env0 P w K mg base A outer s H) (hl : vs.length = ps.length) (r : Vals vs us)
    (x : InCallC s s.heap.objs.size (bindL (envOfC qual scope s.heap.objs.size f cd).kindOf (ps.zip us) fun _ => none) (cellsFrom (s.heap.objs.size + 1) scope.names []) (bindC (envOfC qual scope s.heap.objs.size f cd).kindOf (ps.zip us) fun _ => none) s1) :
    Inv (cxOf CX P w K mg base N qual scope f cd A outer s H E) [] (start N vs) H s1 := by
  have hpl : ps.length <= N.length := by have := congrArg List.length S.pre; rw [xbj] at this; omega
  obtain ⟨h1, tk, rfl, hk⟩ := x.done
  have noA : ∀ b : Addr, b ∉ (cxOf CX P w K mg base N qual scope f cd A outer s H E).ex := fun b z => xak (show b ∈ ([] : List Addr) from z) (by simp)
  refine ⟨⟨e0.mod, S.kind, rfl, rfl, xam _, fun y z c h1 h2 => ?_, fun y hy => ?_, fun y c _ h => ?_, fun _ => hd, Around.frames_deeper e0.frames, .inr ⟨rfl, rfl⟩, fun b z => xak z (noA b), e0.bs, e0.bsz, fun b _ _ => noA b, fun b z => xak z (noA b), e0.funs, e0.frf⟩,
    rfl, e0.bare, Un.kept hk, ⟨_, x.toInCall.ns, fun i y v h1 h2 h3 => ?_⟩, fun y c h => ⟨_, x.cell y c h⟩, e0.hok.fresh (xam _), fun y c h => ?_, fun p hp => xak (show p ∈ ([] : List (Addr × Obj)) from hp) (by simp), e0.hok.kept hk, ?_⟩
  · exact name_of_addr x.apart (PySem.mem_of_lookup h1) (PySem.mem_of_lookup h2)
  · have hy : scope.names.lookup y = some .cell \/ scope.names.lookup y = some .free := hy
    rcases hy with hy | hy
    · exact cell_has hy
    · exact xak rfl (S.nofree _ (PySem.mem_of_lookup hy))
  · exact xb2 (x.above y c (PySem.mem_of_lookup h))
  · have hi : i < vs.length := by
      unfold start at h2
      by_cases hi : i < vs.length
      · exact hi
      · rw [List.getElem?_append_right (by simpa using hi)] at h2
        rw [xb5] at h2
        split at h2 <;> cases h2
    have ha : vs[i]? = some v := by
      unfold start at h2
      rw [xb0 (by simpa using hi), xa2] at h2
      cases e : vs[i]? with
      | none => rw [e] at h2; cases h2
      | some a => rw [e] at h2; cases h2; rfl
    obtain ⟨u, hu, rv⟩ := r.get ha
    have hp : ps[i]? = some y := by
      rw [<- S.pre, List.getElem?_take_of_lt (by omega)]; exact h1
    have ndP : ps.Nodup := by rw [<- S.pre]; exact S.nd.sublist (List.take_sublist _ _)
    refine ⟨u, rv, ?_⟩
    rcases S.par y (xbv hp) with k | k
    · exact .inl ⟨k, bindL_get ndP hp hu k⟩
    · obtain ⟨c, e⟩ := cell_has (n := s.heap.objs.size + 1) k
      refine .inr ⟨.inl k, c, e, ?_⟩
      have q := x.cell y c e
      rw [bindC_get ndP hp hu (by show scope.names.lookup y ≠ _; rw [k]; decide)] at q
      exact q
  · exact e0.hok.fresh (xb2 (x.above y c (PySem.mem_of_lookup h)))
  · unfold start
    show _ = N.length
    rw [xat, xar, xb8]
    omega
theorem fn_of {CX : CXT} {P : Program} {w : World} {K : xFg} {mg : Str -> Option Value} {base : Heap} {k : Nat} {f : Addr} {name qual : Str} {params : Arguments} {body : List Stmt} {scope : Scope} {dV kV doc pm cdv ct oc : Value} {an od : Option Addr}
    {osl : Array (Option Value)} {N ps : List Str} {sp : Sp} (lk : K.lookup f = some ⟨oc, od, .func (PySem.W.fnOf name qual params body scope dV kV doc pm an cdv ct), osl⟩) (hcd : PySem.W.codeIn K cdv qual = true) (S : FnScope N ps scope)
    (len : ∀ vs H Q E, sp vs H Q E -> vs.length = ps.length)
    (hbody : ∀ (A : Around) (outer : List Env) (s : Shared) (H : Hp) (vs : List V) (Q : VK) (E : XK), Room k (A.deeper (envOfC qual scope s.heap.objs.size f cdv)) -> sp vs H Q E ->
      ∃ t, PSs (cxOf CX P w K mg base N qual scope f cdv A outer s H E) body t /\ t { nx := fun _ H' => Q .non H', rt := Q } (start N vs) H) :
    FnOk P w K mg base CX (k + 1) f (PySem.W.fnOf name qual params body scope dV kV doc pm an cdv ct) ps sp := by
  refine ⟨len, fun A outer s H args us vs Q E hr e0 hb r hsp => ?_⟩
  have hl := len _ _ _ _ hsp
  have KX : K.In s.heap := e0.mod.kin.keeps fun b o e => (e0.bs b o e).1
  have lim : s.heap.NoLimit := e0.mod.nolimit.keeps fun b o e => (e0.bs b o e).1
  have hkind : ∀ y ∈ ps.zip us, scope.names.lookup y.1 = some .local \/ (scope.names.lookup y.1 = some .cell /\ ((cellsFrom (s.heap.objs.size + 1) scope.names []).lookup y.1).isSome = true) := fun ⟨n, v⟩ hy => by
    rcases S.par n (List.of_mem_zip hy).1 with q | q
    · exact .inl q
    · exact .inr ⟨q, PySem.W.cellsFrom_some _ _ _ (.inl q)⟩
  refine codeAny_call_function hr.depth (KX _ _ lk) rfl S.co S.gen rfl (PySem.W.codeRec_of KX hcd) (hb _ _ _ _ ?_)
  refine wpAny_newFunctionEnv_cells S.kind hkind fun env he s1 x => ?_
  subst he
  refine ⟨lim.keeps x.toInCall.keep, codeAny_func ?_⟩
  obtain ⟨t, ht, hq⟩ := hbody A outer s H vs Q E (hr.deeper _) hsp
  have I : Inv (cxOf CX P w K mg base N qual scope f cdv A outer s H E) [] (start N vs) H s1 := inv_start S hr.hd e0 hl r x
  refine wpAny_mono (ht [] s1 (start N vs) H _ I hq) (fun fl s' hs => ?_) fun e s' hs => hs
  have fin : ∀ {Z' : St} {H' : Hp} {v : V} {u : Value}, Inv (cxOf CX P w K mg base N qual scope f cdv A outer s H E) [] Z' H' s' -> RelV v u -> Q v H' -> CE outer P w H s Q u s' :=
    fun {Z' H' v u} J rv q => ⟨v, H', J.os, J.bare, J.base, J.hok, rv, q⟩
  cases fl with
  | ret u =>
    obtain ⟨v, Z', H', J, rv, q⟩ := hs
    exact fin J rv q
  | next =>
    obtain ⟨Z', H', J, q⟩ := hs
    exact fin (v := V.non) (u := Value.none) J rfl q
  | brk =>
    obtain ⟨_, _, _, q⟩ := hs
    exact False.elim q
  | cont =>
    obtain ⟨_, _, _, q⟩ := hs
    exact False.elim q
end L2
namespace L2
open PySem.Spec PyProof.Rows
section
variable {X : Cx} {x : Str} {p pos : Pos} {e : Expr} {es : List Expr} {t : TA} {id T : String} {r : List V -> Hp -> VK -> Prop}
def tCB (r : List V -> Hp -> VK -> Prop) (t : TA) : TE := fun Z H Q => t Z H fun vs H1 => r vs H1 Q
theorem pe_callB (hc : CallR X (.builtin id) r) (hg : Gl X x) (hm : X.mg x = none) (hv : bootBuiltins x = some (.builtin id)) (ha : PA X (e :: es) t) (hn : x ≠ "__name__" := by decide) (hdb : (x == ("__debug__" : Str)) = false := by decide)
    (he : starEach (e :: es) X.env = (false, eval e X.env) :: starEach es X.env := by rfl) (hpl : (backTo pos (starEach es X.env)).any (·.1) = false := by rfl) : PE X (.Call (.Name x p) (e :: es) [] pos) (tCB r t) := by
  intro pins s Z H Q I h
  refine wpAny_Call_Name_kw (ld_blt I hg hm hv ?_ hn hdb)
  exact PyProof.Rows.callWith_builtin1 (thn (ha pos pins s Z H _ I h) fun us s1 ⟨vs, H1, I1, r1, q1⟩ => hc pins s1 Z H1 vs us Q I1 r1 q1) he hpl
theorem pe_callTy (hc : CallR X (.type T) r) (hg : Gl X x) (hm : X.mg x = none) (hv : bootBuiltins x = some (.type T)) (ha : PA X (e :: es) t) (hn : x ≠ "__name__" := by decide) (hdb : (x == ("__debug__" : Str)) = false := by decide)
    (he : starEach (e :: es) X.env = (false, eval e X.env) :: starEach es X.env := by rfl) (hpl : (backTo pos (starEach es X.env)).any (·.1) = false := by rfl) : PE X (.Call (.Name x p) (e :: es) [] pos) (tCB r t) := by
  intro pins s Z H Q I h
  refine wpAny_Call_Name_kw (ld_blt I hg hm hv ?_ hn hdb)
  exact PyProof.Rows.callWith_type1 (thn (ha pos pins s Z H _ I h) fun us s1 ⟨vs, H1, I1, r1, q1⟩ => hc pins s1 Z H1 vs us Q I1 r1 q1) he hpl
end
end L2
namespace HT
open PyProof.Rows
section
variable {prog : Program} {w : World} {A : Around} {E : Value -> Shared -> Prop} {s : Shared}
theorem cat_tup {t b : Addr} {vs ws : List Value} {Q : Value -> Shared -> Prop} (ht : IsTup s.heap t vs.toArray) (hb : IsTup s.heap b ws.toArray) (hv : vs ≠ [])
    (h1 : ws = [] -> Q (.ref t) s) (h2 : ws ≠ [] -> Q (.ref s.heap.objs.size) { s with heap := s.heap.push { cls := .type "tuple", data := .seq (vs ++ ws).toArray } })
    (hsz : vs.length + ws.length <= sizeLine) : wpAny (model prog w) A (binaryOp .Add (.ref t) (.ref b)) Q E s := by
  obtain ⟨⟨cls, dd, data, sl⟩, ho, hc, n, hd⟩ := id ht
  obtain ⟨⟨cls2, dd2, data2, sl2⟩, ho2, hc2, n2, hd2⟩ := id hb
  simp only at hc hd hc2 hd2
  subst hc hd hc2 hd2
  have e : vs.toArray ++ ws.toArray = (vs ++ ws).toArray := by simp
  by_cases hw : ws = []
  · exact concat_meets ⟨_, ho, rfl⟩ ⟨_, ho2, rfl⟩ noFill_tuple_add seq_tuple_add PySem.F.slot_tuple_add PySem.F.entry_tuple_add (PySem.F.args_tuple_add_2 _ _)
      (tuple_addW1 t b vs.toArray ws.toArray n n2 dd dd2 sl sl2 (by simpa using hv) (by simp [hw])) ⟨ho, ho2, h1 hw⟩
  · refine concat_meets ⟨_, ho, rfl⟩ ⟨_, ho2, rfl⟩ noFill_tuple_add seq_tuple_add PySem.F.slot_tuple_add PySem.F.entry_tuple_add (PySem.F.args_tuple_add_2 _ _)
      (tuple_addW2 t b vs.toArray ws.toArray n n2 dd dd2 sl sl2 (by simpa using hv) (by simpa using hw) (by rw [xag, xag]; exact hsz)) ⟨ho, ho2, ?_⟩
    rw [e]
    exact h2 hw
def sIx (n d : Nat) : Option Int -> Nat
  | none => d
  | some v => if v < 0 then (v + (n : Int)).toNat else min v.toNat n
theorem sIx_none (n d : Nat) : sIx n d none = d := rfl
theorem sIx_nat (n d k : Nat) : sIx n d (some (k : Int)) = min k n := by
  show (if (k : Int) < 0 then ((k : Int) + (n : Int)).toNat else min (k : Int).toNat n) = min k n
  rw [xao (by omega), Int.toNat_natCast]
theorem sIx_le (n d : Nat) (hd : d <= n) (o : Option Int) : sIx n d o <= n := by
  cases o with
  | none => exact hd
  | some v =>
    show (if v < 0 then (v + (n : Int)).toNat else min v.toNat n) <= n
    by_cases hv : v < 0
    · rw [xav hv]; omega
    · rw [xao hv]; exact Nat.min_le_right _ _
theorem clip_eq (v : Int) (n d : Nat) : (if v < 0 then max (v + (n : Int)) 0 else min v (n : Int)) = ((sIx n d (some v) : Nat) : Int) := by
  show (if v < 0 then max (v + (n : Int)) 0 else min v (n : Int)) = (((if v < 0 then (v + (n : Int)).toNat else min v.toNat n) : Nat) : Int)
  by_cases hv : v < 0
  · simp only [xav hv]; omega
  · simp only [xao hv]; omega
theorem adjust_gen (lo hi : Option Int) (n : Nat) : Builtin.Slice.sliceAdjust lo hi 1 (n : Int) = (((sIx n 0 lo : Nat) : Int), ((sIx n n hi : Nat) : Int)) := by
  have h1 : ¬ ((1 : Int) < 0) := by omega
  unfold Builtin.Slice.sliceAdjust
  simp only [h1, if_false]
  refine Prod.ext ?_ ?_
  · cases lo with
    | none => rfl
    | some v => exact clip_eq v n 0
  · cases hi with
    | none => rfl
    | some v => exact clip_eq v n n
theorem places_gen (i j : Nat) : Builtin.Slice.slicePlaces (i : Int) (j : Int) 1 = j - i := by
  unfold Builtin.Slice.slicePlaces
  have h1 : (1 : Int) > 0 := by omega
  simp only [h1, if_true, Int.ediv_one]
  split <;> omega
theorem slicePart_ {v : Value} {o : Option Int} {Q : Option Int -> Shared -> Prop} (p : IsPart v o) (h : Q o s) : wpAny (model prog w) A (Builtin.Slice.slicePartIndex v) Q E s := by
  cases p with
  | none => exact slicePart_none h
  | int i t => exact slicePart_int h
theorem sliceApplied_gen {sl : Addr} {vl vu : Value} {lo hi : Option Int} {n : Nat} {Q : Int × Int × Nat -> Shared -> Prop} (hs : s.heap.IsSliceOf sl vl vu .none) (pl : IsPart vl lo) (pu : IsPart vu hi)
    (h : Q (((sIx n 0 lo : Nat) : Int), 1, sIx n n hi - sIx n 0 lo) s) : wpAny (model prog w) A (Builtin.Slice.sliceApplied (.ref sl) (pure (n : Int))) Q E s := by
  obtain ⟨os, hos, hcs, hds⟩ := id hs
  unfold Builtin.Slice.sliceApplied Builtin.Slice.sliceFields
  refine xaa (xaa (wpAny_field hos hds (x := vl) rfl (xaa (wpAny_field hos hds (x := vu) rfl (xaa (wpAny_field hos hds (x := .none) rfl (xaj ?_)))))))
  refine xaa (slicePart_none ?_)
  show wpAny _ _ (if ((1 : Int) == 0) = true then _ else _) _ _ s
  rw [xao (by decide)]
  refine xaa (slicePart_ pl (xaa (slicePart_ pu (xaa (xaj ?_)))))
  show wpAny _ _ (match Builtin.Slice.sliceAdjust lo hi 1 (n : Int) with | (lo, hi) => pure (lo, (1 : Int), Builtin.Slice.slicePlaces lo hi 1)) _ _ s
  rw [adjust_gen lo hi n]
  show wpAny _ _ (pure (((sIx n 0 lo : Nat) : Int), (1 : Int), Builtin.Slice.slicePlaces ((sIx n 0 lo : Nat) : Int) ((sIx n n hi : Nat) : Int) 1)) _ _ s
  rw [places_gen]
  exact xaj h
theorem pick_gen (xs : Array Value) (i k : Nat) : ((List.range k).filterMap fun (m : Nat) => xs[((i : Int) + (m : Int) * 1).toNat]?).toArray = ((xs.toList.drop i).take k).toArray := by
  have e : (fun (m : Nat) => xs[((i : Int) + (m : Int) * 1).toNat]?) = fun m => xs[i + m]? := by
    funext m
    have : ((i : Int) + (m : Int) * 1).toNat = i + m := by omega
    rw [this]
  rw [e]
  have := pick_run xs i k
  rw [List.filterMap_map] at this
  have e2 : ((fun x => xs[x]?) ∘ fun x => i + x) = fun m => xs[i + m]? := rfl
  rw [e2] at this
  rw [this]
theorem getItem_tuple_cut {t sl : Addr} {items : Array Value} {vl vu : Value} {lo hi : Option Int} {Q : Value -> Shared -> Prop} (ht : IsTup s.heap t items) (hs : s.heap.IsSliceOf sl vl vu .none) (pl : IsPart vl lo) (pu : IsPart vu hi)
    (hw : ¬ (sIx items.size 0 lo = 0 /\ sIx items.size items.size hi = items.size))
    (h : Q (.ref s.heap.objs.size) { s with heap := s.heap.push { cls := .type "tuple", data := .seq ((items.toList.drop (sIx items.size 0 lo)).take (sIx items.size items.size hi - sIx items.size 0 lo)).toArray } })
    (hsz : items.size <= sizeLine) : wpAny (model prog w) A (getItem (.ref t) (.ref sl)) Q E s := by
  have htake : sizeOk (.seq ((items.toList.drop (sIx items.size 0 lo)).take (sIx items.size items.size hi - sIx items.size 0 lo)).toArray) := by
    show ((items.toList.drop (sIx items.size 0 lo)).take (sIx items.size items.size hi - sIx items.size 0 lo)).toArray.size <= sizeLine
    rw [xag, xbj, List.length_drop, xby]
    omega
  have hj : sIx items.size items.size hi <= items.size := sIx_le _ _ (xam _) hi
  obtain ⟨os, hos, hcs, hds⟩ := id hs
  have hTs : s.TypeIs (.ref sl) "slice" := ⟨os, hos, hcs⟩
  unfold getItem
  try with_reducible refine wpAny_holding ?_
  first | refine xaa (xaj ?_) | skip
  refine xaa (wpAny_sequenceKey ht.typeIs (by decide) ?_)
  refine xaa (wpAny_callSpecial?_slot (name := Str.ofString "__getitem__") ht.typeIs PyProof.Rows.slot_tuple_getitem
    (wpAny_call_entry PyProof.Rows.slot_tuple_getitem ht.typeIs entry_tuple_getitem ?_ (args_tuple_getitem _ _)))
  show wpAny _ _ (Builtin.Tuple.tupleItemsOf (.ref t) >>= _) _ _ s
  refine xaa (tupleItemsOf_ ht ?_)
  refine xaa (wpAny_typeOf hTs ?_)
  rw [xav (by decide)]
  refine xaa (sliceApplied_gen hs pl pu ?_)
  have hno : ¬ ((((sIx items.size 0 lo : Nat) : Int) == 0 && (1 : Int) == 1 && (sIx items.size items.size hi - sIx items.size 0 lo) == items.size) = true) := by
    intro q
    rw [xau, xau] at q
    have q1 : ((sIx items.size 0 lo : Nat) : Int) = 0 := eq_of_beq q.1.1
    have q2 : sIx items.size items.size hi - sIx items.size 0 lo = items.size := eq_of_beq q.2
    exact hw ⟨by omega, by omega⟩
  show wpAny _ _ (if (((sIx items.size 0 lo : Nat) : Int) == 0 && (1 : Int) == 1 && (sIx items.size items.size hi - sIx items.size 0 lo) == items.size) = true then _ else _) _ _ s
  rw [xao hno, pick_gen]
  first
    | exact xaa (m := Builtin.Tuple.tupleExact _) (wpAny_newObj_type (xaj ⟨_, rfl, xaj h⟩) htake)
    | exact xaa (m := Builtin.Tuple.tupleExact _) (wpAny_newObj_type (xaa (xaj (xaj ⟨_, rfl, xaj h⟩))) htake)
    | exact xaa (xaa (m := Builtin.Tuple.tupleExact _) (wpAny_newObj_type (xaj (xaj ⟨_, rfl, xaj h⟩)) htake))
    | exact xaa (xaa (m := Builtin.Tuple.tupleExact _) (wpAny_newObj_type (xaj ⟨_, rfl, xaj h⟩) htake))
end
end HT
namespace L2
open PySem.Spec PyProof.Rows
abbrev TO := St -> Hp -> (Option Int -> Hp -> Prop) -> Prop
def PO (X : Cx) (e : Option Expr) (t : TO) : Prop :=
  ∀ (pins : List (Addr × Obj)) (s : Shared) (Z : St) (H : Hp) (Q : Option Int -> Hp -> Prop), Inv X pins Z H s -> t Z H Q ->
    wpAny (model X.prog X.w) X.A (evalPart e X.env) (fun u s' => ∃ o H', Inv X pins Z H' s' /\ IsPart u o /\ Q o H') X.xe s
def tNoPart : TO := fun _ H Q => Q none H
def tPart (t : TE) : TO := fun Z H Q => t Z H fun x H1 => ∃ i, x = .int i /\ Q (some i) H1
section
variable {X : Cx} {e : Expr} {te : TE} {lo hi : Option Expr} {tl th : TO} {pos p2 : Pos}
theorem po_none : PO X none tNoPart := by
  intro pins s Z H Q I h
  rw [evalPart_none]
  exact xaj ⟨none, H, I, .none, h⟩
theorem po_some (h : PE X e te) : PO X (some e) (tPart te) := by
  intro pins s Z H Q I hw
  rw [evalPart_some]
  refine thn (h pins s Z H _ I hw) fun u s1 ⟨x, H1, I1, r1, q1⟩ => ?_
  obtain ⟨i, rfl, q⟩ := q1
  obtain ⟨t, rfl⟩ := r1
  exact ⟨some i, H1, I1, .int i t, q⟩
def SlR (X : Cx) (r : V -> Option Int -> Option Int -> Hp -> VK -> Prop) : Prop :=
  ∀ (pins : List (Addr × Obj)) (s : Shared) (Z : St) (H : Hp) (x : V) (v vl vu : Value) (lo hi : Option Int) (sl : Addr) (Q : VK), Inv X pins Z H s -> RelV x v -> s.heap.IsSliceOf sl vl vu .none -> IsPart vl lo -> IsPart vu hi -> r x lo hi H Q ->
    ∃ T id, typeLookup (.type T) "__getitem__" = pure (some (.builtin id)) /\ s.TypeIs v T /\ wpAny (model X.prog X.w) X.A (getItem v (.ref sl)) (EP X pins Z Q) X.xe s
theorem SlR.or {r r' : V -> Option Int -> Option Int -> Hp -> VK -> Prop} (h : SlR X r) (h' : SlR X r') : SlR X (fun x lo hi H Q => r x lo hi H Q \/ r' x lo hi H Q) := by
  intro pins s Z H x v vl vu lo hi sl Q I rx hs pl pu q
  rcases q with q | q
  · exact h pins s Z H x v vl vu lo hi sl Q I rx hs pl pu q
  · exact h' pins s Z H x v vl vu lo hi sl Q I rx hs pl pu q
def tSl (r : V -> Option Int -> Option Int -> Hp -> VK -> Prop) (te : TE) (tl th : TO) : TE := fun Z H Q => te Z H fun x H1 => tl Z H1 fun l H2 => th Z H2 fun u H3 => r x l u H3 Q
theorem pe_slice {r : V -> Option Int -> Option Int -> Hp -> VK -> Prop} (hr : SlR X r) (he : PE X e te) (hl : PO X lo tl) (hu : PO X hi th) : PE X (.Subscript e (.Slice lo hi none p2) pos) (tSl r te tl th) := by
  intro pins s Z H Q I h
  refine Subscript_ (thn (he pins s Z H _ I h) fun v s1 ⟨x, H1, I1, r1, q1⟩ => ?_)
  refine wpAny_Slice (thn (hl pins s1 Z H1 _ I1 q1) fun vl s2 ⟨l, H2, I2, pl, q2⟩ => thn (hu pins s2 Z H2 _ I2 q2) fun vu s3 ⟨u, H3, I3, pu, q3⟩ => ?_)
  rw [evalPart_none]
  refine xaj ?_
  have I4 : Inv X pins Z H3 { s3 with heap := s3.heap.push { cls := .type "slice", data := .fields #[vl, vu, .none] } } := I3.kept (t' := s3.toks) fun b ob q => xad _ q
  obtain ⟨T, id, hT, ht, hg⟩ := hr pins { s3 with heap := s3.heap.push { cls := .type "slice", data := .fields #[vl, vu, .none] } } Z H3 x v vl vu l u s3.heap.objs.size Q I4 r1 (Heap.IsSliceOf.new ..) pl pu q3
  show wpAny (model X.prog X.w) X.A (subscriptTail e (.Slice lo hi none p2) v (.ref s3.heap.objs.size)) (EP X pins Z Q) X.xe { s3 with heap := s3.heap.push { cls := .type "slice", data := .fields #[vl, vu, .none] } }
  exact tail_any (ops := [.ref s3.heap.objs.size, v]) ht hT hg (by with_unfolding_all rfl)
def cutV (xs : List V) (lo hi : Option Int) : List V := (xs.drop (HT.sIx xs.length 0 lo)).take (HT.sIx xs.length xs.length hi - HT.sIx xs.length 0 lo)
theorem cutV_length (xs : List V) (lo hi : Option Int) : (cutV xs lo hi).length <= xs.length := by
  unfold cutV
  rw [xbj, List.length_drop]
  omega
def rSlT (K : xFg) : V -> Option Int -> Option Int -> Hp -> VK -> Prop := fun x lo hi H Q => ∃ a xs, x = .ref a /\ SqT K H a xs /\
  ¬ (HT.sIx xs.length 0 lo = 0 /\ HT.sIx xs.length xs.length hi = xs.length) /\ ∀ p, H p = none -> Q (.ref p) (upd H p (.tup (cutV xs lo hi)))
theorem sl_tup : SlR X (rSlT X.K) := by
  intro pins s Z H x v vl vu lo hi sl Q I rx hs pl pu h
  obtain ⟨a, xs, rfl, hx, hw, q⟩ := h
  cases rx
  obtain ⟨its, r, ht, hz⟩ := I.tuple hx
  have hlen : its.toArray.size = xs.length := by rw [xag]; exact r.length.symm
  refine ⟨"tuple", _, PyProof.Rows.slot_tuple_getitem.lookup, ht.typeIs, ?_⟩
  refine HT.getItem_tuple_cut ht hs pl pu (by rw [hlen]; exact hw) ?_ (by rw [hlen]; exact hz)
  rw [hlen]
  refine ⟨.ref s.heap.objs.size, _, I.laid (t' := s.toks) (o := .tup (cutV xs lo hi)) (fun b ob q => xad _ q) (xam _) ?_, rfl, q _ (I.hok.fresh (xam _))⟩
  exact ⟨xa1 (cutV_length xs lo hi) hz, _, (r.drop (HT.sIx xs.length 0 lo)).take (HT.sIx xs.length xs.length hi - HT.sIx xs.length 0 lo), TupN.new _ _⟩
def rCatT (K : xFg) : R2 := fun x y H Q => ∃ a b xs ys, x = .ref a /\ y = .ref b /\ SqT K H a xs /\ SqT K H b ys /\ xs ≠ [] /\ xs.length + ys.length <= sizeLine /\
  (ys = [] -> Q (.ref a) H) /\ (ys ≠ [] -> ∀ p, H p = none -> Q (.ref p) (upd H p (.tup (xs ++ ys))))
theorem Vals.nil_iff {xs : List V} {us : List Value} (r : Vals xs us) : us = [] ↔ xs = [] := by
  cases r with
  | nil => simp
  | cons _ _ => simp
theorem op_catT : OpR X (binaryOp .Add) (rCatT X.K) := by
  intro pins s Z H x y v u Q I rx ry h
  obtain ⟨a, b, xs, ys, rfl, rfl, ha, hb, hx, hz, q1, q2⟩ := h
  cases rx
  cases ry
  obtain ⟨its, r1, p1, _⟩ := I.tuple ha
  obtain ⟨its2, r2, p2, _⟩ := I.tuple hb
  refine HT.cat_tup p1 p2 (fun z => hx (r1.nil_iff.mp z)) (fun z => ⟨.ref a, H, I, rfl, q1 (r2.nil_iff.mp z)⟩) (fun z => ?_) (by rw [<- r1.length, <- r2.length]; exact hz)
  refine ⟨.ref s.heap.objs.size, _, I.laid (t' := s.toks) (o := .tup (xs ++ ys)) (fun b ob q => xad _ q) (xam _) ?_, rfl, q2 (fun w => z (r2.nil_iff.mpr w)) _ (I.hok.fresh (xam _))⟩
  exact ⟨by rw [xat]; exact hz, _, r1.append r2, TupN.new _ _⟩
end
end L2
namespace L2
open PySem.Spec PyProof.Rows
def ixN (n : Nat) (i : Int) : Option Nat := if 0 <= i then (if i < n then some i.toNat else none) else if -(n : Int) <= i then some (i + n).toNat else none
def atI {α : Type} (xs : List α) (i : Int) : Option α := (ixN xs.length i).bind fun j => xs[j]?
theorem ixN_seq {n : Nat} {i : Int} {j : Nat} (h : ixN n i = some j) : seqIndex? i n = some j /\ j < n /\ -(n : Int) <= i /\ i < n := by
  unfold ixN at h
  by_cases h0 : 0 <= i
  · rw [xav h0] at h
    by_cases h1 : i < n
    · rw [xav h1] at h
      have e : i.toNat = j := xa0 h
      exact ⟨by rw [seqIndex_of h0 h1, e], by omega, by omega, h1⟩
    · rw [xao h1] at h; cases h
  · rw [xao h0] at h
    by_cases h1 : -(n : Int) <= i
    · rw [xav h1] at h
      have e : (i + n).toNat = j := xa0 h
      exact ⟨by rw [seqIndex_neg (by omega) h1, e], by omega, h1, by omega⟩
    · rw [xao h1] at h; cases h
theorem atI_get {α : Type} {xs : List α} {i : Int} {v : α} (h : atI xs i = some v) : ∃ j, seqIndex? i xs.length = some j /\ xs[j]? = some v /\ j < xs.length /\ -(xs.length : Int) <= i /\ i < xs.length := by
  unfold atI at h
  cases e : ixN xs.length i with
  | none => rw [e] at h; cases h
  | some j =>
    rw [e] at h
    obtain ⟨h1, h2, h3, h4⟩ := ixN_seq e
    exact ⟨j, h1, h, h2, h3, h4⟩
theorem atI_nat {α : Type} {xs : List α} {j : Nat} {v : α} (h : xs[j]? = some v) : atI xs (j : Int) = some v := by
  have hj : j < xs.length := (xab.mp h).1
  have e : ixN xs.length (j : Int) = some j := by
    unfold ixN
    rw [xav (by omega), xav (by omega)]; simp
  unfold atI; rw [e]; exact h
def PlainIx (b : Expr) : Prop := ∀ o i, subscripted b false o i = operate [o, i] (getItem o i)
def IxR (X : Cx) (r : R2) : Prop :=
  ∀ (value slice : Expr) (pins : List (Addr × Obj)) (s : Shared) (Z : St) (H : Hp) (x y : V) (v u : Value) (Q : VK), Inv X pins Z H s -> RelV x v -> RelV y u -> r x y H Q ->
    subscripted slice false v u = operate [v, u] (getItem v u) -> wpAny (model X.prog X.w) X.A (subscriptTail value slice v u) (EP X pins Z Q) X.xe s
def MtR (X : Cx) (id : String) (r : V -> List V -> Hp -> VK -> Prop) : Prop :=
  ∀ (pins : List (Addr × Obj)) (s : Shared) (Z : St) (H : Hp) (x : V) (xs : List V) (v : Value) (us : List Value) (Q : VK), Inv X pins Z H s -> RelV x v -> Vals xs us -> r x xs H Q ->
    wpAny (model X.prog X.w) X.A (call (.builtin id) (v :: us)) (EP X pins Z Q) X.xe s
section
variable {X : Cx} {a b : Expr} {ta tb : TE} {pos : Pos}
theorem IxR.or {r r' : R2} (h : IxR X r) (h' : IxR X r') : IxR X (fun x y H Q => r x y H Q \/ r' x y H Q) := by
  intro value slice pins s Z H x y v u Q I rx ry q hs
  rcases q with q | q
  · exact h value slice pins s Z H x y v u Q I rx ry q hs
  · exact h' value slice pins s Z H x y v u Q I rx ry q hs
theorem pe_ix {r : R2} (hr : IxR X r) (ha : PE X a ta) (hb : PE X b tb) (hs : PlainIx b) : PE X (.Subscript a b pos) (tOp r ta tb) := by
  intro pins s Z H Q I h
  exact Subscript_ (binT ha hb I h fun v u s2 x y H2 I2 rx ry q => hr a b pins s2 Z H2 x y v u Q I2 rx ry q (hs _ _))
def rIxL (K : xFg) : R2 := fun x y H Q => ∃ p xs i v, x = .ref p /\ y = .int i /\ SqL K H p xs /\ atI xs i = some v /\ Q v H
def rIxT (K : xFg) : R2 := fun x y H Q => ∃ p xs i v, x = .ref p /\ y = .int i /\ SqT K H p xs /\ atI xs i = some v /\ Q v H
def rIxS : R2 := fun x y H Q => ∃ z i c, x = .str z /\ y = .int i /\ z.length <= sizeLine /\ atI z.cps.toList i = some c /\ Q (.str ⟨#[c]⟩) H
theorem ix_list : IxR X (rIxL X.K) := by
  intro value slice pins s Z H x y v u Q I rx ry h hs
  obtain ⟨p, xs, i, z, rfl, rfl, hq, he, q⟩ := h
  cases rx
  obtain ⟨t, rfl⟩ := ry
  obtain ⟨its, r, pl, hz⟩ := I.list hq
  obtain ⟨j, h1, h2, h3, h4, h5⟩ := atI_get he
  obtain ⟨w, ew, rw'⟩ := r.get h2
  have hl := r.length
  have hn := line63
  have fin : EP X pins Z Q w s := ⟨z, H, I, rw', q⟩
  by_cases h0 : 0 <= i
  · have hj : i.toNat = j := by
      rw [seqIndex_of h0 h5] at h1
      exact xa0 h1
    exact item_listR pl.isList h0 (by omega) (by rw [hj]; simpa using ew) fin hs
  · have hj : (i + (its.toArray.size : Int)).toNat = j := by
      rw [seqIndex_neg (by omega) h4] at h1
      rw [xag, <- hl]
      exact xa0 h1
    exact subscriptTail_builtinR (x := w) pl.isList.typeIs slot_list_getitem.lookup
      (wpAny_getItem_list_neg (Q := fun r s' => r = w /\ EP X pins Z Q r s') pl.isList (by omega) (by rw [xag] <;> omega) (by omega) (by rw [hj]; simpa using ew) ⟨rfl, fin⟩) hs
theorem ix_tup : IxR X (rIxT X.K) := by
  intro value slice pins s Z H x y v u Q I rx ry h hs
  obtain ⟨p, xs, i, z, rfl, rfl, hq, he, q⟩ := h
  cases rx
  obtain ⟨t, rfl⟩ := ry
  obtain ⟨its, r, pl, hz⟩ := I.tuple hq
  obtain ⟨j, h1, h2, h3, h4, h5⟩ := atI_get he
  obtain ⟨w, ew, rw'⟩ := r.get h2
  have hl := r.length
  have hn := line63
  have fin : EP X pins Z Q w s := ⟨z, H, I, rw', q⟩
  exact subscriptTail_builtinR (x := w) pl.typeIs slot_tuple_getitem.lookup
    (getItem_tuple (j := j) (Q := fun r s' => r = w /\ EP X pins Z Q r s') pl (by omega) (by omega) (by rw [xag, <- hl]; exact h1) (by simpa using ew) ⟨rfl, fin⟩) hs
theorem slice_bounds (lo hi : Option Int) (n : Nat) : (sliceBounds lo hi none n).1 = ((HT.sIx n 0 lo : Nat) : Int) /\ (sliceBounds lo hi none n).2.1 = ((HT.sIx n n hi : Nat) : Int) /\ (sliceBounds lo hi none n).2.2 = 1 := by
  refine ⟨?_, ?_, rfl⟩
  · cases lo with
    | none => simp [sliceBounds, HT.sIx]
    | some i =>
      simp only [sliceBounds, HT.sIx, Option.getD_none, show (1 : Int) > 0 by decide, if_true]
      by_cases h : i < 0
      · simp only [h, if_true] <;> omega
      · simp only [h, if_false] <;> omega
  · cases hi with
    | none => simp [sliceBounds, HT.sIx]
    | some i =>
      simp only [sliceBounds, HT.sIx, Option.getD_none, show (1 : Int) > 0 by decide, if_true]
      by_cases h : i < 0
      · simp only [h, if_true] <;> omega
      · simp only [h, if_false] <;> omega
theorem slicePick_cut (its : List Value) (lo hi : Option Int) : slicePick its.toArray lo hi none = ((its.drop (HT.sIx its.length 0 lo)).take (HT.sIx its.length its.length hi - HT.sIx its.length 0 lo)).toArray := by
  obtain ⟨h1, h2, h3⟩ := slice_bounds lo hi its.toArray.size
  unfold slicePick
  rw [h1, h2, h3]
  simp only [sliceRange_one, pick_run, xag] <;> rfl
def rSlL (K : xFg) : V -> Option Int -> Option Int -> Hp -> VK -> Prop := fun x lo hi H Q => ∃ a xs, x = .ref a /\ SqL K H a xs /\ ∀ p, H p = none -> Q (.ref p) (upd H p (.lst (cutV xs lo hi)))
theorem sl_list : SlR X (rSlL X.K) := by
  intro pins s Z H x v vl vu lo hi sl Q I rx hs pl pu h
  obtain ⟨a, xs, rfl, hx, q⟩ := h
  cases rx
  obtain ⟨its, r, ht, hz⟩ := I.list hx
  have hlen := r.length
  refine ⟨"list", _, slot_list_getitem.lookup, ht.isList.typeIs, ?_⟩
  refine wpAny_getItem_list_slice ht.isList hs pl pu .none (by simp) ?_ (by rw [xag] <;> omega)
  rw [slicePick_cut, <- hlen]
  refine ⟨.ref s.heap.objs.size, _, I.laid (t' := s.toks) (o := .lst (cutV xs lo hi)) (fun b ob q => xad _ q) (xam _) ?_, rfl, q _ (I.hok.fresh (xam _))⟩
  exact ⟨xa1 (cutV_length xs lo hi) hz, _, 0, (r.drop (HT.sIx xs.length 0 lo)).take (HT.sIx xs.length xs.length hi - HT.sIx xs.length 0 lo), xa4 _ rfl⟩
def flatV : V -> Bool
  | .non => true
  | .bl _ => true
  | .int _ => true
  | .str _ => true
  | _ => false
def eqV : V -> V -> Bool
  | .non, .non => true
  | .bl a, .bl b => a == b
  | .bl a, .int b => (if a then 1 else 0) == b
  | .int a, .bl b => a == (if b then 1 else 0)
  | .int a, .int b => a == b
  | .str a, .str b => a == b
  | _, _ => false
theorem eqAt_V {A : Around} {s : Shared} {y x : V} {u v : Value} (ry : RelV y u) (rx : RelV x v) (fy : flatV y = true) (fx : flatV x = true) : SeqAt.EqAt A s u v (eqV y x) := by
  cases y with
  | non =>
    cases ry
    cases x with
    | non => cases rx; exact SeqAt.EqAt.same _
    | bl b => cases rx; exact SeqAt.EqAt.none_bool b
    | int b => obtain ⟨t, rfl⟩ := rx; exact SeqAt.EqAt.none_int b t
    | str b => obtain ⟨t, rfl⟩ := rx; exact SeqAt.EqAt.none_str b t
    | _ => exact xak (show false = true from fx) xap
  | bl a =>
    cases ry
    cases x with
    | non => cases rx; exact SeqAt.EqAt.bool_none a
    | bl b => cases rx; exact SeqAt.EqAt.bool_bool a b
    | int b => obtain ⟨t, rfl⟩ := rx; exact SeqAt.EqAt.bool_int a b t
    | str b => obtain ⟨t, rfl⟩ := rx; exact SeqAt.EqAt.bool_str a b t
    | _ => exact xak (show false = true from fx) xap
  | int a =>
    obtain ⟨t', rfl⟩ := ry
    cases x with
    | non => cases rx; exact SeqAt.EqAt.int_none a t'
    | bl b => cases rx; exact SeqAt.EqAt.int_bool a t' b
    | int b => obtain ⟨t, rfl⟩ := rx; exact SeqAt.EqAt.int_int a t' b t
    | str b => obtain ⟨t, rfl⟩ := rx; exact SeqAt.EqAt.int_str a t' b t
    | _ => exact xak (show false = true from fx) xap
  | str a =>
    obtain ⟨t', rfl⟩ := ry
    cases x with
    | non => cases rx; exact SeqAt.EqAt.str_none a t'
    | bl b => cases rx; exact SeqAt.EqAt.str_bool a t' b
    | int b => obtain ⟨t, rfl⟩ := rx; exact SeqAt.EqAt.str_int a t' b t
    | str b => obtain ⟨t, rfl⟩ := rx; exact SeqAt.EqAt.str_str a t' b t
    | _ => exact xak (show false = true from fx) xap
  | _ => exact xak (show false = true from fy) xap
theorem op_notIn_str : OpR X (compareOp .NotIn) (fun x y H Q => ∃ i j, x = .str i /\ y = .str j /\ Q (.bl (!(!(Builtin.Str.occurrences j i 0 j.length 1).isEmpty))) H) := by
  intro pins s Z H x y v u Q I rx ry h
  obtain ⟨i, j, rfl, rfl, q⟩ := h
  obtain ⟨t, rfl⟩ := rx
  obtain ⟨t', rfl⟩ := ry
  exact notIn_str ⟨.bl _, H, I, rfl, q⟩
theorem call_len_seq : CallR X (.builtin "len") (fun xs H Q => ∃ p ys, xs = [.ref p] /\ (SqL X.K H p ys \/ SqT X.K H p ys) /\ Q (.int ys.length) H) := by
  intro pins s Z H xs us Q I r h
  obtain ⟨p, ys, rfl, hq, q⟩ := h
  obtain ⟨u, rfl, rx⟩ := vals1 r
  cases rx
  have hn := line63
  rcases hq with hq | hq
  · obtain ⟨its, r', pl, hz⟩ := I.list hq
    have hlen := r'.length
    exact Calls.call_len_list pl.isList (by simp only [xag] <;> omega) ⟨.int ys.length, H, I.tok _, ⟨s.toks + 1, by rw [xag, hlen]⟩, q⟩
  · obtain ⟨its, r', pl, hz⟩ := I.tuple hq
    have hlen := r'.length
    exact len_tuple pl (by simp only [xag] <;> omega) ⟨.int ys.length, H, I.tok _, ⟨s.toks + 1, by rw [xag, hlen]⟩, q⟩
theorem call_len_str : CallR X (.builtin "len") (fun xs H Q => ∃ z, xs = [.str z] /\ z.length <= sizeLine /\ Q (.int z.length) H) := by
  intro pins s Z H xs us Q I r h
  obtain ⟨z, rfl, hz, q⟩ := h
  obtain ⟨u, rfl, t, rfl⟩ := vals1 r
  have hn := line63
  exact len_str (by omega) ⟨.int z.length, H, I.tok _, ⟨_, rfl⟩, q⟩
theorem CallR.or {f : Value} {r r' : List V -> Hp -> VK -> Prop} (h : CallR X f r) (h' : CallR X f r') : CallR X f (fun xs H Q => r xs H Q \/ r' xs H Q) := by
  intro pins s Z H xs us Q I rs q
  rcases q with q | q
  · exact h pins s Z H xs us Q I rs q
  · exact h' pins s Z H xs us Q I rs q
def tyV (K : xFg) (T : String) (x : V) (H : Hp) : Prop := match x with
  | .str _ => T = "str"
  | .int _ => T = "int"
  | .ref p => (T = "list" /\ ∃ xs, SqL K H p xs) \/ (T = "tuple" /\ ∃ xs, SqT K H p xs) \/
      (T = "dict" /\ ((∃ kvs, H p = some (.dK kvs)) \/ ∃ kvs, H p = some (.dT kvs))) \/ (T = "set" /\ ∃ S n, H p = some (.set S n))
  | _ => False
theorem tyV_is {pins : List (Addr × Obj)} {Z : St} {H : Hp} {s : Shared} {T : String} {x : V} {v : Value} (I : Inv X pins Z H s) (r : RelV x v) (ty : tyV X.K T x H) :
    s.TypeIs v T /\ ∀ a, v = .ref a -> ∃ ob, s.heap.get? a = some ob /\ ob.dict = none := by
  cases x with
  | str z =>
    obtain ⟨t, rfl⟩ := r
    cases (show T = "str" from ty)
    exact ⟨typeIs_str s z t, fun _ e => nomatch e⟩
  | int i =>
    obtain ⟨t, rfl⟩ := r
    cases (show T = "int" from ty)
    exact ⟨typeIs_int s i t, fun _ e => nomatch e⟩
  | ref p =>
    cases r
    rcases ty with ⟨rfl, xs, hq⟩ | ⟨rfl, xs, hq⟩ | ⟨rfl, hk⟩ | ⟨rfl, S, n, hk⟩
    · obtain ⟨its, _, pl, _⟩ := I.list hq
      refine ⟨pl.isList.typeIs, fun a e => ?_⟩
      cases e
      obtain ⟨o, n, e, c, hd, _⟩ := pl
      exact ⟨o, e, hd⟩
    · obtain ⟨its, _, ⟨o, e1, hc, _, hd⟩, _⟩ := I.tupN hq
      refine ⟨⟨o, e1, hc⟩, fun a e => ?_⟩
      cases e
      exact ⟨o, e1, hd⟩
    · have z : ∃ o, s.heap.get? p = some o /\ o.ExactDict := by
        rcases hk with ⟨kvs, hk⟩ | ⟨kvs, hk⟩
        · obtain ⟨_, _, _, _, o, _, _, e, ex, _⟩ := I.hok p _ hk
          exact ⟨o, e, ex⟩
        · obtain ⟨_, _, _, _, o, _, _, e, ex, _⟩ := I.hok p _ hk
          exact ⟨o, e, ex⟩
      obtain ⟨o, e, ex⟩ := z
      refine ⟨⟨o, e, ex.1⟩, fun a e2 => ?_⟩
      cases e2
      exact ⟨o, e, ex.2.1⟩
    · obtain ⟨o, _, _, _, e, ex, _⟩ := I.hok p _ hk
      refine ⟨⟨o, e, ex.1⟩, fun a e2 => ?_⟩
      cases e2
      exact ⟨o, e, ex.2.1⟩
  | _ => exact False.elim ty
def tBM0 (K : xFg) (T : String) (r : V -> List V -> Hp -> VK -> Prop) (to : TE) : TE := fun Z H Q => to Z H fun x H1 => tyV K T x H1 /\ r x [] H1 Q
def tBM (K : xFg) (T : String) (r : V -> List V -> Hp -> VK -> Prop) (to : TE) (t : TA) : TE := fun Z H Q => to Z H fun x H1 => tyV K T x H1 /\ t Z H1 fun xs H2 => r x xs H2 Q
variable {o e : Expr} {es : List Expr} {to : TE} {t : TA} {name : Str} {apos cpos : Pos} {T id : String} {r : V -> List V -> Hp -> VK -> Prop}
theorem pe_bm0 (pa : PlainAttrs T) (slot : Slot T name id) (hty : typeOf (.builtin id) = pure (.type "method_descriptor")) (hm : MtR X id r) (ho : PE X o to)
    (hbase : attributeBase o name X.env (eval o X.env) = eval o X.env := by rfl) (hline : (apos.endLine == cpos.line) = true := by rfl) : PE X (.Call (.Attribute o name apos) [] [] cpos) (tBM0 X.K T r to) := by
  intro pins s Z H Q I h
  refine wpAny_Call_method0_late hbase hline (thn (ho pins s Z H _ I h) fun v s1 ⟨x, H1, I1, r1, ty, q1⟩ => ?_)
  obtain ⟨h1, h2⟩ := tyV_is I1 r1 ty
  exact ⟨T, id, pa, slot, hty, h1, h2, Calls.callWith_builtin rfl (PySem.evalArgs_none (hm pins s1 Z H1 x [] v [] Q I1 r1 .nil q1))⟩
theorem pe_bm (pa : PlainAttrs T) (slot : Slot T name id) (hty : typeOf (.builtin id) = pure (.type "method_descriptor")) (hm : MtR X id r) (ho : PE X o to) (ha : PA X (e :: es) t)
    (hbase : attributeBase o name X.env (eval o X.env) = eval o X.env := by rfl)
    (hfew : ((backTo cpos (starEach (e :: es) X.env)).all (fun x => !x.1) && (backToKw cpos (keywordEach [] X.env)).all (fun x => x.1.isSome)
      && decide ((e :: es).length + ([] : List Keyword).length + (if ([] : List Keyword).isEmpty then 0 else 1) < 30)) = true := by rfl)
    (hline : (apos.endLine == cpos.line) = true := by rfl) (hs : starEach (e :: es) X.env = (false, eval e X.env) :: starEach es X.env := by rfl) (hplain : (backTo cpos (starEach es X.env)).any (·.1) = false := by rfl) :
    PE X (.Call (.Attribute o name apos) (e :: es) [] cpos) (tBM X.K T r to t) := by
  intro pins s Z H Q I h
  refine wpAny_Call_method_late hbase hfew hline rfl (thn (ho pins s Z H _ I h) fun v s1 ⟨x, H1, I1, r1, ty, q1⟩ => ?_)
  obtain ⟨h1, h2⟩ := tyV_is I1 r1 ty
  refine ⟨T, id, pa, slot, hty, h1, h2, ?_⟩
  have hA := ha cpos pins s1 Z H1 _ I1 q1
  rw [hs] at hA ⊢
  refine Calls.callWith_builtin (by show (false || (backTo cpos (starEach es X.env)).any (·.1)) = false; rw [hplain] <;> rfl) (Calls.evalArgs_plain ?_)
  exact thn hA fun us s2 ⟨vs, H2, I2, r2, q2⟩ => hm pins s2 Z H2 x vs v us Q I2 r1 r2 q2
end
end L2
namespace L2
open PySem.Spec PyProof.Rows
def MtM (X : Cx) (id : String) (r : V -> List V -> Hp -> VK -> Prop) : Prop :=
  ∀ (pins : List (Addr × Obj)) (s : Shared) (Z : St) (H : Hp) (x : V) (xs : List V) (v : Value) (us : List Value) (Q : VK), Inv X pins Z H s -> RelV x v -> Vals xs us -> r x xs H Q ->
    wpAny (model X.prog X.w) X.A (call (.builtin id) (v :: us)) (EP X pins Z Q) X.xe s
theorem Vals.one : ∀ {x : V} {us : List Value}, Vals [x] us -> ∃ u, us = [u] /\ RelV x u
  | _, _, .cons r .nil => ⟨_, rfl, r⟩
theorem Vals.zero : ∀ {us : List Value}, Vals [] us -> us = []
  | _, .nil => rfl
theorem Vals.dropLast {xs : List V} {us : List Value} (h : Vals xs us) : Vals xs.dropLast us.dropLast := by
  induction h with
  | nil => exact .nil
  | cons r t ih =>
    cases t with
    | nil => exact .nil
    | cons q t' => exact .cons r ih
theorem erase_last {α : Type} (l : List α) : l.eraseIdx (l.length - 1) = l.dropLast := by
  induction l with
  | nil => rfl
  | cons a r ih =>
    cases r with
    | nil => rfl
    | cons b r =>
      have e : (a :: b :: r).length - 1 = ((b :: r).length - 1) + 1 := by
        have h1 : (a :: b :: r).length = r.length + 2 := rfl
        have h2 : (b :: r).length = r.length + 1 := rfl
        omega
      rw [e, List.eraseIdx_cons_succ, ih]
      all_goals rfl
section
variable {X : Cx} {pins : List (Addr × Obj)} {Z : St} {H : Hp} {s : Shared} {l b : Addr} {xs ys zs : List V}
theorem Inv.lset {its its' : List Value} {n : Nat} {f : Array Value -> Array Value} {t' : Nat} (I : Inv X pins Z H s) (hH : H l = some (.lst xs))
    (e : s.heap.get? l = some { cls := .type "list", data := .seq its.toArray n }) (hf : f its.toArray = its'.toArray) (hv : Vals ys its') (hz : ys.length <= sizeLine) :
    Inv X pins Z (upd H l (.lst ys)) { s with heap := s.heap.update l (Obj.mapSeq f), toks := t' } := by
  have q := PySem.IsL.update e f
  rw [hf] at q
  refine I.write (x := l) (e := l) (by rw [hH]; exact trivial) (.inl rfl) (fun b' u hb hu => (xbb s.heap (Obj.mapSeq f) (xay hb)).trans hu) ⟨_, q⟩ ?_
  exact ⟨hz, its', _, hv, q⟩
theorem Inv.lnew {its : List Value} {t' : Nat} (I : Inv X pins Z H s) (hv : Vals ys its) (hz : ys.length <= sizeLine) :
    Inv X pins Z (upd H s.heap.objs.size (.lst ys)) { s with heap := s.heap.push { cls := .type "list", data := .seq its.toArray }, toks := t' } :=
  I.laid (fun _ _ q => xad _ q) (xam _) ⟨hz, its, 0, hv, xa4 _ rfl⟩
theorem Inv.fresh (I : Inv X pins Z H s) : H s.heap.objs.size = none := I.hok.fresh (xam _)
theorem Inv.lstM (I : Inv X pins Z H s) (hH : H l = some (.lst xs)) : xs.length <= sizeLine /\ ∃ (its : List Value) (n : Nat), Vals xs its /\ xs.length = its.length /\ s.heap.get? l = some { cls := .type "list", data := .seq its.toArray n } := by
  obtain ⟨z, its, n, r, e⟩ := I.hok l _ hH
  exact ⟨z, its, n, r, r.length, e⟩
theorem notLongL {n : Nat} (h : n <= sizeLine) : Builtin.List.listTooLong n = false := by
  unfold Builtin.List.listTooLong
  exact xal (by omega)
end
section
variable {X : Cx}
def rAppend : V -> List V -> Hp -> VK -> Prop := fun x vs H Q => ∃ l xs y, x = .ref l /\ vs = [y] /\ H l = some (.lst xs) /\ xs.length < sizeLine /\ Q .non (upd H l (.lst (xs ++ [y])))
theorem mt_append : MtM X "list.append" rAppend := by
  intro pins s Z H x vs v us Q I rx rv h
  obtain ⟨l, xs, y, rfl, rfl, hH, hz, q⟩ := h
  cases rx
  obtain ⟨u, rfl, ru⟩ := rv.one
  obtain ⟨z, its, n, r, hl, e⟩ := I.lstM hH
  refine call_meets F.slot_list_append ⟨_, e, rfl⟩ F.entry_list_append (F.args_list_append_2 _ _) (PySem.list_append l its.toArray n u (by rw [xag]; omega)) ⟨e, ?_⟩
  refine ⟨.non, _, I.lset (its' := its ++ [u]) hH e (by simp) (r.append (.cons ru .nil)) ?_, rfl, q⟩
  rw [xat, List.length_singleton]
  omega
def rPop : V -> List V -> Hp -> VK -> Prop := fun x vs H Q => ∃ l xs y, x = .ref l /\ vs = [] /\ H l = some (.lst xs) /\ xs[xs.length - 1]? = some y /\ Q y (upd H l (.lst xs.dropLast))
theorem mt_pop : MtM X "list.pop" rPop := by
  intro pins s Z H x vs v us Q I rx rv h
  obtain ⟨l, xs, y, rfl, rfl, hH, hy, q⟩ := h
  cases rx
  have hus := rv.zero
  subst hus
  obtain ⟨z, its, n, r, hl, e⟩ := I.lstM hH
  obtain ⟨u, hu, ru⟩ := r.get hy
  have hy' : its.toArray[its.toArray.size - 1]? = some u := by
    show its.toArray[its.length - 1]? = some u
    rw [<- xbn, <- hl]
    exact hu
  refine call_meets F.slot_list_pop ⟨_, e, rfl⟩ F.entry_list_pop (F.args_list_pop_1 _) (MeetsSeq.list_pop_last l its.toArray n u hy' (by rw [xag]; omega)) ⟨e, ?_⟩
  refine ⟨y, _, I.lset (its' := its.dropLast) hH e ?_ r.dropLast ?_, ru, q⟩
  · show its.toArray.eraseIdxIfInBounds (its.toArray.size - 1) = its.dropLast.toArray
    rw [xag, List.eraseIdxIfInBounds_toArray, erase_last]
  · rw [List.length_dropLast]
    omega
end
end L2
namespace Att
open PySem.W PySem.Calls PyProof.Rows
theorem ints_of_wellAll {P : Params} {h : Heap} : ∀ (ns : List Int) (vs : List Value), WellAll P h vs (ns.map WData.int) -> IntsAre vs ns := by
  intro ns
  induction ns with
  | nil =>
    intro vs w
    rw [List.map_nil] at w
    cases w
    exact .nil
  | cons n ns ih =>
    intro vs w
    rw [xba] at w
    cases w with
    | cons a b =>
      cases a
      exact .cons _ _ (ih _ b)
theorem script_of {l : OpenLaw} {n : Nat} (hn : l.most = some n) {P : Params} {h : Heap} {args : List WData} {vals : List Value}
    (hpre : l.row.toRowW.claim.pre args = true) (hwl : WellAll P h vals args) :
    ∃ a vs ns, vals = [Value.ref a] /\ args = [WData.list (ns.map WData.int)] /\ h.get? a = some { cls := .type "list", data := .seq vs.toArray } /\ IntsAre vs ns /\ ns.length <= n := by
  have hsh : WShape.hasAll [] args [.list .int] = true := (pre_splitW hpre).1
  have hc : l.pre.holds [] { args := args } = true := (pre_splitW hpre).2
  obtain ⟨d, r, rfl, h1, h2⟩ := hasAllW_cons hsh
  obtain rfl := hasAllW_nil h2
  obtain ⟨xs, rfl, h3⟩ := hasW_list h1
  obtain ⟨ns, rfl⟩ := items_int h3
  have hlen : ns.length <= n := by
    unfold OpenLaw.pre at hc
    have h4 : (WTm.not (.lt (.lit (.int (n : Int))) (.len (.arg 0)))).holds [] { args := [.list (ns.map .int)] } = true := by
      have h4 := (holds_andW hc).1
      rw [hn] at h4
      exact h4
    have h5 := condW_of h4 (w_not (w_lt w_lit (w_len_list (w_arg rfl))))
    rw [xar] at h5
    refine Nat.le_of_not_lt fun q => ?_
    have q' : (n : Int) < ((ns.length : Nat) : Int) := by omega
    first
      | (rw [xah q'] at h5; exact xak h5 (by decide))
      | (simp at h5; omega)
  cases hwl with
  | cons w1 w2 =>
    cases w2
    cases w1 with
    | list ho hall => exact ⟨_, _, ns, rfl, rfl, ho, ints_of_wellAll ns _ hall, hlen⟩
theorem post_true (l : OpenLaw) (args : List WData) : l.row.toRowW.claim.post args (.bool true) args = true :=
  postW_of (r := l.row.toRowW) (X := (true == true))
    (show WShape.has [] (.bool true) .bool = true by first | rfl | decide | simp [WShape.has, WShape.arms, WShape.armsAll])
    (show (WTm.eq .res (.lit (.bool true))).value [] { args := args, res := some (.bool true), after := args } = some (.bool (true == true)) from w_eq_bool (w_res rfl) w_lit) rfl
theorem attach_call {l : OpenLaw} {n : Nat} {q : Program} {loose : List Str} {XP : (Str -> Option Value) -> Heap -> Prop} {YP : World -> Heap -> Prop} {d : DefRec}
    (hn : l.most = some n) (hdf : d.params.defaults = [])
    (call : ∀ (w : World) (s₀ s₁ : Shared) (mg mb : Str -> Option Value) (fa : Addr) (o : Obj) (pm cd doc : Value) (a : Addr) (vs : List Value) (ns : List Int),
      Ground q loose [] XP w s₀ mg mb s₁.heap -> YP w s₁.heap ->
      s₁.heap.get? fa = some o -> o.data = .func (docDef d.name d.params d.body d.scope pm cd doc) -> s₁.heap.CodeRec cd d.name -> mg d.name = some (.ref fa) ->
      s₁.heap.get? a = some { cls := .type "list", data := .seq vs.toArray } -> IntsAre vs ns -> ns.length <= n -> s₁.gens = #[] ->
      codeAny (model l.prog w) callerA (.call (.ref fa) ⟨[.ref a], []⟩) (fun r s' => r = .ok (.ret (.bool true)) /\ OldK s₁.heap s'.heap /\ s'.os = s₁.os /\ AllBare s'.gens) s₁) :
    WalkO q loose XP YP l.row.toRowW d [] (fun f vs => PySem.call f vs) := by
  intro w s₀ s₁ mg mb G Y fa o pm cd doc dV kV ho hd hcd hD hmg hg args vals as hpre hlay hrd hwl hlo
  obtain rfl : dV = .none := Dflts.none hD hdf
  obtain rfl : kV = .none := Dflts.noKw hD
  obtain ⟨a, vs, ns, rfl, rfl, hobj, hints, hlen⟩ := script_of hn hpre hwl
  refine enter_call (codeAny_mono (call w s₀ s₁ mg mb fa o pm cd doc a vs ns G Y ho (fd_plain hd) hcd hmg hobj hints hlen hg) fun r s' hq => ?_)
  obtain ⟨rfl, h2, h3, h4⟩ := hq
  exact ⟨.inl ⟨.bool true, .bool true, [], rfl, fun _ => rfl, .bool true, post_true l _, fun _ => ⟨List.Pairwise.nil, fun _ hm => (nomatch hm)⟩⟩, h2, h3, h4⟩
end Att
namespace L2
open PySem.Spec PyProof.Rows
theorem vals_ints : ∀ {vs : List Value} {ns : List Int}, IntsAre vs ns -> Vals (ns.map V.int) vs
  | _, _, .nil => .nil
  | _, _, .cons n t h => .cons ⟨t, rfl⟩ (vals_ints h)
def Only (H : Hp) : Prop := ∀ b, H b = none \/ ∃ o xs, H b = some (.frz o (.lst xs))
theorem law_call {P : Program} {w : World} {K : xFg} {mg mb : Str -> Option Value} {CX : CXT} {k : Nat} {fa a : Addr} {fd : FuncData} {x : Str} {sp : Sp} {s₁ : Shared} {vs : List Value} {ns : List Int}
    (KX : K.In s₁.heap) (hns : s₁.heap.Ns mainGlobals mg) (hb : s₁.heap.Ns builtinsNs mb) (hbb : ∀ x : Str, x ≠ "__name__" -> mb x = bootBuiltins x) (hlim : s₁.heap.NoLimit) (hg : s₁.gens = #[])
    (ha : s₁.heap.get? a = some { cls := .type "list", data := .seq vs.toArray }) (hi : IntsAre vs ns) (hl : ns.length <= sizeLine) (hr : Room k callerA)
    (F : ∀ base : Heap, K.In base -> base.Ns mainGlobals mg -> FnOk P w K mg base CX k fa fd [x] sp) (hbind : ∀ (s : Shared) (u : Value), BindsTo s fd ⟨[u], []⟩ [(x, u)])
    (hsp : ∀ H : Hp, Only H -> SqL K H a (ns.map V.int) -> sp [.ref a] H (fun v _ => v = .bl true) fun _ _ _ => False)
    (hCX : ∀ H e s', CX [] H s₁ (fun _ _ _ => False) e s' -> False) :
    codeAny (model P w) callerA (.call (.ref fa) ⟨[.ref a], []⟩) (fun r s' => r = .ok (.ret (.bool true)) /\ OldK s₁.heap s'.heap /\ s'.os = s₁.os /\ AllBare s'.gens) s₁ := by
  have rv := vals_ints hi
  have lenV := hi.length
  have core : ∀ H : Hp, Only H -> SqL K H a (ns.map V.int) -> HOk P w H s₁.heap -> (∀ b, H b ≠ none -> b = a) -> (H a ≠ none -> K.lookup a = none) ->
      codeAny (model P w) callerA (.call (.ref fa) ⟨[.ref a], []⟩) (fun r s' => r = .ok (.ret (.bool true)) /\ OldK s₁.heap s'.heap /\ s'.os = s₁.os /\ AllBare s'.gens) s₁ := by
    intro H hO hS hok hA hK
    have base_of : ∀ {b : Addr} {o : Obj}, s₁.heap.get? b = some o -> H b = none -> (hidT s₁.heap H).get? b = some o := fun e n => hidT_get e n
    have noA : ∀ {b : Addr} {o : Obj} {es : Array DictEntry} {ep : Nat}, s₁.heap.get? b = some o -> o.data = .dict es ep -> H b = none := fun {b o es ep} e d => by
      cases q : H b with
      | none => rfl
      | some u =>
        have e' : b = a := hA b (by rw [q]; simp)
        subst e'
        rw [ha] at e; cases e
        have d' : Data.seq vs.toArray _ = Data.dict es ep := d
        cases d'
    have nsK : ∀ {b : Addr} {m : Str -> Option Value}, s₁.heap.Ns b m -> (hidT s₁.heap H).Ns b m := fun {b m} ⟨o, es, ep, e, d, r⟩ => ⟨o, es, ep, base_of e (noA e d), d, r⟩
    have hKb : K.In (hidT s₁.heap H) := fun b o e => base_of (KX b o e) (by
      cases q : H b with
      | none => rfl
      | some u =>
        have e' : b = a := hA b (by rw [q]; simp)
        subst e'
        rw [hK (by rw [q]; simp)] at e; cases e)
    have hM : Mod K mg (hidT s₁.heap H) := ⟨hKb, nsK hns, ⟨mb, nsK hb, hbb⟩, let ⟨mc, h1, h2⟩ := hlim; ⟨mc, nsK h1, h2⟩⟩
    have e0 : Env0 P w K mg (hidT s₁.heap H) callerA [] s₁ H := ⟨rfl, hM, fun b o e => of_hidT e, Nat.le_of_eq (hidT_size _ _), trivial, fun b hb => xak (show b ∈ ([] : List Addr) from hb) (by simp), hok, .of_eq hg⟩
    refine codeAny_mono ((F _ hKb (nsK hns)).run callerA [] s₁ H ⟨[.ref a], []⟩ [.ref a] [.ref a] _ _ hr e0 (hbind s₁ (.ref a)) (.cons rfl .nil) (hsp H hO hS)) fun r s' h => ?_
    cases r with
    | error e => exact (hCX H e s' h).elim
    | ok fl =>
      cases fl with
      | next => exact False.elim h
      | brk => exact False.elim h
      | cont => exact False.elim h
      | ret u =>
        obtain ⟨v, H', os, bare, un, hok', r', q⟩ := h
        have q' : v = .bl true := q
        subst q'
        obtain rfl : u = Value.bool true := r'
        refine ⟨rfl, OldK.of_keep fun b o e => ?_, os, bare⟩
        cases q : H b with
        | none => exact un.keep b o e q (by intro z; exact xak (show b ∈ ([] : List Addr) from z) (by simp)) (by simp)
        | some u =>
          rcases hO b with z | ⟨ob, xs, z⟩
          · rw [q] at z; cases z
          · have z2 := un.frzs b ob _ z
            obtain ⟨e1, _⟩ := hok b _ z
            obtain ⟨e2, _⟩ := hok' b _ z2
            rw [e] at e1; cases e1
            exact e2
  cases hk : K.lookup a with
  | some o =>
    have e := KX a o hk
    rw [ha] at e
    cases e
    refine core (fun _ => none) (fun _ => .inl rfl) (.inr ⟨_, vs.toArray, _, hk, rfl, rfl, rfl, by rw [xag, lenV]; exact hl, by simpa using rv⟩) (fun b u z => by have z' : (none : Option HO) = some u := z; cases z') (fun b z => xak rfl z) fun z => xak rfl z
  | none =>
    refine core (fun b => if b = a then some (.frz { cls := .type "list", data := .seq vs.toArray } (.lst (ns.map V.int))) else none) (fun b => ?_) (.inl (.inr ⟨{ cls := .type "list", data := .seq vs.toArray }, xav rfl⟩)) (fun b u z => ?_) (fun b z => ?_) fun _ => hk
    · by_cases hb : b = a
      · exact .inr ⟨_, _, xav hb⟩
      · exact .inl (xao hb)
    · by_cases hb : b = a
      · have z' := (xav hb).symm.trans z
        cases z'
        subst hb
        exact ⟨ha, by rw [xar]; exact hl, vs, _, rv, ha⟩
      · have z' := (xao hb).symm.trans z
        cases z'
    · by_cases hb : b = a
      · exact hb
      · exact xak (xao hb) z
end L2
namespace L2
open PySem.Spec PyProof.Rows
theorem walk_of {l : PySem.W.OpenLaw} {n k : Nat} {q : Program} {loose : List Str} {XP : (Str -> Option Value) -> Heap -> Prop} {YP : World -> Heap -> Prop} {d : DefRec} {K : Params -> xFg} {CX : World -> CXT} {sp : World -> Sp} {x : Str}
    (hn : l.most = some n) (hn2 : n <= sizeLine) (hdf : d.params.defaults = []) (hr : Room k callerA)
    (hY : ∀ (w : World) (h : Heap), YP w h -> (K w.params).In h)
    (F : ∀ (w : World) (mg : Str -> Option Value) (fa : Addr) (h : Heap), (K w.params).In h -> h.Ns mainGlobals mg -> mg d.name = some (.ref fa) ->
      ∃ fd : FuncData, (∀ (s : Shared) (u : Value), BindsTo s fd ⟨[u], []⟩ [(x, u)]) /\
        ∀ base : Heap, (K w.params).In base -> base.Ns mainGlobals mg -> FnOk l.prog w (K w.params) mg base (CX w) k fa fd [x] (sp w))
    (hsp : ∀ (w : World) (H : Hp) (a : Addr) (ns : List Int), ns.length <= n -> Only H -> SqL (K w.params) H a (ns.map V.int) -> sp w [.ref a] H (fun v _ => v = .bl true) fun _ _ _ => False)
    (hCX : ∀ (w : World) (H : Hp) (s : Shared) (e : Value) (s' : Shared), CX w [] H s (fun _ _ _ => False) e s' -> False) :
    PySem.W.WalkO q loose XP YP l.row.toRowW d [] (fun f vs => PySem.call f vs) := by
  refine Att.attach_call hn hdf fun w s₀ s₁ mg mb fa o pm cd doc a vs ns G Y ho hd hcd hmg hobj hints hlen hg => ?_
  have KX := hY w _ Y
  obtain ⟨fd, hb, hF⟩ := F w mg fa _ KX G.T.g hmg
  exact law_call KX G.T.g G.T.b G.T.builtins G.T.nolimit hg hobj hints (xa1 hlen hn2) hr hF hb (fun H hO hS => hsp w H a ns hlen hO hS) fun H e s' => hCX w H s₁ e s'
end L2
namespace L2
open PySem.Spec PyProof.Rows
def defArgs (s : Stmt) : Arguments := match s with
  | .FunctionDef _ a _ _ _ _ _ _ _ _ => a
  | _ => { posonlyargs := [], args := [], vararg := none, kwonlyargs := [], kw_defaults := [], kwarg := none, defaults := [] }
def defBody (s : Stmt) : List Stmt := match s with
  | .FunctionDef _ _ b _ _ _ _ _ _ _ => b
  | _ => []
def defScope (s : Stmt) : Scope := match s with
  | .FunctionDef _ _ _ _ _ _ sc _ _ _ => sc
  | _ => { kind := .function, names := [], isGenerator := false, isCoroutine := false }
abbrev E0 : XK := fun _ _ _ => False
structure Fun (K : xFg) (x qual : Str) (st : Stmt) (f : Addr) (fd : FuncData) : Prop where
  ex : ∃ (oc : Value) (od : Option Addr) (kV doc pm : Value) (an : Option Addr) (cdv ct : Value) (osl : Array (Option Value)),
    fd = PySem.W.fnOf x qual (defArgs st) (defBody st) (defScope st) .none kV doc pm an cdv ct /\ K.lookup f = some ⟨oc, od, .func fd, osl⟩ /\ PySem.W.codeIn K cdv qual = true
  kp : PySem.W.keepIn K (.ref f) = true
section
variable {P : Program} {w : World} {K : xFg} {mg : Str -> Option Value} {base : Heap}
theorem Fun.binds {x qual : Str} {st : Stmt} {f : Addr} {fd : FuncData} {ps : List Str} (F : Fun K x qual st f fd)
    (h : ∀ (kV doc pm : Value) (an : Option Addr) (cdv ct : Value) (us : List Value), us.length = ps.length -> bindArgs (PySem.W.fnOf x qual (defArgs st) (defBody st) (defScope st) .none kV doc pm an cdv ct) ⟨us, []⟩ = pure (ps.zip us)) : Binds K fd ps [] := by
  obtain ⟨oc, od, kV, doc, pm, an, cdv, ct, osl, rfl, lk, hcd⟩ := F.ex
  exact .all (h kV doc pm an cdv ct)
theorem fun_mk {x qual : Str} {st : Stmt} {f : Addr} {oc : Value} {od an : Option Addr} {osl : Array (Option Value)} {kV doc pm cdv ct : Value} (l : K.lookup f = some ⟨oc, od, .func (PySem.W.fnOf x qual (defArgs st) (defBody st) (defScope st) .none kV doc pm an cdv ct), osl⟩)
    (c : PySem.W.codeIn K cdv qual = true) (k : PySem.W.keepIn K (.ref f) = true) : Fun K x qual st f (PySem.W.fnOf x qual (defArgs st) (defBody st) (defScope st) .none kV doc pm an cdv ct) := ⟨⟨oc, od, kV, doc, pm, an, cdv, ct, osl, rfl, l, c⟩, k⟩
end
theorem small1000 {n : Nat} (h : n <= 1000) : n < sizeLine := xbr h (by decide)
section
variable {X : Cx}
theorem pv (i : Nat) {x : Str} {pos : Pos} (hN : X.N[i]? = some x := by rfl) (hv : Vis X.env.scope x := by first | exact Or.inl rfl | exact Or.inr (Or.inl rfl) | exact Or.inr (Or.inr rfl)) (hd : (x == ("__debug__" : Str)) = false := by decide)
    (hcd : (x == ("__classdict__" : Str)) = false := by decide) : PE X (.Name x pos) (tVar i) := pe_var hN hv hd hcd
end
theorem iteF {A B : Prop} (h : B) : if false = true then A else B := by
  rw [xao xap]
  exact h
theorem iteT {A B : Prop} (h : A) : if true = true then A else B := by
  rw [xav rfl]
  exact h
def Same (H H' : Hp) : Prop := ∀ b o, H b = some o -> H' b = some o
theorem Same.refl (H : Hp) : Same H H := fun _ _ h => h
theorem Same.trans {H H1 H2 : Hp} (a : Same H H1) (b : Same H1 H2) : Same H H2 := fun c o h => b c o (a c o h)
theorem Same.free {H H' : Hp} (e : Same H H') {l : Addr} (h : H' l = Option.none) : H l = Option.none := by
  cases q : H l with
  | none => rfl
  | some o =>
    rw [e l o q] at h
    cases h
theorem Same.seq {K : xFg} {H H' : Hp} {a : Addr} {xs : List V} (e : Same H H') (h : SqL K H a xs) : SqL K H' a xs := by
  rcases h with (h | ⟨o, h⟩) | h
  · exact .inl (.inl (e _ _ h))
  · exact .inl (.inr ⟨o, e _ _ h⟩)
  · exact .inr h
end L2
end
namespace L2
open PySem.Spec PyProof.Rows
theorem forIn_fold {α β : Type} (g : β -> α -> β) : ∀ {l : List α} {f : α -> β -> Sem (ForInStep β)} (c : β), (∀ x ∈ l, ∀ c, f x c = pure (.yield (g c x))) -> forIn l c f = pure (l.foldl g c)
  | [], _, _, _ => rfl
  | x :: l, f, c, h => by
    rw [List.forIn_cons, h x xa3 c, pure_bind]
    exact forIn_fold g (g c x) fun y hy => h y (xaq _ hy)
def closStep (env : Env) (cs : List (Str × Addr)) (x : Str × NameKind) : List (Str × Addr) :=
  if (x.2 == NameKind.free) = true then (x.1, (env.cells.lookup x.1).getD 0) :: cs else cs
def clos (env : Env) (names : List (Str × NameKind)) : List (Str × Addr) := names.foldl (closStep env) []
theorem clos_eq {env : Env} {scope : Scope} (h : ∀ x ∈ scope.names, x.2 = .free -> ∃ c, env.cells.lookup x.1 = some c) : closureFor scope env = pure (clos env scope.names) := by
  simp only [closureFor]
  rw [forIn_fold (closStep env) [] (fun x hx c => by
    obtain ⟨n, k⟩ := x
    by_cases hk : k = .free
    · obtain ⟨a, e⟩ := h (n, k) hx hk
      have e' : env.cells.lookup n = some a := e
      subst hk
      simp [closStep, cellOf, e']
    · have hb : (k == NameKind.free) = false := by simpa using hk
      simp [closStep, hb])]
  rfl
theorem clos_sub {env : Env} : ∀ (l : List (Str × NameKind)) (acc : List (Str × Addr)), (∀ x ∈ l, x.2 = .free -> ∃ c, env.cells.lookup x.1 = some c) -> (∀ y c, acc.lookup y = some c -> env.cells.lookup y = some c) ->
    ∀ y c, (l.foldl (closStep env) acc).lookup y = some c -> env.cells.lookup y = some c
  | [], acc, _, ha, y, c, e => ha y c e
  | x :: l, acc, h, ha, y, c, e => by
    refine clos_sub l (closStep env acc x) (fun z hz => h z (xaq _ hz)) (fun z d q => ?_) y c e
    unfold closStep at q
    split at q
    · rename_i hk
      obtain ⟨a, ea⟩ := h x xa3 (by simpa using hk)
      rw [xbk] at q
      cases hz : z == x.1 with
      | true =>
        rw [hz] at q
        rw [ea] at q
        have : z = x.1 := by simpa using hz
        rw [this, ea]; simpa using q
      | false => rw [hz] at q; exact ha z d q
    · exact ha z d q
theorem clos_some {env : Env} : ∀ (l : List (Str × NameKind)) (acc : List (Str × Addr)) (y : Str), ((∃ c, acc.lookup y = some c) \/ (y, NameKind.free) ∈ l) -> ∃ c, (l.foldl (closStep env) acc).lookup y = some c
  | [], acc, y, h => by
    rcases h with h | h
    · exact h
    · exact xak h (by simp)
  | x :: l, acc, y, h => by
    refine clos_some l (closStep env acc x) y ?_
    rcases h with ⟨c, h⟩ | h
    · left
      unfold closStep
      split
      · rw [xbk]
        cases hz : y == x.1 with
        | true => exact ⟨_, rfl⟩
        | false => exact ⟨c, h⟩
      · exact ⟨c, h⟩
    · rcases xaz.mp h with e | h
      · left
        subst e
        unfold closStep
        rw [xav (by rfl), xbk]
        simp
      · exact .inr h
theorem relabel_kind {scope : Scope} {env : Env} : ∀ {names : List (Str × NameKind)} {x : Str} {k : NameKind},
    (names.map fun (n, k) => if (k == NameKind.free && env.scope.kind == .function && env.kindOf n == some .cell) then (n, NameKind.cell) else (n, k)).lookup x = some k ->
    names.lookup x = some k \/ (k = .cell /\ names.lookup x = some .free)
  | [], _, _, h => by simp at h
  | (n, k') :: r, x, k, h => by
    change List.lookup x ((if (k' == NameKind.free && env.scope.kind == .function && env.kindOf n == some .cell) = true then (n, NameKind.cell) else (n, k')) :: _) = some k at h
    by_cases hc : (k' == NameKind.free && env.scope.kind == .function && env.kindOf n == some .cell) = true
    · rw [xav hc, xbk] at h
      rw [xbk]
      cases hx : x == n with
      | true =>
        rw [hx] at h
        have hk : k' = .free := by
          simp only [xau, beq_iff_eq] at hc
          exact hc.1.1
        subst hk
        have h' : NameKind.cell = k := by simpa using h
        exact .inr ⟨h'.symm, rfl⟩
      | false => rw [hx] at h; exact relabel_kind (scope := scope) h
    · rw [xao hc, xbk] at h
      rw [xbk]
      cases hx : x == n with
      | true => rw [hx] at h; exact .inl h
      | false => rw [hx] at h; exact relabel_kind (scope := scope) h
def nyOk (k : Nat) (NY N : List Str) (sc : Scope) : Bool :=
  NY.length == k + N.length && ((NY.drop k).zip N).all fun p => (sc.names.lookup p.1).isNone || (p.1 == p.2 && sc.names.lookup p.1 != some .local)
structure LC (X : Cx) (k : Nat) (scope : Scope) (NY : List Str) : Prop where
  cells : ∀ y ∈ scope.names, y.2 ≠ .cell
  kind : scope.kind = .function
  names : ∀ y ∈ scope.names, y.2 = .local -> scope.names.lookup y.1 = some .local
  free : ∀ y ∈ scope.names, y.2 = .free -> X.env.kindOf y.1 = some .cell \/ X.env.kindOf y.1 = some .free
  ny : nyOk k NY X.N scope = true
  nd : NY.Nodup
def lcOk (k : Nat) (N : List Str) (sc0 scope : Scope) (NY : List Str) : Bool :=
  (scope.names.all fun y => y.2 != .cell) && (scope.kind == .function) && (scope.names.all fun y => y.2 != .local || scope.names.lookup y.1 == some .local) &&
  (scope.names.all fun y => y.2 != .free || sc0.names.lookup y.1 == some .cell || sc0.names.lookup y.1 == some .free) && nyOk k NY N scope && decide NY.Nodup
theorem LC.of {X : Cx} {k : Nat} {N NY : List Str} {sc0 scope : Scope} (hN : X.N = N) (hs : X.env.scope = sc0) (h : lcOk k N sc0 scope NY = true) : LC X k scope NY := by
  unfold lcOk at h
  simp only [xau, xbc, Bool.or_eq_true, bne_iff_ne, beq_iff_eq, ne_eq] at h
  obtain ⟨⟨⟨⟨⟨h1, h2⟩, h3⟩, h4⟩, h5⟩, h6⟩ := h
  refine ⟨h1, h2, fun y hy e => ?_, fun y hy e => ?_, by rw [hN]; exact h5, xan h6⟩
  · rcases h3 y hy with z | z
    · exact xak e z
    · exact z
  · show X.env.scope.names.lookup y.1 = _ \/ X.env.scope.names.lookup y.1 = _
    rw [hs]
    rcases h4 y hy with (z | z) | z
    · exact xak e z
    · exact .inl z
    · exact .inr z
def lcCx (X : Cx) (scope : Scope) (NY : List Str) (s₀ : Shared) (H₀ : Hp) (C : Addr) (ex : List Addr) : Cx :=
  { X with N := NY, s₀ := s₀, H₀ := H₀, env := compEnvC scope (clos X.env scope.names) C X.env, outer := X.stack, ex := ex, fn := fun _ => false, pn := [], xe := fun _ _ => False }
def PTs (X : Cx) (cs : List Expr) (t : TT) : Prop :=
  ∀ (pins : List (Addr × Obj)) (s : Shared) (Z : St) (H : Hp) (Q : Bool -> Hp -> Prop), Inv X pins Z H s -> t Z H Q ->
    wpAny (model X.prog X.w) X.A (forIn cs true fun c r => if r = true then do let ok <- isTrue c X.env (eval c X.env); pure (ForInStep.yield ok) else pure (ForInStep.yield r)) (TP X pins Z Q) X.xe s
def tTrue : TT := fun _ H Q => Q true H
theorem pts_nil {X : Cx} : PTs X [] tTrue := fun _ _ _ H _ I h => wpAny_tests_nil ⟨H, I, h⟩
def SubSt (Z Z2 : St) : Prop := Z2.length = Z.length /\ ∀ (j : Nat) (v : V), Z[j]? = some (some v) -> Z2[j]? = some (some v)
def tLC (k : Nat) (wi : TI) (g : TG) (tc : TT) (te : TE) : TE := fun Z H Q => wi Z H fun J H1 => ∃ W : Nat -> Nat -> List V -> Hp -> Prop, (∃ m, W 0 m [] H1) /\ ∀ i m ys H, W i m ys H -> ys.length < sizeLine /\
  ((J.stop i H /\ ∀ D, H D = none -> Q (.ref D) (upd H D (.lst ys))) \/
   (J.go i H /\ ∃ N : List V -> Hp -> Prop, (∀ ys' H', N ys' H' -> ∃ m', m' < m /\ W (i + 1) m' ys' H') /\
     ∀ v H', J.yld i H v H' -> g v (List.replicate k none ++ Z) H' fun Z2 H2 => SubSt (List.replicate k none ++ Z) Z2 /\
       tc Z2 H2 fun b H3 => if b = true then te Z2 H3 fun y H4 => N (ys ++ [y]) H4 else N ys H3))
theorem thnF {α : Type} {t : Sem α} {Q Q' : α -> Shared -> Prop} {M : Model} {A : Around} {E : Value -> Shared -> Prop} {s : Shared} (h : wpAny M A t Q (fun _ _ => False) s) (hQ : ∀ a s, Q a s -> Q' a s) : wpAny M A t Q' E s :=
  wpAny_mono h hQ fun _ _ z => False.elim z
section
variable {prog : Program} {w : World} {A : Around} {R : Result -> Shared -> Prop} {s : Shared}
theorem compLoop_own {elt tg iter : Expr} {ifs : List Expr} {scope : Scope} {pos : Pos} {it acc : Value} {env : Env} (W : Nat -> Shared -> Prop)
    (turn : ∀ n s, W n s -> ∀ E', wpAny (model prog w) A (pyNext it) (fun r s1 => match r with
      | none => R (.ok .next) s1
      | some v => wpAny (model prog w) A (letOwnedTupleGo tg it v) (fun _ s2 => wpAny (model prog w) A (assign tg env v) (fun _ s3 =>
          wpAny (model prog w) A (forIn ifs true fun c r => if r = true then do let ok <- isTrue c env (eval c env); pure (ForInStep.yield ok) else pure (ForInStep.yield r)) (fun ok s4 =>
            if ok = true then wpAny (model prog w) A (eval elt env) (fun x s5 => wpAny (model prog w) A (call (.builtin "list.append") [acc, x]) (fun _ s6 => ∃ m, m < n /\ W m s6) E' s5) E' s4
            else ∃ m, m < n /\ W m s4) E' s3) E' s2) E' s1) E' s)
    (n : Nat) (h : W n s) : codeAny (model prog w) A (.compLoop (.ListComp elt [⟨tg, iter, ifs, 0⟩] scope pos) 0 it acc env) R s := by
  refine codeAny_loop rfl W (fun n s hW => ?_) n h
  show wpAny _ A ((compTurn (.ListComp elt [⟨tg, iter, ifs, 0⟩] scope pos) 0 it acc env).onRaise (fun x => do noteFrame x env; theTreesLotGoes x)) _ _ s
  refine wpAny_noted ?_
  rw [compTurn_list]
  refine xaa (wpAny_standAt (xaa (thn (turn n s hW _) fun r s1 h1 => ?_)))
  cases r with
  | none => exact xaj h1
  | some v =>
    refine xaa (thn h1 fun _ s2 h2 => xaa (thn h2 fun _ s3 h3 => xaa (thn h3 fun ok s4 h4 => ?_)))
    cases ok with
    | false => exact xaj ⟨rfl, h4⟩
    | true => exact xaa (xaa (thn h4 fun x s5 h5 => xaa (thn h5 fun _ s6 h6 => xaj (xaj ⟨rfl, h6⟩))))
end
section
variable {X : Cx} {pins : List (Addr × Obj)} {Z : St} {H2 : Hp} {s2 : Shared} {scope : Scope} {NY : List Str} {k : Nat} {C D : Addr} {fp : List Addr}
theorem lc_ok (I2 : Inv X pins Z H2 s2) (lc : LC X k scope NY) (hf : ∀ b ∈ fp, FpOk X pins H2 b) (hfl : ∀ b ∈ fp, b < s2.heap.objs.size) (hC : s2.heap.objs.size <= C) : (lcCx X scope NY s2 H2 C fp).Ok := by
  have hfree : ∀ x ∈ scope.names, x.2 = .free -> ∃ c, X.env.cells.lookup x.1 = some c := fun x hx e => I2.ok.has x.1 (lc.free x hx e)
  have sub : ∀ x c, (clos X.env scope.names).lookup x = some c -> X.env.cells.lookup x = some c := clos_sub scope.names [] hfree (fun y c e => by simp at e)
  refine ⟨I2.ok.mod, ?_, I2.ok.glob, I2.ok.blt, hC, fun x y c e1 e2 => I2.ok.inj x y c (sub x c e1) (sub y c e2), fun x hx => ?_, fun x c z => xak z (by show ¬ (false = true); decide), I2.ok.hd, I2.ok.frames, .inl rfl, fun b hb => ⟨xa5 (xaf (hfl b hb) hC), fun x c e => (hf b hb).2.2.2.2.1 x c (sub x c e)⟩,
    I2.bs, xa1 I2.ok.bsz I2.sz, fun b o e hb => ?_, fun b hb z => ?_, I2.stack, I2.stkFree⟩
  · show (relabel scope X.env).kind = .function
    exact lc.kind
  · have hx : (relabel scope X.env).names.lookup x = some .cell \/ (relabel scope X.env).names.lookup x = some .free := hx
    have key : scope.names.lookup x = some .free := by
      rcases hx with hx | hx
      · rcases relabel_kind (scope := scope) hx with z | ⟨_, z⟩
        · exact xak rfl (lc.cells _ (PySem.mem_of_lookup z))
        · exact z
      · rcases relabel_kind (scope := scope) hx with z | ⟨_, z⟩
        · exact z
        · exact z
    exact clos_some scope.names [] x (.inr (PySem.mem_of_lookup key))
  · have q : b ∈ X.ex \/ X.s₀.heap.objs.size <= b := (hf b hb).2.2.2.1
    rcases q with q | q
    · exact I2.ok.noex b o e q
    · exact xak (xaf (xai e) (xa1 I2.ok.bsz q)) (xbd _)
  · rcases xaz.mp (I2.stkSub b z) with e | e
    · exact (hf b hb).2.1 e
    · exact (hf b hb).2.2.1 e
theorem lc_start {h1 : Heap} {tk : Nat} {m : Str -> Option Value} {oD : Obj} (I2 : Inv X pins Z H2 s2) (lc : LC X k scope NY) (hf : ∀ b ∈ fp, FpOk X pins H2 b) (hfl : ∀ b ∈ fp, b < s2.heap.objs.size) (hC : s2.heap.objs.size <= C) (hD : s2.heap.objs.size <= D) (hDC : D ≠ C)
    (old : ∀ b o, s2.heap.get? b = some o -> h1.get? b = some o) (hn : h1.Ns C m) (ho : h1.get? D = some oD) (hoD : ∀ v, oD.data ≠ .cell v) :
    Inv (lcCx X scope NY s2 H2 C fp) [(D, oD)] (List.replicate k none ++ Z) H2 { s2 with heap := h1, toks := tk } := by
  have hfree : ∀ x ∈ scope.names, x.2 = .free -> ∃ c, X.env.cells.lookup x.1 = some c := fun x hx e => I2.ok.has x.1 (lc.free x hx e)
  have sub : ∀ x c, (clos X.env scope.names).lookup x = some c -> X.env.cells.lookup x = some c := clos_sub scope.names [] hfree (fun y c e => by simp at e)
  have hny := lc.ny
  unfold nyOk at hny
  simp only [xau, beq_iff_eq, xbc, Bool.or_eq_true, bne_iff_ne, ne_eq] at hny
  obtain ⟨hlen, hz⟩ := hny
  refine ⟨lc_ok I2 lc hf hfl hC, rfl, I2.bare, Un.kept old, ⟨m, hn, fun i x v e1 e2 e3 => ?_⟩, fun x c e => ?_, I2.hok.fresh hC, fun x c e => I2.freeC x c (sub x c e), fun p hp => ?_, I2.hok.kept old, ?_⟩
  · have e1 : NY[i]? = some x := e1
    have hik : k <= i := by
      refine Nat.le_of_not_lt fun z => ?_
      rw [xb0 (by simpa using z), xb5, xav z] at e2
      cases e2
    rw [List.getElem?_append_right (by simpa using hik), xb8] at e2
    have hi2 : i - k < X.N.length := by
      rw [<- I2.len]; exact (xab.mp e2).1
    obtain ⟨y, ey⟩ : ∃ y, X.N[i - k]? = some y := ⟨_, xa6 hi2⟩
    have em : (x, y) ∈ (NY.drop k).zip X.N := by
      refine xbv (i := i - k) ?_
      rw [List.getElem?_zip_eq_some]
      refine ⟨?_, ey⟩
      rw [List.getElem?_drop, show k + (i - k) = i by omega]; exact e1
    have e3 : Vis (relabel scope X.env) x := e3
    have kf : scope.names.lookup x = some .free := by
      have kk : ∃ q, scope.names.lookup x = some q := by
        rcases e3 with z | z | z <;> rcases relabel_kind (scope := scope) z with z | ⟨_, z⟩ <;> exact ⟨_, z⟩
      have zz := hz (x, y) em
      have nl : scope.names.lookup x ≠ some .local := by
        rcases zz with zz | zz
        · obtain ⟨q, hq⟩ := kk
          have zz : (scope.names.lookup x).isNone = true := zz
          rw [hq] at zz; cases zz
        · exact zz.2
      rcases e3 with z | z | z <;> rcases relabel_kind (scope := scope) z with z | ⟨_, z⟩
      · exact xak z nl
      · exact z
      · exact xak rfl (lc.cells _ (PySem.mem_of_lookup z))
      · exact z
      · exact z
      · exact z
    have exy : x = y := by
      rcases hz (x, y) em with zz | zz
      · have zz : (scope.names.lookup x).isNone = true := zz
        rw [kf] at zz; cases zz
      · exact zz.1
    subst exy
    obtain ⟨mX, hnX, hlX⟩ := I2.loc
    have hk := lc.free (x, .free) (PySem.mem_of_lookup kf) rfl
    have hk : X.env.kindOf x = some .cell \/ X.env.kindOf x = some .free := hk
    obtain ⟨u, ru, lu⟩ := hlX (i - k) x v ey e2 (.inr hk)
    refine ⟨u, ru, ?_⟩
    rcases lu with ⟨z, _⟩ | ⟨_, c, hc, hcell⟩
    · rcases hk with q | q <;> rw [q] at z <;> cases z
    · obtain ⟨c', hc'⟩ := clos_some (env := X.env) scope.names [] x (.inr (PySem.mem_of_lookup kf))
      have : c' = c := by
        have q := sub x c' hc'
        rw [hc] at q; exact (xa0 q).symm
      subst this
      refine .inr ⟨?_, c', hc', hcell.keeps old⟩
      show (relabel scope X.env).names.lookup x = some .cell \/ (relabel scope X.env).names.lookup x = some .free
      rcases e3 with z | z
      · rcases relabel_kind (scope := scope) z with z | ⟨z, _⟩
        · rw [kf] at z; cases z
        · cases z
      · exact z
  · obtain ⟨v, z⟩ := I2.cell x c (sub x c e)
    exact ⟨v, z.keeps old⟩
  · have e : p = (D, oD) := by simpa [lcCx] using hp
    subst e
    refine ⟨ho, I2.hok.fresh hD, hDC, fun z => ?_, hoD⟩
    have z : D ∈ frs X.stack := z
    rcases xaz.mp (I2.stkSub D z) with q | q
    · exact xak (xaf I2.lt hD) (by rw [q]; exact xbd _)
    · exact I2.nofs hD q
  · show (List.replicate k none ++ Z).length = NY.length
    rw [hlen, xat, xb8, I2.len]
theorem lc_out {H4 : Hp} {s4 : Shared} {Z' : St} {ys : List V} {us : List Value} (I2 : Inv X pins Z H2 s2) (hf : ∀ b ∈ fp, FpOk X pins H2 b) (hC : s2.heap.objs.size <= C) (hD : s2.heap.objs.size <= D)
    (I4 : Inv (lcCx X scope NY s2 H2 C fp) [(D, LCg.lst us)] Z' H4 s4) (rv : Vals ys us) (hz : ys.length <= sizeLine) : Inv X pins Z (upd H4 D (.lst ys)) s4 := by
  obtain ⟨pD, nD, neD, nfD, dD⟩ := I4.pin (D, LCg.lst us) (by simp)
  have u0 : Un (frs X.stack) fp H2 H4 s2.heap s4.heap := I4.base
  have neb : ∀ b o, s2.heap.get? b = some o -> b ≠ D := fun b o e => xa5 (xaf (xai e) hD)
  have hok : HOk X.prog X.w (upd H4 D (.lst ys)) s4.heap := fun b u e => by
    by_cases hb : b = D
    · subst hb
      rw [upd_same] at e; cases e
      exact ⟨hz, us, us.length, rv, pD⟩
    · rw [upd_ne hb] at e
      exact (I4.hok b u e).stay (fun _ _ _ q => q) (fun c q => by rw [upd_ne (ne_of_none q nD)]; exact q) fun c xs q => by rw [upd_ne (ne_of_none q nD)]; exact q
  refine I2.call' (ch := fp) I4.os ⟨u0.keep, u0.slot, fun b o e n hx => ?_, u0.there, fun b xs q => ?_, fun b o u q => ?_, fun b ps q => ?_⟩ hok I4.bare fun b hb => ⟨(hf b hb).2.2.2.1, (hf b hb).2.1, (hf b hb).2.2.2.2.1, (hf b hb).2.2.2.2.2⟩
  · rw [upd_ne (neb b o e)]; exact u0.free b o e n hx
  · have z := u0.tups b xs q
    rw [upd_ne (ne_of_none z nD)]; exact z
  · have z := u0.frzs b o u q
    rw [upd_ne (ne_of_none z nD)]; exact z
  · obtain ⟨more, z⟩ := u0.tbls b ps q
    exact ⟨more, by rw [upd_ne (ne_of_none z nD)]; exact z⟩
end
theorem lc_run {X : Cx} {tg elt iter : Expr} {ifs : List Expr} {scope : Scope} {pos : Pos} {NY : List Str} {k : Nat} {g : TG} {tc : TT} {te : TE} (hc : X.calm = true) (lc : LC X k scope NY)
    (hb : ∀ (s₀ : Shared) (H₀ : Hp) (C : Addr) (ex : List Addr), NY.Nodup -> PG (lcCx X scope NY s₀ H₀ C ex) tg g /\ PTs (lcCx X scope NY s₀ H₀ C ex) ifs tc /\ PE (lcCx X scope NY s₀ H₀ C ex) elt te)
    {pins : List (Addr × Obj)} {Z : St} {H2 : Hp} {s2 : Shared} {it : Addr} {fp : List Addr} {tn : Nat -> Heap -> Prop} {J : It} {RR : Value -> Addr -> Result -> Shared -> Prop} {E : Value -> Shared -> Prop} {Fin : List V -> Hp -> Prop}
    (I2 : Inv X pins Z H2 s2) (T : Turn X.prog X.w X.K tg J fp it tn) (st2 : tn 0 s2.heap) (f2 : ∀ b ∈ fp, FpOk X pins H2 b) {W : Nat -> Nat -> List V -> Hp -> Prop} {m0 : Nat} (w0 : W 0 m0 [] H2)
    (turn : ∀ i m ys H, W i m ys H -> ys.length < sizeLine /\ ((J.stop i H /\ Fin ys H) \/ (J.go i H /\ ∃ N : List V -> Hp -> Prop, (∀ ys' H', N ys' H' -> ∃ m', m' < m /\ W (i + 1) m' ys' H') /\
      ∀ v H', J.yld i H v H' -> g v (List.replicate k none ++ Z) H' fun Z2 H2 => SubSt (List.replicate k none ++ Z) Z2 /\ tc Z2 H2 fun b H3 => if b = true then te Z2 H3 fun y H4 => N (ys ++ [y]) H4 else N ys H3)))
    (fin : ∀ (C D : Addr) (H4 : Hp) (s4 : Shared) (ys : List V) (m : Str -> Option Value), s2.heap.objs.size <= C -> H4 D = none -> H4 C = none -> D ≠ C -> s4.heap.Ns C m -> Inv X pins Z (upd H4 D (.lst ys)) s4 -> Fin ys H4 -> RR (.ref D) C (.ok .next) s4) :
    wpAny (model X.prog X.w) X.A (newList []) (fun acc s3 => wpAny (model X.prog X.w) X.A (newFunctionEnv scope X.env.globals (clos X.env scope.names) [] X.env.qual none .none (some X.env)) (fun cenv s4 =>
      codeAny (model X.prog X.w) X.A (.compStart (.ListComp elt [⟨tg, iter, ifs, 0⟩] scope pos) 0 (.ref it) acc { cenv with scope := relabel scope X.env }) (RR acc cenv.locals) s4) E s3) E s2 := by
  refine wpAny_newObj_type (wpAny_newFunctionEnv lc.cells (by intro y hy; simp at hy) (fun h1 hns1 hsb1 => ?_) lc.kind)
  dsimp only at hns1 hsb1 ⊢
  generalize hG : s2.heap.push { cls := .type "list", dict := none, data := .seq ([] : List Value).toArray } = G at hns1 hsb1 ⊢
  have hC : G.objs.size = s2.heap.objs.size + 1 := by rw [<- hG, Heap.size_push]
  have hCle : s2.heap.objs.size <= G.objs.size := by omega
  have hDC : s2.heap.objs.size ≠ G.objs.size := by omega
  have hfl : ∀ b ∈ fp, b < s2.heap.objs.size := fun b hb => by obtain ⟨o, e, _⟩ := T.obj 0 _ st2 b hb; exact xai e
  have old : ∀ b o, s2.heap.get? b = some o -> h1.get? b = some o := fun b o e => by
    have lt := xai e
    refine hsb1.extBut b o (xa5 (xaf lt hCle)) (xad _ ?_)
    rw [<- hG]; exact xad _ e
  have hacc : h1.get? s2.heap.objs.size = some (LCg.lst []) := by
    refine hsb1.extBut _ _ hDC (xad _ ?_)
    rw [<- hG]; exact xa4 _ rfl
  have dl : ∀ (us : List Value) v, (LCg.lst us).data ≠ .cell v := fun us v z => by
    have z' : Data.seq us.toArray us.length = Data.cell v := z
    cases z'
  have I3 := lc_start (h1 := h1) (tk := s2.toks + ([] : List (Str × Value)).length) I2 lc f2 hfl hCle (xam _) hDC old hns1 hacc (dl [])
  have fpY : ∀ {us : List Value} {H' : Hp}, (∀ b ∈ fp, H' b = none) -> ∀ b ∈ fp, FpOk (lcCx X scope NY s2 H2 G.objs.size fp) [(s2.heap.objs.size, LCg.lst us)] H' b := fun {us H'} hn b hb => by
    have lt := hfl b hb
    have okY := I3.ok
    refine ⟨hn b hb, (okY.exf b hb).1, okY.exfs b hb, .inl hb, (okY.exf b hb).2, fun p hp => ?_⟩
    have e : p = (s2.heap.objs.size, LCg.lst us) := by simpa [lcCx] using hp
    subst e
    exact Nat.ne_of_gt lt
  obtain ⟨hg, ht, he⟩ := hb s2 H2 G.objs.size fp lc.nd
  have loop : ∀ s3 : Shared, s3 = { s2 with heap := h1, toks := s2.toks + ([] : List (Str × Value)).length } ->
      codeAny (model X.prog X.w) X.A (.compLoop (.ListComp elt [⟨tg, iter, ifs, 0⟩] scope pos) 0 (.ref it) (.ref s2.heap.objs.size) (compEnvC scope (clos X.env scope.names) G.objs.size X.env)) (RR (.ref s2.heap.objs.size) G.objs.size) s3 := by
    rintro s3 rfl
    refine compLoop_own (fun n s' => ∃ i H' ys us, Inv (lcCx X scope NY s2 H2 G.objs.size fp) [(s2.heap.objs.size, LCg.lst us)] (List.replicate k none ++ Z) H' s' /\ Vals ys us /\ tn i s'.heap /\ (∀ b ∈ fp, H' b = none) /\ W i n ys H') ?_ m0
      ⟨0, H2, [], [], I3, .nil, T.keep _ _ _ st2 fun b _ o e => old b o e, fun b hb => (f2 b hb).1, w0⟩
    rintro n s3 ⟨i, H3, ys, us, I3, rv, st3, fr3, w3⟩ E'
    obtain ⟨hsz, hturn⟩ := turn i n ys H3 w3
    rcases hturn with ⟨stop, qn⟩ | ⟨go, N, hN, step⟩
    · refine thn (T.done (lcCx X scope NY s2 H2 G.objs.size fp) rfl rfl rfl hc i _ s3 _ H3 E' I3 (fpY fr3) st3 stop) fun r s4 ⟨hr, I4⟩ => ?_
      subst hr
      obtain ⟨m4, hn4, _⟩ := I4.loc
      exact fin _ _ H3 s4 ys m4 hCle (I4.pin (s2.heap.objs.size, LCg.lst us) (by simp)).2.1 I4.free hDC hn4 (lc_out I2 f2 hCle (xam _) I4 rv (xb2 hsz)) qn
    · refine thn (T.item (lcCx X scope NY s2 H2 G.objs.size fp) rfl rfl rfl hc i _ s3 _ H3 E' I3 (fpY fr3) st3 go) fun r s4 ⟨u, hr, h4⟩ => ?_
      subst hr
      refine thn h4 fun _ s5 ⟨x, H5, I5, r5, y5, st5, fr5⟩ => ?_
      have I5' := I5.pinned (fpY fr5) (T.obj _ _ st5)
      refine thnF (hg _ s5 _ H5 x u _ I5' r5 (step x H5 y5)) fun _ s6 ⟨Z6, H6, I6, sub6, q6⟩ => ?_
      have keep : ∀ {Z7 : St} {H7 : Hp} {s7 : Shared}, Inv (lcCx X scope NY s2 H2 G.objs.size fp) ([(s2.heap.objs.size, LCg.lst us)] ++ pinsAt fp s5.heap) Z7 H7 s7 -> tn (i + 1) s7.heap /\ (∀ b ∈ fp, H7 b = none) := fun {Z7 H7 s7} I7 => by
        refine ⟨T.keep _ _ _ st5 fun b hb o e => (I7.pin (b, o) (xa8 _ (xa8 _ (mem_pinsAt hb e)))).1, fun b hb => ?_⟩
        obtain ⟨o, e, d⟩ := T.obj _ _ st5 b hb
        exact (I7.pin (b, o) (xa8 _ (xa8 _ (mem_pinsAt hb e)))).2.1
      refine thnF (ht _ s6 Z6 H6 _ I6 q6) fun ok s7 ⟨H7, I7, q7⟩ => ?_
      cases ok with
      | false =>
        rw [xao xap] at q7 ⊢
        obtain ⟨m', hm, w7⟩ := hN _ _ q7
        obtain ⟨k1, k2⟩ := keep I7
        exact ⟨m', hm, i + 1, H7, ys, us, (I7.weak (by rw [I7.len, I5.len]) sub6.2).unpinned, rv, k1, k2, w7⟩
      | true =>
        rw [xav rfl] at q7 ⊢
        refine thnF (he _ s7 Z6 H7 _ I7 q7) fun y s8 ⟨v, H8, I8, r8, q8⟩ => ?_
        obtain ⟨m', hm, w8⟩ := hN _ _ q8
        obtain ⟨k1, k2⟩ := keep I8
        obtain ⟨pD, nD, neD, nfD, dD⟩ := I8.pin (s2.heap.objs.size, LCg.lst us) (by simp)
        have hul : us.toArray.size <= sizeLine := by rw [xag, <- rv.length]; exact xb2 hsz
        refine append_at pD (fun h9 sb9 hD9 => ?_) hul
        have I8' : Inv (lcCx X scope NY s2 H2 G.objs.size fp) [] (List.replicate k none ++ Z) H8 s8 := (I8.weak (by rw [I8.len, I5.len]) sub6.2).pins_of fun p hp => xak hp (by simp)
        have hDfp : s2.heap.objs.size ∉ fp := fun z => xbd _ (hfl _ z)
        have I9 : Inv (lcCx X scope NY s2 H2 G.objs.size fp) [] (List.replicate k none ++ Z) H8 { s8 with heap := h9 } :=
          I8'.turned (t' := s8.toks) (it := s2.heap.objs.size) (fun b o hb e => (sb9.2 b hb).trans e) nD neD (.inr (xam _)) (fun x c e z => by
            obtain ⟨v', o', e1, e2⟩ := I8.cell x c e
            rw [z, pD] at e1
            have e1' : LCg.lst us = o' := xa0 e1
            rw [<- e1'] at e2
            exact dl us v' e2) (fun p hp => xak hp (by simp [lcCx]))
        refine ⟨m', hm, i + 1, H8, ys ++ [v], us ++ [y], I9.pins_of fun p hp => ?_, rv.append (.cons r8 .nil), T.keep _ _ _ k1 fun b hb o e => (sb9.2 b fun z => hDfp (z ▸ hb)).trans e, k2, w8⟩
        have e : p = (s2.heap.objs.size, LCg.lst (us ++ [y])) := by simpa using hp
        subst e
        exact ⟨hD9.trans (congrArg some (LCg.lst_snoc us y)), nD, neD, nfD, dl _⟩
  exact codeAny_compStart_list (loop _ rfl) (T.self _ 0 _ _ _ (T.keep _ _ _ st2 fun b _ o e => old b o e) (loop _ rfl))
section
variable {X : Cx} {tg elt iter : Expr} {ifs : List Expr} {scope : Scope} {pos : Pos} {NY : List Str} {k : Nat} {wi : TI} {g : TG} {tc : TT} {te : TE}
theorem pe_lc (hc : X.calm = true) (lc : LC X k scope NY) (hi : PI X tg iter wi)
    (hb : ∀ (s₀ : Shared) (H₀ : Hp) (C : Addr) (ex : List Addr), NY.Nodup -> PG (lcCx X scope NY s₀ H₀ C ex) tg g /\ PTs (lcCx X scope NY s₀ H₀ C ex) ifs tc /\ PE (lcCx X scope NY s₀ H₀ C ex) elt te)
    (hs : ∀ x, foldedSetIterable iter X.env x = pure x := by intro _; rfl) : PE X (.ListComp elt [⟨tg, iter, ifs, 0⟩] scope pos) (tLC k wi g tc te) := by
  intro pins s Z H Q I h
  rw [eval_ListComp]
  refine wpAny_comprehension_free (use := none) rfl hs (clos_eq fun x hx e => I.ok.has x.1 (lc.free x hx e)) lc.kind lc.names (thn (hi pins s Z H _ I h) fun v s1 h1 => thn h1 fun itv s2 h2 => ?_)
  obtain ⟨it, fp, tn, J, H2, e, I2, T, st2, f2, W, ⟨m0, w0⟩, turn⟩ := h2
  subst e
  refine lc_run (RR := fun acc C => compPost (model X.prog X.w) X.A X.xe none (EP X pins Z Q) acc C) hc lc hb I2 T st2 f2 w0 turn fun C D H4 s4 ys m hC nD nC hDC hn I4 q => ?_
  refine ⟨m, hn, fun h' sb => ?_⟩
  have hCn : upd H4 D (.lst ys) C = none := by rw [upd_ne (xay hDC)]; exact nC
  obtain ⟨f0, f1, f2', f3, f4, f5⟩ := I2.fpOk (H' := upd H4 D (.lst ys)) hC hCn
  exact ⟨.ref D, _, I4.turned (t' := s4.toks) (fun b o hb e => (sb.2 b hb).trans e) f0 f1 f3 f4 f5, rfl, q D nD⟩
end
end L2
namespace L2
open PySem.Spec PyProof.Rows
theorem log2_lt_of {n k : Nat} (hk : 0 < k) (h : n < 2 ^ k) : n.log2 < k := by
  rcases Nat.eq_zero_or_pos n with h0 | hp
  · rw [h0]; simpa using hk
  · exact (Nat.log2_lt (Nat.ne_of_gt hp)).mpr h
section
variable {X : Cx}
theorem op_is_bl : OpR X (compareOp .Is) (fun x y H Q => ∃ a b, x = .bl a /\ y = .bl b /\ Q (.bl (a == b)) H) := by
  intro pins s Z H x y v u Q I rx ry h
  obtain ⟨a, b, rfl, rfl, q⟩ := h
  cases rx
  cases ry
  exact is_bool (fin_bl I q rfl)
theorem op_isnot_bl : OpR X (compareOp .IsNot) (fun x y H Q => ∃ a b, x = .bl a /\ y = .bl b /\ Q (.bl (a != b)) H) := by
  intro pins s Z H x y v u Q I rx ry h
  obtain ⟨a, b, rfl, rfl, q⟩ := h
  cases rx
  cases ry
  exact isnot_bool (fin_bl I q rfl)
def gLst (K : xFg) (n : Nat) (t : TGs) : TG := fun v Z H Q => ∃ a xs, v = .ref a /\ SqL K H a xs /\ xs.length = n /\ t xs Z H Q
theorem pg_lst {es : List Expr} {k : Nat} {t : TGs} {n : Nat} {pos : Pos} (hc : X.calm = true) (h : PGs X es t)
    (hn : (assignEach es X.env).length = n := by rfl) (hst : (assignEach es X.env).findIdx? (·.1) = none := by rfl) : PG X (.Tuple es k pos) (gLst X.K n t) := by
  intro pins s Z H v u Q I r hw
  obtain ⟨a, xs, e1, hq, hl, hw⟩ := hw
  subst e1
  cases r
  obtain ⟨its, rv, pl, hz⟩ := I.list hq
  have hsz : (assignEach es X.env).length = its.toArray.size := by simp [hn, <- hl, rv.length]
  rw [assign_Tuple]
  refine xaa (wpAny_standAt ?_)
  unfold unpack
  rw [hsz, hst]
  refine xaa (wpAny_holding (PySem.W.kun_itemsOf (I.ok.hd hc) pl.isList fun h' hx => ?_))
  have I1 : Inv X pins Z H { s with heap := h' } := I.kept (t' := s.toks) fun b o e => hx b o (xa5 (xai e)) e
  exact h pins _ Z H xs _ Q I1 (by simpa using rv) hw
end
end L2
namespace Mth
theorem gcd_step (m n : Nat) : Nat.gcd n (m % n) = Nat.gcd m n := by
  rw [Nat.gcd_comm n (m % n), <- Nat.gcd_rec n m, Nat.gcd_comm]
end Mth
namespace L2
open PySem.Spec PyProof.Rows
theorem same_new {H : Hp} {p : Addr} (h : H p = none) (o : HO) : Same H (upd H p o) := fun b u q => by rw [upd_ne (ne_of_none q h)]; exact q
theorem Same.tup {K : xFg} {H H' : Hp} {a : Addr} {xs : List V} (e : Same H H') (h : SqT K H a xs) : SqT K H' a xs := by
  rcases h with (h | ⟨o, h⟩) | h
  · exact .inl (.inl (e _ _ h))
  · exact .inl (.inr ⟨o, e _ _ h⟩)
  · exact .inr h
theorem small {n : Nat} (h : n <= 1000) : n <= sizeLine := xb2 (small1000 h)
section
variable {K : xFg} {a : Addr} {xs : List V} {H : Hp}
theorem lgo (h : SqL K H a xs) : (Itl K a).stop xs.length H /\ ∀ i, i < xs.length -> (Itl K a).go i H /\ ∀ v H', (Itl K a).yld i H v H' -> H' = H /\ xs[i]? = some v :=
  ⟨⟨xs, h, xam _⟩, fun i hi => ⟨⟨xs, xs[i], h, by simp [hi]⟩, fun v H' y => ⟨y.1, y.2 xs h⟩⟩⟩
theorem tgo (h : SqT K H a xs) : (Itt K a).stop xs.length H /\ ∀ i, i < xs.length -> (Itt K a).go i H /\ ∀ v H', (Itt K a).yld i H v H' -> H' = H /\ xs[i]? = some v :=
  ⟨⟨xs, h, xam _⟩, fun i hi => ⟨⟨xs, xs[i], h, by simp [hi]⟩, fun v H' y => ⟨y.1, y.2 xs h⟩⟩⟩
end
end L2
namespace L2
open PySem.Spec PyProof.Rows
structure Fly (B : Heap) (l : List Env) (x : Addr) (cls : Value) (dct : Option Addr) (fl : Value) (h : Heap) : Prop where
  stays : B.StaysIn h
  new : B.get? x = none
  frames : h.FunFrames B l
  obj : ∃ ox vs T oT ts, h.get? x = some ox /\ ox.cls = cls /\ ox.dict = dct /\ ox.data = .fields vs /\ vs[1]? = some (.ref T) /\ B.get? T = none /\ T ≠ x /\ h.get? T = some oT /\ oT.data = .fields ts /\ ts[3]? = some fl
theorem dict_mapF (o : Obj) (f : Array Value -> Array Value) : (o.mapFields f).dict = o.dict := by
  obtain ⟨c, d, dt, sl⟩ := o; cases dt <;> rfl
section
variable {M : Model} {A : Around} {E : Value -> Shared -> Prop} {s : Shared} {B : Heap} {env : Env} {outer : List Env} {L x : Addr} {Q : Unit -> Shared -> Prop}
theorem other_rec {h : Heap} {y : Addr} {oy : Obj} {ws : Array Value} (ey : h.get? y = some oy) (dy : oy.data = .fields ws) {b : Addr} {o : Obj} (eb : h.get? b = some o) (nf : ∀ us, o.data ≠ .fields us) : b ≠ y := fun z => by
  rw [z, ey] at eb
  have z' : oy = o := xa0 eb
  rw [<- z'] at nf
  exact nf ws dy
theorem fly_entry {ox : Obj} {vs : Array Value} {head : Value} {hadNext : Bool} (hfr : A.frames = some (env :: outer)) (hl : s.heap.FunFrames B (env :: outer)) (hf : env.frame = some L)
    (ex : s.heap.get? x = some ox) (hB : B.StaysIn s.heap) (nx : B.get? x = none) (dx : ox.data = .fields vs) (sz : 1 < vs.size)
    (k : ∀ h', Fly B (env :: outer) x ox.cls ox.dict (rawInt L) h' -> s.heap.UpToSlots h' -> Q () { s with heap := h' }) :
    wpAny M A (do let a <- frameOf env; let pl <- entryPlaceOf L hadNext; let b <- EntryCells.newEntry head a .none (rawInt L) .none pl; setField (.ref x) 1 b) Q E s := by
  have nfr : x ∉ (env :: outer).filterMap (·.frame) := fun hm => by
    obtain ⟨_, o, ho, nf⟩ := hl.mem hm
    exact other_rec ex dx ho nf rfl
  refine xaa (wpAny_frameOf_fun hfr hl hf fun g1 so => xaa (wpAny_entryPlaceOf fun pl hpl => ?_))
  unfold EntryCells.newEntry newFields
  refine xaa (wpAny_newObj_type ?_ (hpl.sizeOk5 _ _ _ _ _))
  have ex1 : g1.get? x = some ox := (so.2.1 x nfr).trans ex
  have B1 : B.StaysIn g1 := fun b o eb => (so.2.1 b fun hm => by rw [(hl.mem hm).1] at eb; cases eb).trans (hB b o eb)
  generalize eo : ({ cls := .type "traceback", dict := none, data := .fields ([head, .ref L, .none, rawInt L, .none] ++ (if pl.isEmpty then List.replicate 6 Value.none else pl)).toArray } : Obj) = ob
  have ex2 := xad (h := g1) ob ex1
  refine wpAny_setField ex2 dx sz (k _ ?_ ?_)
  · have Tx : g1.objs.size ≠ x := Nat.ne_of_gt (xai ex1)
    have d3 := Obj.data_mapFields dx (·.setIfInBounds 1 (Value.ref g1.objs.size))
    have e3 := Heap.get?_update_self (Obj.mapFields (·.setIfInBounds 1 (Value.ref g1.objs.size))) ex2 (Obj.isFreed_of_fields d3)
    have freeOb : ob.isFreed = false := by rw [<- eo]; rfl
    have T3 := (xbb (g1.push ob) (Obj.mapFields (·.setIfInBounds 1 (Value.ref g1.objs.size))) (xay Tx)).trans (xa4 g1 freeOb)
    refine ⟨fun b o eb => ?_, nx, hl.of_keeps fun b o eb nf => ?_, _, _, g1.objs.size, ob, _, e3, Obj.cls_mapFields _ _, dict_mapF _ _, d3, by simp [sz], B1.fresh, Tx, T3, by rw [<- eo], ?_⟩
    · rw [xbb _ _ (fun z => by rw [<- z, nx] at eb; cases eb)]
      exact xad _ (B1 b o eb)
    · obtain ⟨sl, q⟩ := so.2.2 b o eb
      refine ⟨{ o with slots := sl }, ?_, rfl⟩
      rw [xbb _ _ (xay (other_rec ex dx eb nf))]
      exact xad _ q
    · rcases hpl with rfl | ⟨_, _, _, _, _, _, _, rfl⟩ <;> simp
  · intro b o eb nf
    obtain ⟨sl, q⟩ := so.2.2 b o eb
    refine ⟨sl, ?_⟩
    rw [xbb _ _ (xay (other_rec ex dx eb nf))]
    exact xad _ q
theorem fly_first {ox : Obj} {vs : Array Value} (hfr : A.frames = some (env :: outer)) (hl : s.heap.FunFrames B (env :: outer)) (hf : env.frame = some L)
    (ex : s.heap.get? x = some ox) (hB : B.StaysIn s.heap) (nx : B.get? x = none) (dx : ox.data = .fields vs) (v1 : vs[1]? = some .none)
    (k : ∀ h', Fly B (env :: outer) x ox.cls ox.dict (rawInt L) h' -> s.heap.UpToSlots h' -> Q () { s with heap := h' }) : wpAny M A (noteFrame (.ref x) env) Q E s := by
  unfold noteFrame
  simp only [hf]
  refine xaa (wpAny_field ex dx v1 ?_)
  rw [xao (show ¬ ((Value.none != Value.none) = true) by decide)]
  exact fly_entry hfr hl hf ex hB nx dx (xbe.mp v1).1 k
theorem fly_next {cls : Value} {dct : Option Addr} (hfr : A.frames = some (env :: outer)) (hf : env.frame = some L) (F : Fly B (env :: outer) x cls dct .none s.heap)
    (k : ∀ h', Fly B (env :: outer) x cls dct (rawInt L) h' -> s.heap.UpToSlots h' -> Q () { s with heap := h' }) : wpAny M A (noteFrame (.ref x) env) Q E s := by
  obtain ⟨ox, vs, T, oT, ts, ex, hc, hd, dx, v1, nT, Tx, eT, dT, t3⟩ := F.obj
  subst hc hd
  unfold noteFrame
  simp only [hf]
  refine xaa (wpAny_field ex dx v1 ?_)
  rw [xav (show (Value.ref T != Value.none) = true by simp)]
  refine xaa (wpAny_field eT dT t3 ?_)
  rw [xao (show ¬ ((Value.none == rawInt L) = true) by simp [rawInt])]
  refine xaa (wpAny_setField eT dT (xbe.mp t3).1 ?_)
  have oth : ∀ b, b ≠ T -> (s.heap.update T (Obj.mapFields (·.setIfInBounds 3 Value.none))).get? b = s.heap.get? b := fun b hb => xbb _ _ (xay hb)
  have up : s.heap.UpToSlots (s.heap.update T (Obj.mapFields (·.setIfInBounds 3 Value.none))) := fun b o eb nf => ⟨o.slots, (oth b (other_rec eT dT eb nf)).trans eb⟩
  refine fly_entry hfr (F.frames.of_keeps fun b o eb nf => ⟨o, (oth b (other_rec eT dT eb nf)).trans eb, rfl⟩) hf ((oth x (xay Tx)).trans ex) (fun b o eb => (oth b fun z => by rw [z, nT] at eb; cases eb).trans (F.stays b o eb)) F.new dx
    (xbe.mp v1).1 fun h' f u => k h' f (up.trans u)
theorem fly_land {l : List Env} {cls fl : Value} {dct : Option Addr} (F : Fly B l x cls dct fl s.heap)
    (k : ∀ h', Fly B l x cls dct .none h' -> s.heap.UpToSlots h' -> Q () { s with heap := h' }) : wpAny M A (setFlight (.ref x) none) Q E s := by
  obtain ⟨ox, vs, T, oT, ts, ex, hc, hd, dx, v1, nT, Tx, eT, dT, t3⟩ := F.obj
  have sz : 3 < ts.size := (xbe.mp t3).1
  unfold setFlight
  refine xaa (wpAny_field ex dx v1 ?_)
  rw [xav (show (Value.ref T != Value.none) = true by simp)]
  have oth : ∀ b, b ≠ T -> (s.heap.update T (Obj.mapFields (·.setIfInBounds 3 ((none : Option Addr).elim Value.none fun f => rawInt f)))).get? b = s.heap.get? b := fun b hb => xbb _ _ (xay hb)
  refine wpAny_setField eT dT sz (k _ ⟨fun b o eb => (oth b fun z => by rw [z, nT] at eb; cases eb).trans (F.stays b o eb), F.new, F.frames.of_keeps fun b o eb nf => ⟨o, (oth b (other_rec eT dT eb nf)).trans eb, rfl⟩,
    ox, vs, T, _, _, (oth x (xay Tx)).trans ex, hc, hd, dx, v1, nT, Tx, Heap.get?_update_self _ eT (Obj.isFreed_of_fields (Obj.data_mapFields dT _)), Obj.data_mapFields dT _, by simp [sz]⟩
    fun b o eb nf => ⟨o.slots, (oth b (other_rec eT dT eb nf)).trans eb⟩)
theorem Fly.out {cls : Value} {dct : Option Addr} {fl : Value} {h : Heap} (F : Fly B (env :: outer) x cls dct fl h) : Fly B outer x cls dct fl h := ⟨F.stays, F.new, F.frames.2.2, F.obj⟩
end
end L2
namespace L2
open PySem.Spec PyProof.Rows
theorem ObjOk.there {P : Program} {w : World} {H : Hp} {h : Heap} {a : Addr} {o : HO} (x : ObjOk P w H h a o) : ∃ ob, h.get? a = some ob := by
  cases o with
  | lst xs => obtain ⟨_, _, _, _, e⟩ := x; exact ⟨_, e⟩
  | tup xs => obtain ⟨_, _, _, ob, e, _⟩ := x; exact ⟨ob, e⟩
  | dK kvs => obtain ⟨_, _, _, _, o, _, _, e, _⟩ := x; exact ⟨o, e⟩
  | dT kvs => obtain ⟨_, _, _, _, o, _, _, e, _⟩ := x; exact ⟨o, e⟩
  | set S n => obtain ⟨o, _, _, _, e, _⟩ := x; exact ⟨o, e⟩
  | ins C dx fs => obtain ⟨_, _, _, e, _⟩ := x; exact ⟨_, e⟩
  | own y => exact x
  | xd fs => obtain ⟨_, ⟨o, _, _, e, _⟩, _⟩ := x; exact ⟨o, e⟩
  | rng lo hi => obtain ⟨_, _, _, e⟩ := x; exact ⟨_, e⟩
  | frz ob u => obtain ⟨e, _⟩ := x; exact ⟨_, e⟩
  | tbl ps => exact ⟨_, (show h.get? a = some _ from x)⟩
  | met f y => exact ⟨_, (show h.get? a = some _ from x)⟩
  | ext φ => exact x.2.1
structure InB (B : Heap) (fs : List Addr) (h0 : Heap) (H' : Hp) (h' : Heap) : Prop where
  old : ∀ b o, h0.get? b = some o -> b ∉ fs -> ∀ o', h'.get? b = some o' -> B.get? b = some o'
  trk : ∀ b u, H' b = some u -> ∀ o', h'.get? b = some o' -> B.get? b = some o'
def CXe (P : Program) (w : World) : CXT := fun outer H s E e s' => ∃ (x C : Addr) (dct : Option Addr) (H' : Hp) (B : Heap), e = .ref x /\ s'.os = s.os /\ AllBare s'.gens /\ Un (frs outer) [] H H' s.heap s'.heap /\ HOk P w H' s'.heap /\
  Fly B outer x (.ref C) dct .none s'.heap /\ InB B (frs outer) s.heap H' s'.heap /\ H' x = none /\ E (.ref C) dct H'
section
variable {X : Cx} {pins : List (Addr × Obj)} {Z : St} {H H' : Hp} {s s' : Shared} {x C : Addr} {B : Heap} {E : XK} {dct : Option Addr} {M : Model} {EE : Value -> Shared -> Prop}
theorem frs_cons {env : Env} {outer : List Env} {L : Addr} (hf : env.frame = some L) : frs (env :: outer) = L :: frs outer := by
  unfold frs; rw [xbx, hf]
theorem leave_made {h' : Heap} {args : List Value} {tk : Nat} (I : Inv X pins Z H s) (hst : X.stack = X.env :: X.outer) (hf : X.env.frame = some X.env.locals) (hex : X.ex = []) (m : Heap.MadeExcOf s.heap h' x (.ref C) args) (hE : E (.ref C) none H) :
    wpAny M X.A (leaving X.env (.ref x)) (fun _ s2 => CXe X.prog X.w X.outer X.H₀ X.s₀ E (.ref x) s2) EE { s with heap := h', toks := tk } := by
  have stk := I.stack
  have hfr : X.A.frames = some (X.env :: X.outer) := by rw [<- hst]; exact I.ok.frames
  rw [hst] at stk
  have fc : frs (X.env :: X.outer) = X.env.locals :: X.fs := frs_cons hf
  have hin : ∀ env ∈ (X.env :: X.outer), ∀ b, env.frame = some b -> b ∈ frs (X.env :: X.outer) := fun env he b hb => List.mem_filterMap.mpr ⟨env, he, hb⟩
  generalize eB : PySem.W.hideAll s.heap (frs (X.env :: X.outer)) = B
  have inB : ∀ b o, s.heap.get? b = some o -> b ∉ frs (X.env :: X.outer) -> B.get? b = some o := fun b o e n => by rw [<- eB]; exact PySem.W.hideAll_get _ e n
  have ofB : ∀ b o, B.get? b = some o -> s.heap.get? b = some o := fun b o e => by rw [<- eB] at e; exact PySem.W.of_hideAll _ e
  have fl0 : s.heap.FunFrames B (X.env :: X.outer) := by rw [<- eB]; exact PySem.W.funFrames_hide stk hin
  have nx : B.get? x = none := by
    cases q : B.get? x with
    | none => rfl
    | some o => have := ofB x o q; rw [m.new] at this; cases this
  obtain ⟨t, et, _, _⟩ := m.there
  have tfree : ∀ b u, H b = some u -> b ∉ frs (X.env :: X.outer) := fun b u e hb => by
    have := I.stkFree b (by rw [hst]; exact hb)
    rw [e] at this; cases this
  have hHx : H x = none := by
    cases q : H x with
    | none => rfl
    | some u =>
      obtain ⟨ob, e⟩ := (I.hok x u q).there
      rw [m.new] at e; cases e
  unfold leaving
  refine xaa (fly_first (s := { s with heap := h', toks := tk }) hfr (fl0.of_keeps fun b o e _ => ⟨o, m.keeps b o e, rfl⟩) hf et (fun b o e => m.keeps b o (ofB b o e)) nx rfl rfl fun h1 F1 u1 => fly_land F1 fun h2 F2 u2 => ?_)
  have up : s.heap.UpToSlots h2 := (Heap.UpToSlots.of_keeps m.keeps).trans (u1.trans u2)
  have keep2 : ∀ b o, s.heap.get? b = some o -> b ∉ frs (X.env :: X.outer) -> h2.get? b = some o := fun b o e n => F2.stays b o (inB b o e n)
  have below : ∀ b o, X.s₀.heap.get? b = some o -> b ∉ X.fs -> b ∉ frs (X.env :: X.outer) := fun b o e nb hb => by
    rw [fc] at hb
    rcases xaz.mp hb with z | z
    · exact xak (xaf (xai e) I.ok.above) (by rw [z]; exact xbd _)
    · exact nb z
  have noex : ∀ b, b ∉ X.ex := fun b z => by rw [hex] at z; cases z
  have slot2 : ∀ b o, s.heap.get? b = some o -> b ∈ X.fs -> ∃ sl, h2.get? b = some { o with slots := sl } := fun b o e hb => by
    obtain ⟨_, o1, e1, nf⟩ := stk.mem (b := b) (by show b ∈ frs (X.env :: X.outer); rw [fc]; exact xaq _ hb)
    rw [e] at e1; cases e1
    exact up b o e nf
  refine ⟨x, C, none, H, B, rfl, I.os, I.bare, ⟨fun b o e n hb _ => keep2 b o (I.base.keep b o e n hb (noex b)) (below b o e hb), fun b o e n hb _ => ?_, fun b o e n _ => I.base.free b o e n (noex b), fun b o e _ => ?_, I.base.tups, I.base.frzs, I.base.tbls⟩,
    fun b u e => (I.hok b u e).stay (fun c v hc q => keep2 c v q ?_) (fun _ q => q) fun _ _ q => q, F2.out, ⟨fun b o e nb o' e' => ?_, fun b u e o' e' => ?_⟩, hHx, hE⟩
  · obtain ⟨sl, e1⟩ := I.base.slot b o e n hb (noex b)
    obtain ⟨sl2, e2⟩ := slot2 b _ e1 hb
    exact ⟨sl2, e2⟩
  · obtain ⟨o1, e1⟩ := I.base.there b o e (noex b)
    by_cases hb : b ∈ X.fs
    · obtain ⟨sl2, e2⟩ := slot2 b _ e1 hb
      exact ⟨_, e2⟩
    · exact ⟨o1, keep2 b o1 e1 (below b o e hb)⟩
  · rcases hc with z | z
    · rw [z]; exact tfree b u e
    · exact tfree c _ z
  · obtain ⟨o1, e1⟩ := I.base.there b o e (noex b)
    have q := inB b o1 e1 (below b o e nb)
    rw [F2.stays b o1 q] at e'
    cases e'; exact q
  · obtain ⟨o1, e1⟩ := (I.hok b u e).there
    have q := inB b o1 e1 (tfree b u e)
    rw [F2.stays b o1 q] at e'
    cases e'; exact q
theorem leave_on {e : Value} (I : Inv X pins Z H s) (hst : X.stack = X.env :: X.outer) (hf : X.env.frame = some X.env.locals) (hex : X.ex = []) (h : CXe X.prog X.w X.stack H s E e s') :
    wpAny M X.A (leaving X.env e) (fun _ s2 => CXe X.prog X.w X.outer X.H₀ X.s₀ E e s2) EE s' := by
  obtain ⟨x, C, dct, H', B, rfl, ho, hg, un, hok, F, ib, nx, hE⟩ := h
  have stk := I.stack
  have hfr : X.A.frames = some (X.env :: X.outer) := by rw [<- hst]; exact I.ok.frames
  rw [hst] at stk F ib un
  have fc : frs (X.env :: X.outer) = X.env.locals :: X.fs := frs_cons hf
  unfold leaving
  refine xaa (fly_next hfr hf F fun h1 F1 u1 => fly_land F1 fun h2 F2 u2 => ?_)
  have up : s'.heap.UpToSlots h2 := u1.trans u2
  have below : ∀ b o, X.s₀.heap.get? b = some o -> b ∉ X.fs -> b ∉ frs (X.env :: X.outer) := fun b o e nb hb => by
    rw [fc] at hb
    rcases xaz.mp hb with z | z
    · exact xak (xaf (xai e) I.ok.above) (by rw [z]; exact xbd _)
    · exact nb z
  have inFs : ∀ b, b ∈ X.fs -> b ∈ frs (X.env :: X.outer) := fun b hb => by rw [fc]; exact xaq _ hb
  have noex : ∀ b, b ∉ X.ex := fun b z => by rw [hex] at z; cases z
  have no0 : ∀ b : Addr, b ∉ ([] : List Addr) := fun b => by simp
  have slot2 : ∀ b o, s.heap.get? b = some o -> H b = none -> b ∈ X.fs -> ∃ sl, h2.get? b = some { o with slots := sl } := fun b o e n hb => by
    obtain ⟨_, o1, e1, nf⟩ := stk.mem (b := b) (inFs b hb)
    rw [e] at e1; cases e1
    obtain ⟨sl, e2⟩ := un.slot b o e n (inFs b hb) (no0 b)
    obtain ⟨sl2, e3⟩ := up b _ e2 nf
    exact ⟨sl2, e3⟩
  have free1 : ∀ b o, X.s₀.heap.get? b = some o -> X.H₀ b = none -> H b = none := fun b o e n => I.base.free b o e n (noex b)
  refine ⟨x, C, dct, H', B, rfl, ho.trans I.os, hg, ⟨fun b o e n hb _ => ?_, fun b o e n hb _ => ?_, fun b o e n _ => ?_, fun b o e _ => ?_, fun b xs q => un.tups b xs (I.base.tups b xs q), fun b o u q => un.frzs b o u (I.base.frzs b o u q), fun b ps q => ?_⟩,
    fun b u e => (hok b u e).stay (fun c v hc q => F2.stays c v ?_) (fun _ q => q) fun _ _ q => q, F2.out, ⟨fun b o e nb o' e' => ?_, fun b u e o' e' => ?_⟩, nx, hE⟩
  · have e1 := I.base.keep b o e n hb (noex b)
    have e2 := un.keep b o e1 (free1 b o e n) (below b o e hb) (no0 b)
    exact F2.stays b o (ib.old b o e1 (below b o e hb) o e2)
  · obtain ⟨sl, e1⟩ := I.base.slot b o e n hb (noex b)
    obtain ⟨sl2, e2⟩ := slot2 b _ e1 (free1 b o e n) hb
    exact ⟨sl2, e2⟩
  · obtain ⟨o1, e1⟩ := I.base.there b o e (noex b)
    exact un.free b o1 e1 (free1 b o e n) (no0 b)
  · obtain ⟨o1, e1⟩ := I.base.there b o e (noex b)
    obtain ⟨o2, e2⟩ := un.there b o1 e1 (no0 b)
    by_cases hb : b ∈ X.fs
    · have n : H b = none := I.stkFree b (by rw [hst]; exact inFs b hb)
      obtain ⟨sl2, e3⟩ := slot2 b _ e1 n hb
      exact ⟨_, e3⟩
    · exact ⟨o2, F2.stays b o2 (ib.old b o1 e1 (below b o e hb) o2 e2)⟩
  · obtain ⟨m1, e1⟩ := I.base.tbls b ps q
    obtain ⟨m2, e2⟩ := un.tbls b _ e1
    exact ⟨m1 ++ m2, by rw [e2, Array.append_assoc]⟩
  · rcases hc with z | z
    · subst z; exact ib.trk c u e v q
    · exact ib.trk c _ z v q
  · obtain ⟨o1, e1⟩ := I.base.there b o e (noex b)
    obtain ⟨o2, e2⟩ := un.there b o1 e1 (no0 b)
    have q := ib.old b o1 e1 (below b o e nb) o2 e2
    rw [F2.stays b o2 q] at e'
    cases e'; exact q
  · obtain ⟨o1, e1⟩ := (hok b u e).there
    have q := ib.trk b u e o1 e1
    rw [F2.stays b o1 q] at e'
    cases e'; exact q
def excO (x C : Addr) (dct : Option Addr) : HO := .ext fun h => ∃ o, h.get? x = some o /\ o.cls = .ref C /\ o.dict = dct /\ PySem.W.notCls o = true
theorem caught_inv {h3 : Heap} {tk : Nat} (I : Inv X pins Z H s) (ho : s'.os = s.os) (hg : AllBare s'.gens) (un : Un (frs X.stack) [] H H' s.heap s'.heap) (hok : HOk X.prog X.w H' s'.heap) (F : Fly B X.stack x (.ref C) dct .none h3)
    (ib : InB B (frs X.stack) s.heap H' s'.heap) (up : s'.heap.UpToSlots h3) (nx : H' x = none) : Inv X pins Z (upd H' x (excO x C dct)) { s' with heap := h3, toks := tk } := by
  have stk := I.stack
  have no0 : ∀ b : Addr, b ∉ ([] : List Addr) := fun b => by simp
  have nex : ∀ b o, s.heap.get? b = some o -> b ∉ frs X.stack -> b ≠ x := fun b o e nb z => by
    obtain ⟨o2, e2⟩ := un.there b o e (no0 b)
    have q := ib.old b o e nb o2 e2
    rw [z, F.new] at q; cases q
  have nfx : ∀ b, b ∈ frs X.stack -> b ≠ x := fun b hb z => by
    obtain ⟨_, o1, e1, nf⟩ := F.frames.mem (b := b) hb
    obtain ⟨ox, vs, T, oT, ts, ex, _, _, dx, _⟩ := F.obj
    rw [z, ex] at e1; cases e1
    exact nf vs dx
  have ne : ∀ b o, s.heap.get? b = some o -> b ≠ x := fun b o e => by
    by_cases hb : b ∈ frs X.stack
    · exact nfx b hb
    · exact nex b o e hb
  have hok3 : HOk X.prog X.w (upd H' x (excO x C dct)) h3 := fun b u e => by
    by_cases hb : b = x
    · subst hb
      rw [upd_same] at e; cases e
      obtain ⟨ox, vs, T, oT, ts, ex, hc, hd, dx, _⟩ := F.obj
      have nc : PySem.W.notCls ox = true := by unfold PySem.W.notCls; rw [dx]
      exact ⟨⟨ox, ex, hc, hd, nc⟩, ⟨ox, ex⟩, fun h1 h2 ⟨o, q, r⟩ k => ⟨o, k o q, r⟩⟩
    · rw [upd_ne hb] at e
      refine (hok b u e).stay (fun c v hc q => F.stays c v ?_) (fun c q => by rw [upd_ne (ne_of_none q nx)]; exact q) fun c xs q => by rw [upd_ne (ne_of_none q nx)]; exact q
      rcases hc with z | z
      · subst z; exact ib.trk c u e v q
      · exact ib.trk c _ z v q
  have U : Un (frs X.stack) [] H (upd H' x (excO x C dct)) s.heap h3 := by
    refine ⟨fun b o e n hb _ => ?_, fun b o e n hb _ => ?_, fun b o e n _ => ?_, fun b o e _ => ?_, fun b xs q => ?_, fun b o u q => ?_, fun b ps q => ?_⟩
    · exact F.stays b o (ib.old b o e hb o (un.keep b o e n hb (no0 b)))
    · obtain ⟨sl, e1⟩ := un.slot b o e n hb (no0 b)
      obtain ⟨_, o1, e2, nf⟩ := stk.mem (b := b) hb
      rw [e] at e2; cases e2
      obtain ⟨sl2, e3⟩ := up b _ e1 nf
      exact ⟨sl2, e3⟩
    · rw [upd_ne (ne b o e)]; exact un.free b o e n (no0 b)
    · obtain ⟨o2, e2⟩ := un.there b o e (no0 b)
      by_cases hb : b ∈ frs X.stack
      · have n : H b = none := I.stkFree b hb
        obtain ⟨sl, e1⟩ := un.slot b o e n hb (no0 b)
        obtain ⟨_, o1, e3, nf⟩ := stk.mem (b := b) hb
        rw [e] at e3; cases e3
        obtain ⟨sl2, e4⟩ := up b _ e1 nf
        exact ⟨_, e4⟩
      · exact ⟨o2, F.stays b o2 (ib.old b o e hb o2 e2)⟩
    · have z := un.tups b xs q
      rw [upd_ne (ne_of_none z nx)]; exact z
    · have z := un.frzs b o u q
      rw [upd_ne (ne_of_none z nx)]; exact z
    · obtain ⟨more, z⟩ := un.tbls b ps q
      exact ⟨more, by rw [upd_ne (ne_of_none z nx)]; exact z⟩
  have J := I.call (g' := s'.gens) (t' := tk) (d' := s'.drawn) (ch := []) U hok3 hg (fun b z => xak z (no0 b))
  obtain ⟨hh, g, d, t, os⟩ := s'
  have e : os = s.os := ho
  subst e
  exact J
end
end L2
namespace L2
open PySem.Spec PyProof.Rows PySem.W
section
variable {prog : Program} {w : World} {A : Around} {E : Value -> Shared -> Prop} {s : Shared} {K : Frag} {x D : Addr} {ox : Obj} {od : Option Obj} {name : Str} {tk : Tok}
theorem exc_check {M : Model} {nameV : Value} {Q : Unit -> Shared -> Prop} (X : K.In s.heap) (I : InstAt s.heap x ox D od) (hb : mroIn K D (.type "BaseException") = some true) (hq : Q () s) :
    wpAny M A (checkBuiltinCall "BaseException.__getattribute__" ⟨[.ref x, nameV], []⟩) Q E s := by
  have hk : builtinKind "BaseException.__getattribute__" = some .slot := by decide +kernel
  have hsp : splitId "BaseException.__getattribute__" = some ("BaseException", "__getattribute__") := by decide +kernel
  have ha := F.args_bexc_ga (.ref x) nameV
  obtain ⟨hh, g, d, t, os⟩ := s
  have L0 : Looks M hh (isInstance (.ref x) (.type "BaseException")) true := (I.type (M := M)).andThen (looks_mroIn X hb)
  simp only [checkBuiltinCall, hk, hsp]
  refine xaa (L0.at ?_)
  repeat (any_goals (first | assumption | wp_step))
theorem exc_ga {R : Result -> Shared -> Prop} {g a : Value} (X : K.In s.heap) (I : InstAt s.heap x ox D od) (hb : mroIn K D (.type "BaseException") = some true) (hf : findObj K D od name = some (.bind g a))
    (h : wpAny (model prog w) A.in1 (call g [a, .ref x, .ref D]) (fun v s' => R (.ok (.ret v)) s') (fun e s' => R (.error e) s') s) :
    codeAny (model prog w) A (.call (.builtin "BaseException.__getattribute__") ⟨[.ref x, .str name tk], []⟩) R s := by
  refine codeAny_call_builtin F.attr_ValueError.ga.plain F.entry_bexc_ga (exc_check X I hb ?_)
  obtain ⟨hh, gg, d, t, os⟩ := s
  have L0 := I.type (M := model prog w)
  have L1 := looks_find (M := model prog w) X I hf
  unfold Builtin.«object.__getattribute__»
  refine xaa (wpAny_of_eq (a := (Value.ref x, [Value.str name tk])) rfl ?_)
  refine xaa (wpAny_of_eq (a := name) rfl ?_)
  refine xaa (L0.at (xaa (L1.at ?_)))
  show wpAny _ _ (do ret (<- holding [a] (call g [a, Value.ref x, Value.ref D]))) _ _ _
  exact xaa (wpAny_holding (wpAny_mono h (fun v s' q => xaj q) fun e s' q => q))
theorem findObj_bind {a g : Value} (hc : (clsIn K D).isSome = true) (ha : findIn K (.ref D) name = some (some a)) (hg : specialIn K a "__get__" = some (some g)) (ht : takesIn K a = some true) : findObj K D od name = some (.bind g a) := by
  obtain ⟨cd, hc⟩ := xbi.mp hc
  unfold findObj
  rw [hc, Option.bind_some, ha, Option.bind_some]
  simp [hg, ht]
structure ExcC (K : Frag) (D : Addr) : Prop where
  cls : (clsIn K D).isSome = true
  ga : findIn K (.ref D) "__getattribute__" = some (some (.builtin "BaseException.__getattribute__"))
  gh : findIn K (.ref D) "__getattr__" = some none
  base : mroIn K D (.type "BaseException") = some true
  obj : mroIn K D (.type "object") = some true
  ca : findIn K (.ref D) "__class__" = some (some (.builtin "object.__class__"))
  cg : specialIn K (.builtin "object.__class__") "__get__" = some (some (.builtin "getset_descriptor.__get__"))
  ct : takesIn K (.builtin "object.__class__") = some true
theorem exc_class {Q : Option Value -> Shared -> Prop} (c : ExcC K D) (X : K.In s.heap) (I : InstAt s.heap x ox D od) (h : Q (some (.ref D)) { s with toks := s.toks + 1 }) :
    wpAny (model prog w) A (getAttr? (.ref x) "__class__") Q E s := by
  obtain ⟨hh, gg, d, t, os⟩ := s
  have L0 := I.type (M := model prog w)
  have L1 := looks_findIn (M := model prog w) X c.ga
  have L2 := looks_findIn (M := model prog w) X c.gh
  have hf : findObj K D od "__class__" = some (.bind (.builtin "getset_descriptor.__get__") (.builtin "object.__class__")) := findObj_bind c.cls c.ca c.cg c.ct
  have hx1 : (onTheHeap (Value.ref D) && Value.builtin "BaseException.__getattribute__" == Value.builtin "object.__getattribute__") = false := by
    rw [show (Value.builtin "BaseException.__getattribute__" == Value.builtin "object.__getattribute__") = false by decide +kernel]; rfl
  unfold getAttr? getAttrBy? getAttrBy
  refine xaa (wpAny_mkText (xaa (wpAny_attempt (wpAny_holding (xaa (L0.at (xaa (L1.at ?_))))))))
  dsimp only
  rw [hx1, xao xap]
  unfold getAttrByItsOwn
  refine xaa ?_
  show wpAny _ _ (typeLookup (.ref D) "__getattr__") _ _ _
  refine L2.at ?_
  refine xaa (wpAny_attempt (wpAny_holding ?_))
  show wpAny _ _ (boundAndCalled (.builtin "BaseException.__getattribute__") (.ref x) (.str "__class__" t)) _ _ _
  unfold boundAndCalled
  refine xaa (wpAny_of_eq (F.attr_ValueError.ga.bind (.ref x)) ?_)
  refine wpAny_call (exc_ga X I c.base hf ?_)
  refine wpAny_call (class_get X I c.obj ?_)
  exact handed_on rfl (xaj h)
theorem kitx_exc (c : ExcC K D) : KitX K (.ref x) (.ref D) (fun h => ∃ ox od, InstAt h x ox D od) where
  ty := fun _ _ _ ⟨_, _, I⟩ => I.type
  it := fun _ _ X _ => by
    obtain ⟨cdD, hcD⟩ := xbi.mp c.cls
    unfold clsIn at hcD
    split at hcD
    · rename_i c' d' cd' sl' ho
      intro A' Q' E' s' k q
      unfold isType loadHead
      exact xaa (wpAny_loadPart (k _ _ (X _ _ ho)) (xaj q))
    · cases hcD
  ne := fun h tp dd its n sl X htp => by
    obtain ⟨cdD, hcD⟩ := xbi.mp c.cls
    refine Bool.eq_false_iff.mpr fun q => ?_
    have e : D = tp := Value.ref.inj (beq_iff_eq.mp q)
    subst e
    unfold clsIn at hcD
    split at hcD
    · rename_i c' d' cd' sl' ho
      have z := (X _ _ ho).symm.trans htp
      cases z
    · cases hcD
  ca := fun X ⟨_, _, I⟩ k => exc_class c X I k
end
end L2
namespace L2
open PySem.Spec PyProof.Rows
section
variable {P : Program} {w : World} {K : xFg} {mg : Str -> Option Value} {base : Heap}
theorem Fun.okX {CX : CXT} {x qual : Str} {st : Stmt} {f : Addr} {fd : FuncData} {N ps : List Str} {k : Nat} {sp : Sp} (F : Fun K x qual st f fd) (S : FnScope N ps (defScope st)) (len : ∀ vs H Q E, sp vs H Q E -> vs.length = ps.length)
    (hbody : ∀ (cdv : Value) (A : Around) (outer : List Env) (s : Shared) (H : Hp) (vs : List V) (Q : VK) (E : XK), Room k (A.deeper (envOfC qual (defScope st) s.heap.objs.size f cdv)) -> sp vs H Q E ->
      ∃ t, PSs (cxOf CX P w K mg base N qual (defScope st) f cdv A outer s H E) (defBody st) t /\ t { nx := fun _ H' => Q .non H', rt := Q } (start N vs) H) : FnOk P w K mg base CX (k + 1) f fd ps sp := by
  obtain ⟨oc, od, kV, doc, pm, an, cdv, ct, osl, rfl, lk, hcd⟩ := F.ex
  exact fn_of lk hcd S len fun A outer s H vs Q E hr hsp => hbody cdv A outer s H vs Q E hr hsp
theorem passE {N : List Str} {qual : Str} {scope : Scope} {f : Addr} {cdv : Value} {A : Around} {outer : List Env} {s : Shared} {H : Hp} {E : XK} : Passes (CXe P w) (cxOf (CXe P w) P w K mg base N qual scope f cdv A outer s H E) E :=
  fun pins Z H1 s1 e s' I h => leave_on (X := cxOf (CXe P w) P w K mg base N qual scope f cdv A outer s H E) I rfl rfl rfl h
theorem passN {X : Cx} : Passes (CXe P w) X E0 := fun _ _ _ _ _ _ _ h => by
  obtain ⟨_, _, _, _, _, _, _, _, _, _, _, _, _, z⟩ := h
  exact z.elim
end
theorem exc_obj {K : xFg} {h : Heap} {C : Addr} {bmB : List Value} {newId : String} (X : K.In h) (q : PySem.W.excIn K C bmB newId = true) :
    ∃ bm N nm qn bs hdct sn sub ab col dd k0 k1 k2 k3 k5 mN, h.get? C = some (excClassObj nm qn C N bs bm hdct sn sub ab col dd k0 k1 k2 k3 k5 newId) /\ h.Ns N mN /\ mN "__init__" = none /\ OwnTail h bmB bm := by
  unfold PySem.W.excIn at q
  split at q
  · rename_i dd cd sl lk
    split at q
    · rename_i C' bm k0 k1 k2 k3 nn k5 hm hs
      simp only [xau, beq_iff_eq, Bool.not_eq_true'] at q
      obtain ⟨⟨⟨⟨⟨rfl, rfl⟩, hdel⟩, ht⟩, hok⟩, hni⟩ := q
      obtain ⟨nm, bs, mro, ns, qn, hd, sn, sub, ab, col, del⟩ := cd
      dsimp only at hm hdel hok hni
      subst hm hdel
      obtain rfl : sl = #[k0, k1, k2, k3, some (.builtin nn), k5] := by
        obtain ⟨l⟩ := sl
        simp only at hs
        rw [hs]
      exact ⟨bm, ns, nm, qn, bs, hd, sn, sub, ab, col, dd, k0, k1, k2, k3, k5, _, X _ _ lk, .of_isNs (PySem.W.isNs_of_in X hok), PySem.W.nsMap_none_of_in X hok hni, PySem.W.tail_of_in X ht⟩
    · cases q
  · cases q
def tRaise (C : Addr) (ta : TA) (E : XK) : TS := fun _ Z H => ta Z H fun vs H1 => vs.length <= sizeLine /\ E (.ref C) none H1
section
variable {P : Program} {w : World} {K : xFg} {mg : Str -> Option Value} {base : Heap} {N : List Str} {qual : Str} {scope : Scope} {f : Addr} {cdv : Value} {A : Around} {outer : List Env} {s0 : Shared} {H0 : Hp} {E : XK}
theorem ps_raise {x : Str} {C : Addr} {e0 : Expr} {rest : List Expr} {np cpos pos : Pos} {ta : TA} (q : PySem.W.excIn K C [.type "ValueError", .type "Exception", .type "BaseException", .type "object"] "ValueError.__new__" = true)
    (hg : Gl (cxOf (CXe P w) P w K mg base N qual scope f cdv A outer s0 H0 E) x) (hm : mg x = some (.ref C)) (ha : PA (cxOf (CXe P w) P w K mg base N qual scope f cdv A outer s0 H0 E) (e0 :: rest) ta)
    (hdb : (x == ("__debug__" : Str)) = false := by decide)
    (he : starEach (e0 :: rest) (envOfC qual scope s0.heap.objs.size f cdv) = (false, eval e0 (envOfC qual scope s0.heap.objs.size f cdv)) :: starEach rest (envOfC qual scope s0.heap.objs.size f cdv) := by rfl)
    (hpl : (backTo cpos (starEach rest (envOfC qual scope s0.heap.objs.size f cdv))).any (·.1) = false := by rfl) :
    PS (cxOf (CXe P w) P w K mg base N qual scope f cdv A outer s0 H0 E) (.Raise (some (.Call (.Name x np) (e0 :: rest) [] cpos)) none pos) (tRaise C ta E) := by
  intro pins s Z H D I h
  obtain ⟨bm, Nn, nm, qn, bs, hdct, sn, sub, ab, col, dd, k0, k1, k2, k3, k5, mN, hC, hN, hni, T⟩ := exc_obj I.mod.kin q
  refine wpAny_Raise_call_subT (C := C) (nm := nm) (q := qn) (N := Nn) (bs := bs) (bm := bm) (hdct := hdct) (sn := sn) (sub := sub) (ab := ab) (col := col) (dd := dd) (k0 := k0) (k1 := k1) (k2 := k2) (k3 := k3) (k5 := k5)
    PySem.F.excBase_ValueError (mN := mN) (T.hasType PySem.F.excBase_ValueError.hasBase) (I.ok.hd rfl) (by
      show (backTo cpos (starEach (e0 :: rest) (envOfC qual scope s0.heap.objs.size f cdv))).any (·.1) = false
      rw [he]; show (false || (backTo cpos (starEach rest (envOfC qual scope s0.heap.objs.size f cdv))).any (·.1)) = false; rw [hpl]; rfl) hni (ld_glob I hg hm ⟨rfl, ?_⟩ hdb)
  have ha' := ha cpos pins s Z H _ I h
  show wpAny _ _ (evalArgs (.ref C) true (backTo cpos (starEach (e0 :: rest) (envOfC qual scope s0.heap.objs.size f cdv))) []) _ _ _
  change wpAny _ _ (spliced (backTo cpos (starEach (e0 :: rest) (envOfC qual scope s0.heap.objs.size f cdv)))) _ _ _ at ha'
  rw [he] at ha' ⊢
  refine Calls.evalArgs_plain (thn ha' fun us s2 ⟨vs, H1, I1, r, hz, hE⟩ => ?_)
  have hl : us.length <= sizeLine := by rw [<- r.length]; exact hz
  exact ⟨rfl, hl, I1.bk _ _ hC, hN.keeps I1.bk, T.keeps I1.bk, fun h' e m => leave_made (tk := s2.toks) I1 rfl rfl rfl m hE⟩
end
end L2
namespace L2
open PySem.Spec PyProof.Rows
abbrev TEX := St -> Hp -> VK -> XK -> Prop
abbrev TSX := Ends -> XK -> St -> Hp -> Prop
def XP (X : Cx) (CX : CXT) (pins : List (Addr × Obj)) (Z : St) (E : XK) (e : Value) (s' : Shared) : Prop := ∃ s1 H1, Inv X pins Z H1 s1 /\ CX X.stack H1 s1 E e s'
def PEX (X : Cx) (CX : CXT) (e : Expr) (t : TEX) : Prop :=
  ∀ (pins : List (Addr × Obj)) (s : Shared) (Z : St) (H : Hp) (Q : VK) (E : XK), Inv X pins Z H s -> t Z H Q E -> wpAny (model X.prog X.w) X.A (eval e X.env) (EP X pins Z Q) (XP X CX pins Z E) s
def PSX (X : Cx) (CX : CXT) (st : Stmt) (t : TSX) : Prop :=
  ∀ (pins : List (Addr × Obj)) (s : Shared) (Z : St) (H : Hp) (D : Ends) (E : XK), Inv X pins Z H s -> t D E Z H -> wpAny (model X.prog X.w) X.A (exec st X.env) (SP X pins D) (XP X CX pins Z E) s
def PSXs (X : Cx) (CX : CXT) (st : List Stmt) (t : TSX) : Prop :=
  ∀ (pins : List (Addr × Obj)) (s : Shared) (Z : St) (H : Hp) (D : Ends) (E : XK), Inv X pins Z H s -> t D E Z H -> wpAny (model X.prog X.w) X.A (execs st X.env) (SP X pins D) (XP X CX pins Z E) s
section
variable {X : Cx} {CX : CXT} {k : Nat} {f : Addr} {fd : FuncData} {ps : List Str} {sp : Sp} {dvs : List V} {ds : List Value} {x : Str} {p pos : Pos} {e : Expr} {es : List Expr} {t : TA}
def xCall (sp : Sp) (dvs : List V) (t : TA) : TEX := fun Z H Q E => t Z H fun vs H1 => sp (vs ++ dvs) H1 Q E
theorem pex_call (F : FnOk X.prog X.w X.K X.mg X.base CX k f fd ps sp) (hr : Room k X.A) (hg : Gl X x) (hm : X.mg x = some (.ref f)) (hk : PySem.W.keepIn X.K (.ref f) = true) (hb : Binds X.K fd ps ds) (hd : Vals dvs ds)
    (ha : PA X.nox (e :: es) t) (hdb : (x == ("__debug__" : Str)) = false := by decide) (he : starEach (e :: es) X.env = (false, eval e X.env) :: starEach es X.env := by rfl) (hpl : (backTo pos (starEach es X.env)).any (·.1) = false := by rfl) :
    PEX X CX (.Call (.Name x p) (e :: es) [] pos) (xCall sp dvs t) := by
  intro pins s Z H Q E I h
  refine wpAny_Call_Name_kw (ld_glob I hg hm ?_ hdb)
  refine PySem.W.callWith_K (h₀ := X.base) I.ok.mod.kin hk (wpAny_mono (ha pos pins s Z H _ (I.wish _) h) (fun us s1 ⟨vs, H1, I1', r, q⟩ => ?_) fun _ _ z => False.elim z) he hpl
  have I1 : Inv X pins Z H1 s1 := I1'.unwish
  refine ⟨I1.kIn, ?_⟩
  have r2 : Vals (vs ++ dvs) (us ++ ds) := r.append hd
  have hl : (us ++ ds).length = ps.length := by rw [<- r2.length]; exact F.len _ _ _ _ q
  refine wpAny_call (codeAny_mono (F.run X.A X.stack s1 H1 ⟨us, []⟩ (us ++ ds) (vs ++ dvs) Q E hr I1.env0 (hb s1 us I1.kIn hl) r2 q) fun r s' hq => ?_)
  cases r with
  | error e => exact ⟨s1, H1, I1, hq⟩
  | ok fl =>
    cases fl with
    | ret u => exact I1.after hq
    | next => exact False.elim hq
    | brk => exact False.elim hq
    | cont => exact False.elim hq
def xDrop (t : TEX) : TSX := fun D E Z H => t Z H (fun _ H1 => D.nx Z H1) E
theorem psx_expr {te : TEX} (he : PEX X CX e te) (hs : swapsWith e none pos.line X.env = pure false := by rfl) : PSX X CX (.Expr e pos) (xDrop te) := by
  intro pins s Z H D E I h
  exact wpAny_Expr_any (thn (he pins s Z H _ E I h) fun v s1 ⟨y, H1, I1, r1, q1⟩ => ⟨Z, H1, I1, q1⟩) I.quiet hs
theorem psxs_one {st : Stmt} {ts : TSX} (h1 : PSX X CX st ts) : PSXs X CX [st] ts := by
  intro pins s Z H D E I h
  refine wpAny_execs_cons (thn (h1 pins s Z H D E I h) fun fl s1 q => ?_)
  cases fl with
  | next => exact wpAny_execs_nil q
  | ret v => exact q
  | brk => exact q
  | cont => exact q
end
theorem Inv.gone {X : Cx} {pins : List (Addr × Obj)} {Z : St} {H : Hp} {s : Shared} {h' : Heap} {m : Str -> Option Value} {n : Str} {v : Option Value} {i : Nat} {tk : Nat} (I : Inv X pins Z H s) (hN : X.N.Nodup) (hi : X.N[i]? = some n)
    (hm : ∀ (j : Nat) (y : Str) (v : V), X.N[j]? = some y -> Z[j]? = some (some v) -> Vis X.env.scope y -> ∃ u, RelV v u /\ Look X.env s.heap m y u) (hn : h'.Ns X.env.locals (fun y => if y = n then v else m y)) (hs : Heap.SameBut X.env.locals s.heap h') :
    Inv X pins (Z.set i none) H { s with heap := h', toks := tk } := by
  have neL : ∀ b o, X.s₀.heap.get? b = some o -> b ≠ X.env.locals := fun b o e => xa5 (xaf (xai e) I.ok.above)
  have hiZ : i < Z.length := by rw [I.len]; exact (xab.mp hi).1
  refine ⟨I.ok, I.os, I.bare, ⟨fun b o e nn hb hx => (hs.2 b (neL b o e)).trans (I.base.keep b o e nn hb hx), fun b o e nn hb hx => ?_, I.base.free, fun b o e hx => ?_, I.base.tups, I.base.frzs, I.base.tbls⟩, ⟨_, hn, fun j y v' e1 e2 e3 => ?_⟩, fun y c e => ?_, I.free, I.freeC, fun p hp => ?_, fun b ob e => ?_, by simpa using I.len⟩
  · obtain ⟨sl, e1⟩ := I.base.slot b o e nn hb hx
    exact ⟨sl, (hs.2 b (neL b o e)).trans e1⟩
  · obtain ⟨o', e1⟩ := I.base.there b o e hx
    exact ⟨o', (hs.2 b (neL b o e)).trans e1⟩
  · have hj : j ≠ i := fun z => by rw [z, xas hiZ] at e2; cases e2
    rw [xae (xay hj)] at e2
    obtain ⟨u, r, l⟩ := hm j y v' e1 e2 e3
    refine ⟨u, r, ?_⟩
    rcases l with ⟨k, e⟩ | ⟨k, c, e, z⟩
    · have ny : y ≠ n := fun z => hj (nodup_ix hN e1 (z ▸ hi))
      exact .inl ⟨k, by simp [ny, e]⟩
    · exact .inr ⟨k, c, e, z.sameBut hs (I.cne y c e)⟩
  · obtain ⟨w', z⟩ := I.cell y c e
    exact ⟨w', z.sameBut hs (I.cne y c e)⟩
  · obtain ⟨e, nn, ne, nf, d⟩ := I.pin p hp
    exact ⟨(hs.2 p.1 ne).trans e, nn, ne, nf, d⟩
  · refine (I.hok b ob e).stay (fun c w' hc q => (hs.2 c ?_).trans q) (fun _ q => q) fun _ _ q => q
    rintro rfl
    rcases hc with z | z
    · rw [<- z, I.free] at e; cases e
    · rw [I.free] at z; cases z
def hdl (X : Cx) (x : Addr) : Cx := { X with A := X.A.mark (some (.ref x)), calm := false, xe := fun _ _ => False }
section
variable {X : Cx} {pins : List (Addr × Obj)} {Z : St} {H : Hp} {s : Shared} {x : Addr}
theorem Inv.hdl (I : Inv X pins Z H s) (x : Addr) : Inv (hdl X x) pins Z H s :=
  ⟨⟨I.ok.mod, I.ok.kind, I.ok.glob, I.ok.blt, I.ok.above, I.ok.inj, I.ok.has, I.ok.cab, fun z => xak z (by show ¬ (false = true); decide), I.ok.frames, I.ok.stk, I.ok.exf, I.ok.bs, I.ok.bsz, I.ok.noex, I.ok.exfs, I.ok.funs, I.ok.frf⟩, I.os, I.bare, I.base, I.loc, I.cell, I.free, I.freeC, I.pin, I.hok, I.len⟩
theorem Inv.unhdl (I : Inv (L2.hdl X x) pins Z H s) (ok : X.Ok) : Inv X pins Z H s := ⟨ok, I.os, I.bare, I.base, I.loc, I.cell, I.free, I.freeC, I.pin, I.hok, I.len⟩
end
def tTry (K : xFg) (Dc : Addr) (i : Nat) (tb : TSX) (th : TS) : TS := fun D Z H => ∃ E : XK, tb D E Z H /\ ∀ (C : Addr) (dct : Option Addr) (H' : Hp) (x : Addr), E (.ref C) dct H' -> H' x = none ->
  PySem.W.exmOne K (.ref C) (.ref Dc) = some true /\ th { nx := fun Z' H'' => D.nx (Z'.set i none) H'', rt := fun _ _ => False } (Z.set i (some (.ref x))) (upd H' x (excO x C dct))
theorem ps_try {X : Cx} {body : List Stmt} {c n : Str} {np hpos pos : Pos} {b0 : Stmt} {suite : List Stmt} {tb : TSX} {th : TS} {i : Nat} {Dc : Addr} (hst : X.stack = X.env :: X.outer) (hf : X.env.frame = some X.env.locals)
    (hN : X.N.Nodup) (hi : X.N[i]? = some n) (hn : X.env.scope.names.lookup n = some .local) (hg : Gl X c) (hm : X.mg c = some (.ref Dc)) (hb : PSXs X (CXe X.prog X.w) body tb) (hh : ∀ x, PSs (hdl X x) (b0 :: suite) th)
    (hdb : (c == ("__debug__" : Str)) = false := by decide) : PS X (.Try body [.ExceptHandler (some (.Name c np)) (some n) (b0 :: suite) hpos] [] [] pos) (tTry X.K Dc i tb th) := by
  intro pins s Z H D I h
  obtain ⟨Ex, hbody, hhand⟩ := h
  refine wpAny_Try_except (wpAny_mono (hb pins s Z H D Ex I hbody) (fun fl s1 q => ?_) (fun e s1 q => ?_))
  · cases fl with
    | next => exact wpAny_execs_nil q
    | ret v => exact q
    | brk => exact q
    | cont => exact q
  obtain ⟨s2, H2, I2, x, C, dct, H', B, rfl, ho, hg', un, hok, F, ib, nx, hE⟩ := q
  obtain ⟨hx, hth⟩ := hhand C dct H' x hE nx
  have hfr : X.A.frames = some (X.env :: X.outer) := by rw [<- hst]; exact I.ok.frames
  have F' : Fly B (X.env :: X.outer) x (.ref C) dct .none s1.heap := by rw [<- hst]; exact F
  refine fly_next hfr hf F' fun h1 F1 u1 => fly_land F1 fun h2 F2 u2 => ?_
  have I3 := caught_inv (tk := s1.toks) I2 ho hg' un hok (hst ▸ F2) ib (u1.trans u2) nx
  refine wpAny_handleBy_cons (codeAny_handlers_test ?_) (by intro z; cases z)
  refine ld_glob (X := hdl X x) (I3.hdl x) hg hm ?_ hdb
  obtain ⟨ox, vs, T, oT, ts, ex, hcl, _⟩ := F2.obj
  have LT : PySem.W.Looks (model X.prog X.w) h2 (typeOf (.ref x)) (.ref C) := hcl ▸ (PySem.W.Looks.ld ex).andThen .now
  refine (PySem.W.exm_one (M := model X.prog X.w) I3.kIn LT hx) _ _ _ _ (fun _ _ e => e) ?_
  refine codeAny_handlers_suite_as ?_
  refine fly_land F2 fun h3 F3 u3 => ?_
  have I4 := caught_inv (tk := s1.toks) I2 ho hg' un hok (hst ▸ F3) ib (u1.trans (u2.trans u3)) nx
  refine store_ok (X := hdl X x) (v := .ref x) (I4.hdl x) hN hi (.inl hn) rfl (fun s5 I5 => ?_) (.inr hn)
  refine wpAny_mono (hh x pins s5 _ _ _ I5 hth) (fun fl s6 q6 => ?_) fun _ _ z => False.elim z
  cases fl with
  | ret v => obtain ⟨_, _, _, _, _, z⟩ := q6; exact False.elim z
  | brk => obtain ⟨_, _, _, z⟩ := q6; exact False.elim z
  | cont => obtain ⟨_, _, _, z⟩ := q6; exact False.elim z
  | next =>
    obtain ⟨Z6, H6, I6, q⟩ := q6
    have I7 : Inv X pins Z6 H6 s6 := I6.unhdl I.ok
    obtain ⟨m, hnm, hl⟩ := I7.loc
    have hp : (X.env.scope.kind == .class || (X.env.scope.kind == .module && X.env.locals != X.env.globals)) = false := by rw [I.ok.kind]; rfl
    exact wpAny_nameGoes_keeps hn hnm hp fun h' v hn' hs' => ⟨_, H6, I7.gone hN hi hl hn' hs', q⟩
theorem call_isiX {X : Cx} : CallR X (.builtin "isinstance") (fun xs H Q => ∃ (a C : Addr) (c : V) (cv : Value) (b : Bool), xs = [.ref a, c] /\ H a = some (excO a C none) /\ ((∃ D, c = .ref D /\ cv = .ref D) \/ ∃ T, c = .ty T /\ cv = .type T) /\ ExcC X.K C /\ PySem.W.kitOne X.K (.ref C) cv = some b /\ Q (.bl b) H) := by
  intro pins s Z H xs us Q I r h
  obtain ⟨a, C, c, cv, b, rfl, ha, hc, ec, hk, q⟩ := h
  obtain ⟨u, w', rfl, ru, rw'⟩ := vals2 r
  obtain rfl : u = Value.ref a := ru
  have e : w' = cv := by
    rcases hc with ⟨D, rfl, rfl⟩ | ⟨T, rfl, rfl⟩
    · exact rw'
    · exact rw'
  subst e
  obtain ⟨⟨o, e1, e2, e3, e4⟩, _, _⟩ := I.hok a _ ha
  have hI : PySem.W.InstAt s.heap a o C none := ⟨e1, e2, e4, by rw [e3]; trivial⟩
  exact PySem.W.kia_one (kitx_exc ec) I.kIn ⟨o, none, hI⟩ hk (fun z => nomatch z) fun tk => ⟨.bl b, H, I.tok tk, rfl, q⟩
end L2
namespace SetT
open PySem.SetTable
def iter (t : SetTable) : Nat -> Probe -> Probe
  | 0, p => p
  | k + 1, p => iter t k (t.advance p)
def start (mask i perturb : Nat) : Probe := { j := i, more := runEnd mask i - i, i, perturb, dummy := none }
end SetT
namespace TxtA
open PySem.StrLaws PySem.Builtin.Str
def flat (y : List Nat) : List (List Nat) -> List Nat
  | [] => []
  | [r] => r
  | r :: r' :: rs => r ++ y ++ flat y (r' :: rs)
def ofL (l : List Nat) : Str := ⟨l.toArray⟩
theorem rows_le (c : Nat) (t : List Nat) : ∀ rows : List (List Nat), rows.length <= (flat (c :: t) rows).length + 1
  | [] => by simp
  | [r] => by simp
  | r :: r' :: rs => by
    have := rows_le c t (r' :: rs)
    rw [flat]
    simp at this ⊢
    omega
theorem join_rows (y : List Nat) : ∀ rows : List (List Nat), Str.join (ofL y) (rows.map ofL) = ofL (flat y rows)
  | [] => rfl
  | [r] => rfl
  | r :: r' :: rs => by
    have ih := join_rows y (r' :: rs)
    show ofL r ++ ofL y ++ Str.join (ofL y) ((r' :: rs).map ofL) = _
    rw [ih, flat]
    apply Str.ext'
    simp [ofL, Str.cps_append]
end TxtA
namespace TxtA
open PySem.StrLaws PySem.Builtin.Str PySem.NumText
def digs (n : Nat) : List Nat := (Nat.toDigits 10 n).map Char.toNat
theorem ofS (n : Nat) : Str.ofString (toString ((n : Nat) : Int)) = ofL (digs n) := Str.ext' (Array.toList_inj.mp (by rw [PySem.W.KIN.signs_num]; simp [ofL, digs]))
theorem digs_all (n : Nat) : AllDigits (digs n) := by
  intro c hc
  obtain ⟨ch, hch, e⟩ := xb3.mp hc
  have r := PyProof.Rows.digit_range (Nat.isDigit_of_mem_toDigits (by decide) (by decide) hch)
  rw [<- e]
  exact r
theorem digs_lenK {n k : Nat} (h0 : 0 < k) (h : n < 10 ^ k) : (digs n).length <= k := by
  unfold digs
  rw [xar]
  exact (Nat.length_toDigits_le_iff (by decide) h0).mpr h
end TxtA
namespace DL
open L2
inductive D where
  | non | bl (b : Bool) | int (i : Int) | str (x : Str) | ty (n : String) | cls (c : Str)
  | tup (xs : List D) | lst (xs : List D) | dct (ks : List Key) (vs : List D) | exc (c : Str) (as : List D)
instance : Inhabited D := ⟨.non⟩
inductive R (α : Type) where
  | ok (a : α) | err (e : D) | bad
def R.bind {α β : Type} : R α -> (α -> R β) -> R β
  | .ok a, k => k a
  | .err e, _ => .err e
  | .bad, _ => .bad
theorem R.ok_bind {α β : Type} (a : α) (k : α -> R β) : (R.ok a).bind k = k a := rfl
def RW {α : Type} (r : R α) (Q : α -> Prop) (E : D -> Prop) : Prop := match r with
  | .ok a => Q a
  | .err e => E e
  | .bad => False
theorem RW.mono {α : Type} {r : R α} {Q Q' : α -> Prop} {E E' : D -> Prop} (h : RW r Q E) (hq : ∀ a, r = .ok a -> Q a -> Q' a) (he : ∀ e, E e -> E' e) : RW r Q' E' := by
  cases r with
  | ok a => exact hq a rfl h
  | err e => exact he e h
  | bad => exact h
theorem RW.of_bind {α β : Type} {r : R α} {k : α -> R β} {Q : β -> Prop} {E : D -> Prop} (h : RW (r.bind k) Q E) : RW r (fun a => RW (k a) Q E) E := by
  cases r with
  | ok a => exact h
  | err e => exact h
  | bad => exact h
def clsNames : List Str := ["ChalkError", "NoPlace", "Same", "NoFloor", "Endless", "NoDeed", "NoText", "NoName", "TooMany", "NoChange", "NoFrame", "NoValue", "Unlike", "NoRatio", "NoBow", "NoRow"]
def subX (c d : Str) : Option Bool := bif clsNames.contains c && clsNames.contains d then some (c == d || d == "ChalkError") else none
structure XcOk (K : xFg) (mg : Str -> Option Value) (c : Str) (C : Addr) : Prop where
  here : mg c = some (.ref C)
  exc : ExcC K C
  isi : ∀ d Dd b, subX c d = some b -> mg d = some (.ref Dd) -> PySem.W.kitOne K (.ref C) (.ref Dd) = some b
  val : PySem.W.kitOne K (.ref C) (.type "ValueError") = some true
  ctc : ∀ d Dd, subX c d = some true -> mg d = some (.ref Dd) -> PySem.W.exmOne K (.ref C) (.ref Dd) = some true
def DctOk (G : Hp) (dct : Option Addr) (vs : List V) : Prop := (dct = none /\ vs = []) \/ ∃ dx v, dct = some dx /\ vs = [v] /\ G dx = some (.xd [("at", v)])
mutual
def Rep (K : xFg) (mg : Str -> Option Value) (G : Hp) : D -> V -> Prop
  | .non, v => v = .non
  | .bl b, v => v = .bl b
  | .int i, v => v = .int i
  | .str x, v => v = .str x
  | .ty n, v => v = .ty n
  | .cls c, v => ∃ C, v = .ref C /\ mg c = some (.ref C)
  | .tup ds, v => ∃ a vs, v = .ref a /\ SqT K G a vs /\ Reps K mg G ds vs
  | .lst ds, v => ∃ a vs, v = .ref a /\ SqL K G a vs /\ Reps K mg G ds vs
  | .dct ks ds, v => ∃ a vs, v = .ref a /\ Rd G a (.dK (ks.zip vs)) /\ ks.length = vs.length /\ Reps K mg G ds vs
  | .exc c as, v => ∃ x C dct vs, v = .ref x /\ G x = some (excO x C dct) /\ XcOk K mg c C /\ DctOk G dct vs /\ Reps K mg G as vs
def Reps (K : xFg) (mg : Str -> Option Value) (G : Hp) : List D -> List V -> Prop
  | [], vs => vs = []
  | d :: ds, vs => ∃ v r, vs = v :: r /\ Rep K mg G d v /\ Reps K mg G ds r
end
def ExcR (K : xFg) (mg : Str -> Option Value) (G : Hp) (e : D) (C : Addr) (dct : Option Addr) : Prop := ∃ c as vs, e = .exc c as /\ XcOk K mg c C /\ DctOk G dct vs /\ Reps K mg G as vs
section
variable {K : xFg} {mg : Str -> Option Value} {G G' H H' : Hp}
theorem Same.sqT {a : Addr} {xs : List V} (e : Same G G') (h : SqT K G a xs) : SqT K G' a xs := e.tup h
theorem Same.rd {a : Addr} {u : HO} (e : Same G G') (h : Rd G a u) : Rd G' a u := by
  rcases h with h | ⟨o, h⟩
  · exact .inl (e _ _ h)
  · exact .inr ⟨o, e _ _ h⟩
theorem DctOk.mono {dct : Option Addr} {vs : List V} (e : Same G G') (h : DctOk G dct vs) : DctOk G' dct vs := by
  rcases h with h | ⟨dx, v, h1, h2, h3⟩
  · exact .inl h
  · exact .inr ⟨dx, v, h1, h2, e _ _ h3⟩
mutual
theorem Rep.mono (e : Same G G') : ∀ {d : D} {v : V}, Rep K mg G d v -> Rep K mg G' d v
  | .non, _, h => h
  | .bl _, _, h => h
  | .int _, _, h => h
  | .str _, _, h => h
  | .ty _, _, h => h
  | .cls _, _, h => h
  | .tup _, _, ⟨a, vs, h1, h2, h3⟩ => ⟨a, vs, h1, Same.sqT e h2, Reps.mono e h3⟩
  | .lst _, _, ⟨a, vs, h1, h2, h3⟩ => ⟨a, vs, h1, e.seq h2, Reps.mono e h3⟩
  | .dct _ _, _, ⟨a, vs, h1, h2, h3, h4⟩ => ⟨a, vs, h1, Same.rd e h2, h3, Reps.mono e h4⟩
  | .exc _ _, _, ⟨x, C, dct, vs, h1, h2, h3, h4, h5⟩ => ⟨x, C, dct, vs, h1, e _ _ h2, h3, h4.mono e, Reps.mono e h5⟩
theorem Reps.mono (e : Same G G') : ∀ {ds : List D} {vs : List V}, Reps K mg G ds vs -> Reps K mg G' ds vs
  | [], _, h => h
  | _ :: _, _, ⟨v, r, h1, h2, h3⟩ => ⟨v, r, h1, Rep.mono e h2, Reps.mono e h3⟩
end
theorem Reps.length : ∀ {ds : List D} {vs : List V}, Reps K mg G ds vs -> ds.length = vs.length
  | [], _, h => by cases h; rfl
  | _ :: _, _, ⟨v, r, h1, _, h3⟩ => by cases h1; rw [xaw, xaw, Reps.length h3]
theorem Reps.nil : Reps K mg G [] [] := rfl
theorem Reps.cons {d : D} {v : V} {ds : List D} {vs : List V} (h : Rep K mg G d v) (t : Reps K mg G ds vs) : Reps K mg G (d :: ds) (v :: vs) := ⟨v, vs, rfl, h, t⟩
theorem Reps.append : ∀ {ds es : List D} {vs ws : List V}, Reps K mg G ds vs -> Reps K mg G es ws -> Reps K mg G (ds ++ es) (vs ++ ws)
  | [], _, _, _, h, t => by cases h; exact t
  | _ :: _, _, _, _, ⟨v, r, h1, h2, h3⟩, t => by cases h1; exact ⟨v, r ++ _, rfl, h2, h3.append t⟩
theorem Reps.get : ∀ {ds : List D} {vs : List V} {i : Nat} {d : D}, Reps K mg G ds vs -> ds[i]? = some d -> ∃ v, vs[i]? = some v /\ Rep K mg G d v
  | [], _, _, _, _, e => by simp at e
  | _ :: _, _, 0, _, ⟨v, r, h1, h2, _⟩, e => by simp at e; subst e; subst h1; exact ⟨v, rfl, h2⟩
  | _ :: ds, _, i + 1, d, ⟨v, r, h1, _, h3⟩, e => by
    subst h1
    obtain ⟨w, e1, e2⟩ := Reps.get (i := i) (d := d) h3 (by simpa using e)
    exact ⟨w, by simpa using e1, e2⟩
theorem Reps.getV : ∀ {ds : List D} {vs : List V} {i : Nat} {v : V}, Reps K mg G ds vs -> vs[i]? = some v -> ∃ d, ds[i]? = some d /\ Rep K mg G d v
  | [], _, _, _, h, e => by cases h; simp at e
  | _ :: _, _, 0, _, ⟨v, r, h1, h2, _⟩, e => by subst h1; simp at e; subst e; exact ⟨_, rfl, h2⟩
  | _ :: ds, _, i + 1, v, ⟨_, r, h1, _, h3⟩, e => by
    subst h1
    obtain ⟨w, e1, e2⟩ := Reps.getV (i := i) (v := v) h3 (by simpa using e)
    exact ⟨w, by simpa using e1, e2⟩
theorem Reps.drop : ∀ {ds : List D} {vs : List V} (n : Nat), Reps K mg G ds vs -> Reps K mg G (ds.drop n) (vs.drop n)
  | _, _, 0, h => h
  | [], _, _ + 1, h => by cases h; exact rfl
  | _ :: _, _, n + 1, ⟨_, _, h1, _, h3⟩ => by subst h1; exact h3.drop n
theorem Reps.take : ∀ {ds : List D} {vs : List V} (n : Nat), Reps K mg G ds vs -> Reps K mg G (ds.take n) (vs.take n)
  | _, _, 0, h => by simp only [List.take_zero]; exact rfl
  | [], _, _ + 1, h => by cases h; exact rfl
  | _ :: _, _, n + 1, ⟨v, _, h1, h2, h3⟩ => by subst h1; exact ⟨v, _, rfl, h2, h3.take n⟩
theorem Reps.ints (ns : List Int) : Reps K mg G (ns.map D.int) (ns.map V.int) := by
  induction ns with
  | nil => exact rfl
  | cons n r ih => exact ⟨_, _, rfl, rfl, ih⟩
theorem Reps.of_ints : ∀ {ns : List Int} {vs : List V}, Reps K mg G (ns.map D.int) vs -> vs = ns.map V.int
  | [], _, h => h
  | _ :: _, _, ⟨_, _, h1, h2, h3⟩ => by subst h1; cases h2; rw [Reps.of_ints h3]; rfl
theorem Reps.at {ds : List D} {vs : List V} {i : Int} {d : D} (h : Reps K mg G ds vs) (e : atI ds i = some d) : ∃ v, atI vs i = some v /\ Rep K mg G d v := by
  unfold atI at e ⊢
  rw [h.length] at e
  cases q : ixN vs.length i with
  | none => rw [q] at e; cases e
  | some j => rw [q] at e; exact h.get e
structure Step (G H G' H' : Hp) : Prop where
  g : Same G G'
  h : Same H H'
  e : Same G' H'
  c : ∀ a o, H a = some o -> G a = none -> G' a = none
theorem Step.refl (e : Same G H) : Step G H G H := ⟨Same.refl _, Same.refl _, e, fun _ _ _ h => h⟩
theorem Step.trans {G1 H1 : Hp} (a : Step G H G1 H1) (b : Step G1 H1 G' H') : Step G H G' H' :=
  ⟨a.g.trans b.g, a.h.trans b.h, b.e, fun x o p q => b.c x o (a.h x o p) (a.c x o p q)⟩
theorem same_upd {p : Addr} {o : HO} (h : H p = none) : Same H (upd H p o) := same_new h o
theorem Step.pub {p : Addr} {o : HO} (e : Same G H) (h : H p = none) : Step G H (upd G p o) (upd H p o) := by
  refine ⟨same_upd (e.free h), same_upd h, fun b u q => ?_, fun a u p1 q1 => ?_⟩
  · by_cases hb : b = p
    · subst hb; rw [upd_same] at q ⊢; exact q
    · rw [upd_ne hb] at q ⊢; exact e b u q
  · have hb : a ≠ p := ne_of_none p1 h
    rw [upd_ne hb]; exact q1
theorem Step.hid {p : Addr} {o : HO} (e : Same G H) (h : H p = none) : Step G H G (upd H p o) :=
  ⟨Same.refl _, same_upd h, e.trans (same_upd h), fun _ _ _ q => q⟩
theorem Step.heap (e : Same G H) (h : Same H H') : Step G H G H' := ⟨Same.refl _, h, e.trans h, fun _ _ _ q => q⟩
end
abbrev DSt := List (Option D)
structure Ok0 (K : xFg) (mg : Str -> Option Value) (Zd : DSt) (Z : St) (G H : Hp) : Prop where
  ext : Same G H
  len : Zd.length = Z.length
  val : ∀ (i : Nat) (d : D), Zd[i]? = some (some d) -> ∃ v, Z[i]? = some (some v) /\ Rep K mg G d v
section
variable {K : xFg} {mg : Str -> Option Value} {G G' H H' : Hp} {Zd : DSt} {Z : St}
theorem Ok0.step (o : Ok0 K mg Zd Z G H) (s : Step G H G' H') : Ok0 K mg Zd Z G' H' :=
  ⟨s.e, o.len, fun i d q => let ⟨v, h1, h2⟩ := o.val i d q; ⟨v, h1, h2.mono s.g⟩⟩
theorem Ok0.set {i : Nat} {d : D} {v : V} (o : Ok0 K mg Zd Z G H) (h : Rep K mg G d v) : Ok0 K mg (Zd.set i (some d)) (Z.set i (some v)) G H := by
  refine ⟨o.ext, by simp [o.len], fun j e q => ?_⟩
  by_cases hj : j = i
  · subst hj
    have hl : j < Zd.length := by have := (xab.mp q).1; simpa using this
    rw [xas hl] at q
    cases q
    exact ⟨v, by rw [xas (by rw [<- o.len]; exact hl)], h⟩
  · rw [xae (xay hj)] at q ⊢
    exact o.val j e q
theorem Ok0.cons {x : Option D} {y : Option V} (o : Ok0 K mg Zd Z G H) (h : ∀ d, x = some d -> ∃ v, y = some v /\ Rep K mg G d v) : Ok0 K mg (x :: Zd) (y :: Z) G H := by
  refine ⟨o.ext, by simp [o.len], fun j e q => ?_⟩
  cases j with
  | zero =>
    have q' : x = some e := by simpa using q
    obtain ⟨v, h1, h2⟩ := h e q'
    exact ⟨v, by simp [h1], h2⟩
  | succ j => exact o.val j e (by simpa using q)
theorem Ok0.nones (o : Ok0 K mg Zd Z G H) : ∀ k : Nat, Ok0 K mg (List.replicate k none ++ Zd) (List.replicate k none ++ Z) G H
  | 0 => o
  | k + 1 => (Ok0.nones o k).cons (x := none) (y := none) (fun d e => by cases e)
end
section
variable (K : xFg) (mg : Str -> Option Value) (E : XK)
def After (Q : VK) (G H : Hp) (d : D) : Prop := ∀ v G' H', Step G H G' H' -> Rep K mg G' d v -> Q v H'
def AfterT (Q : Bool -> Hp -> Prop) (G H : Hp) (b : Bool) : Prop := ∀ G' H', Step G H G' H' -> Q b H'
def AfterA (Q : List V -> Hp -> Prop) (G H : Hp) (ds : List D) : Prop := ∀ vs G' H', Step G H G' H' -> Reps K mg G' ds vs -> Q vs H'
def AfterF (Q : VK) (G H : Hp) (ds : List D) : Prop := ∀ a vs G' H', Step G H G' H' -> H a = none -> H' a = some (.lst vs) -> G' a = none -> Reps K mg G' ds vs -> Q (.ref a) H'
def AfterX (G H : Hp) (e : D) : Prop := ∀ G' H' C dct, Step G H G' H' -> ExcR K mg G' e C dct -> E (.ref C) dct H'
def tE (f : DSt -> R D) : TE := fun Z H Q => ∃ G Zd, Ok0 K mg Zd Z G H /\ RW (f Zd) (After K mg Q G H) (AfterX K mg E G H)
def tT (f : DSt -> R Bool) : TT := fun Z H Q => ∃ G Zd, Ok0 K mg Zd Z G H /\ RW (f Zd) (AfterT Q G H) (AfterX K mg E G H)
def tAr (f : DSt -> R (List D)) : TA := fun Z H Q => ∃ G Zd, Ok0 K mg Zd Z G H /\ RW (f Zd) (AfterA K mg Q G H) (AfterX K mg E G H)
def tFr (f : DSt -> R (List D)) : TE := fun Z H Q => ∃ G Zd, Ok0 K mg Zd Z G H /\ RW (f Zd) (AfterF K mg Q G H) (AfterX K mg E G H)
end
def DE (X : Cx) (E : XK) (e : Expr) (f : DSt -> R D) : Prop := PE X e (tE X.K X.mg E f)
def DT (X : Cx) (E : XK) (e : Expr) (f : DSt -> R Bool) : Prop := PT X e (tT X.K X.mg E f)
def DW (X : Cx) (E : XK) (e : Expr) (f : DSt -> R Bool) : Prop := PW X e (tT X.K X.mg E f)
def DA (X : Cx) (E : XK) (es : List Expr) (f : DSt -> R (List D)) : Prop := PA X es (tAr X.K X.mg E f)
def DF (X : Cx) (E : XK) (e : Expr) (f : DSt -> R (List D)) : Prop := PE X e (tFr X.K X.mg E f)
section
variable {X : Cx} {E : XK} {K : xFg} {mg : Str -> Option Value} {G G1 H H1 : Hp}
theorem PE.mono' {e : Expr} {t t' : TE} (h : PE X e t) (m : ∀ Z H Q, t' Z H Q -> t Z H Q) : PE X e t' := fun pins s Z H Q I q => h pins s Z H Q I (m Z H Q q)
theorem PT.mono' {e : Expr} {t t' : TT} (h : PT X e t) (m : ∀ Z H Q, t' Z H Q -> t Z H Q) : PT X e t' := fun pins s Z H Q I q => h pins s Z H Q I (m Z H Q q)
theorem PW.mono' {e : Expr} {t t' : TT} (h : PW X e t) (m : ∀ Z H Q, t' Z H Q -> t Z H Q) : PW X e t' := fun wh pins s Z H Q I q => h wh pins s Z H Q I (m Z H Q q)
theorem PA.mono' {es : List Expr} {t t' : TA} (h : PA X es t) (m : ∀ Z H Q, t' Z H Q -> t Z H Q) : PA X es t' := fun pos pins s Z H Q I q => h pos pins s Z H Q I (m Z H Q q)
theorem PS.mono' {st : Stmt} {t t' : TS} (h : PS X st t) (m : ∀ D Z H, t' D Z H -> t D Z H) : PS X st t' := fun pins s Z H D I q => h pins s Z H D I (m D Z H q)
theorem PSs.mono' {st : List Stmt} {t t' : TS} (h : PSs X st t) (m : ∀ D Z H, t' D Z H -> t D Z H) : PSs X st t' := fun pins s Z H D I q => h pins s Z H D I (m D Z H q)
theorem After.step {Q : VK} {d : D} (h : After K mg Q G H d) (s : Step G H G1 H1) : After K mg Q G1 H1 d := fun v G' H' s' r => h v G' H' (s.trans s') r
theorem AfterX.step {e : D} (h : AfterX K mg E G H e) (s : Step G H G1 H1) : AfterX K mg E G1 H1 e := fun G' H' C dct s' r => h G' H' C dct (s.trans s') r
theorem AfterT.step {Q : Bool -> Hp -> Prop} {b : Bool} (h : AfterT Q G H b) (s : Step G H G1 H1) : AfterT Q G1 H1 b := fun G' H' s' => h G' H' (s.trans s')
theorem After.now {Q : VK} {d : D} {v : V} (h : After K mg Q G H d) (e : Same G H) (r : Rep K mg G d v) : Q v H := h v G H (.refl e) r
theorem DF.de {e : Expr} {f : DSt -> R (List D)} (h : DF X E e f) : DE X E e (fun Z => (f Z).bind fun ds => .ok (.lst ds)) := by
  refine PE.mono' h fun Z H Q ⟨G, Zd, ok, q⟩ => ⟨G, Zd, ok, q.of_bind.mono (fun ds _ q => ?_) fun _ z => z⟩
  intro a vs G' H' s n e g r
  have q' : After X.K X.mg Q G H (.lst ds) := q
  have sg : Same G' (upd G' a (.lst vs)) := same_upd g
  refine q' (.ref a) (upd G' a (.lst vs)) H' ⟨s.g.trans sg, s.h, fun b u p => ?_, fun b u p1 p2 => ?_⟩ ⟨a, vs, rfl, SqL.of upd_same, r.mono sg⟩
  · by_cases hb : b = a
    · subst hb; rw [upd_same] at p; cases p; exact e
    · rw [upd_ne hb] at p; exact s.e b u p
  · have hb : b ≠ a := ne_of_none p1 n
    rw [upd_ne hb]; exact s.c b u p1 p2
def eVar (i : Nat) : DSt -> R D := fun Z => match Z[i]? with
  | some (some d) => .ok d
  | _ => .bad
theorem de_var (i : Nat) {x : Str} {pos : Pos} (hN : X.N[i]? = some x := by rfl) (hv : Vis X.env.scope x := by first | exact Or.inl rfl | exact Or.inr (Or.inl rfl) | exact Or.inr (Or.inr rfl)) (hd : (x == ("__debug__" : Str)) = false := by decide)
    (hcd : (x == ("__classdict__" : Str)) = false := by decide) : DE X E (.Name x pos) (eVar i) := by
  refine PE.mono' (pv i hN hv hd hcd) fun Z H Q ⟨G, Zd, ok, q⟩ => ?_
  unfold eVar at q
  split at q
  · rename_i d e
    obtain ⟨v, h1, h2⟩ := ok.val i d e
    exact ⟨v, h1, After.now q ok.ext h2⟩
  · exact q.elim
def eC (d : D) : DSt -> R D := fun _ => .ok d
theorem de_int {i j pos} : DE X E (.Constant (.int i) j pos) (eC (.int i)) := PE.mono' pe_int fun _ _ _ ⟨_, _, ok, q⟩ => After.now q ok.ext rfl
theorem de_bl {b j pos} : DE X E (.Constant (.bool b) j pos) (eC (.bl b)) := PE.mono' pe_bl fun _ _ _ ⟨_, _, ok, q⟩ => After.now q ok.ext rfl
theorem de_non {j pos} : DE X E (.Constant .none j pos) (eC .non) := PE.mono' pe_non fun _ _ _ ⟨_, _, ok, q⟩ => After.now q ok.ext rfl
theorem de_str {x j pos} : DE X E (.Constant (.str x) j pos) (eC (.str x)) := PE.mono' pe_str fun _ _ _ ⟨_, _, ok, q⟩ => After.now q ok.ext rfl
theorem de_glob {x : Str} {d : D} {v : V} {u : Value} {pos : Pos} (hm : X.mg x = some u) (r : RelV v u) (rp : ∀ G, Rep X.K X.mg G d v) (hg : Gl X x := by rfl) (hd : (x == ("__debug__" : Str)) = false := by decide) : DE X E (.Name x pos) (eC d) :=
  PE.mono' (pe_glob hg hm r hd) fun _ _ _ ⟨_, _, ok, q⟩ => After.now q ok.ext (rp _)
theorem de_cls {x : Str} {C : Addr} {pos : Pos} (hm : X.mg x = some (.ref C)) (hg : Gl X x := by rfl) (hd : (x == ("__debug__" : Str)) = false := by decide) : DE X E (.Name x pos) (eC (.cls x)) :=
  de_glob hm (v := .ref C) rfl (fun _ => ⟨C, rfl, hm⟩) hg hd
theorem de_ty {x : Str} {n : String} {pos : Pos} (hm : X.mg x = none) (hv : bootBuiltins x = some (.type n) := by rfl) (hg : Gl X x := by rfl) (hn : x ≠ "__name__" := by decide) (hd : (x == ("__debug__" : Str)) = false := by decide) : DE X E (.Name x pos) (eC (.ty n)) :=
  PE.mono' (pe_bltn hg hm hv (v := .ty n) rfl hn hd) fun _ _ _ ⟨_, _, ok, q⟩ => After.now q ok.ext rfl
def OpD (K : xFg) (mg : Str -> Option Value) (r : R2) (g : D -> D -> R D) : Prop :=
  ∀ (G H : Hp) (a b : D) (x y : V) (Q : VK), Same G H -> Rep K mg G a x -> Rep K mg G b y -> RW (g a b) (After K mg Q G H) (fun _ => False) -> r x y H Q
def eOp (g : D -> D -> R D) (fa fb : DSt -> R D) : DSt -> R D := fun Z => (fa Z).bind fun x => (fb Z).bind fun y => g x y
theorem tE_then {f : DSt -> R D} {α : Type} {k : D -> R α} {Z : St} {H : Hp} {Q : VK} {P : Hp -> Hp -> α -> Prop} {G : Hp} {Zd : DSt}
    (ok : Ok0 K mg Zd Z G H) (q : RW ((f Zd).bind k) (P G H) (AfterX K mg E G H))
    (h : ∀ d v G' H', Step G H G' H' -> Ok0 K mg Zd Z G' H' -> Rep K mg G' d v -> RW (k d) (P G H) (AfterX K mg E G' H') -> Q v H') : tE K mg E f Z H Q :=
  ⟨G, Zd, ok, q.of_bind.mono (fun d _ q v G' H' s r => h d v G' H' s (ok.step s) r (q.mono (fun _ _ z => z) fun e z => z.step s)) fun _ z => z⟩
theorem noX {α : Type} {r : R α} {Q : α -> Prop} {E' : D -> Prop} (hr : ∀ e, r ≠ .err e) (h : RW r Q E') : RW r Q (fun _ => False) := by
  cases r with
  | ok a => exact h
  | err e => exact xak rfl (hr e)
  | bad => exact h
def NoErr (g : D -> D -> R D) : Prop := ∀ a b e, g a b ≠ .err e
theorem tOp_of {r : R2} {g : D -> D -> R D} (hd : OpD X.K X.mg r g) (hn : NoErr g) {fa fb : DSt -> R D} {Z : St} {H : Hp} {Q : VK} (h : tE X.K X.mg E (eOp g fa fb) Z H Q) : tOp r (tE X.K X.mg E fa) (tE X.K X.mg E fb) Z H Q := by
  obtain ⟨G, Zd, ok, q⟩ := h
  refine tE_then (P := After X.K X.mg Q) ok q fun a x G1 H1 s1 ok1 r1 q1 => ?_
  refine tE_then (P := fun _ _ => After X.K X.mg Q G H) ok1 q1 fun b y G2 H2 s2 ok2 r2 q2 => ?_
  exact hd G2 H2 a b x y Q ok2.ext (r1.mono s2.g) r2 (noX (hn a b) (q2.mono (fun _ _ z => z.step (s1.trans s2)) fun _ z => z))
variable {a b c : Expr} {fa fb fc : DSt -> R D} {pos : Pos}
theorem de_op {op : Operator} {r : R2} {g : D -> D -> R D} (ho : OpR X (binaryOp op) r) (hd : OpD X.K X.mg r g) (hn : NoErr g) (ha : DE X E a fa) (hb : DE X E b fb) : DE X E (.BinOp a op b pos) (eOp g fa fb) :=
  PE.mono' (pe_op ho ha hb) fun _ _ _ h => tOp_of hd hn h
theorem de_cmp {op : CmpOp} {r : R2} {g : D -> D -> R D} (ho : OpR X (compareOp op) r) (hd : OpD X.K X.mg r g) (hn : NoErr g) (ha : DE X E a fa) (hb : DE X E b fb) (hm : behindInMarks op b = false := by first | exact nobehind _ (by decide) (by decide) | rfl) : DE X E (.Compare a [op] [b] pos) (eOp g fa fb) :=
  PE.mono' (pe_cmpR ho ha hb hm) fun _ _ _ h => tOp_of hd hn h
def asB : D -> R Bool
  | .bl b => .ok b
  | _ => .bad
def eTest (f : DSt -> R D) : DSt -> R Bool := fun Z => (f Z).bind asB
theorem tTest_of {t : TE} {f : DSt -> R D} (h : ∀ Z H Q, tE X.K X.mg E f Z H Q -> t Z H Q) {Z : St} {H : Hp} {Q : Bool -> Hp -> Prop} (q : tT X.K X.mg E (eTest f) Z H Q) : tTest t Z H Q := by
  obtain ⟨G, Zd, ok, q⟩ := q
  refine h Z H _ ⟨G, Zd, ok, q.of_bind.mono (fun d _ q v G' H' s r => ?_) fun _ z => z⟩
  cases d with
  | bl k => cases r; exact ⟨k, rfl, (show AfterT Q G H k from q) G' H' s⟩
  | _ => exact (show False from q).elim
theorem dt_cmp {op : CmpOp} {r : R2} {g : D -> D -> R D} (ho : OpR X (compareOp op) r) (hd : OpD X.K X.mg r g) (hn : NoErr g) (ha : DE X E a fa) (hb : DE X E b fb) (hm : behindInMarks op b = false := by first | exact nobehind _ (by decide) (by decide) | rfl) : DT X E (.Compare a [op] [b] pos) (eTest (eOp g fa fb)) :=
  PT.mono' (pt_cmpR ho ha hb hm) fun _ _ _ q => tTest_of (fun _ _ _ h => tOp_of hd hn h) q
def eChain (g g' : D -> D -> R D) (fa fb fc : DSt -> R D) : DSt -> R D := fun Z => (fa Z).bind fun x => (fb Z).bind fun y => (g x y).bind fun z => (asB z).bind fun k => bif k then (fc Z).bind fun w => g' y w else .ok (.bl false)
theorem dt_val {e : Expr} {f : DSt -> R D} (h : DE X E e f) (he : ∀ whole, isTrue e X.env whole = (do let v <- whole; standAt e.pos; holding [v] (truthy v)) := by intro _; rfl) : DT X E e (eTest f) :=
  PT.mono' (pt_val h he) fun Z H Q q => tTest_of (t := tE X.K X.mg E f) (fun _ _ _ h => h) q
theorem DW.dt {e : Expr} {f : DSt -> R Bool} (h : DW X E e f) : DT X E e f := h _
variable {rest : List Expr} {ga gb : DSt -> R Bool}
def eAnd (fa fb : DSt -> R Bool) : DSt -> R Bool := fun Z => (fa Z).bind fun k => bif k then fb Z else .ok false
def eOr (fa fb : DSt -> R Bool) : DSt -> R Bool := fun Z => (fa Z).bind fun k => bif k then .ok true else fb Z
def eNot (fa : DSt -> R Bool) : DSt -> R Bool := fun Z => (fa Z).bind fun k => .ok (!k)
theorem tT_then {f : DSt -> R Bool} {α : Type} {k : Bool -> R α} {Z : St} {H : Hp} {Q : Bool -> Hp -> Prop} {P : α -> Prop} {G : Hp} {Zd : DSt}
    (ok : Ok0 K mg Zd Z G H) (q : RW ((f Zd).bind k) P (AfterX K mg E G H))
    (h : ∀ b G' H', Step G H G' H' -> Ok0 K mg Zd Z G' H' -> RW (k b) P (AfterX K mg E G' H') -> Q b H') : tT K mg E f Z H Q :=
  ⟨G, Zd, ok, q.of_bind.mono (fun d _ q G' H' s => h d G' H' s (ok.step s) (q.mono (fun _ _ z => z) fun e z => z.step s)) fun _ z => z⟩
theorem dw_and1 (ha : DT X E a ga) : DW X E (.BoolOp .And [a] pos) ga := pw_and1 ha
theorem dw_or1 (ha : DT X E a ga) : DW X E (.BoolOp .Or [a] pos) ga := pw_or1 ha
theorem dw_and (ha : DT X E a ga) (hb : DW X E (.BoolOp .And (b :: rest) pos) gb) : DW X E (.BoolOp .And (a :: b :: rest) pos) (eAnd ga gb) := by
  refine PW.mono' (pw_and ha hb) fun Z H Q ⟨G, Zd, ok, q⟩ => ?_
  refine tT_then ok q fun k G' H' s ok' q' => ?_
  cases k with
  | true => rw [xav rfl]; exact ⟨G', Zd, ok', q'.mono (fun _ _ z => z.step s) fun _ z => z⟩
  | false => rw [xao xap]; exact (show AfterT Q G H false from q') G' H' s
theorem dw_or (ha : DT X E a ga) (hb : DW X E (.BoolOp .Or (b :: rest) pos) gb) : DW X E (.BoolOp .Or (a :: b :: rest) pos) (eOr ga gb) := by
  refine PW.mono' (pw_or ha hb) fun Z H Q ⟨G, Zd, ok, q⟩ => ?_
  refine tT_then ok q fun k G' H' s ok' q' => ?_
  cases k with
  | true => rw [xav rfl]; exact (show AfterT Q G H true from q') G' H' s
  | false => rw [xao xap]; exact ⟨G', Zd, ok', q'.mono (fun _ _ z => z.step s) fun _ z => z⟩
theorem dt_not (ha : DT X E a ga) : DT X E (.UnaryOp .Not a pos) (eNot ga) := by
  refine PT.mono' (pt_not ha) fun Z H Q ⟨G, Zd, ok, q⟩ => ?_
  exact tT_then ok q fun k G' H' s _ q' => (show AfterT Q G H (!k) from q') G' H' s
def vAnd (fa fb : DSt -> R D) : DSt -> R D := fun Z => (fa Z).bind fun x => (asB x).bind fun k => bif k then fb Z else .ok (.bl false)
def vOr (fa fb : DSt -> R D) : DSt -> R D := fun Z => (fa Z).bind fun x => (asB x).bind fun k => bif k then .ok (.bl true) else fb Z
def vNot (fa : DSt -> R D) : DSt -> R D := fun Z => (fa Z).bind fun x => (asB x).bind fun k => .ok (.bl !k)
theorem de_one {op} {f : DSt -> R D} (h : DE X E a f) : DE X E (.BoolOp op [a] pos) f := pe_one h
theorem de_and (ha : DE X E a fa) (hb : DE X E (.BoolOp .And (b :: rest) pos) fb) : DE X E (.BoolOp .And (a :: b :: rest) pos) (vAnd fa fb) := by
  refine PE.mono' (pe_and ha hb) fun Z H Q ⟨G, Zd, ok, q⟩ => ?_
  refine tE_then (P := After X.K X.mg Q) ok q fun d v G' H' s ok' r q' => ?_
  cases d with
  | bl k =>
    cases r
    refine ⟨k, rfl, ?_⟩
    cases k with
    | true => rw [xav rfl]; exact ⟨G', Zd, ok', q'.mono (fun _ _ z => z.step s) fun _ z => z⟩
    | false => rw [xao xap]; exact (show After X.K X.mg Q G H (.bl false) from q') _ G' H' s rfl
  | _ => exact (show False from q').elim
theorem de_not (ha : DE X E a fa) : DE X E (.UnaryOp .Not a pos) (vNot fa) := by
  refine PE.mono' (pe_not ha) fun Z H Q ⟨G, Zd, ok, q⟩ => ?_
  refine tE_then (P := After X.K X.mg Q) ok q fun d v G' H' s ok' r q' => ?_
  cases d with
  | bl k => cases r; exact ⟨k, rfl, (show After X.K X.mg Q G H (.bl !k) from q') _ G' H' s rfl⟩
  | _ => exact (show False from q').elim
def eIf (c : DSt -> R Bool) (fa fb : DSt -> R D) : DSt -> R D := fun Z => (c Z).bind fun k => bif k then fa Z else fb Z
def UnD (K : xFg) (mg : Str -> Option Value) (r : V -> Hp -> VK -> Prop) (g : D -> R D) : Prop :=
  ∀ (G H : Hp) (a : D) (x : V) (Q : VK), Same G H -> Rep K mg G a x -> RW (g a) (After K mg Q G H) (fun _ => False) -> r x H Q
def eUn (g : D -> R D) (fa : DSt -> R D) : DSt -> R D := fun Z => (fa Z).bind g
theorem de_un {op : UnaryOp} {r : V -> Hp -> VK -> Prop} {g : D -> R D} (ho : UnR X (unaryOp op) r) (hd : UnD X.K X.mg r g) (hn : ∀ a e, g a ≠ .err e) (ha : DE X E a fa) : DE X E (.UnaryOp op a pos) (eUn g fa) := by
  refine PE.mono' (pe_un ho ha) fun Z H Q ⟨G, Zd, ok, q⟩ => ?_
  refine tE_then (P := After X.K X.mg Q) ok q fun d v G' H' s ok' r q' => ?_
  exact hd G' H' d v Q ok'.ext r (noX (hn d) (q'.mono (fun _ _ z => z.step s) fun _ z => z))
def aNil : DSt -> R (List D) := fun _ => .ok []
def aCons (fa : DSt -> R D) (fs : DSt -> R (List D)) : DSt -> R (List D) := fun Z => (fa Z).bind fun x => (fs Z).bind fun xs => .ok (x :: xs)
variable {es : List Expr} {fs : DSt -> R (List D)}
theorem da_nil : DA X E [] aNil := PA.mono' pa_nil fun Z H Q ⟨G, Zd, ok, q⟩ => (show AfterA X.K X.mg Q G H [] from q) [] G H (.refl ok.ext) Reps.nil
theorem da_cons (ha : DE X E a fa) (hr : DA X E es fs) (hs : starEach (a :: es) X.env = (false, eval a X.env) :: starEach es X.env := by rfl) : DA X E (a :: es) (aCons fa fs) := by
  refine PA.mono' (pa_cons ha hr hs) fun Z H Q ⟨G, Zd, ok, q⟩ => ?_
  refine tE_then (P := AfterA X.K X.mg Q) ok q fun d v G' H' s ok' r q' => ?_
  refine ⟨G', Zd, ok', q'.of_bind.mono (fun ds _ z vs G2 H2 s2 r2 => ?_) fun _ z => z⟩
  exact (show AfterA X.K X.mg Q G H (d :: ds) from z) _ G2 H2 (s.trans s2) (Reps.cons (r.mono s2.g) r2)
def few (n : Nat) : Bool := decide (n <= 1000)
theorem few_le {n : Nat} (h : few n = true) : n <= sizeLine := small (xan h)
def eTup (fs : DSt -> R (List D)) : DSt -> R D := fun Z => (fs Z).bind fun ds => bif few ds.length then .ok (.tup ds) else .bad
theorem tA_then {α : Type} {k : List D -> R α} {Z : St} {H : Hp} {Q : List V -> Hp -> Prop} {P : α -> Prop} {G : Hp} {Zd : DSt}
    (ok : Ok0 K mg Zd Z G H) (q : RW ((fs Zd).bind k) P (AfterX K mg E G H))
    (h : ∀ ds vs G' H', Step G H G' H' -> Ok0 K mg Zd Z G' H' -> Reps K mg G' ds vs -> RW (k ds) P (AfterX K mg E G' H') -> Q vs H') : tAr K mg E fs Z H Q :=
  ⟨G, Zd, ok, q.of_bind.mono (fun ds _ q vs G' H' s r => h ds vs G' H' s (ok.step s) r (q.mono (fun _ _ z => z) fun e z => z.step s)) fun _ z => z⟩
theorem de_tup {x1} (h : DA X E es fs) : DE X E (.Tuple es x1 pos) (eTup fs) := by
  refine PE.mono' (pe_tup h) fun Z H Q ⟨G, Zd, ok, q⟩ => ?_
  refine tA_then (P := After X.K X.mg Q G H) ok q fun ds vs G' H' s ok' r q' => ?_
  cases hf : few ds.length with
  | false => rw [hf] at q'; exact (show False from q').elim
  | true =>
    rw [hf] at q'
    have q2 : After X.K X.mg Q G H (.tup ds) := q'
    refine ⟨by rw [<- r.length]; exact few_le hf, fun p hp => ?_⟩
    have s2 : Step G' H' (upd G' p (.tup vs)) (upd H' p (.tup vs)) := .pub ok'.ext hp
    exact q2 _ _ _ (s.trans s2) ⟨p, vs, rfl, SqT.of upd_same, r.mono s2.g⟩
def eLst (fs : DSt -> R (List D)) : DSt -> R (List D) := fun Z => (fs Z).bind fun ds => bif few ds.length then .ok ds else .bad
theorem df_lst (h : DA X E es fs) : DF X E (.List es pos) (eLst fs) := by
  refine PE.mono' (pe_lst h) fun Z H Q ⟨G, Zd, ok, q⟩ => ?_
  refine tA_then (P := AfterF X.K X.mg Q G H) ok q fun ds vs G' H' s ok' r q' => ?_
  cases hf : few ds.length with
  | false => rw [hf] at q'; exact (show False from q').elim
  | true =>
    rw [hf] at q'
    have q2 : AfterF X.K X.mg Q G H ds := q'
    refine ⟨by rw [<- r.length]; exact few_le hf, fun p hp => ?_⟩
    exact q2 p vs G' _ (s.trans (.hid ok'.ext hp)) (s.h.free hp) upd_same (ok'.ext.free hp) r
def gIx : D -> D -> R D
  | .tup xs, .int i => match atI xs i with
    | some d => .ok d
    | none => .bad
  | .lst xs, .int i => match atI xs i with
    | some d => .ok d
    | none => .bad
  | _, _ => .bad
theorem nx_ix : NoErr gIx := by
  intro a b e h
  cases a <;> cases b <;> simp only [gIx] at h <;> first | exact xak h (by simp) | (split at h <;> cases h)
theorem od_ix : OpD K mg (fun x y H Q => rIxL K x y H Q \/ rIxT K x y H Q) gIx := by
  intro G H a b x y Q e ra rb q
  cases b with
  | int i =>
    cases rb
    cases a with
    | lst xs =>
      obtain ⟨p, vs, rfl, h1, h2⟩ := ra
      cases ed : atI xs i with
      | none => simp only [gIx, ed] at q; exact q.elim
      | some d =>
        simp only [gIx, ed] at q
        obtain ⟨v, h3, h4⟩ := h2.at ed
        exact .inl ⟨p, vs, i, v, rfl, rfl, e.seq h1, h3, After.now q e h4⟩
    | tup xs =>
      obtain ⟨p, vs, rfl, h1, h2⟩ := ra
      cases ed : atI xs i with
      | none => simp only [gIx, ed] at q; exact q.elim
      | some d =>
        simp only [gIx, ed] at q
        obtain ⟨v, h3, h4⟩ := h2.at ed
        exact .inr ⟨p, vs, i, v, rfl, rfl, Same.sqT e h1, h3, After.now q e h4⟩
    | _ => exact (show False from q).elim
  | _ => cases a <;> exact (show False from q).elim
theorem de_ix (ha : DE X E a fa) (hb : DE X E b fb) (hs : PlainIx b := by intro _ _; rfl) : DE X E (.Subscript a b pos) (eOp gIx fa fb) :=
  PE.mono' (pe_ix (ix_list.or ix_tup) ha hb hs) fun _ _ _ h => tOp_of od_ix nx_ix h
end
def spD (K : xFg) (mg : Str -> Option Value) (m : List D -> R D) : Sp := fun vs H Q E => ∃ G ds, Same G H /\ Reps K mg G ds vs /\ RW (m ds) (After K mg Q G H) (AfterX K mg E G H)
structure FnAt (P : Program) (w : World) (K : xFg) (mg : Str -> Option Value) (base : Heap) (k : Nat) (x : Str) (m : List D -> R D) : Prop where
  ex : ∃ (f : Addr) (fd : FuncData) (ps : List Str), FnOk P w K mg base (CXe P w) k f fd ps (spD K mg m) /\ mg x = some (.ref f) /\ PySem.W.keepIn K (.ref f) = true /\ Binds K fd ps []
theorem FnAt.mono {P : Program} {w : World} {K : xFg} {mg : Str -> Option Value} {base : Heap} {j k : Nat} {x : Str} {m : List D -> R D} (F : FnAt P w K mg base j x m) (h : j <= k) : FnAt P w K mg base k x m := by
  obtain ⟨f, fd, ps, h1, h2⟩ := F.ex
  exact ⟨f, fd, ps, h1.mono h, h2⟩
structure XC (X : Cx) (E : XK) (k : Nat) : Prop where
  calm : X.calm = true
  room : Room k X.A
  pass : Passes (CXe X.prog X.w) X E
def eCall (m : List D -> R D) (fs : DSt -> R (List D)) : DSt -> R D := fun Z => (fs Z).bind m
def CallD (K : xFg) (mg : Str -> Option Value) (r : List V -> Hp -> VK -> Prop) (g : List D -> R D) : Prop :=
  ∀ (G H : Hp) (ds : List D) (vs : List V) (Q : VK), Same G H -> Reps K mg G ds vs -> RW (g ds) (After K mg Q G H) (fun _ => False) -> r vs H Q
def R.noerr {α : Type} : R α -> R α
  | .ok a => .ok a
  | _ => .bad
def eBlt (g : List D -> R D) (fs : DSt -> R (List D)) : DSt -> R D := fun Z => (fs Z).bind fun ds => (g ds).noerr
theorem noerr_ok {α : Type} {r : R α} {Q : α -> Prop} {E' : D -> Prop} (h : RW r.noerr Q E') : ∃ a, r = .ok a /\ Q a := by
  cases r with
  | ok a => exact ⟨a, rfl, h⟩
  | err e => exact (show False from h).elim
  | bad => exact (show False from h).elim
section
variable {X : Cx} {E : XK} {k : Nat} {x : Str} {m : List D -> R D} {p pos : Pos} {e : Expr} {es : List Expr} {fs : DSt -> R (List D)}
theorem de_call (C : XC X E k) (F : FnAt X.prog X.w X.K X.mg X.base k x m) (ha : DA X E (e :: es) fs) (hg : Gl X x := by rfl) (hdb : (x == ("__debug__" : Str)) = false := by decide)
    (he : starEach (e :: es) X.env = (false, eval e X.env) :: starEach es X.env := by rfl) (hpl : (backTo pos (starEach es X.env)).any (·.1) = false := by rfl) : DE X E (.Call (.Name x p) (e :: es) [] pos) (eCall m fs) := by
  obtain ⟨f, fd, ps, h1, h2, h3, h4⟩ := F.ex
  refine PE.mono' (pe_call h1 C.room hg h2 h3 h4 .nil C.pass ha hdb he hpl) fun Z H Q ⟨G, Zd, ok, q⟩ => ?_
  refine ⟨G, Zd, ok, q.of_bind.mono (fun ds hds z vs G' H' s r => ?_) fun _ z => z⟩
  show spD X.K X.mg m (vs ++ []) H' Q E
  rw [xbm]
  exact ⟨G', ds, s.e, r, z.mono (fun _ _ z => z.step s) fun _ z => z.step s⟩
theorem de_blt {id : String} {r : List V -> Hp -> VK -> Prop} {g : List D -> R D} (hc : CallR X (.builtin id) r) (hd : CallD X.K X.mg r g) (hm : X.mg x = none) (hv : bootBuiltins x = some (.builtin id)) (ha : DA X E (e :: es) fs) (hg : Gl X x := by rfl) (hn : x ≠ "__name__" := by decide) (hdb : (x == ("__debug__" : Str)) = false := by decide)
    (he : starEach (e :: es) X.env = (false, eval e X.env) :: starEach es X.env := by rfl) (hpl : (backTo pos (starEach es X.env)).any (·.1) = false := by rfl) : DE X E (.Call (.Name x p) (e :: es) [] pos) (eBlt g fs) := by
  refine PE.mono' (pe_callB hc hg hm hv ha hn hdb he hpl) fun Z H Q ⟨G, Zd, ok, q⟩ => ?_
  refine ⟨G, Zd, ok, q.of_bind.mono (fun ds _ z vs G' H' s r => ?_) fun _ z => z⟩
  obtain ⟨d, e1, z⟩ := noerr_ok z
  exact hd G' H' ds vs Q s.e r (by rw [e1]; exact z.step s)
theorem de_bty {T : String} {r : List V -> Hp -> VK -> Prop} {g : List D -> R D} (hc : CallR X (.type T) r) (hd : CallD X.K X.mg r g) (hm : X.mg x = none) (ha : DA X E (e :: es) fs) (hv : bootBuiltins x = some (.type T) := by rfl) (hg : Gl X x := by rfl) (hn : x ≠ "__name__" := by decide) (hdb : (x == ("__debug__" : Str)) = false := by decide)
    (he : starEach (e :: es) X.env = (false, eval e X.env) :: starEach es X.env := by rfl) (hpl : (backTo pos (starEach es X.env)).any (·.1) = false := by rfl) : DE X E (.Call (.Name x p) (e :: es) [] pos) (eBlt g fs) := by
  refine PE.mono' (pe_callTy hc hg hm hv ha hn hdb he hpl) fun Z H Q ⟨G, Zd, ok, q⟩ => ?_
  refine ⟨G, Zd, ok, q.of_bind.mono (fun ds _ z vs G' H' s r => ?_) fun _ z => z⟩
  obtain ⟨d, e1, z⟩ := noerr_ok z
  exact hd G' H' ds vs Q s.e r (by rw [e1]; exact z.step s)
end
def setAll {α : Type} : List (Option α) -> List Nat -> List α -> List (Option α)
  | Z, k :: ks, v :: vs => setAll (Z.set k (some v)) ks vs
  | Z, _, _ => Z
theorem setAll_len {α : Type} : ∀ (ks : List Nat) (Z : List (Option α)) (vs : List α), (setAll Z ks vs).length = Z.length
  | [], _, _ => by unfold setAll; rfl
  | _ :: _, _, [] => by unfold setAll; rfl
  | _ :: ks, Z, _ :: vs => by unfold setAll; rw [setAll_len ks]; simp
theorem setAll_ne {α : Type} {j : Nat} : ∀ (ks : List Nat) (Z : List (Option α)) (vs : List α), j ∉ ks -> (setAll Z ks vs)[j]? = Z[j]?
  | [], _, _, _ => by unfold setAll; rfl
  | _ :: _, _, [], _ => by unfold setAll; rfl
  | k :: ks, Z, _ :: vs, h => by
    unfold setAll
    rw [setAll_ne ks _ vs fun z => h (xaq _ z), xae (fun z => h (by rw [<- z]; exact xa3))]
def tG (K : xFg) (mg : Str -> Option Value) (ks : List Nat) (gp : D -> R (List D)) : TG := fun v Z H Q => ∃ G d, Same G H /\ Rep K mg G d v /\ RW (gp d) (fun us => ∀ ws, Reps K mg G us ws -> Q (setAll Z ks ws) H) (fun _ => False)
def DG (X : Cx) (tg : Expr) (ks : List Nat) (gp : D -> R (List D)) : Prop := PG X tg (tG X.K X.mg ks gp)
def gpOne : D -> R (List D) := fun d => .ok [d]
def gpSeq (n : Nat) : D -> R (List D)
  | .tup ds => bif ds.length == n then .ok ds else .bad
  | .lst ds => bif ds.length == n then .ok ds else .bad
  | _ => .bad
section
variable {X : Cx} {pos : Pos}
theorem PG.mono' {tg : Expr} {t t' : TG} (h : PG X tg t) (m : ∀ v Z H Q, t' v Z H Q -> t v Z H Q) : PG X tg t' := fun pins s Z H v u Q I r q => h pins s Z H v u Q I r (m v Z H Q q)
theorem PG.or {tg : Expr} {t t' : TG} (h : PG X tg t) (h' : PG X tg t') : PG X tg (fun v Z H Q => t v Z H Q \/ t' v Z H Q) := fun pins s Z H v u Q I r q => by
  rcases q with q | q
  · exact h pins s Z H v u Q I r q
  · exact h' pins s Z H v u Q I r q
theorem dg_name (i : Nat) {x : Str} (hN : X.N.Nodup) (hi : X.N[i]? = some x := by rfl) (hx : Loc X.env.scope x := by first | exact Or.inl rfl | exact Or.inr rfl) (hf : X.fn x = true \/ X.env.scope.names.lookup x = some .local := by first | exact .inl rfl | exact .inr rfl | assumption) : DG X (.Name x pos) [i] gpOne :=
  PG.mono' (pg_name hN hi hx hf) fun v Z H Q ⟨G, d, e, r, q⟩ => by
    have q' := (show ∀ ws, Reps X.K X.mg G [d] ws -> Q (setAll Z [i] ws) H from q) [v] (Reps.cons r Reps.nil)
    exact q'
def gNames : List Nat -> TGs
  | [] => gNil
  | i :: r => gCons (gName i) (gNames r)
theorem gNames_of : ∀ (ks : List Nat) (vs : List V) (Z : St) (H : Hp) (Q : St -> Hp -> Prop), vs.length = ks.length -> Q (setAll Z ks vs) H -> gNames ks vs Z H Q
  | [], [], _, _, _, _, q => ⟨rfl, q⟩
  | i :: r, v :: vs, Z, H, Q, hl, q => ⟨v, vs, rfl, gNames_of r vs _ H Q (by simpa using hl) q⟩
theorem dg_seq {es : List Expr} {k : Nat} (ks : List Nat) (n : Nat) (hc : X.calm = true) (h : PGs X es (gNames ks)) (hk : ks.length = n := by rfl)
    (hn : (assignEach es X.env).length = n := by rfl) (hst : (assignEach es X.env).findIdx? (·.1) = none := by rfl) : DG X (.Tuple es k pos) ks (gpSeq n) := by
  refine PG.mono' (PG.or (pg_tup hc h hn hst) (pg_lst hc h hn hst)) fun v Z H Q ⟨G, d, e, r, q⟩ => ?_
  cases d with
  | tup ds =>
    obtain ⟨a, vs, rfl, h1, h2⟩ := r
    by_cases hd : ds.length = n
    · have q' : ∀ ws, Reps X.K X.mg G ds ws -> Q (setAll Z ks ws) H := by
        simp only [gpSeq, hd, beq_self_eq_true, cond_true] at q; exact q
      exact .inl ⟨a, vs, rfl, Same.sqT e h1, by rw [<- h2.length]; exact hd, gNames_of ks vs Z H Q (by rw [<- h2.length, hd, hk]) (q' vs h2)⟩
    · have : (ds.length == n) = false := by simpa using hd
      simp only [gpSeq, this, cond_false] at q; exact q.elim
  | lst ds =>
    obtain ⟨a, vs, rfl, h1, h2⟩ := r
    by_cases hd : ds.length = n
    · have q' : ∀ ws, Reps X.K X.mg G ds ws -> Q (setAll Z ks ws) H := by
        simp only [gpSeq, hd, beq_self_eq_true, cond_true] at q; exact q
      exact .inr ⟨a, vs, rfl, e.seq h1, by rw [<- h2.length]; exact hd, gNames_of ks vs Z H Q (by rw [<- h2.length, hd, hk]) (q' vs h2)⟩
    · have : (ds.length == n) = false := by simpa using hd
      simp only [gpSeq, this, cond_false] at q; exact q.elim
  | _ => exact (show False from q).elim
end
theorem Ok0.setAll {K : xFg} {mg : Str -> Option Value} {G H : Hp} : ∀ {ks : List Nat} {us : List D} {ws : List V} {Zd : DSt} {Z : St}, Ok0 K mg Zd Z G H -> Reps K mg G us ws -> Ok0 K mg (setAll Zd ks us) (setAll Z ks ws) G H
  | [], _, _, _, _, o, _ => by unfold DL.setAll; exact o
  | _ :: _, [], _, _, _, o, h => by cases h; unfold DL.setAll; exact o
  | k :: ks, _ :: _, _, _, _, o, ⟨v, r, h1, h2, h3⟩ => by subst h1; unfold DL.setAll; exact Ok0.setAll (o.set h2) h3
structure IterD (K : xFg) (mg : Str -> Option Value) (J : It) (G : Hp) (ds : List D) : Prop where
  stop : ∀ H, Same G H -> J.stop ds.length H
  turn : ∀ (H : Hp) (i : Nat) (d : D), Same G H -> ds[i]? = some d -> J.go i H /\ ∀ x H', J.yld i H x H' -> ∀ G1, Same G G1 -> Same G1 H -> ∃ G2, Step G1 H G2 H' /\ Rep K mg G2 d x
def tI (K : xFg) (mg : Str -> Option Value) (E : XK) (f : DSt -> R (List D)) : TI := fun Z H R => ∃ G Zd, Ok0 K mg Zd Z G H /\ RW (f Zd) (fun ds => ∀ J G' H', Step G H G' H' -> IterD K mg J G' ds -> R J H') (AfterX K mg E G H)
def DI (X : Cx) (E : XK) (tg iter : Expr) (f : DSt -> R (List D)) : Prop := PI X tg iter (tI X.K X.mg E f)
section
variable {X : Cx} {E : XK} {tg : Expr}
theorem PI.mono' {iter : Expr} {t t' : TI} (h : PI X tg iter t) (m : ∀ Z H R, t' Z H R -> t Z H R) : PI X tg iter t' := fun pins s Z H R I q => h pins s Z H R I (m Z H R q)
theorem IterD.list {K : xFg} {mg : Str -> Option Value} {G : Hp} {a : Addr} {vs : List V} {ds : List D} (h : SqL K G a vs) (r : Reps K mg G ds vs) : IterD K mg (Itl K a) G ds := by
  refine ⟨fun H e => by rw [r.length]; exact (lgo (e.seq h)).1, fun H i d e hd => ?_⟩
  have hi : i < vs.length := by rw [<- r.length]; exact (xab.mp hd).1
  obtain ⟨g1, g2⟩ := (lgo (e.seq h)).2 i hi
  refine ⟨g1, fun x H' y G1 e1 e2 => ?_⟩
  obtain ⟨rfl, hx⟩ := g2 x H' y
  obtain ⟨v, h1, h2⟩ := r.get hd
  rw [hx] at h1; cases h1
  exact ⟨G1, .refl e2, h2.mono e1⟩
theorem IterD.tup {K : xFg} {mg : Str -> Option Value} {G : Hp} {a : Addr} {vs : List V} {ds : List D} (h : SqT K G a vs) (r : Reps K mg G ds vs) : IterD K mg (Itt K a) G ds := by
  refine ⟨fun H e => by rw [r.length]; exact (tgo (Same.sqT e h)).1, fun H i d e hd => ?_⟩
  have hi : i < vs.length := by rw [<- r.length]; exact (xab.mp hd).1
  obtain ⟨g1, g2⟩ := (tgo (Same.sqT e h)).2 i hi
  refine ⟨g1, fun x H' y G1 e1 e2 => ?_⟩
  obtain ⟨rfl, hx⟩ := g2 x H' y
  obtain ⟨v, h1, h2⟩ := r.get hd
  rw [hx] at h1; cases h1
  exact ⟨G1, .refl e2, h2.mono e1⟩
def rngD (lo : Int) (n : Nat) : List D := (List.range n).map fun (i : Nat) => D.int (lo + (i : Int))
theorem IterD.rng {K : xFg} {mg : Str -> Option Value} {G : Hp} (lo : Int) (n : Nat) : IterD K mg (Itr lo n) G (rngD lo n) := by
  have hl : (rngD lo n).length = n := by simp [rngD]
  refine ⟨fun H e => by rw [hl]; exact xam _, fun H i d e hd => ?_⟩
  have hi : i < n := by have := (xab.mp hd).1; omega
  refine ⟨hi, fun x H' y G1 e1 e2 => ?_⟩
  obtain ⟨rfl, rfl⟩ := y
  have : d = .int (lo + (i : Int)) := by simp [rngD, hi] at hd; exact hd.symm
  subst this
  exact ⟨G1, .refl e2, rfl⟩
def asSeq : D -> R (List D)
  | .tup ds => .ok ds
  | .lst ds => .ok ds
  | _ => .bad
def iSeq (f : DSt -> R D) : DSt -> R (List D) := fun Z => (f Z).bind asSeq
theorem di_seq {l : Expr} {f : DSt -> R D} (hl : DE X E l f) : DI X E tg l (iSeq f) := by
  have hL : PI X tg l (iList X.K (tE X.K X.mg E f)) := pi_list hl
  have hT : PI X tg l (iTup X.K (tE X.K X.mg E f)) := pi_tup hl
  intro pins s Z H R I ⟨G, Zd, ok, q⟩
  cases hf : f Zd with
  | bad => unfold iSeq at q; rw [hf] at q; exact (show False from q).elim
  | err e =>
    unfold iSeq at q; rw [hf] at q
    refine hL pins s Z H R I ⟨G, Zd, ok, ?_⟩
    rw [hf]; exact q
  | ok d =>
    unfold iSeq at q; rw [hf] at q
    cases d with
    | lst ds =>
      have q' : ∀ J G' H', Step G H G' H' -> IterD X.K X.mg J G' ds -> R J H' := q
      refine hL pins s Z H R I ⟨G, Zd, ok, ?_⟩
      rw [hf]
      rintro v G' H' st ⟨a, vs, rfl, h1, h2⟩
      exact ⟨a, rfl, ⟨vs, st.e.seq h1⟩, q' _ G' H' st (.list h1 h2)⟩
    | tup ds =>
      have q' : ∀ J G' H', Step G H G' H' -> IterD X.K X.mg J G' ds -> R J H' := q
      refine hT pins s Z H R I ⟨G, Zd, ok, ?_⟩
      rw [hf]
      rintro v G' H' st ⟨a, vs, rfl, h1, h2⟩
      exact ⟨a, rfl, ⟨vs, Same.sqT st.e h1⟩, q' _ G' H' st (.tup h1 h2)⟩
    | _ => exact (show False from q).elim
def rOk (i : Int) : Bool := Nat.blt i.natAbs 1073741824
theorem rOk_is {i : Int} (h : rOk i = true) : -(2 ^ 30) <= i /\ i < 2 ^ 30 := by
  unfold rOk at h
  rw [Nat.blt_eq] at h
  omega
def rng1 : List D -> R (List D)
  | [.int j] => bif rOk j then .ok (rngD 0 j.toNat) else .bad
  | _ => .bad
def rng2 : List D -> R (List D)
  | [.int i, .int j] => bif rOk i && rOk j then .ok (rngD i (j - i).toNat) else .bad
  | _ => .bad
def iArgs (g : List D -> R (List D)) (fs : DSt -> R (List D)) : DSt -> R (List D) := fun Z => (fs Z).bind g
variable {fs : DSt -> R (List D)} {a b c : Expr} {p pos : Pos}
theorem di_range1 (hm : X.mg "range" = none) (ha : DA X E [a] fs) (hg : Gl X "range" := by rfl) (hs : starEach [a] X.env = [(false, eval a X.env)] := by rfl) : DI X E tg (.Call (.Name "range" p) [a] [] pos) (iArgs rng1 fs) := by
  refine PI.mono' (pi_range1 hg hm ha hs) fun Z H R ⟨G, Zd, ok, q⟩ => ?_
  refine ⟨G, Zd, ok, q.of_bind.mono (fun ds _ z vs G' H' s r => ?_) fun _ z => z⟩
  match ds, z, r with
  | [.int j], z, r =>
    obtain rfl := Reps.of_ints (ns := [j]) r
    cases hj : rOk j with
    | false => simp only [rng1, hj, cond_false] at z; exact z.elim
    | true =>
      simp only [rng1, hj, cond_true] at z
      have := rOk_is hj
      exact ⟨j, rfl, by omega, by omega, z _ G' H' s (.rng 0 _)⟩
end
def lcD (ks : List Nat) (gp : D -> R (List D)) (c : DSt -> R Bool) (e : DSt -> R D) (Z : DSt) : List D -> R (List D)
  | [] => .ok []
  | d :: ds => (gp d).bind fun us => (c (setAll Z ks us)).bind fun k => bif k then (e (setAll Z ks us)).bind fun y => (lcD ks gp c e Z ds).bind fun ys => .ok (y :: ys) else lcD ks gp c e Z ds
def most (n : Nat) : Bool := decide (n < sizeLine)
def eLC (k : Nat) (ks : List Nat) (fi : DSt -> R (List D)) (gp : D -> R (List D)) (c : DSt -> R Bool) (e : DSt -> R D) : DSt -> R (List D) := fun Z => (fi Z).bind fun ds => bif most ds.length then (lcD ks gp c e (List.replicate k none ++ Z) ds).noerr else .bad
def eTrue : DSt -> R Bool := fun _ => .ok true
def DTs (X : Cx) (E : XK) (cs : List Expr) (f : DSt -> R Bool) : Prop := PTs X cs (tT X.K X.mg E f)
theorem PTs.mono' {X : Cx} {cs : List Expr} {t t' : TT} (h : PTs X cs t) (m : ∀ Z H Q, t' Z H Q -> t Z H Q) : PTs X cs t' := fun pins s Z H Q I q => h pins s Z H Q I (m Z H Q q)
theorem dts_nil {X : Cx} {E : XK} : DTs X E [] eTrue := PTs.mono' pts_nil fun Z H Q ⟨G, Zd, ok, q⟩ => (show AfterT Q G H true from q) G H (.refl ok.ext)
theorem RW.ok_of {α : Type} {r : R α} {a : α} {Q : α -> Prop} {E : D -> Prop} (e : r = .ok a) (h : Q a) : RW r Q E := by rw [e]; exact h
theorem bind_ok {α β : Type} {r : R α} {k : α -> R β} {b : β} (h : r.bind k = .ok b) : ∃ a, r = .ok a /\ k a = .ok b := by
  cases r with
  | ok a => exact ⟨a, rfl, h⟩
  | err e => cases h
  | bad => cases h
section
variable {X : Cx} {E : XK} {tg elt iter : Expr} {ifs : List Expr} {scope : Scope} {pos : Pos} {NY : List Str} {k : Nat} {ks : List Nat} {fi : DSt -> R (List D)} {gp : D -> R (List D)} {fc : DSt -> R Bool} {fe : DSt -> R D}
theorem subSt_setAll {k : Nat} {ks : List Nat} {Z : St} (h : ks.all (fun i => decide (i < k)) = true) (ws : List V) : SubSt (List.replicate k none ++ Z) (setAll (List.replicate k none ++ Z) ks ws) := by
  refine ⟨setAll_len _ _ _, fun j v e => ?_⟩
  rw [setAll_ne _ _ _ fun hj => ?_]
  · exact e
  · have hk : j < k := xan (xbc.mp h j hj)
    rw [xb0 (by simpa using hk), xb5, xav hk] at e
    cases e
theorem tLC_of {te : TE} {tc : TT} (hk : ks.all (fun i => decide (i < k)) = true) {Z : St} {H : Hp} {Q : VK}
    (h : tFr X.K X.mg E (eLC k ks fi gp fc fe) Z H Q) : tLC k (tI X.K X.mg E fi) (tG X.K X.mg ks gp) (tT X.K X.mg E0 fc) (tE X.K X.mg E0 fe) Z H Q := by
  obtain ⟨G, Zd, ok, q⟩ := h
  refine ⟨G, Zd, ok, q.of_bind.mono (fun ds _ z J G1 H1 s1 it => ?_) fun _ z => z⟩
  cases hm : most ds.length with
  | false => rw [hm] at z; exact (show False from z).elim
  | true =>
    rw [hm] at z
    obtain ⟨tot, ht, z⟩ := noerr_ok (show RW (lcD ks gp fc fe (List.replicate k none ++ Zd) ds).noerr _ _ from z)
    have hlt : ds.length < sizeLine := xan hm
    have ok1 := ok.step s1
    refine ⟨fun i m ys H' => m = ds.length - i /\ i <= ds.length /\ ∃ G' yd rest, Step G1 H1 G' H' /\ Reps X.K X.mg G' yd ys /\ yd.length <= i /\ lcD ks gp fc fe (List.replicate k none ++ Zd) (ds.drop i) = .ok rest /\ tot = yd ++ rest,
      ⟨ds.length, by simp, xbw _, G1, [], tot, .refl ok1.ext, Reps.nil, xbw _, ht, rfl⟩, ?_⟩
    rintro i m ys H' ⟨rfl, hi, G', yd, rest, s, r, hyl, hr, rfl⟩
    refine ⟨by rw [<- r.length]; omega, ?_⟩
    by_cases hlt2 : i < ds.length
    · right
      obtain ⟨d, hd⟩ : ∃ d, ds[i]? = some d := ⟨ds[i], by simp [hlt2]⟩
      obtain ⟨g1, g2⟩ := it.turn H' i d (s.g.trans s.e) hd
      have hdrop : ds.drop i = d :: ds.drop (i + 1) := by
        rw [xb1 hlt2]
        congr 1
        exact xa0 ((xa6 hlt2).symm.trans hd)
      rw [hdrop] at hr
      refine ⟨g1, fun ys' H'' => ∃ G' yd rest, Step G1 H1 G' H'' /\ Reps X.K X.mg G' yd ys' /\ yd.length <= i + 1 /\ lcD ks gp fc fe (List.replicate k none ++ Zd) (ds.drop (i + 1)) = .ok rest /\ _ = yd ++ rest, fun ys' H'' h => ⟨ds.length - (i + 1), by omega, rfl, hlt2, h⟩, fun v H'' hy => ?_⟩
      obtain ⟨G2, s2, rv⟩ := g2 v H'' hy G' s.g s.e
      unfold lcD at hr
      obtain ⟨us, e1, hr⟩ := bind_ok hr
      obtain ⟨kk, e2, hr⟩ := bind_ok hr
      have s12 := s.trans s2
      have okN : Ok0 X.K X.mg (List.replicate k none ++ Zd) (List.replicate k none ++ Z) G2 H'' := (ok1.step s12).nones k
      refine ⟨G2, d, s2.e, rv, RW.ok_of e1 fun ws rws => ⟨subSt_setAll hk ws, ?_⟩⟩
      have okS := okN.setAll (ks := ks) rws
      refine ⟨G2, _, okS, RW.ok_of e2 fun G3 H3 s3 => ?_⟩
      cases kk with
      | false =>
        rw [xao xap]
        exact ⟨G3, yd, rest, s12.trans s3, r.mono (s2.g.trans s3.g), by omega, hr, rfl⟩
      | true =>
        rw [xav rfl]
        obtain ⟨y, e3, hr⟩ := bind_ok (show (fe (setAll (List.replicate k none ++ Zd) ks us)).bind _ = _ from hr)
        obtain ⟨ys2, e4, hr⟩ := bind_ok hr
        cases hr
        refine ⟨G3, _, okS.step s3, RW.ok_of e3 fun w G4 H4 s4 r4 => ?_⟩
        exact ⟨G4, yd ++ [y], ys2, (s12.trans s3).trans s4, (r.mono ((s2.g.trans s3.g).trans s4.g)).append (Reps.cons r4 Reps.nil), by simp; omega, e4, by simp⟩
    · left
      have hi2 : i = ds.length := by omega
      subst hi2
      refine ⟨it.stop H' (s.g.trans s.e), fun Dd hD => ?_⟩
      rw [List.drop_length] at hr
      have hre : rest = [] := by unfold lcD at hr; cases hr; rfl
      subst hre
      rw [xbm] at z
      have st := (s1.trans s)
      exact z Dd ys G' _ (st.trans (.hid st.e hD)) (st.h.free hD) upd_same (st.e.free hD) r
theorem df_lc (C : X.calm = true) (lc : LC X k scope NY) (hk : ks.all (fun i => decide (i < k)) = true) (hi : DI X E tg iter fi)
    (hb : ∀ (s₀ : Shared) (H₀ : Hp) (C : Addr) (ex : List Addr), NY.Nodup -> DG (lcCx X scope NY s₀ H₀ C ex) tg ks gp /\ DTs (lcCx X scope NY s₀ H₀ C ex) E0 ifs fc /\ DE (lcCx X scope NY s₀ H₀ C ex) E0 elt fe)
    (hs : ∀ x, foldedSetIterable iter X.env x = pure x := by intro _; rfl) : DF X E (.ListComp elt [⟨tg, iter, ifs, 0⟩] scope pos) (eLC k ks fi gp fc fe) :=
  PE.mono' (pe_lc (g := tG X.K X.mg ks gp) (tc := tT X.K X.mg E0 fc) (te := tE X.K X.mg E0 fe) C lc hi (fun s0 H0 Ca ex nd => hb s0 H0 Ca ex nd) hs) fun _ _ _ h => tLC_of (te := tE X.K X.mg E0 fe) (tc := tT X.K X.mg E0 fc) hk h
end
end DL
namespace DL
open L2
mutual
def imm : D -> Bool
  | .lst _ => false
  | .dct _ _ => false
  | .tup ds => imms ds
  | .exc _ as => imms as
  | .non => true
  | .bl _ => true
  | .int _ => true
  | .str _ => true
  | .ty _ => true
  | .cls _ => true
def imms : List D -> Bool
  | [] => true
  | d :: ds => imm d && imms ds
end
def SameT (G G' : Hp) : Prop := ∀ a o, G a = some o -> (∀ xs, o ≠ .lst xs) -> G' a = some o
section
variable {K : xFg} {mg : Str -> Option Value} {G G' H H' H0 : Hp}
theorem SameT.sqT {a : Addr} {xs : List V} (e : SameT G G') (h : SqT K G a xs) : SqT K G' a xs := by
  rcases h with (h | ⟨o, h⟩) | h
  · exact .inl (.inl (e _ _ h fun xs z => by cases z))
  · exact .inl (.inr ⟨o, e _ _ h fun xs z => by cases z⟩)
  · exact .inr h
mutual
theorem Rep.imm (e : SameT G G') : ∀ {d : D} {v : V}, imm d = true -> Rep K mg G d v -> Rep K mg G' d v
  | .non, _, _, h => h
  | .bl _, _, _, h => h
  | .int _, _, _, h => h
  | .str _, _, _, h => h
  | .ty _, _, _, h => h
  | .cls _, _, _, h => h
  | .tup _, _, i, ⟨a, vs, h1, h2, h3⟩ => ⟨a, vs, h1, e.sqT h2, Reps.imm e (by unfold DL.imm at i; exact i) h3⟩
  | .lst _, _, i, _ => by unfold DL.imm at i; cases i
  | .dct _ _, _, i, _ => by unfold DL.imm at i; cases i
  | .exc _ _, _, i, ⟨x, C, dct, vs, h1, h2, h3, h4, h5⟩ => ⟨x, C, dct, vs, h1, e _ _ h2 fun xs z => (by unfold excO at z; cases z), h3, by
      rcases h4 with h | ⟨dx, v, q1, q2, q3⟩
      · exact .inl h
      · exact .inr ⟨dx, v, q1, q2, e _ _ q3 fun xs z => by cases z⟩, Reps.imm e (by unfold DL.imm at i; exact i) h5⟩
theorem Reps.imm (e : SameT G G') : ∀ {ds : List D} {vs : List V}, imms ds = true -> Reps K mg G ds vs -> Reps K mg G' ds vs
  | [], _, _, h => h
  | _ :: _, _, i, ⟨v, r, h1, h2, h3⟩ => by
    unfold imms at i
    rw [xau] at i
    exact ⟨v, r, h1, Rep.imm e i.1 h2, Reps.imm e i.2 h3⟩
end
end
structure Ok (K : xFg) (mg : Str -> Option Value) (H0 : Hp) (own : List Nat) (Zd : DSt) (Z : St) (G H : Hp) : Prop where
  ext : Same G H
  len : Zd.length = Z.length
  val : ∀ (i : Nat) (d : D), i ∉ own -> Zd[i]? = some (some d) -> ∃ v, Z[i]? = some (some v) /\ Rep K mg G d v
  mine : ∀ (i : Nat) (d : D), i ∈ own -> Zd[i]? = some (some d) -> ∃ a ds vs, Z[i]? = some (some (.ref a)) /\ d = .lst ds /\ H a = some (.lst vs) /\ G a = none /\ H0 a = none /\ Reps K mg G ds vs
  dj : ∀ (i j : Nat) (a : Addr) (d d' : D), i ∈ own -> j ∈ own -> Zd[i]? = some (some d) -> Zd[j]? = some (some d') -> Z[i]? = some (some (.ref a)) -> Z[j]? = some (some (.ref a)) -> i = j
def maskF (own : List Nat) : Nat -> DSt -> DSt
  | _, [] => []
  | i, d :: ds => (bif own.contains i then none else d) :: maskF own (i + 1) ds
def mask (own : List Nat) (Z : DSt) : DSt := maskF own 0 Z
theorem maskF_get {own : List Nat} : ∀ (Z : DSt) (k i : Nat) (d : D), (maskF own k Z)[i]? = some (some d) -> k + i ∉ own /\ Z[i]? = some (some d)
  | [], _, _, _, h => by unfold maskF at h; simp at h
  | x :: Z, k, 0, d, h => by
    unfold maskF at h
    simp only [List.getElem?_cons_zero, Option.some.injEq] at h
    cases hc : own.contains k with
    | true => rw [hc] at h; cases h
    | false =>
      rw [hc] at h
      have h' : x = some d := h
      subst h'
      exact ⟨by simpa using hc, rfl⟩
  | x :: Z, k, i + 1, d, h => by
    unfold maskF at h
    have := maskF_get Z (k + 1) i d (by simpa using h)
    rw [show k + (i + 1) = k + 1 + i by omega]
    exact ⟨this.1, by simpa using this.2⟩
theorem maskF_len {own : List Nat} : ∀ (Z : DSt) (k : Nat), (maskF own k Z).length = Z.length
  | [], _ => rfl
  | _ :: Z, k => by unfold maskF; simp [maskF_len Z]
def OwnAt (own : List Nat) (Zd : DSt) (Z : St) (b : Addr) : Prop := ∃ i d, i ∈ own /\ Zd[i]? = some (some d) /\ Z[i]? = some (some (.ref b))
open Classical in
noncomputable def pubG (own : List Nat) (Zd : DSt) (Z : St) (G H : Hp) : Hp := fun b => if OwnAt own Zd Z b then H b else G b
open Classical in
noncomputable def hideG (own : List Nat) (Zd : DSt) (Z : St) (G : Hp) : Hp := fun b => if OwnAt own Zd Z b then none else G b
section
variable {K : xFg} {mg : Str -> Option Value} {G G' G0 H H' H0 : Hp} {own : List Nat} {Zd : DSt} {Z : St}
theorem Ok.masked (o : Ok K mg H0 own Zd Z G H) : Ok0 K mg (mask own Zd) Z G H :=
  ⟨o.ext, by unfold mask; rw [maskF_len]; exact o.len, fun i d h => by
    have := maskF_get Zd 0 i d h
    rw [xb4] at this
    exact o.val i d this.1 this.2⟩
theorem Ok.zero (o : Ok0 K mg Zd Z G H) : Ok K mg H0 [] Zd Z G H :=
  ⟨o.ext, o.len, fun i d _ h => o.val i d h, fun i d h => xak h (by simp), fun i j a d d' h => xak h (by simp)⟩
theorem Ok.step (o : Ok K mg H0 own Zd Z G H) (s : Step G H G' H') : Ok K mg H0 own Zd Z G' H' :=
  ⟨s.e, o.len, fun i d hi h => let ⟨v, h1, h2⟩ := o.val i d hi h; ⟨v, h1, h2.mono s.g⟩, fun i d hi h => by
    obtain ⟨a, ds, vs, h1, h2, h3, h4, h5, h6⟩ := o.mine i d hi h
    exact ⟨a, ds, vs, h1, h2, s.h _ _ h3, s.c _ _ h3 h4, h5, h6.mono s.g⟩, o.dj⟩
theorem Ok.notOwn (o : Ok K mg H0 own Zd Z G H) {b : Addr} {u : HO} (h : G b = some u) : ¬ OwnAt own Zd Z b := by
  rintro ⟨i, d, h1, h2, h3⟩
  obtain ⟨a, ds, vs, q1, q2, q3, q4, _⟩ := o.mine i d h1 h2
  rw [q1] at h3
  cases h3
  rw [q4] at h; cases h
theorem Ok.ownLst (o : Ok K mg H0 own Zd Z G H) {b : Addr} (h : OwnAt own Zd Z b) : (∃ vs, H b = some (.lst vs)) /\ G b = none /\ H0 b = none := by
  obtain ⟨i, d, h1, h2, h3⟩ := h
  obtain ⟨a, ds, vs, q1, q2, q3, q4, q5, _⟩ := o.mine i d h1 h2
  rw [q1] at h3
  cases h3
  exact ⟨⟨vs, q3⟩, q4, q5⟩
theorem Ok.pub (o : Ok K mg H0 own Zd Z G H) : Ok0 K mg Zd Z (pubG own Zd Z G H) H /\ Same G (pubG own Zd Z G H) := by
  have sg : Same G (pubG own Zd Z G H) := fun b u h => by unfold pubG; rw [xao (o.notOwn h)]; exact h
  refine ⟨⟨fun b u h => ?_, o.len, fun i d h => ?_⟩, sg⟩
  · unfold pubG at h
    split at h
    · exact h
    · exact o.ext b u h
  · by_cases hi : i ∈ own
    · obtain ⟨a, ds, vs, q1, rfl, q3, q4, q5, q6⟩ := o.mine i d hi h
      refine ⟨_, q1, a, vs, rfl, SqL.of ?_, q6.mono sg⟩
      unfold pubG
      rw [xav ⟨i, _, hi, h, q1⟩]; exact q3
    · obtain ⟨v, h1, h2⟩ := o.val i d hi h
      exact ⟨v, h1, h2.mono sg⟩
theorem Ok.pubStep (o : Ok K mg H0 own Zd Z G H) (s0 : Step G0 H0 G H) : Step G0 H0 (pubG own Zd Z G H) H := by
  refine ⟨s0.g.trans o.pub.2, s0.h, o.pub.1.ext, fun b u h1 h2 => ?_⟩
  unfold pubG
  rw [xao fun z => by rw [(o.ownLst z).2.2] at h1; cases h1]
  exact s0.c b u h1 h2
theorem Ok.drop (o : Ok K mg H0 own Zd Z G H) (s : Same H H') : Ok K mg H0 own Zd Z G H' :=
  o.step (.heap o.ext s)
theorem Ok.hide (o : Ok K mg H0 own Zd Z G H) (s : Step (pubG own Zd Z G H) H G' H') : Step G H (hideG own Zd Z G') H' /\ SameT G' (hideG own Zd Z G') := by
  refine ⟨⟨fun b u h => ?_, s.h, fun b u h => ?_, fun b u h1 h2 => ?_⟩, fun b u h1 h2 => ?_⟩
  · unfold hideG
    rw [xao (o.notOwn h)]
    exact s.g b u (o.pub.2 b u h)
  · unfold hideG at h
    split at h
    · cases h
    · exact s.e b u h
  · unfold hideG
    split
    · rfl
    · rename_i n
      refine s.c b u h1 ?_
      unfold pubG
      rw [xao n]; exact h2
  · unfold hideG
    rw [xao fun z => ?_]
    · exact h1
    · obtain ⟨⟨vs, q⟩, _⟩ := o.ownLst z
      have : pubG own Zd Z G H b = some (.lst vs) := by unfold pubG; rw [xav z]; exact q
      have := s.g b _ this
      rw [h1] at this; cases this
      exact h2 vs rfl
theorem get_set_self {α : Type} {l : List (Option α)} {i : Nat} {x d : α} (h : (l.set i (some x))[i]? = some (some d)) : d = x /\ i < l.length := by
  have hl : i < l.length := by have := (xab.mp h).1; simpa using this
  rw [xas hl] at h
  cases h
  exact ⟨rfl, hl⟩
theorem Ok.set {i : Nat} {d : D} {v : V} (o : Ok K mg H0 own Zd Z G H) (hi : i ∉ own) (h : Rep K mg G d v) : Ok K mg H0 own (Zd.set i (some d)) (Z.set i (some v)) G H := by
  have ne : ∀ {j : Nat}, j ∈ own -> j ≠ i := fun hj z => hi (z ▸ hj)
  refine ⟨o.ext, by simp [o.len], fun j e hj q => ?_, fun j e hj q => ?_, fun j k a d1 d2 h1 h2 h3 h4 h5 h6 => ?_⟩
  · by_cases hji : j = i
    · subst hji
      obtain ⟨rfl, hl⟩ := get_set_self q
      exact ⟨v, by rw [xas (by rw [<- o.len]; exact hl)], h⟩
    · rw [xae (xay hji)] at q ⊢
      exact o.val j e hj q
  · rw [xae (xay (ne hj))] at q ⊢
    exact o.mine j e hj q
  · rw [xae (xay (ne h1))] at h3 h5
    rw [xae (xay (ne h2))] at h4 h6
    exact o.dj j k a d1 d2 h1 h2 h3 h4 h5 h6
theorem Ok.setAll : ∀ {ks : List Nat} {us : List D} {ws : List V} {Zd : DSt} {Z : St}, Ok K mg H0 own Zd Z G H -> (∀ k ∈ ks, k ∉ own) -> Reps K mg G us ws -> Ok K mg H0 own (DL.setAll Zd ks us) (DL.setAll Z ks ws) G H
  | [], _, _, _, _, o, _, _ => by unfold DL.setAll; exact o
  | _ :: _, [], _, _, _, o, _, h => by cases h; unfold DL.setAll; exact o
  | k :: ks, _ :: _, _, _, _, o, hk, ⟨v, r, h1, h2, h3⟩ => by
    subst h1; unfold DL.setAll
    exact Ok.setAll (o.set (hk k xa3) h2) (fun j hj => hk j (xaq _ hj)) h3
theorem Ok.new {i : Nat} {ds : List D} {vs : List V} {a : Addr} {own' : List Nat} (o : Ok K mg H0 own Zd Z G H) (s : Step G H G' H') (n : H a = none) (e : H' a = some (.lst vs)) (g : G' a = none) (n0 : H0 a = none) (r : Reps K mg G' ds vs)
    (hown : ∀ j, j ∈ own' ↔ j = i \/ j ∈ own) : Ok K mg H0 own' (Zd.set i (some (.lst ds))) (Z.set i (some (.ref a))) G' H' := by
  have o' := o.step s
  have away : ∀ {j : Nat} {d : D}, j ∈ own -> j ≠ i -> Zd[j]? = some (some d) -> Z[j]? = some (some (.ref a)) -> False := fun {j d} hj _ hd hs => by
    obtain ⟨b, _, _, q1, _, q3, _⟩ := o.mine j d hj hd
    rw [q1] at hs; cases hs
    rw [n] at q3; cases q3
  refine ⟨o'.ext, by simp [o.len], fun j d hj q => ?_, fun j d hj q => ?_, fun j k b d1 d2 h1 h2 h3 h4 h5 h6 => ?_⟩
  · have hji : j ≠ i := fun z => hj ((hown j).mpr (.inl z))
    rw [xae (xay hji)] at q ⊢
    exact o'.val j d (fun z => hj ((hown j).mpr (.inr z))) q
  · by_cases hji : j = i
    · subst hji
      obtain ⟨rfl, hl⟩ := get_set_self q
      exact ⟨a, ds, vs, by rw [xas (by rw [<- o.len]; exact hl)], rfl, e, g, n0, r⟩
    · rw [xae (xay hji)] at q ⊢
      exact o'.mine j d (((hown j).mp hj).resolve_left hji) q
  · by_cases hji : j = i
    · by_cases hki : k = i
      · rw [hji, hki]
      · subst hji
        obtain ⟨rfl, hl⟩ := get_set_self h3
        rw [xas (by rw [<- o.len]; exact hl)] at h5
        cases h5
        rw [xae (xay hki)] at h4 h6
        exact (away (((hown k).mp h2).resolve_left hki) hki h4 h6).elim
    · by_cases hki : k = i
      · subst hki
        obtain ⟨rfl, hl⟩ := get_set_self h4
        rw [xas (by rw [<- o.len]; exact hl)] at h6
        cases h6
        rw [xae (xay hji)] at h3 h5
        exact (away (((hown j).mp h1).resolve_left hji) hji h3 h5).elim
      · rw [xae (xay hji)] at h3 h5
        rw [xae (xay hki)] at h4 h6
        exact o.dj j k b d1 d2 (((hown j).mp h1).resolve_left hji) (((hown k).mp h2).resolve_left hki) h3 h4 h5 h6
theorem Ok.write {i : Nat} {d : D} {ds : List D} {vs : List V} {a : Addr} (o : Ok K mg H0 own Zd Z G H) (hi : i ∈ own) (hd : Zd[i]? = some (some d)) (ha : Z[i]? = some (some (.ref a))) (r : Reps K mg G ds vs) :
    Ok K mg H0 own (Zd.set i (some (.lst ds))) Z G (upd H a (.lst vs)) := by
  obtain ⟨b, ds0, vs0, q1, q2, q3, q4, q5, q6⟩ := o.mine i d hi hd
  rw [ha] at q1; cases q1
  have hl : i < Zd.length := (xab.mp hd).1
  refine ⟨fun b u h => ?_, by simp [o.len], fun j e hj q => ?_, fun j e hj q => ?_, fun j k b d1 d2 h1 h2 h3 h4 h5 h6 => ?_⟩
  · rw [upd_ne (ne_of_none h q4)]; exact o.ext b u h
  · have hji : j ≠ i := fun z => hj (z ▸ hi)
    rw [xae (xay hji)] at q
    exact o.val j e hj q
  · by_cases hji : j = i
    · subst hji
      obtain ⟨rfl, _⟩ := get_set_self q
      exact ⟨a, ds, vs, ha, rfl, upd_same, q4, q5, r⟩
    · rw [xae (xay hji)] at q
      obtain ⟨c, es, ws, p1, p2, p3, p4⟩ := o.mine j e hj q
      have hc : c ≠ a := fun z => by subst z; exact hji (o.dj j i c e d hj hi q hd p1 ha)
      exact ⟨c, es, ws, p1, p2, by rw [upd_ne hc]; exact p3, p4⟩
  · have back : ∀ {j : Nat} {e : D}, (Zd.set i (some (.lst ds)))[j]? = some (some e) -> ∃ e', Zd[j]? = some (some e') := fun {j e} q => by
      by_cases hji : j = i
      · exact ⟨d, hji ▸ hd⟩
      · rw [xae (xay hji)] at q; exact ⟨e, q⟩
    obtain ⟨e1, h3⟩ := back h3
    obtain ⟨e2, h4⟩ := back h4
    exact o.dj j k b e1 e2 h1 h2 h3 h4 h5 h6
theorem Step.write {a : Addr} {o u : HO} (s0 : Step G0 H0 G H) (n : H0 a = none) (g : G a = none) : Step G0 H0 G (upd H a u) :=
  ⟨s0.g, fun b v h => by rw [upd_ne (ne_of_none h n)]; exact s0.h b v h, fun b v h => by rw [upd_ne (ne_of_none h g)]; exact s0.e b v h, s0.c⟩
theorem Ok.release {i : Nat} {own' : List Nat} (o : Ok K mg H0 own Zd Z G H) (s0 : Step G0 H0 G H) (hi : i ∈ own) (hown : ∀ j, j ∈ own' ↔ j ≠ i /\ j ∈ own) : ∃ G', Ok K mg H0 own' Zd Z G' H /\ Step G0 H0 G' H /\ Same G G' := by
  by_cases hb : ∃ d, Zd[i]? = some (some d)
  · obtain ⟨d, hd⟩ := hb
    obtain ⟨a, ds, vs, q1, rfl, q3, q4, q5, q6⟩ := o.mine i d hi hd
    have sg : Same G (upd G a (.lst vs)) := same_upd q4
    have eh : Same (upd G a (.lst vs)) H := fun b u h => by
      by_cases hb : b = a
      · subst hb; rw [upd_same] at h; cases h; exact q3
      · rw [upd_ne hb] at h; exact o.ext b u h
    refine ⟨upd G a (.lst vs), ⟨eh, o.len, fun j e hj q => ?_, fun j e hj q => ?_, fun j k b d1 d2 h1 h2 h3 h4 h5 h6 => ?_⟩, ⟨s0.g.trans sg, s0.h, eh, fun b u h1 h2 => ?_⟩, sg⟩
    · by_cases hji : j = i
      · subst hji
        rw [hd] at q; cases q
        exact ⟨_, q1, a, vs, rfl, SqL.of upd_same, q6.mono sg⟩
      · obtain ⟨v, h1, h2⟩ := o.val j e (fun z => hj ((hown j).mpr ⟨hji, z⟩)) q
        exact ⟨v, h1, h2.mono sg⟩
    · obtain ⟨hji, hj'⟩ := (hown j).mp hj
      obtain ⟨c, es, ws, p1, p2, p3, p4, p5, p6⟩ := o.mine j e hj' q
      have hc : c ≠ a := fun z => by subst z; exact hji (o.dj j i c e _ hj' hi q hd p1 q1)
      exact ⟨c, es, ws, p1, p2, p3, by rw [upd_ne hc]; exact p4, p5, p6.mono sg⟩
    · exact o.dj j k b d1 d2 ((hown j).mp h1).2 ((hown k).mp h2).2 h3 h4 h5 h6
    · rw [upd_ne (ne_of_none h1 q5)]; exact s0.c b u h1 h2
  · refine ⟨G, ⟨o.ext, o.len, fun j e hj q => ?_, fun j e hj q => o.mine j e ((hown j).mp hj).2 q, fun j k b d1 d2 h1 h2 => o.dj j k b d1 d2 ((hown j).mp h1).2 ((hown k).mp h2).2⟩, s0, Same.refl _⟩
    have hji : j ≠ i := fun z => hb ⟨e, z ▸ q⟩
    exact o.val j e (fun z => hj ((hown j).mpr ⟨hji, z⟩)) q
end
inductive Out where
  | nx (Z : DSt) | rt (d : D) | bk (Z : DSt) | ct (Z : DSt) | rf (ds : List D)
section
variable (K : xFg) (mg : Str -> Option Value) (E : XK)
def OutW (G0 H0 : Hp) (own' ol : List Nat) (Dn : Ends) (G : Hp) : Out -> Prop
  | .nx Zd' => ∀ Z' G' H', Ok K mg H0 own' Zd' Z' G' H' -> Step G0 H0 G' H' -> Same G G' -> Dn.nx Z' H'
  | .bk Zd' => ∀ Z' G' H', Ok K mg H0 ol Zd' Z' G' H' -> Step G0 H0 G' H' -> Same G G' -> Dn.bk Z' H'
  | .ct Zd' => ∀ Z' G' H', Ok K mg H0 ol Zd' Z' G' H' -> Step G0 H0 G' H' -> Same G G' -> Dn.ct Z' H'
  | .rt d => ∀ v G' H', Step G0 H0 G' H' -> Rep K mg G' d v -> Dn.rt v H'
  | .rf ds => ∀ a vs G' H', Step G0 H0 G' H' -> H0 a = none -> H' a = some (.lst vs) -> G' a = none -> Reps K mg G' ds vs -> Dn.rt (.ref a) H'
def tS (G0 H0 : Hp) (own own' ol : List Nat) (f : DSt -> R Out) : TS := fun Dn Z H => ∃ G Zd, Ok K mg H0 own Zd Z G H /\ Step G0 H0 G H /\ RW (f Zd) (OutW K mg G0 H0 own' ol Dn G) (AfterX K mg E G0 H0)
end
theorem OutW.shift {K : xFg} {mg : Str -> Option Value} {G0 H0 G G' : Hp} {own' ol : List Nat} {Dn : Ends} (s : Same G G') {o : Out} (h : OutW K mg G0 H0 own' ol Dn G o) : OutW K mg G0 H0 own' ol Dn G' o := by
  cases o with
  | nx _ => exact fun a b c d e f => h a b c d e (s.trans f)
  | bk _ => exact fun a b c d e f => h a b c d e (s.trans f)
  | ct _ => exact fun a b c d e f => h a b c d e (s.trans f)
  | rt _ => exact h
  | rf _ => exact h
def DS (X : Cx) (E : XK) (own own' ol : List Nat) (st : Stmt) (f : DSt -> R Out) : Prop := ∀ G0, PS X st (tS X.K X.mg E G0 X.H₀ own own' ol f)
def DSs (X : Cx) (E : XK) (own own' ol : List Nat) (st : List Stmt) (f : DSt -> R Out) : Prop := ∀ G0, PSs X st (tS X.K X.mg E G0 X.H₀ own own' ol f)
def sSeq (f g : DSt -> R Out) : DSt -> R Out := fun Z => (f Z).bind fun o => match o with
  | .nx Z' => g Z'
  | o => .ok o
def sNext : DSt -> R Out := fun Z => .ok (.nx Z)
section
variable {X : Cx} {E : XK} {own own1 own2 own' ol : List Nat} {st : Stmt} {rest : List Stmt} {f g : DSt -> R Out} {pos : Pos}
theorem dss_nil : DSs X E own own ol [] sNext := fun G0 => PSs.mono' pss_nil fun Dn Z H ⟨G, Zd, ok, s0, q⟩ => (show OutW X.K X.mg G0 X.H₀ own ol Dn G (.nx Zd) from q) Z G H ok s0 (Same.refl _)
theorem dss_cons (h1 : DS X E own own1 ol st f) (h2 : DSs X E own1 own2 ol rest g) : DSs X E own own2 ol (st :: rest) (sSeq f g) := fun G0 => PSs.mono' (pss_cons (h1 G0) (h2 G0)) fun Dn Z H ⟨G, Zd, ok, s0, q⟩ => by
  refine ⟨G, Zd, ok, s0, q.of_bind.mono (fun o _ z => ?_) fun _ z => z⟩
  cases o with
  | nx Z1 =>
    intro Z' G' H' ok' s' e'
    exact ⟨G', Z1, ok', s', (show RW (g Z1) _ _ from z).mono (fun o _ z => z.shift e') fun _ z => z⟩
  | rt d => exact z
  | rf d => exact z
  | bk d => exact z
  | ct d => exact z
theorem dss_one (h1 : DS X E own own1 ol st f) : DSs X E own own1 ol [st] f := fun G0 => pss_one (h1 G0)
theorem dss_rel (i : Nat) (hi : own.contains i = true) (ho : own' = own.filter fun j => j != i) (h : DSs X E own' own2 ol rest g) : DSs X E own own2 ol rest g := fun G0 => PSs.mono' (h G0) fun Dn Z H ⟨G, Zd, ok, s0, q⟩ => by
  obtain ⟨G', ok', s', e'⟩ := ok.release (i := i) (own' := own') s0 (by simpa using hi) fun j => by subst ho; simp [and_comm]
  exact ⟨G', Zd, ok', s', q.mono (fun o _ z => z.shift e') fun _ z => z⟩
def sRet (fe : DSt -> R D) : DSt -> R Out := fun Z => (fe Z).bind fun d => .ok (.rt d)
theorem ds_ret {e : Expr} {fe : DSt -> R D} (h : DE X E e fe) : DS X E own own' ol (.Return (some e) pos) (sRet fe) := fun G0 => PS.mono' (ps_ret h) fun Dn Z H ⟨G, Zd, ok, s0, q⟩ => by
  have s1 := ok.pubStep s0
  exact ⟨_, Zd, ok.pub.1, q.of_bind.mono (fun d _ z v G' H' s r => (show OutW X.K X.mg G0 X.H₀ own' ol Dn G (.rt d) from z) v G' H' (s1.trans s) r) fun _ z => z.step s1⟩
def sIf (c : DSt -> R Bool) (f g : DSt -> R Out) : DSt -> R Out := fun Z => (c Z).bind fun k => bif k then f Z else g Z
theorem ds_if {c : Expr} {a b : List Stmt} {fc : DSt -> R Bool} (hc : DT X E c fc) (ha : DSs X E own own' ol a f) (hb : DSs X E own own' ol b g) : DS X E own own' ol (.If c a b pos) (sIf fc f g) := fun G0 =>
  PS.mono' (ps_if hc (ha G0) (hb G0)) fun Dn Z H ⟨G, Zd, ok, s0, q⟩ => by
  have s1 := ok.pubStep s0
  refine ⟨_, Zd, ok.pub.1, q.of_bind.mono (fun k _ z G' H' s => ?_) fun _ z => z.step s1⟩
  have ok' := ok.drop s.h
  have s' : Step G0 X.H₀ G H' := s0.trans (.heap ok.ext s.h)
  cases k with
  | true => exact iteT ⟨G, Zd, ok', s', z⟩
  | false => exact iteF ⟨G, Zd, ok', s', z⟩
def sExpr (fe : DSt -> R D) : DSt -> R Out := fun Z => (fe Z).bind fun _ => .ok (.nx Z)
def sSet (own : List Nat) (i : Nat) (fe : DSt -> R D) : DSt -> R Out := fun Z => (fe (mask own Z)).bind fun d => .ok (.nx (Z.set i (some d)))
def sSet0 (i : Nat) (fe : DSt -> R D) : DSt -> R Out := fun Z => (fe Z).bind fun d => .ok (.nx (Z.set i (some d)))
def sSetP (i : Nat) (fe : DSt -> R D) : DSt -> R Out := fun Z => (fe Z).bind fun d => bif imm d then .ok (.nx (Z.set i (some d))) else .bad
theorem mem_of {own : List Nat} {i : Nat} (h : own.contains i = false) : i ∉ own := by simpa using h
theorem mask_nil (Z : DSt) : mask [] Z = Z := by
  have : ∀ (Z : DSt) (k : Nat), maskF [] k Z = Z := fun Z => by
    induction Z with
    | nil => intro k; rfl
    | cons d ds ih => intro k; unfold maskF; rw [ih]; rfl
  exact this Z 0
theorem asgV {te : TE} {fe : DSt -> R D} {i : Nat} {G0 : Hp} (h : ∀ Z H Q, tE X.K X.mg E fe Z H Q -> te Z H Q) (ho : own.contains i = false) {Dn : Ends} {Z : St} {H : Hp} (q : tS X.K X.mg E G0 X.H₀ own own ol (sSet own i fe) Dn Z H) : tAsg te (gName i) Dn Z H := by
  obtain ⟨G, Zd, ok, s0, q⟩ := q
  refine h Z H _ ⟨G, mask own Zd, ok.masked, q.of_bind.mono (fun d _ z v G' H' s r => ?_) fun _ z => z.step s0⟩
  exact (show OutW X.K X.mg G0 X.H₀ own ol Dn G (.nx (Zd.set i (some d))) from z) _ G' H' ((ok.step s).set (mem_of ho) r) (s0.trans s) s.g
def sNew (own : List Nat) (i : Nat) (fe : DSt -> R (List D)) : DSt -> R Out := fun Z => (fe (mask own Z)).bind fun ds => .ok (.nx (Z.set i (some (.lst ds))))
def ownWith (own : List Nat) (i : Nat) : List Nat := if own.contains i then own else i :: own
theorem mem_ownWith {own : List Nat} {i j : Nat} : j ∈ ownWith own i ↔ j = i \/ j ∈ own := by
  unfold ownWith
  split
  · rename_i h
    have hi : i ∈ own := by simpa using h
    exact ⟨.inr, fun h => h.elim (fun e => e ▸ hi) id⟩
  · simp
theorem asgN {te : TE} {fe : DSt -> R (List D)} {i : Nat} {G0 : Hp} (h : ∀ Z H Q, tFr X.K X.mg E fe Z H Q -> te Z H Q) {Dn : Ends} {Z : St} {H : Hp} (q : tS X.K X.mg E G0 X.H₀ own (ownWith own i) ol (sNew own i fe) Dn Z H) : tAsg te (gName i) Dn Z H := by
  obtain ⟨G, Zd, ok, s0, q⟩ := q
  refine h Z H _ ⟨G, mask own Zd, ok.masked, q.of_bind.mono (fun ds _ z a vs G' H' s n e g r => ?_) fun _ z => z.step s0⟩
  exact (show OutW X.K X.mg G0 X.H₀ (ownWith own i) ol Dn G (.nx (Zd.set i (some (.lst ds)))) from z) _ G' H' (ok.new s n e g (s0.h.free n) r fun j => mem_ownWith) (s0.trans s) s.g
variable {i : Nat} {x : Str} {e : Expr} {pos' : Pos} {fe : DSt -> R D} {fl : DSt -> R (List D)}
theorem ds_set (i : Nat) (hN : X.N.Nodup) (he : DE X E e fe) (ho : own.contains i = false := by rfl) (hi : X.N[i]? = some x := by rfl) (hx : Loc X.env.scope x := by first | exact Or.inl rfl | exact Or.inr rfl) (hs : swapsWith e (some (.Name x pos')) pos.line X.env = pure false := by rfl)
    (hf : X.fn x = true \/ X.env.scope.names.lookup x = some .local := by first | exact .inl rfl | exact .inr rfl | assumption) : DS X E own own ol (.Assign [.Name x pos'] e pos) (sSet own i fe) := fun G0 =>
  PS.mono' (ps_set hN hi hx he hs hf) fun Dn Z H q => asgV (fun _ _ _ z => z) ho q
theorem ds_set0 (i : Nat) (hN : X.N.Nodup) (he : DE X E e fe) (hi : X.N[i]? = some x := by rfl) (hx : Loc X.env.scope x := by first | exact Or.inl rfl | exact Or.inr rfl) (hs : swapsWith e (some (.Name x pos')) pos.line X.env = pure false := by rfl)
    (hf : X.fn x = true \/ X.env.scope.names.lookup x = some .local := by first | exact .inl rfl | exact .inr rfl | assumption) : DS X E [] [] ol (.Assign [.Name x pos'] e pos) (sSet0 i fe) := fun G0 => by
  have : sSet0 i fe = sSet [] i fe := by funext Z; unfold sSet0 sSet; rw [mask_nil]
  rw [this]
  exact PS.mono' (ps_set hN hi hx he hs hf) fun Dn Z H q => asgV (fun _ _ _ z => z) rfl q
theorem ds_new (i : Nat) (hN : X.N.Nodup) (he : DF X E e fl) (hw : own' = ownWith own i := by rfl) (hi : X.N[i]? = some x := by rfl) (hx : Loc X.env.scope x := by first | exact Or.inl rfl | exact Or.inr rfl) (hs : swapsWith e (some (.Name x pos')) pos.line X.env = pure false := by rfl)
    (hf : X.fn x = true \/ X.env.scope.names.lookup x = some .local := by first | exact .inl rfl | exact .inr rfl | assumption) : DS X E own own' ol (.Assign [.Name x pos'] e pos) (sNew own i fl) := fun G0 => by
  subst hw; exact PS.mono' (ps_set hN hi hx he hs hf) fun Dn Z H q => asgN (fun _ _ _ z => z) q
def vLst (fl : DSt -> R (List D)) : DSt -> R D := fun Z => (fl Z).bind fun ds => .ok (.lst ds)
theorem DF.val (h : DF X E e fl) : DE X E e (vLst fl) := h.de
variable {tg elt iter : Expr} {ifs : List Expr} {scope : Scope} {NY : List Str} {k : Nat} {ks : List Nat} {fi : DSt -> R (List D)} {gp : D -> R (List D)} {fc : DSt -> R Bool} {lpos : Pos}
def sAsg (own : List Nat) (ks : List Nat) (gp : D -> R (List D)) (fe : DSt -> R D) : DSt -> R Out := fun Z => (fe (mask own Z)).bind fun d => (gp d).noerr.bind fun us => .ok (.nx (setAll Z ks us))
def sPar (own : List Nat) (i j : Nat) (fs : DSt -> R (List D)) : DSt -> R Out := fun Z => (fs (mask own Z)).bind fun ds => match ds with
  | [a, b] => .ok (.nx ((Z.set i (some a)).set j (some b)))
  | _ => .bad
theorem ds_par (i j : Nat) {x y : Str} {a b : Expr} {fs : DSt -> R (List D)} {px py pt : Pos} {kt k2 pt2} (hc : X.calm = true) (hN : X.N.Nodup) (ha : DA X E [a, b] fs) (hij : i ≠ j := by decide) (ho : (own.contains i || own.contains j) = false := by rfl) (hi : X.N[i]? = some x := by rfl) (hj : X.N[j]? = some y := by rfl)
    (hx : X.env.scope.names.lookup x = some .local := by rfl) (hy : X.env.scope.names.lookup y = some .local := by rfl)
    (hw : swappedStores [.Tuple [.Name x px, .Name y py] kt pt] (.Tuple [a, b] k2 pt2) X.env = pure (some [x, y]) := by rfl)
    (hs : swapsWithSole [.Tuple [.Name x px, .Name y py] kt pt] (.Tuple [a, b] k2 pt2) pos.line X.env = pure false := by rfl) : DS X E own own ol (.Assign [.Tuple [.Name x px, .Name y py] kt pt] (.Tuple [a, b] k2 pt2) pos) (sPar own i j fs) := fun G0 =>
  PS.mono' (ps_par hc hN hi hj hij hx hy ha hw hs) fun Dn Z H ⟨G, Zd, ok, s0, q⟩ => by
  refine ⟨G, mask own Zd, ok.masked, q.of_bind.mono (fun ds _ z vs G' H' s r => ?_) fun _ z => z.step s0⟩
  rw [Bool.or_eq_false_iff] at ho
  match ds, z, r with
  | [a, b], z, ⟨v, _, e1, r1, ⟨w, _, e2, r2, r3⟩⟩ =>
    subst e1; subst e2; cases r3
    exact ⟨v, w, rfl, (show OutW X.K X.mg G0 X.H₀ own ol Dn G (.nx ((Zd.set i (some a)).set j (some b))) from z) _ G' H' (((ok.step s).set (mem_of ho.1) r1).set (mem_of ho.2) r2) (s0.trans s) s.g⟩
def lstAt (Z : DSt) (i : Nat) : R (List D) := match Z[i]? with
  | some (some (.lst ds)) => .ok ds
  | _ => .bad
def sApp (own : List Nat) (i : Nat) (fe : DSt -> R D) : DSt -> R Out := fun Z => (lstAt Z i).bind fun ds => (fe (mask own Z)).bind fun d => bif most ds.length then .ok (.nx (Z.set i (some (.lst (ds ++ [d]))))) else .bad
def sAppP (i : Nat) (fe : DSt -> R D) : DSt -> R Out := fun Z => (lstAt Z i).bind fun ds => (fe Z).bind fun d => bif most ds.length && imm d then .ok (.nx (Z.set i (some (.lst (ds ++ [d]))))) else .bad
theorem lstAt_ok {Z : DSt} {i : Nat} {ds : List D} (h : lstAt Z i = .ok ds) : Z[i]? = some (some (.lst ds)) := by
  unfold lstAt at h
  split at h
  · cases h; assumption
  · cases h
theorem lstAt_ne {Z : DSt} {i : Nat} {e : D} : lstAt Z i ≠ .err e := by
  unfold lstAt
  split <;> simp
theorem ds_app (i : Nat) {apos cpos : Pos} {np : Pos} (he : DE X E e fe) (ho : own.contains i = true := by rfl) (hN : X.N[i]? = some x := by rfl) (hv : Vis X.env.scope x := by first | exact Or.inl rfl | exact Or.inr (Or.inl rfl) | exact Or.inr (Or.inr rfl)) (hd : (x == ("__debug__" : Str)) = false := by decide)
    (hcd : (x == ("__classdict__" : Str)) = false := by decide)
    (hbase : attributeBase (.Name x np) "append" X.env (eval (.Name x np) X.env) = eval (.Name x np) X.env := by rfl)
    (hfew : ((backTo cpos (starEach [e] X.env)).all (fun x => !x.1) && (backToKw cpos (keywordEach [] X.env)).all (fun x => x.1.isSome) && decide ([e].length + ([] : List Keyword).length + (if ([] : List Keyword).isEmpty then 0 else 1) < 30)) = true := by rfl)
    (hline : (apos.endLine == cpos.line) = true := by rfl) (hs : starEach [e] X.env = (false, eval e X.env) :: starEach [] X.env := by rfl) (hplain : (backTo cpos (starEach [] X.env)).any (·.1) = false := by rfl)
    (hsw : swapsWith (.Call (.Attribute (.Name x np) "append" apos) [e] [] cpos) none pos.line X.env = pure false := by rfl) :
    DS X E own own ol (.Expr (.Call (.Attribute (.Name x np) "append" apos) [e] [] cpos) pos) (sApp own i fe) := fun G0 =>
  PS.mono' (ps_expr (pe_bm PySem.F.plainAttrs_list PySem.F.slot_list_append PySem.F.type_list_append mt_append (pv i hN hv hd hcd) (da_cons he da_nil hs) hbase hfew hline hs hplain) hsw) fun Dn Z H ⟨G, Zd, ok, s0, q⟩ => by
  have q1 := q.of_bind
  cases hL : lstAt Zd i with
  | bad => rw [hL] at q1; exact q1.elim
  | err e => exact xak hL lstAt_ne
  | ok ds =>
    rw [hL] at q1
    have q2 : RW ((fe (mask own Zd)).bind fun d => bif most ds.length then R.ok (.nx (Zd.set i (some (.lst (ds ++ [d]))))) else .bad) (OutW X.K X.mg G0 X.H₀ own ol Dn G) (AfterX X.K X.mg E G0 X.H₀) := q1
    have hd := lstAt_ok hL
    have hi : i ∈ own := by simpa using ho
    obtain ⟨a, ds', vs, p1, p2, p3, p4, p5, p6⟩ := ok.mine i _ hi hd
    cases p2
    refine ⟨_, p1, .inl ⟨rfl, _, SqL.of p3⟩, ?_⟩
    refine ⟨G, mask own Zd, ok.masked, (show RW ((aCons fe aNil) (mask own Zd)) _ _ from ?_)⟩
    unfold aCons
    have q3 := q2.of_bind
    cases hf : fe (mask own Zd) with
    | bad => rw [hf] at q3; exact q3.elim
    | err e => rw [hf] at q3; exact (show AfterX X.K X.mg E G0 X.H₀ e from q3).step s0
    | ok d =>
      rw [hf] at q3
      rintro ws G' H' s ⟨v, _, e1, r1, r2⟩
      subst e1
      cases r2
      cases hm : most ds.length with
      | false => rw [hm] at q3; exact (show False from q3).elim
      | true =>
        rw [hm] at q3
        have hlt : ds.length < sizeLine := xan hm
        have ok' := ok.step s
        refine ⟨a, vs, v, rfl, rfl, s.h _ _ p3, by rw [<- p6.length]; exact hlt, ?_⟩
        exact (show OutW X.K X.mg G0 X.H₀ own ol Dn G (.nx (Zd.set i (some (.lst (ds ++ [d]))))) from q3) Z G' _ (ok'.write hi hd p1 ((p6.mono s.g).append (Reps.cons r1 Reps.nil))) ((s0.trans s).write (o := .lst vs) p5 (s.c _ _ p3 p4)) s.g
end
def forL (ks : List Nat) (gp : D -> R (List D)) (fb : DSt -> R Out) : List D -> DSt -> R Out
  | [], Z => .ok (.nx Z)
  | d :: ds, Z => (gp d).noerr.bind fun us => (fb (setAll Z ks us)).bind fun o => match o with
    | .nx Z' => forL ks gp fb ds Z'
    | .ct Z' => forL ks gp fb ds Z'
    | .bk Z' => .ok (.nx Z')
    | .rt d => .ok (.rt d)
    | .rf d => .ok (.rf d)
def sFor (own ks : List Nat) (gp : D -> R (List D)) (fi : DSt -> R (List D)) (fb : DSt -> R Out) : DSt -> R Out := fun Z => (fi (mask own Z)).bind fun ds => forL ks gp fb ds Z
structure XL (X : Cx) : Prop where
  own : PassesOwn (model X.prog X.w) X.A X.env X.xe
section
variable {X : Cx} {E : XK} {own ol ks : List Nat} {tg iter : Expr} {body : List Stmt} {gp : D -> R (List D)} {fi : DSt -> R (List D)} {fb : DSt -> R Out} {pos : Pos}
theorem ds_for (L : XL X) (hc : X.calm = true) (hi : DI X E tg iter fi) (hg : DG X tg ks gp) (hb : DSs X E own own own body fb) (ho : ks.all (fun i => !own.contains i) = true := by rfl) (hs : ∀ x, foldedSetIterable iter X.env x = pure x := by intro _; rfl) :
    DS X E own own ol (.For tg iter body [] pos) (sFor own ks gp fi fb) := fun G0 => PS.mono' (ps_for L.own hc hi hg (hb G0) hs) fun Dn Z H ⟨G, Zd, ok, s0, q⟩ => by
  refine ⟨G, mask own Zd, ok.masked, q.of_bind.mono (fun ds _ z J G1 H1 s1 it => ?_) fun _ z => z.step s0⟩
  have hko : ∀ k ∈ ks, k ∉ own := fun k hk => by simpa using xbc.mp ho k hk
  refine ⟨fun i m Z' H' => m = ds.length - i /\ i <= ds.length /\ ∃ G' Zd', Ok X.K X.mg X.H₀ own Zd' Z' G' H' /\ Same G1 G' /\ Step G0 X.H₀ G' H' /\ RW (forL ks gp fb (ds.drop i) Zd') (OutW X.K X.mg G0 X.H₀ own ol Dn G1) (AfterX X.K X.mg E G0 X.H₀),
    ⟨ds.length, by simp, xbw _, G1, Zd, ok.step s1, Same.refl _, s0.trans s1, z.mono (fun _ _ z => z.shift s1.g) fun _ z => z⟩, ?_⟩
  rintro i m Z' H' ⟨rfl, hi, G', Zd', ok', e', s', w⟩
  by_cases hlt : i < ds.length
  · right
    obtain ⟨d, hd⟩ : ∃ d, ds[i]? = some d := ⟨ds[i], by simp [hlt]⟩
    obtain ⟨g1, g2⟩ := it.turn H' i d (e'.trans ok'.ext) hd
    have hdrop : ds.drop i = d :: ds.drop (i + 1) := by
      rw [xb1 hlt]
      congr 1
      exact xa0 ((xa6 hlt).symm.trans hd)
    rw [hdrop] at w
    refine ⟨g1, fun Z2 H2 => i + 1 <= ds.length /\ ∃ G' Zd', Ok X.K X.mg X.H₀ own Zd' Z2 G' H2 /\ Same G1 G' /\ Step G0 X.H₀ G' H2 /\ RW (forL ks gp fb (ds.drop (i + 1)) Zd') (OutW X.K X.mg G0 X.H₀ own ol Dn G1) (AfterX X.K X.mg E G0 X.H₀),
      fun Z2 H2 ⟨h1, h2⟩ => ⟨ds.length - (i + 1), by omega, rfl, h1, h2⟩, fun x H2 hy => ?_⟩
    obtain ⟨G2, s2, r2⟩ := g2 x H2 hy G' e' ok'.ext
    unfold forL at w
    obtain ⟨us, e1, w⟩ := noerr_ok w.of_bind
    refine ⟨G2, d, s2.e, r2, RW.ok_of e1 fun ws rws => ?_⟩
    have ok2 := (ok'.step s2).setAll hko rws
    refine ⟨G2, _, ok2, s'.trans s2, w.of_bind.mono (fun o _ z => ?_) fun _ z => z⟩
    cases o with
    | nx Z3 => exact fun Z4 G4 H4 ok4 s4 e4 => ⟨hlt, G4, Z3, ok4, (e'.trans s2.g).trans e4, s4, z⟩
    | ct Z3 => exact fun Z4 G4 H4 ok4 s4 e4 => ⟨hlt, G4, Z3, ok4, (e'.trans s2.g).trans e4, s4, z⟩
    | bk Z3 => exact fun Z4 G4 H4 ok4 s4 e4 => (show OutW X.K X.mg G0 X.H₀ own ol Dn G1 (.nx Z3) from z) Z4 G4 H4 ok4 s4 ((e'.trans s2.g).trans e4)
    | rt d => exact z
    | rf d => exact z
  · left
    have hi2 : i = ds.length := by omega
    subst hi2
    rw [List.drop_length] at w
    refine ⟨it.stop H' (e'.trans ok'.ext), ?_⟩
    unfold forL at w
    exact (show OutW X.K X.mg G0 X.H₀ own ol Dn G1 (.nx Zd') from w) Z' G' H' ok' s' e'
def whileN (c : DSt -> R Bool) (fb : DSt -> R Out) : Nat -> DSt -> R Out
  | 0, _ => .bad
  | n + 1, Z => (c Z).bind fun k => bif k then (fb Z).bind fun o => match o with
      | .nx Z' => whileN c fb n Z'
      | .ct Z' => whileN c fb n Z'
      | .bk Z' => .ok (.nx Z')
      | .rt d => .ok (.rt d)
      | .rf d => .ok (.rf d)
    else .ok (.nx Z)
open Classical in
noncomputable def sWhile (c : DSt -> R Bool) (fb : DSt -> R Out) : DSt -> R Out := fun Z => if h : ∃ n, whileN c fb n Z ≠ .bad then whileN c fb (Classical.choose h) Z else .bad
theorem whileN_more {c : DSt -> R Bool} {fb : DSt -> R Out} : ∀ (n : Nat) (Z : DSt) (r : R Out), whileN c fb n Z = r -> r ≠ .bad -> ∀ k, whileN c fb (n + k) Z = r
  | 0, Z, r, h, hr, k => xak h.symm hr
  | n + 1, Z, r, h, hr, k => by
    rw [show n + 1 + k = (n + k) + 1 by omega]
    unfold whileN at h ⊢
    cases hc : c Z with
    | bad => rw [hc] at h; exact xak h.symm hr
    | err e => rw [hc] at h; exact h
    | ok b =>
      rw [hc] at h
      cases b with
      | false => exact h
      | true =>
        have h' : (fb Z).bind (fun o => match o with
          | .nx Z' => whileN c fb n Z'
          | .ct Z' => whileN c fb n Z'
          | .bk Z' => .ok (.nx Z')
          | .rt d => .ok (.rt d)
          | .rf d => .ok (.rf d)) = r := h
        show (fb Z).bind (fun o => match o with
          | .nx Z' => whileN c fb (n + k) Z'
          | .ct Z' => whileN c fb (n + k) Z'
          | .bk Z' => .ok (.nx Z')
          | .rt d => .ok (.rt d)
          | .rf d => .ok (.rf d)) = r
        cases hf : fb Z with
        | bad => rw [hf] at h'; exact xak h'.symm hr
        | err e => rw [hf] at h'; exact h'
        | ok o =>
          rw [hf] at h'
          cases o with
          | nx Z' => exact whileN_more n Z' r h' hr k
          | ct Z' => exact whileN_more n Z' r h' hr k
          | bk Z' => exact h'
          | rt d => exact h'
          | rf d => exact h'
theorem sWhile_eq {c : DSt -> R Bool} {fb : DSt -> R Out} {n : Nat} {Z : DSt} {r : R Out} (h : whileN c fb n Z = r) (hr : r ≠ .bad) : sWhile c fb Z = r := by
  unfold sWhile
  have hx : ∃ n, whileN c fb n Z ≠ .bad := ⟨n, by rw [h]; exact hr⟩
  rw [dif_pos hx]
  have h1 := Classical.choose_spec hx
  have a := whileN_more _ Z _ rfl h1 n
  have b := whileN_more _ Z _ h hr (Classical.choose hx)
  rw [Nat.add_comm] at b
  rw [<- a, b]
theorem sWhile_step (c : DSt -> R Bool) (fb : DSt -> R Out) (Z : DSt) : sWhile c fb Z = (c Z).bind fun k => bif k then (fb Z).bind fun o => match o with
      | .nx Z' => sWhile c fb Z'
      | .ct Z' => sWhile c fb Z'
      | .bk Z' => .ok (.nx Z')
      | .rt d => .ok (.rt d)
      | .rf d => .ok (.rf d)
    else .ok (.nx Z) := by
  cases hc : c Z with
  | bad =>
    unfold sWhile
    rw [dif_neg]
    · rfl
    · rintro ⟨n, h⟩
      cases n with
      | zero => exact h rfl
      | succ n => unfold whileN at h; rw [hc] at h; exact h rfl
  | err e => exact sWhile_eq (n := 1) (by unfold whileN; rw [hc]; rfl) (by simp [R.bind])
  | ok b =>
    cases b with
    | false => exact sWhile_eq (n := 1) (by unfold whileN; rw [hc]; rfl) (by simp [R.bind])
    | true =>
      show sWhile c fb Z = (fb Z).bind _
      cases hf : fb Z with
      | bad =>
        unfold sWhile
        rw [dif_neg]
        · rfl
        · rintro ⟨n, h⟩
          cases n with
          | zero => exact h rfl
          | succ n => unfold whileN at h; rw [hc] at h; simp only [R.bind, cond_true] at h; rw [hf] at h; exact h rfl
      | err e => exact sWhile_eq (n := 1) (by unfold whileN; rw [hc]; show (fb Z).bind _ = _; rw [hf]; rfl) (by simp [R.bind])
      | ok o =>
        have go : ∀ Z', (∀ n, whileN c fb (n + 1) Z = whileN c fb n Z') -> sWhile c fb Z = sWhile c fb Z' := fun Z' hn => by
          by_cases hx : ∃ n, whileN c fb n Z' ≠ .bad
          · obtain ⟨n, h⟩ := hx
            rw [sWhile_eq (n := n) rfl h, sWhile_eq (n := n + 1) (hn n) h]
          · have : sWhile c fb Z' = .bad := by unfold sWhile; rw [dif_neg hx]
            rw [this]
            unfold sWhile
            rw [dif_neg]
            rintro ⟨n, h⟩
            cases n with
            | zero => exact h rfl
            | succ n => rw [hn n] at h; exact hx ⟨n, h⟩
        cases o with
        | nx Z' => exact go Z' fun n => by unfold whileN; rw [hc]; show (fb Z).bind _ = _; rw [hf]; cases n <;> rfl
        | ct Z' => exact go Z' fun n => by unfold whileN; rw [hc]; show (fb Z).bind _ = _; rw [hf]; cases n <;> rfl
        | bk Z' => exact sWhile_eq (n := 1) (by unfold whileN; rw [hc]; show (fb Z).bind _ = _; rw [hf]; rfl) (by simp [R.bind])
        | rt d => exact sWhile_eq (n := 1) (by unfold whileN; rw [hc]; show (fb Z).bind _ = _; rw [hf]; rfl) (by simp [R.bind])
        | rf d => exact sWhile_eq (n := 1) (by unfold whileN; rw [hc]; show (fb Z).bind _ = _; rw [hf]; rfl) (by simp [R.bind])
theorem ds_while {c : Expr} {fc : DSt -> R Bool} (L : XL X) (hc : DT X E c fc) (hb : DSs X E own own own body fb) : DS X E own own ol (.While c body [] pos) (sWhile fc fb) := fun G0 => PS.mono' (ps_while L.own hc (hb G0)) fun Dn Z H ⟨G, Zd, ok, s0, q⟩ => by
  have hx : ∃ n, whileN fc fb n Zd ≠ .bad := by
    by_cases hx : ∃ n, whileN fc fb n Zd ≠ .bad
    · exact hx
    · unfold sWhile at q; rw [dif_neg hx] at q; exact (show False from q).elim
  obtain ⟨n, hn⟩ := hx
  rw [sWhile_eq rfl hn] at q
  refine ⟨fun m Z' H' => ∃ G' Zd', Ok X.K X.mg X.H₀ own Zd' Z' G' H' /\ Same G G' /\ Step G0 X.H₀ G' H' /\ RW (whileN fc fb m Zd') (OutW X.K X.mg G0 X.H₀ own ol Dn G) (AfterX X.K X.mg E G0 X.H₀), ⟨n, G, Zd, ok, Same.refl _, s0, q⟩, ?_⟩
  rintro m Z1 H1 ⟨G1, Zd1, ok1, e1, s1, w⟩
  cases m with
  | zero => exact (show False from w).elim
  | succ m =>
    unfold whileN at w
    have sp := ok1.pubStep s1
    refine ⟨_, Zd1, ok1.pub.1, w.of_bind.mono (fun k _ z G' H' s => ?_) fun _ z => z.step sp⟩
    have ok' := ok1.drop s.h
    have s' : Step G0 X.H₀ G1 H' := s1.trans (.heap ok1.ext s.h)
    cases k with
    | true =>
      refine iteT ?_
      refine ⟨fun Z2 H2 => ∃ G' Zd', Ok X.K X.mg X.H₀ own Zd' Z2 G' H2 /\ Same G G' /\ Step G0 X.H₀ G' H2 /\ RW (whileN fc fb m Zd') (OutW X.K X.mg G0 X.H₀ own ol Dn G) (AfterX X.K X.mg E G0 X.H₀), fun Z2 H2 h => ⟨m, Nat.lt_succ_self _, h⟩, ?_⟩
      refine ⟨G1, Zd1, ok', s', (show RW ((fb Zd1).bind _) _ _ from z).of_bind.mono (fun o _ z => ?_) fun _ z => z⟩
      cases o with
      | nx Z3 => exact fun Z4 G4 H4 ok4 s4 e4 => ⟨G4, Z3, ok4, e1.trans e4, s4, z⟩
      | ct Z3 => exact fun Z4 G4 H4 ok4 s4 e4 => ⟨G4, Z3, ok4, e1.trans e4, s4, z⟩
      | bk Z3 => exact fun Z4 G4 H4 ok4 s4 e4 => (show OutW X.K X.mg G0 X.H₀ own ol Dn G (.nx Z3) from z) Z4 G4 H4 ok4 s4 (e1.trans e4)
      | rt d => exact z
      | rf d => exact z
    | false =>
      refine iteF ?_
      exact (show OutW X.K X.mg G0 X.H₀ own ol Dn G (.nx Zd1) from z) Z1 G1 H' ok' s' e1
end
def startD (n : Nat) (ds : List D) : DSt := ds.map some ++ List.replicate (n - ds.length) none
def fin : R Out -> R D
  | .ok (.rt d) => .ok d
  | .ok (.rf ds) => .ok (.lst ds)
  | .ok (.nx _) => .ok .non
  | .ok _ => .bad
  | .err e => .err e
  | .bad => .bad
def fnM (n nN : Nat) (body : DSt -> R Out) : List D -> R D := fun ds => bif ds.length == n then fin (body (startD nN ds)) else .bad
theorem Reps.startOk {K : xFg} {mg : Str -> Option Value} {G H : Hp} (e : Same G H) : ∀ {ds : List D} {vs : List V} (k : Nat), Reps K mg G ds vs -> Ok0 K mg (ds.map some ++ List.replicate k none) (vs.map some ++ List.replicate k none) G H
  | [], _, k, h => by
    cases h
    have := Ok0.nones (K := K) (mg := mg) (G := G) (H := H) (Zd := []) (Z := []) ⟨e, rfl, fun i d q => by simp at q⟩ k
    simpa using this
  | d :: ds, _, k, ⟨v, r, h1, h2, h3⟩ => by
    subst h1
    exact (Reps.startOk e k h3).cons (x := some d) (y := some v) fun d' q => by cases q; exact ⟨v, rfl, h2⟩
section
variable {P : Program} {w : World} {K : xFg} {mg : Str -> Option Value} {base : Heap}
theorem FnAt.mk' {x qual : Str} {st : Stmt} {f : Addr} {fd : FuncData} {N ps : List Str} {k n nN : Nat} {own' : List Nat} {body : DSt -> R Out} (F : Fun K x qual st f fd) (S : FnScope N ps (defScope st)) (hm : mg x = some (.ref f)) (b : Binds K fd ps [])
    (hn : ps.length = n) (hN : N.length = nN)
    (hb : ∀ (X : Cx) (E : XK), (∃ cdv A outer s H, X = cxOf (CXe P w) P w K mg base N qual (defScope st) f cdv A outer s H E) -> XC X E k -> XL X -> DSs X E [] own' [] (defBody st) body) : FnAt P w K mg base (k + 1) x (fnM n nN body) := by
  refine ⟨f, fd, ps, F.okX S (fun vs H Q E h => ?_) (fun cdv A outer s H vs Q E hr hsp => ?_), hm, F.kp, b⟩
  · obtain ⟨G, ds, e, r, q⟩ := h
    by_cases hd : ds.length = n
    · rw [<- r.length, hd, hn]
    · have : (ds.length == n) = false := by simpa using hd
      unfold fnM at q
      rw [this] at q
      exact (show False from q).elim
  · obtain ⟨G, ds, e, r, q⟩ := hsp
    have hd : ds.length = n := by
      by_cases hd : ds.length = n
      · exact hd
      · have : (ds.length == n) = false := by simpa using hd
        unfold fnM at q
        rw [this] at q
        exact (show False from q).elim
    unfold fnM at q
    rw [show (ds.length == n) = true by simpa using hd] at q
    have q' : RW (fin (body (startD nN ds))) (After K mg Q G H) (AfterX K mg E G H) := q
    refine ⟨_, hb _ E ⟨cdv, A, outer, s, H, rfl⟩ ⟨rfl, hr, passE⟩ ⟨PassesOwn.leaving⟩ G, G, startD nN ds, ?_, .refl e, ?_⟩
    · have := Reps.startOk e (N.length - vs.length) r
      unfold L2.start startD
      rw [<- hN, r.length]
      exact .zero this
    · cases hbd : body (startD nN ds) with
      | bad => rw [hbd] at q'; exact q'
      | err e => rw [hbd] at q'; exact q'
      | ok o =>
        rw [hbd] at q'
        cases o with
        | rt d => exact fun v G' H' s r => (show After K mg Q G H d from q') v G' H' s r
        | rf es =>
          intro a vs G' H' s n e g r
          have q2 : After K mg Q G H (.lst es) := q'
          have sg : Same G' (upd G' a (.lst vs)) := same_upd g
          refine q2 (.ref a) (upd G' a (.lst vs)) H' ⟨s.g.trans sg, s.h, fun b u p => ?_, fun b u p1 p2 => ?_⟩ ⟨a, vs, rfl, SqL.of upd_same, r.mono sg⟩
          · by_cases hb : b = a
            · subst hb; rw [upd_same] at p; cases p; exact e
            · rw [upd_ne hb] at p; exact s.e b u p
          · have hb : b ≠ a := ne_of_none p1 n
            rw [upd_ne hb]; exact s.c b u p1 p2
        | nx Z => exact fun Z' G' H' ok s _ => (show After K mg Q G H .non from q') .non G' H' s rfl
        | bk Z => exact (show False from q').elim
        | ct Z => exact (show False from q').elim
end
theorem XC.lc {X : Cx} {E : XK} {k : Nat} (C : XC X E k) (scope : Scope) (NY : List Str) (s0 : Shared) (H0 : Hp) (Ca : Addr) (ex : List Addr) : XC (lcCx X scope NY s0 H0 Ca ex) E0 k := ⟨C.calm, C.room, passN⟩
end DL
namespace DL
open L2
mutual
def eqD : D -> D -> Bool
  | .non, .non => true
  | .bl a, .bl b => a == b
  | .int a, .int b => a == b
  | .str a, .str b => a == b
  | .bl a, .int b => (if a then (1 : Int) else 0) == b
  | .int a, .bl b => a == (if b then (1 : Int) else 0)
  | .tup xs, .tup ys => eqDs xs ys
  | .lst xs, .lst ys => eqDs xs ys
  | _, _ => false
def eqDs : List D -> List D -> Bool
  | [], [] => true
  | x :: xs, y :: ys => eqD x y && eqDs xs ys
  | _, _ => false
end
def datN : Nat -> D -> Bool
  | _, .non => true
  | _, .bl _ => true
  | _, .int _ => true
  | _, .str _ => true
  | n + 1, .tup xs => xs.all (datN n)
  | n + 1, .lst xs => xs.all (datN n)
  | _, _ => false
theorem eqDs_range : ∀ (xs ys : List D), ((List.range (min xs.length ys.length)).all (fun j => eqD (xs.getD j .non) (ys.getD j .non)) && xs.length == ys.length) = eqDs xs ys
  | [], [] => by unfold eqDs; rfl
  | [], _ :: _ => by unfold eqDs; simp
  | _ :: _, [] => by unfold eqDs; simp
  | x :: xs, y :: ys => by
    unfold eqDs
    rw [<- eqDs_range xs ys]
    simp only [xaw, Nat.succ_min_succ, List.range_succ_eq_map, List.all_cons, List.getD_cons_zero, List.all_map, Bool.and_assoc]
    congr 2
    rw [Bool.eq_iff_iff]; simp
theorem eqD_refl : ∀ (n : Nat) (d : D), datN n d = true -> eqD d d = true := by
  intro n
  induction n with
  | zero => intro d h; cases d <;> first | (simp [datN] at h; done) | (unfold eqD; simp; done)
  | succ n ih =>
    have hl : ∀ xs : List D, xs.all (datN n) = true -> eqDs xs xs = true := fun xs => by
      induction xs with
      | nil => intro _; unfold eqDs; rfl
      | cons x xs ihx =>
        intro h
        rw [List.all_cons, xau] at h
        unfold eqDs
        rw [ih x h.1, ihx h.2]; rfl
    intro d h
    cases d with
    | tup xs => unfold eqD; exact hl xs (by unfold datN at h; exact h)
    | lst xs => unfold eqD; exact hl xs (by unfold datN at h; exact h)
    | _ => first | (simp [datN] at h; done) | (unfold eqD; simp; done)
def vOf : D -> Option V
  | .non => some .non
  | .bl b => some (.bl b)
  | .int i => some (.int i)
  | .str x => some (.str x)
  | _ => none
theorem rep_vOf {K : xFg} {mg : Str -> Option Value} {G : Hp} {d : D} {v x : V} (h : vOf d = some v) (r : Rep K mg G d x) : x = v /\ flatV v = true := by
  cases d <;> first | (simp [vOf] at h; done) | (simp only [vOf, Option.some.injEq] at h; subst h; simp only [Rep] at r; exact ⟨r, rfl⟩)
theorem eqD_flat {d d' : D} {v v' : V} (h : vOf d = some v) (h' : vOf d' = some v') : eqD d d' = eqV v v' := by
  cases d <;> first | (simp [vOf] at h; done) | (simp only [vOf, Option.some.injEq] at h; subst h; cases d' <;> first | (simp [vOf] at h'; done) | (simp only [vOf, Option.some.injEq] at h'; subst h'; unfold eqD eqV; first | rfl | simp))
theorem vOf_inj {d d' : D} {v : V} (h : vOf d = some v) (h' : vOf d' = some v) : d = d' := by
  cases d <;> first | (simp [vOf] at h; done) | (simp only [vOf, Option.some.injEq] at h; subst h; cases d' <;> first | (simp [vOf] at h'; done) | (simp only [vOf, Option.some.injEq] at h'; cases h'; rfl))
theorem dat_cases {n : Nat} {d : D} (h : datN n d = true) : (∃ v, vOf d = some v) \/ (∃ m xs, n = m + 1 /\ d = .tup xs /\ xs.all (datN m) = true) \/ (∃ m xs, n = m + 1 /\ d = .lst xs /\ xs.all (datN m) = true) := by
  cases d with
  | tup xs => cases n with
    | zero => simp [datN] at h
    | succ m => exact .inr (.inl ⟨m, xs, rfl, rfl, by unfold datN at h; exact h⟩)
  | lst xs => cases n with
    | zero => simp [datN] at h
    | succ m => exact .inr (.inr ⟨m, xs, rfl, rfl, by unfold datN at h; exact h⟩)
  | non => exact .inl ⟨_, rfl⟩
  | bl b => exact .inl ⟨_, rfl⟩
  | int i => exact .inl ⟨_, rfl⟩
  | str x => exact .inl ⟨_, rfl⟩
  | _ => simp [datN] at h
section
variable {X : Cx} {pins : List (Addr × Obj)} {Z : St} {G H : Hp} {s : Shared}
theorem not_both (I : Inv X pins Z H s) {a : Addr} {xs ys : List V} (h1 : SqT X.K H a xs) (h2 : SqL X.K H a ys) : False := by
  obtain ⟨_, _, ⟨o, e, c, _⟩, _⟩ := I.tuple h1
  obtain ⟨_, _, ⟨o', _, e', c', _⟩, _⟩ := I.list h2
  rw [e] at e'; cases e'
  rw [c] at c'
  exact xak c' (by simp)
theorem flat_noref {v : V} {a : Addr} (h : flatV v = true) : v ≠ .ref a := by rintro rfl; cases h
theorem rep_inj (I : Inv X pins Z H s) (e : Same G H) : ∀ (n : Nat) {d d' : D} {v : V}, datN n d = true -> datN n d' = true -> Rep X.K X.mg G d v -> Rep X.K X.mg G d' v -> d = d' := by
  intro n
  induction n with
  | zero =>
    intro d d' v h h' r r'
    rcases dat_cases h with ⟨w, hw⟩ | ⟨_, _, z, _⟩ | ⟨_, _, z, _⟩ <;> try omega
    rcases dat_cases h' with ⟨w', hw'⟩ | ⟨_, _, z, _⟩ | ⟨_, _, z, _⟩ <;> try omega
    have e1 := (rep_vOf hw r).1
    have e2 := (rep_vOf hw' r').1
    rw [<- e1] at hw; rw [<- e2] at hw'
    exact vOf_inj hw hw'
  | succ n ih =>
    have hl : ∀ (xs ys : List D) (vs : List V), xs.all (datN n) = true -> ys.all (datN n) = true -> Reps X.K X.mg G xs vs -> Reps X.K X.mg G ys vs -> xs = ys := by
      intro xs
      induction xs with
      | nil =>
        intro ys vs _ _ r r'
        cases r
        cases ys with
        | nil => rfl
        | cons y ys => obtain ⟨_, _, z, _⟩ := r'; cases z
      | cons x xs ihx =>
        intro ys vs h h' r r'
        obtain ⟨v, t, rfl, r1, r2⟩ := r
        cases ys with
        | nil => cases r'
        | cons y ys =>
          obtain ⟨v', t', z, r1', r2'⟩ := r'
          cases z
          rw [List.all_cons, xau] at h h'
          rw [ih h.1 h'.1 r1 r1', ihx ys _ h.2 h'.2 r2 r2']
    intro d d' v h h' r r'
    rcases dat_cases h with ⟨w, hw⟩ | ⟨m, xs, hm, rfl, hx⟩ | ⟨m, xs, hm, rfl, hx⟩
    · rcases dat_cases h' with ⟨w', hw'⟩ | ⟨m', ys, hm', rfl, hy⟩ | ⟨m', ys, hm', rfl, hy⟩
      · have e1 := (rep_vOf hw r).1
        have e2 := (rep_vOf hw' r').1
        rw [<- e1] at hw; rw [<- e2] at hw'
        exact vOf_inj hw hw'
      · obtain ⟨e1, e2⟩ := rep_vOf hw r
        obtain ⟨a, vs, z, _⟩ := r'
        exact xak (e1.symm.trans z) (flat_noref e2)
      · obtain ⟨e1, e2⟩ := rep_vOf hw r
        obtain ⟨a, vs, z, _⟩ := r'
        exact xak (e1.symm.trans z) (flat_noref e2)
    · obtain rfl : n = m := by omega
      obtain ⟨a, vs, rfl, q1, q2⟩ := r
      rcases dat_cases h' with ⟨w', hw'⟩ | ⟨m', ys, hm', rfl, hy⟩ | ⟨m', ys, hm', rfl, hy⟩
      · obtain ⟨e1, e2⟩ := rep_vOf hw' r'
        exact xak e1.symm (flat_noref e2)
      · obtain rfl : n = m' := by omega
        obtain ⟨a', vs', z, q1', q2'⟩ := r'
        cases z
        have := I.tuple_inj (Same.sqT e q1) (Same.sqT e q1')
        subst this
        rw [hl xs ys _ hx hy q2 q2']
      · obtain ⟨a', vs', z, q1', q2'⟩ := r'
        cases z
        exact (not_both I (Same.sqT e q1) (e.seq q1')).elim
    · obtain rfl : n = m := by omega
      obtain ⟨a, vs, rfl, q1, q2⟩ := r
      rcases dat_cases h' with ⟨w', hw'⟩ | ⟨m', ys, hm', rfl, hy⟩ | ⟨m', ys, hm', rfl, hy⟩
      · obtain ⟨e1, e2⟩ := rep_vOf hw' r'
        exact xak e1.symm (flat_noref e2)
      · obtain ⟨a', vs', z, q1', q2'⟩ := r'
        cases z
        exact (not_both I (Same.sqT e q1') (e.seq q1)).elim
      · obtain rfl : n = m' := by omega
        obtain ⟨a', vs', z, q1', q2'⟩ := r'
        cases z
        have := I.list_inj (e.seq q1) (e.seq q1')
        subst this
        rw [hl xs ys _ hx hy q2 q2']
theorem atArr {α : Type} {us : List α} {j : Nat} (h : j < us.toArray.size) : us.toArray[j] = us[j]'(by simpa using h) := by simp
theorem getD_of {α : Type} {xs : List α} {d : α} {j : Nat} (h : j < xs.length) : xs.getD j d = xs[j] := by simp [List.getD, h]
open SeqAt in
theorem items_at {A : Around} {n : Nat} (ih : ∀ {d d' : D} {x x' : V} {u u' : Value}, datN n d = true -> datN n d' = true -> Rep X.K X.mg G d x -> RelV x u -> Rep X.K X.mg G d' x' -> RelV x' u' -> EqAt A s u u' (eqD d d'))
    {xs ys : List D} {vs ws : List V} {us us' : List Value} (h : xs.all (datN n) = true) (h' : ys.all (datN n) = true) (r : Reps X.K X.mg G xs vs) (q : Vals vs us) (r' : Reps X.K X.mg G ys ws) (q' : Vals ws us') :
    ∀ j (h1 : j < us.toArray.size) (h2 : j < us'.toArray.size), EqAt A s us.toArray[j] us'.toArray[j] (eqD (xs.getD j .non) (ys.getD j .non)) := by
  intro j h1 h2
  have l1 : j < vs.length := by rw [q.length]; simpa using h1
  have l2 : j < ws.length := by rw [q'.length]; simpa using h2
  have l3 : j < xs.length := by rw [r.length]; exact l1
  have l4 : j < ys.length := by rw [r'.length]; exact l2
  obtain ⟨v, e1, e2⟩ := r.get (i := j) (d := xs[j]) (by simp [l3])
  obtain ⟨w, e3, e4⟩ := r'.get (i := j) (d := ys[j]) (by simp [l4])
  obtain ⟨u, e5, e6⟩ := q.get e1
  obtain ⟨u', e7, e8⟩ := q'.get e3
  have z1 : us.toArray[j] = u := by rw [atArr h1]; exact (xab.mp e5).2
  have z2 : us'.toArray[j] = u' := by rw [atArr h2]; exact (xab.mp e7).2
  rw [z1, z2, getD_of l3, getD_of l4]
  exact ih (xbc.mp h _ (xbq l3)) (xbc.mp h' _ (xbq l4)) e2 e6 e4 e8
theorem in1_units (A : Around) : A.in1.units = A.units + 1 := rfl
open SeqAt in
theorem rcAt_V {A : Around} {x x' : V} {u u' : Value} (q : RelV x u) (q' : RelV x' u') (f : flatV x = true) (f' : flatV x' = true) : RcAt A s u u' (eqV x x') /\ RcNeAt A s u u' (!eqV x x') := by
  cases x with
  | non =>
    cases (show u = Value.none from q)
    cases x' with
    | non => cases (show u' = Value.none from q'); exact ⟨RcAt.none_none, RcNeAt.none_none⟩
    | bl b => cases (show u' = Value.bool b from q'); exact ⟨RcAt.none_bool b, RcNeAt.none_bool b⟩
    | int b => obtain ⟨tb, rfl⟩ := (show ∃ t, u' = Value.int b t from q'); exact ⟨RcAt.none_int b tb, RcNeAt.none_int b tb⟩
    | str b => obtain ⟨tb, rfl⟩ := (show ∃ t, u' = Value.str b t from q'); exact ⟨RcAt.none_str b tb, RcNeAt.none_str b tb⟩
    | _ => cases f'
  | bl a =>
    cases (show u = Value.bool a from q)
    cases x' with
    | non => cases (show u' = Value.none from q'); exact ⟨RcAt.bool_none a, RcNeAt.bool_none a⟩
    | bl b => cases (show u' = Value.bool b from q'); exact ⟨RcAt.bool_bool a b, RcNeAt.bool_bool a b⟩
    | int b => obtain ⟨tb, rfl⟩ := (show ∃ t, u' = Value.int b t from q'); exact ⟨RcAt.bool_int a b tb, RcNeAt.bool_int a b tb⟩
    | str b => obtain ⟨tb, rfl⟩ := (show ∃ t, u' = Value.str b t from q'); exact ⟨RcAt.bool_str a b tb, RcNeAt.bool_str a b tb⟩
    | _ => cases f'
  | int a =>
    obtain ⟨ta, rfl⟩ := (show ∃ t, u = Value.int a t from q)
    cases x' with
    | non => cases (show u' = Value.none from q'); exact ⟨RcAt.int_none a ta, RcNeAt.int_none a ta⟩
    | bl b => cases (show u' = Value.bool b from q'); exact ⟨RcAt.int_bool a ta b, RcNeAt.int_bool a ta b⟩
    | int b => obtain ⟨tb, rfl⟩ := (show ∃ t, u' = Value.int b t from q'); exact ⟨RcAt.int_int a ta b tb, RcNeAt.int_int a ta b tb⟩
    | str b => obtain ⟨tb, rfl⟩ := (show ∃ t, u' = Value.str b t from q'); exact ⟨RcAt.int_str a ta b tb, RcNeAt.int_str a ta b tb⟩
    | _ => cases f'
  | str a =>
    obtain ⟨ta, rfl⟩ := (show ∃ t, u = Value.str a t from q)
    cases x' with
    | non => cases (show u' = Value.none from q'); exact ⟨RcAt.str_none a ta, RcNeAt.str_none a ta⟩
    | bl b => cases (show u' = Value.bool b from q'); exact ⟨RcAt.str_bool a ta b, RcNeAt.str_bool a ta b⟩
    | int b => obtain ⟨tb, rfl⟩ := (show ∃ t, u' = Value.int b t from q'); exact ⟨RcAt.str_int a ta b tb, RcNeAt.str_int a ta b tb⟩
    | str b => obtain ⟨tb, rfl⟩ := (show ∃ t, u' = Value.str b t from q'); exact ⟨RcAt.str_str a ta b tb, RcNeAt.str_str a ta b tb⟩
    | _ => cases f'
  | _ => cases f
open SeqAt in
theorem eqAt_flatSeq {A : Around} {x : V} {u : Value} {b : Addr} {items : Array Value} (fx : flatV x = true) (q : RelV x u) (hA : A.units < cLine) (h : s.heap.IsTuple b items \/ s.heap.IsList b items) : EqAt A s u (.ref b) false /\ EqAt A s (.ref b) u false /\ RcAt A s u (.ref b) false /\ RcAt A s (.ref b) u false /\ RcNeAt A s u (.ref b) true /\ RcNeAt A s (.ref b) u true := by
  cases x with
  | non =>
    obtain rfl : u = Value.none := q
    rcases h with h | h
    · exact ⟨EqAt.none_tuple h hA, EqAt.tuple_none h hA, RcAt.none_tuple h hA, RcAt.tuple_none h hA, RcNeAt.none_tuple h hA, RcNeAt.tuple_none h hA⟩
    · exact ⟨EqAt.none_list h hA, EqAt.list_none h hA, RcAt.none_list h hA, RcAt.list_none h hA, RcNeAt.none_list h hA, RcNeAt.list_none h hA⟩
  | bl a =>
    obtain rfl : u = Value.bool a := q
    rcases h with h | h
    · exact ⟨EqAt.bool_tuple _ h hA, EqAt.tuple_bool _ h hA, RcAt.bool_tuple _ h hA, RcAt.tuple_bool _ h hA, RcNeAt.bool_tuple _ h hA, RcNeAt.tuple_bool _ h hA⟩
    · exact ⟨EqAt.bool_list _ h hA, EqAt.list_bool _ h hA, RcAt.bool_list _ h hA, RcAt.list_bool _ h hA, RcNeAt.bool_list _ h hA, RcNeAt.list_bool _ h hA⟩
  | int a =>
    obtain ⟨t, rfl⟩ : ∃ t, u = Value.int a t := q
    rcases h with h | h
    · exact ⟨EqAt.int_tuple _ _ h hA, EqAt.tuple_int _ _ h hA, RcAt.int_tuple _ _ h hA, RcAt.tuple_int _ _ h hA, RcNeAt.int_tuple _ _ h hA, RcNeAt.tuple_int _ _ h hA⟩
    · exact ⟨EqAt.int_list _ _ h hA, EqAt.list_int _ _ h hA, RcAt.int_list _ _ h hA, RcAt.list_int _ _ h hA, RcNeAt.int_list _ _ h hA, RcNeAt.list_int _ _ h hA⟩
  | str a =>
    obtain ⟨t, rfl⟩ : ∃ t, u = Value.str a t := q
    rcases h with h | h
    · exact ⟨EqAt.str_tuple _ _ h hA, EqAt.tuple_str _ _ h hA, RcAt.str_tuple _ _ h hA, RcAt.tuple_str _ _ h hA, RcNeAt.str_tuple _ _ h hA, RcNeAt.tuple_str _ _ h hA⟩
    · exact ⟨EqAt.str_list _ _ h hA, EqAt.list_str _ _ h hA, RcAt.str_list _ _ h hA, RcAt.list_str _ _ h hA, RcNeAt.str_list _ _ h hA, RcNeAt.list_str _ _ h hA⟩
  | _ => cases fx
theorem eqD_seqs {xs ys : List D} : eqD (.tup xs) (.tup ys) = eqDs xs ys /\ eqD (.lst xs) (.lst ys) = eqDs xs ys /\ eqD (.tup xs) (.lst ys) = false /\ eqD (.lst xs) (.tup ys) = false := by
  refine ⟨?_, ?_, ?_, ?_⟩ <;> (unfold eqD; rfl)
theorem eqD_flatSeq {d : D} {v : V} {ys : List D} (h : vOf d = some v) : eqD d (.tup ys) = false /\ eqD d (.lst ys) = false /\ eqD (.tup ys) d = false /\ eqD (.lst ys) d = false := by
  cases d <;> first | (simp [vOf] at h; done) | (refine ⟨?_, ?_, ?_, ?_⟩ <;> (unfold eqD; rfl))
set_option maxHeartbeats 4000000 in
open SeqAt in
theorem eqAt_D (I : Inv X pins Z H s) (e : Same G H) : ∀ (n : Nat) {A : Around} {d d' : D} {x x' : V} {u u' : Value}, A.units + n < cLine -> datN n d = true -> datN n d' = true -> Rep X.K X.mg G d x -> RelV x u -> Rep X.K X.mg G d' x' -> RelV x' u' ->
    EqAt A s u u' (eqD d d') /\ RcAt A s u u' (eqD d d') /\ RcNeAt A s u u' (!eqD d d') := by
  have ff : ∀ {A : Around} {d d' : D} {v v' x x' : V} {u u' : Value}, vOf d = some v -> vOf d' = some v' -> Rep X.K X.mg G d x -> RelV x u -> Rep X.K X.mg G d' x' -> RelV x' u' -> EqAt A s u u' (eqD d d') /\ RcAt A s u u' (eqD d d') /\ RcNeAt A s u u' (!eqD d d') := by
    intro A d d' v v' x x' u u' hv hv' r q r' q'
    obtain ⟨rfl, f1⟩ := rep_vOf hv r
    obtain ⟨rfl, f2⟩ := rep_vOf hv' r'
    rw [eqD_flat hv hv']
    exact ⟨eqAt_V q q' f1 f2, rcAt_V q q' f1 f2⟩
  have seq : ∀ {d : D} {m : Nat} {xs : List D} {x : V} {u : Value}, d = .tup xs \/ d = .lst xs -> Rep X.K X.mg G d x -> RelV x u -> ∃ b items, u = .ref b /\ (s.heap.IsTuple b items \/ s.heap.IsList b items) := by
    intro d m xs x u hd r q
    rcases hd with rfl | rfl
    · obtain ⟨a, vs, rfl, q1, q2⟩ := r
      obtain ⟨us, v1, t1, _⟩ := I.tuple (Same.sqT e q1)
      exact ⟨a, _, q, .inl t1⟩
    · obtain ⟨a, vs, rfl, q1, q2⟩ := r
      obtain ⟨us, v1, t1, _⟩ := I.list (e.seq q1)
      exact ⟨a, _, q, .inr t1.isList⟩
  intro n
  induction n with
  | zero =>
    intro A d d' x x' u u' hu h h' r q r' q'
    rcases dat_cases h with ⟨w, hw⟩ | ⟨_, _, z, _⟩ | ⟨_, _, z, _⟩ <;> try omega
    rcases dat_cases h' with ⟨w', hw'⟩ | ⟨_, _, z, _⟩ | ⟨_, _, z, _⟩ <;> try omega
    exact ff hw hw' r q r' q'
  | succ n ih =>
    intro A d d' x x' u u' hu h h' r q r' q'
    have hA : A.units < cLine := by omega
    have ih' : ∀ {d d' : D} {x x' : V} {u u' : Value}, datN n d = true -> datN n d' = true -> Rep X.K X.mg G d x -> RelV x u -> Rep X.K X.mg G d' x' -> RelV x' u' -> EqAt A.in1 s u u' (eqD d d') :=
      fun a b c d e f => (ih (A := A.in1) (by rw [in1_units]; omega) a b c d e f).1
    rcases dat_cases h with ⟨w, hw⟩ | ⟨m, xs, hm, rfl, hx⟩ | ⟨m, xs, hm, rfl, hx⟩
    · rcases dat_cases h' with ⟨w', hw'⟩ | ⟨m', ys, hm', rfl, hy⟩ | ⟨m', ys, hm', rfl, hy⟩
      · exact ff hw hw' r q r' q'
      · obtain ⟨rfl, f1⟩ := rep_vOf hw r
        obtain ⟨b, items, rfl, hb⟩ := seq (m := m') (.inl rfl) r' q'
        obtain ⟨z1, _, z3, _, z5, _⟩ := eqAt_flatSeq f1 q hA hb
        rw [(eqD_flatSeq hw).1]; exact ⟨z1, z3, z5⟩
      · obtain ⟨rfl, f1⟩ := rep_vOf hw r
        obtain ⟨b, items, rfl, hb⟩ := seq (m := m') (.inr rfl) r' q'
        obtain ⟨z1, _, z3, _, z5, _⟩ := eqAt_flatSeq f1 q hA hb
        rw [(eqD_flatSeq hw).2.1]; exact ⟨z1, z3, z5⟩
    · obtain rfl : n = m := by omega
      rcases dat_cases h' with ⟨w', hw'⟩ | ⟨m', ys, hm', rfl, hy⟩ | ⟨m', ys, hm', rfl, hy⟩
      · obtain ⟨rfl, f1⟩ := rep_vOf hw' r'
        obtain ⟨b, items, rfl, hb⟩ := seq (m := n) (.inl rfl) r q
        obtain ⟨_, z2, _, z4, _, z6⟩ := eqAt_flatSeq f1 q' hA hb
        rw [(eqD_flatSeq hw').2.2.1]; exact ⟨z2, z4, z6⟩
      · obtain rfl : n = m' := by omega
        have hr := r; have hr' := r'
        obtain ⟨a, vs, rfl, q1, q2⟩ := r
        obtain rfl : u = Value.ref a := q
        obtain ⟨us, v1, t1, _⟩ := I.tuple (Same.sqT e q1)
        obtain ⟨b, ws, rfl, q1', q2'⟩ := r'
        obtain rfl : u' = Value.ref b := q'
        obtain ⟨us', v1', t1', _⟩ := I.tuple (Same.sqT e q1')
        have t1 : s.heap.IsTuple a us.toArray := t1
        have t1' : s.heap.IsTuple b us'.toArray := t1'
        have z := RcAt.tuples t1 t1' hA (items_at ih' hx hy q2 v1 q2' v1')
        have zn := RcNeAt.tuples t1 t1' hA (items_at ih' hx hy q2 v1 q2' v1')
        have hz : ((List.range (min us.toArray.size us'.toArray.size)).all (fun j => eqD (xs.getD j .non) (ys.getD j .non)) && us.toArray.size == us'.toArray.size) = eqD (.tup xs) (.tup ys) := by
          rw [eqD_seqs.1, <- eqDs_range]
          simp only [xag, <- v1.length, <- v1'.length, <- q2.length, <- q2'.length]
        rw [hz] at z zn
        refine ⟨?_, z, zn⟩
        by_cases hab : a = b
        · subst hab
          have ed := rep_inj I e (n + 1) h h' hr hr'
          rw [ed, eqD_refl _ _ h']; exact EqAt.same _
        · exact EqAt.of_refs hab z
      · obtain ⟨a, vs, rfl, q1, q2⟩ := r
        obtain rfl : u = Value.ref a := q
        obtain ⟨us, v1, t1, _⟩ := I.tuple (Same.sqT e q1)
        obtain ⟨b, ws, rfl, q1', q2'⟩ := r'
        obtain rfl : u' = Value.ref b := q'
        obtain ⟨us', v1', t1', _⟩ := I.list (e.seq q1')
        have t1 : s.heap.IsTuple a us.toArray := t1
        rw [eqD_seqs.2.2.1]
        exact ⟨EqAt.tuple_list t1 t1'.isList hA, RcAt.tuple_list t1 t1'.isList hA, RcNeAt.tuple_list t1 t1'.isList hA⟩
    · obtain rfl : n = m := by omega
      rcases dat_cases h' with ⟨w', hw'⟩ | ⟨m', ys, hm', rfl, hy⟩ | ⟨m', ys, hm', rfl, hy⟩
      · obtain ⟨rfl, f1⟩ := rep_vOf hw' r'
        obtain ⟨b, items, rfl, hb⟩ := seq (m := n) (.inr rfl) r q
        obtain ⟨_, z2, _, z4, _, z6⟩ := eqAt_flatSeq f1 q' hA hb
        rw [(eqD_flatSeq hw').2.2.2]; exact ⟨z2, z4, z6⟩
      · obtain ⟨a, vs, rfl, q1, q2⟩ := r
        obtain rfl : u = Value.ref a := q
        obtain ⟨us, v1, t1, _⟩ := I.list (e.seq q1)
        obtain ⟨b, ws, rfl, q1', q2'⟩ := r'
        obtain rfl : u' = Value.ref b := q'
        obtain ⟨us', v1', t1', _⟩ := I.tuple (Same.sqT e q1')
        have t1' : s.heap.IsTuple b us'.toArray := t1'
        rw [eqD_seqs.2.2.2]
        exact ⟨EqAt.list_tuple t1.isList t1' hA, RcAt.list_tuple t1.isList t1' hA, RcNeAt.list_tuple t1.isList t1' hA⟩
      · obtain rfl : n = m' := by omega
        have hr := r; have hr' := r'
        obtain ⟨a, vs, rfl, q1, q2⟩ := r
        obtain rfl : u = Value.ref a := q
        obtain ⟨us, v1, t1, _⟩ := I.list (e.seq q1)
        obtain ⟨b, ws, rfl, q1', q2'⟩ := r'
        obtain rfl : u' = Value.ref b := q'
        obtain ⟨us', v1', t1', _⟩ := I.list (e.seq q1')
        have both : RcAt A s (.ref a) (.ref b) (eqD (.lst xs) (.lst ys)) /\ RcNeAt A s (.ref a) (.ref b) (!eqD (.lst xs) (.lst ys)) := by
          by_cases hl : us.toArray.size = us'.toArray.size
          · have z := RcAt.lists t1.isList t1'.isList hl hA (items_at ih' hx hy q2 v1 q2' v1')
            have zn := RcNeAt.lists t1.isList t1'.isList hl hA (items_at ih' hx hy q2 v1 q2' v1')
            have hz : (List.range us.toArray.size).all (fun j => eqD (xs.getD j .non) (ys.getD j .non)) = eqD (.lst xs) (.lst ys) := by
              have hl' : xs.length = ys.length := by rw [q2.length, q2'.length, v1.length, v1'.length]; simpa using hl
              rw [eqD_seqs.2.1, <- eqDs_range, hl', Nat.min_self, xag, <- v1.length, <- q2.length, hl']
              simp
            rw [hz] at z zn
            exact ⟨z, zn⟩
          · have z := RcAt.lists_lengths t1.isList t1'.isList (by simpa using hl) hA
            have zn := RcNeAt.lists_lengths t1.isList t1'.isList (by simpa using hl) hA
            have hz : eqD (.lst xs) (.lst ys) = false := by
              have hl' : ¬ xs.length = ys.length := by rw [q2.length, q2'.length, v1.length, v1'.length]; simpa using hl
              rw [eqD_seqs.2.1, <- eqDs_range]
              simp [hl']
            rw [hz]
            exact ⟨z, zn⟩
        refine ⟨?_, both⟩
        by_cases hab : a = b
        · subst hab
          have ed := rep_inj I e (n + 1) h h' hr hr'
          rw [ed, eqD_refl _ _ h']; exact EqAt.same _
        · exact EqAt.of_refs hab both.1
end
end DL
namespace DL
open L2 PyProof.Rows
def B (n : Nat) (i : Int) : Prop := i.natAbs < 2 ^ n
theorem B.mono {m n : Nat} {i : Int} (h : B m i) (l : m <= n) : B n i := xaf h (Nat.pow_le_pow_right (by decide) l)
theorem B.mul {m n : Nat} {i j : Int} (a : B m i) (b : B n j) : B (m + n) (i * j) := by
  unfold B at *
  rw [Int.natAbs_mul, Nat.pow_add]
  exact Nat.mul_lt_mul'' a b
theorem B.add {m n : Nat} {i j : Int} (a : B m i) (b : B n j) : B (max m n + 1) (i + j) := by
  have a' := a.mono (Nat.le_max_left m n)
  have b' := b.mono (Nat.le_max_right m n)
  unfold B at *
  rw [Nat.pow_succ]
  omega
theorem B.sub {m n : Nat} {i j : Int} (a : B m i) (b : B n j) : B (max m n + 1) (i - j) := by
  have a' := a.mono (Nat.le_max_left m n)
  have b' := b.mono (Nat.le_max_right m n)
  unfold B at *
  rw [Nat.pow_succ]
  omega
theorem B.of {n : Nat} {i : Int} {k : Nat} (h : i.natAbs <= k) (hk : k < 2 ^ n := by decide +kernel) : B n i := xbr h hk
theorem B.log {n : Nat} {i : Int} (h : B n i) (hn : 0 < n) : i.natAbs.log2 < n := log2_lt_of hn h
def mulB (i : Int) : Bool := decide (i.natAbs.log2 < 60000000)
theorem mulB_of {n : Nat} {i : Int} (h : B n i) (hn : n <= 60000000 := by decide) : mulB i = true := by
  refine xah ?_
  cases n with
  | zero =>
    have : i.natAbs = 0 := by unfold B at h; omega
    rw [this]; decide
  | succ k => exact xaf (h.log (Nat.succ_pos _)) hn
theorem mulB_ok {i j : Int} (a : mulB i = true) (b : mulB j = true) : IntMulOk i j := by
  have h1 : i.natAbs.log2 < 60000000 := xan a
  have h2 : j.natAbs.log2 < 60000000 := xan b
  have bits : ∀ k : Int, k.natAbs.log2 < 60000000 -> Builtin.Int.intBits k <= 60000000 := fun k h => by
    unfold Builtin.Int.intBits
    split
    · exact xbw _
    · omega
  have b1 := bits i h1
  have b2 := bits j h2
  unfold IntMulOk
  intro z
  simp only [xau, decide_eq_true_eq, Builtin.Int.intTooBig] at z
  have e := z.2
  have l : (bitsLine : Int) = 134217728 := by decide
  rw [l] at e
  omega
def divB (i : Int) : Bool := decide (i ≠ 0 /\ i.natAbs.log2 < 9000)
theorem divB_of {n : Nat} {i : Int} (h : B n i) (h0 : i ≠ 0) (hn : n <= 9000 := by decide) : divB i = true := by
  refine xah ⟨h0, ?_⟩
  cases n with
  | zero =>
    have : i.natAbs = 0 := by unfold B at h; omega
    omega
  | succ k => exact xaf (h.log (Nat.succ_pos _)) hn
def powB (i j : Int) : Bool := decide (0 <= j /\ j <= 1000000 /\ i.natAbs < 2 ^ 64)
section
variable {X : Cx} {K : xFg} {mg : Str -> Option Value}
def gI (C : Int -> Int -> Bool) (h : Int -> Int -> Int) : D -> D -> R D
  | .int i, .int j => bif C i j then .ok (.int (h i j)) else .bad
  | _, _ => .bad
def gB (h : Int -> Int -> Bool) : D -> D -> R D
  | .int i, .int j => .ok (.bl (h i j))
  | _, _ => .bad
theorem nx_I {C : Int -> Int -> Bool} {h : Int -> Int -> Int} : NoErr (gI C h) := by
  intro a b e
  cases a <;> cases b <;> simp only [gI] <;> first | (intro z; cases z) | (intro z; revert z; cases C _ _ <;> simp [cond])
theorem nx_B {h : Int -> Int -> Bool} : NoErr (gB h) := by
  intro a b e
  cases a <;> cases b <;> simp only [gB] <;> (intro z; cases z)
theorem od_I {C : Int -> Int -> Bool} {C' : Int -> Int -> Prop} {h : Int -> Int -> Int} (hc : ∀ i j, C i j = true -> C' i j) : OpD K mg (rI C' fun i j => .int (h i j)) (gI C h) := by
  intro G H a b x y Q e ra rb q
  cases a with
  | int i => cases b with
    | int j =>
      cases ra; cases rb
      cases hC : C i j with
      | false => simp only [gI, hC, cond_false] at q; exact q.elim
      | true =>
        simp only [gI, hC, cond_true] at q
        exact ⟨i, j, rfl, rfl, hc i j hC, After.now q e rfl⟩
    | _ => exact (show False from q).elim
  | _ => exact (show False from q).elim
theorem od_B {h : Int -> Int -> Bool} : OpD K mg (rI0 fun i j => .bl (h i j)) (gB h) := by
  intro G H a b x y Q e ra rb q
  cases a with
  | int i => cases b with
    | int j => cases ra; cases rb; exact ⟨i, j, rfl, rfl, After.now q e rfl⟩
    | _ => exact (show False from q).elim
  | _ => exact (show False from q).elim
theorem op_mulD : OpR X (binaryOp .Mult) (rI (fun i j => mulB i = true /\ mulB j = true) fun i j => .int (i * j)) := opI fun _ _ _ _ _ _ _ hc q => mul_int q (mulB_ok hc.1 hc.2)
theorem op_fdivD : OpR X (binaryOp .FloorDiv) (rI (fun _ j => divB j = true) fun i j => .int (i.fdiv j)) := opI fun i j _ _ _ _ _ hc q => by
  have h := xan (p := j ≠ 0 /\ j.natAbs.log2 < 9000) hc
  exact floordiv_int h.1 q (.inl (PyProof.noPylong_of_log2 h.2))
def rCatL (K : xFg) : R2 := fun x y H Q => ∃ l b xs zs, x = .ref l /\ y = .ref b /\ SqL K H l xs /\ SqL K H b zs /\ xs.length + zs.length <= sizeLine /\ ∀ p, H p = none -> Q (.ref p) (upd H p (.lst (xs ++ zs)))
theorem op_catL : OpR X (binaryOp .Add) (rCatL X.K) := by
  intro pins s Z H x y v u Q I rx ry h
  obtain ⟨l, b, xs, zs, rfl, rfl, hH, hB, hz, q⟩ := h
  cases rx
  cases ry
  obtain ⟨its, r, pl, _⟩ := I.list hH
  obtain ⟨its2, r2, pl2, _⟩ := I.list hB
  obtain ⟨⟨cls, dd, data, sl⟩, ho, hc, n, hd⟩ := id pl.isList
  obtain ⟨⟨cls2, dd2, data2, sl2⟩, ho2, hc2, n2, hd2⟩ := id pl2.isList
  simp only at hc hd hc2 hd2
  subst hc hd hc2 hd2
  refine concat_meets ⟨_, ho, rfl⟩ ⟨_, ho2, rfl⟩ noFill_list_add seq_list_add PySem.F.slot_list_add PySem.F.entry_list_add (PySem.F.args_list_add_2 _ _) (list_addW l b its.toArray its2.toArray n n2 dd dd2 sl sl2 (by rw [xag, xag, <- r.length, <- r2.length]; exact hz)) ⟨ho, ho2, ?_⟩
  have ea : its.toArray ++ its2.toArray = (its ++ its2).toArray := by simp
  rw [ea]
  exact ⟨.ref _, _, I.lnew (t' := s.toks) (r.append r2) (by rw [xat]; exact hz), rfl, q _ I.fresh⟩
def le24 (n : Nat) : Bool := decide (n <= sizeLine)
def gAdd : D -> D -> R D
  | .int i, .int j => .ok (.int (i + j))
  | .str x, .str y => bif le24 (x.length + y.length) then .ok (.str (x ++ y)) else .bad
  | .lst xs, .lst ys => bif le24 (xs.length + ys.length) then .ok (.lst (xs ++ ys)) else .bad
  | .tup xs, .tup ys => bif le24 (xs.length + ys.length) && !xs.isEmpty then .ok (.tup (xs ++ ys)) else .bad
  | _, _ => .bad
theorem nx_add : NoErr gAdd := by
  intro a b e
  cases a <;> cases b <;> simp only [gAdd] <;> first | (intro z; cases z; done) | (generalize le24 _ = k; cases k <;> simp [cond] <;> (try (generalize List.isEmpty _ = k2; cases k2 <;> simp)))
abbrev rAddD (K : xFg) : R2 := fun x y H Q => rI0 (fun i j => .int (i + j)) x y H Q \/ ((∃ i j, x = .str i /\ y = .str j /\ i.length + j.length <= sizeLine /\ Q (.str (i ++ j)) H) \/ (rCatL K x y H Q \/ rCatT K x y H Q))
theorem od_add : OpD K mg (rAddD K) gAdd := by
  intro G H a b x y Q e ra rb q
  cases a with
  | int i => cases b with
    | int j => cases ra; cases rb; exact .inl ⟨i, j, rfl, rfl, After.now q e rfl⟩
    | _ => exact (show False from q).elim
  | str i => cases b with
    | str j =>
      cases ra; cases rb
      cases hC : le24 (i.length + j.length) with
      | false => simp only [gAdd, hC, cond_false] at q; exact q.elim
      | true =>
        simp only [gAdd, hC, cond_true] at q
        exact .inr (.inl ⟨i, j, rfl, rfl, xan hC, After.now q e rfl⟩)
    | _ => exact (show False from q).elim
  | lst xs => cases b with
    | lst ys =>
      obtain ⟨p, vs, rfl, h1, h2⟩ := ra
      obtain ⟨p', ws, rfl, h1', h2'⟩ := rb
      cases hC : le24 (xs.length + ys.length) with
      | false => simp only [gAdd, hC, cond_false] at q; exact q.elim
      | true =>
        simp only [gAdd, hC, cond_true] at q
        refine .inr (.inr (.inl ⟨p, p', vs, ws, rfl, rfl, e.seq h1, e.seq h1', by rw [<- h2.length, <- h2'.length]; exact xan hC, fun l hl => ?_⟩))
        have s := Step.pub (o := .lst (vs ++ ws)) e hl
        exact (show After K mg Q G H (.lst (xs ++ ys)) from q) _ _ _ s ⟨l, _, rfl, SqL.of upd_same, (h2.append h2').mono s.g⟩
    | _ => exact (show False from q).elim
  | tup xs => cases b with
    | tup ys =>
      obtain ⟨p, vs, rfl, h1, h2⟩ := ra
      obtain ⟨p', ws, rfl, h1', h2'⟩ := rb
      cases hC : (le24 (xs.length + ys.length) && !xs.isEmpty) with
      | false => simp only [gAdd, hC, cond_false] at q; exact q.elim
      | true =>
        simp only [gAdd, hC, cond_true] at q
        rw [xau] at hC
        have q' : After K mg Q G H (.tup (xs ++ ys)) := q
        refine .inr (.inr (.inr ⟨p, p', vs, ws, rfl, rfl, Same.sqT e h1, Same.sqT e h1', fun z => ?_, by rw [<- h2.length, <- h2'.length]; exact xan hC.1, fun z => ?_, fun z l hl => ?_⟩))
        · subst z
          have := h2.length
          have hx : xs = [] := List.length_eq_zero_iff.mp this
          subst hx; simp at hC
        · subst z
          have := h2'.length
          have hy : ys = [] := List.length_eq_zero_iff.mp this
          subst hy
          rw [xbm] at q'
          exact q'.now e ⟨p, vs, rfl, h1, h2⟩
        · have s := Step.pub (o := .tup (vs ++ ws)) e hl
          exact q' _ _ _ s ⟨l, _, rfl, SqT.of upd_same, (h2.append h2').mono s.g⟩
    | _ => exact (show False from q).elim
  | _ => exact (show False from q).elim
abbrev gSub : D -> D -> R D := gI (fun _ _ => true) fun i j => i - j
abbrev gMul : D -> D -> R D := gI (fun i j => mulB i && mulB j) fun i j => i * j
abbrev gFdiv : D -> D -> R D := gI (fun _ j => divB j) fun i j => i.fdiv j
abbrev gMod : D -> D -> R D := gI (fun _ j => decide (j ≠ 0)) fun i j => i.fmod j
abbrev gPow : D -> D -> R D := gI powB fun i j => i ^ j.toNat
abbrev gShr : D -> D -> R D := gI (fun _ j => decide (0 <= j)) fun i j => i / 2 ^ j.toNat
variable {E : XK} {a b c : Expr} {fa fb fc : DSt -> R D} {pos : Pos}
theorem de_add (ha : DE X E a fa) (hb : DE X E b fb) : DE X E (.BinOp a .Add b pos) (eOp gAdd fa fb) := de_op (op_add.or (op_add_str.or (op_catL.or op_catT))) od_add nx_add ha hb
theorem de_sub (ha : DE X E a fa) (hb : DE X E b fb) : DE X E (.BinOp a .Sub b pos) (eOp gSub fa fb) :=
  de_op (r := rI (fun _ _ => True) fun i j => .int (i - j)) (opI fun _ _ _ _ _ _ _ _ q => sub_int q) (od_I fun _ _ _ => trivial) nx_I ha hb
theorem de_mul (ha : DE X E a fa) (hb : DE X E b fb) : DE X E (.BinOp a .Mult b pos) (eOp gMul fa fb) := de_op op_mulD (od_I fun i j h => by simpa using h) nx_I ha hb
theorem de_fdiv (ha : DE X E a fa) (hb : DE X E b fb) : DE X E (.BinOp a .FloorDiv b pos) (eOp gFdiv fa fb) := de_op op_fdivD (od_I fun i j h => h) nx_I ha hb
theorem de_mod (ha : DE X E a fa) (hb : DE X E b fb) : DE X E (.BinOp a .Mod b pos) (eOp gMod fa fb) := de_op op_modN (od_I fun i j h => xan h) nx_I ha hb
theorem de_pow (ha : DE X E a fa) (hb : DE X E b fb) : DE X E (.BinOp a .Pow b pos) (eOp gPow fa fb) := de_op op_pow (od_I fun i j h => xan (p := 0 <= j /\ j <= 1000000 /\ i.natAbs < 2 ^ 64) h) nx_I ha hb
def gNeg : D -> R D
  | .int i => .ok (.int (-i))
  | _ => .bad
theorem de_neg (ha : DE X E a fa) : DE X E (.UnaryOp .USub a pos) (eUn gNeg fa) := by
  refine de_un un_neg (fun G H d x Q e r q => ?_) (fun d e => ?_) ha
  · cases d with
    | int i => cases r; exact ⟨i, rfl, After.now q e rfl⟩
    | _ => exact (show False from q).elim
  · cases d <;> simp [gNeg]
structure CmpF (X : Cx) (op : CmpOp) (g : D -> D -> R D) : Prop where
  ex : ∃ r, OpR X (compareOp op) r /\ OpD X.K X.mg r g /\ NoErr g
abbrev gLt : D -> D -> R D := gB fun i j => decide (i < j)
abbrev gLe : D -> D -> R D := gB fun i j => decide (i <= j)
abbrev gGt : D -> D -> R D := gB fun i j => decide (j < i)
abbrev gGe : D -> D -> R D := gB fun i j => decide (j <= i)
theorem cf_lt : CmpF X .Lt gLt := ⟨_, op_lt, od_B, nx_B⟩
theorem cf_le : CmpF X .LtE gLe := ⟨_, op_le, od_B, nx_B⟩
theorem cf_gt : CmpF X .Gt gGt := ⟨_, op_gt, od_B, nx_B⟩
theorem cf_ge : CmpF X .GtE gGe := ⟨_, op_ge, od_B, nx_B⟩
def cmp2 (a b : D) : Bool := datN 9 a && datN 9 b
def gEq (a b : D) : R D := bif cmp2 a b then .ok (.bl (eqD a b)) else .bad
def gNe (a b : D) : R D := bif cmp2 a b then .ok (.bl (!eqD a b)) else .bad
def rEqD (K : xFg) (mg : Str -> Option Value) (neg : Bool) : R2 := fun x y H Q => ∃ G d d', Same G H /\ Rep K mg G d x /\ Rep K mg G d' y /\ cmp2 d d' = true /\ Q (.bl (bif neg then !eqD d d' else eqD d d')) H
theorem op_eqD {k : Nat} (r : Room k X.A) : OpR X (compareOp .Eq) (rEqD X.K X.mg false) := by
  intro pins s Z H x y v u Q I rx ry h
  obtain ⟨G, d, d', e, r1, r2, c, q⟩ := h
  unfold cmp2 at c
  rw [xau] at c
  have hu : X.A.units + 9 < cLine := by have := r.un; omega
  exact (eqAt_D I e 9 hu c.1 c.2 r1 rx r2 ry).2.1 _ _ _ _ ⟨.bl _, H, I, rfl, q⟩
theorem op_neD {k : Nat} (r : Room k X.A) : OpR X (compareOp .NotEq) (rEqD X.K X.mg true) := by
  intro pins s Z H x y v u Q I rx ry h
  obtain ⟨G, d, d', e, r1, r2, c, q⟩ := h
  unfold cmp2 at c
  rw [xau] at c
  have hu : X.A.units + 9 < cLine := by have := r.un; omega
  exact (eqAt_D I e 9 hu c.1 c.2 r1 rx r2 ry).2.2 _ _ _ _ ⟨.bl _, H, I, rfl, q⟩
theorem cf_eq {k : Nat} (C : XC X E k) : CmpF X .Eq gEq := ⟨_, op_eqD C.room, fun G H a b x y Q e ra rb q => by
  unfold gEq at q
  cases hc : cmp2 a b with
  | false => rw [hc] at q; exact q.elim
  | true => rw [hc] at q; exact ⟨G, a, b, e, ra, rb, hc, After.now q e rfl⟩, fun a b e => by unfold gEq; cases cmp2 a b <;> simp [cond]⟩
theorem cf_ne {k : Nat} (C : XC X E k) : CmpF X .NotEq gNe := ⟨_, op_neD C.room, fun G H a b x y Q e ra rb q => by
  unfold gNe at q
  cases hc : cmp2 a b with
  | false => rw [hc] at q; exact q.elim
  | true => rw [hc] at q; exact ⟨G, a, b, e, ra, rb, hc, After.now q e rfl⟩, fun a b e => by unfold gNe; cases cmp2 a b <;> simp [cond]⟩
def isNon : D -> Bool
  | .non => true
  | _ => false
def gIs : D -> D -> R D
  | d, .non => .ok (.bl (isNon d))
  | .bl a, .bl b => .ok (.bl (a == b))
  | _, _ => .bad
def gIsn : D -> D -> R D
  | d, .non => .ok (.bl (!isNon d))
  | .bl a, .bl b => .ok (.bl (a != b))
  | _, _ => .bad
theorem rep_isNon {G : Hp} {d : D} {x : V} (r : Rep K mg G d x) : decide (x = .non) = isNon d := by
  have nr : ∀ a : Addr, decide (V.ref a = V.non) = false := fun a => by simp
  cases d with
  | non => cases r; rfl
  | bl b => cases r; rfl
  | int i => cases r; rfl
  | str y => cases r; rfl
  | ty n => cases r; rfl
  | cls c => obtain ⟨C, rfl, _⟩ := r; exact nr _
  | tup xs => obtain ⟨a, vs, rfl, _⟩ := r; exact nr _
  | lst xs => obtain ⟨a, vs, rfl, _⟩ := r; exact nr _
  | dct ks xs => obtain ⟨a, vs, rfl, _⟩ := r; exact nr _
  | exc c as => obtain ⟨a, C, dct, vs, rfl, _⟩ := r; exact nr _
theorem cf_is : CmpF X .Is gIs := ⟨_, op_isN.or op_is_bl, fun G H a b x y Q e ra rb q => by
  cases b with
  | non => cases rb; exact .inl ⟨rfl, by rw [rep_isNon ra]; cases a <;> exact After.now q e rfl⟩
  | bl k => cases a with
    | bl k' => cases ra; cases rb; exact .inr ⟨k', k, rfl, rfl, After.now q e rfl⟩
    | _ => exact (show False from q).elim
  | _ => cases a <;> exact (show False from q).elim, fun a b e => by cases a <;> cases b <;> simp [gIs]⟩
theorem cf_isn : CmpF X .IsNot gIsn := ⟨_, op_notN.or op_isnot_bl, fun G H a b x y Q e ra rb q => by
  cases b with
  | non => cases rb; exact .inl ⟨rfl, by rw [rep_isNon ra]; cases a <;> exact After.now q e rfl⟩
  | bl k => cases a with
    | bl k' => cases ra; cases rb; exact .inr ⟨k', k, rfl, rfl, After.now q e rfl⟩
    | _ => exact (show False from q).elim
  | _ => cases a <;> exact (show False from q).elim, fun a b e => by cases a <;> cases b <;> simp [gIsn]⟩
theorem de_cmp1 {op : CmpOp} {g : D -> D -> R D} (cf : CmpF X op g) (ha : DE X E a fa) (hb : DE X E b fb) (hm : behindInMarks op b = false := by first | exact nobehind _ (by decide) (by decide) | rfl) : DE X E (.Compare a [op] [b] pos) (eOp g fa fb) := by
  obtain ⟨r, h1, h2, h3⟩ := cf.ex
  exact de_cmp h1 h2 h3 ha hb hm
theorem dt_cmp1 {op : CmpOp} {g : D -> D -> R D} (cf : CmpF X op g) (ha : DE X E a fa) (hb : DE X E b fb) (hm : behindInMarks op b = false := by first | exact nobehind _ (by decide) (by decide) | rfl) : DT X E (.Compare a [op] [b] pos) (eTest (eOp g fa fb)) := by
  obtain ⟨r, h1, h2, h3⟩ := cf.ex
  exact dt_cmp h1 h2 h3 ha hb hm
end
end DL
namespace DL
open L2 PyProof.Rows
section
variable {X : Cx} {E : XK} {K : xFg} {mg : Str -> Option Value} {G H : Hp}
theorem boot_isi : bootBuiltins "isinstance" = some (.builtin "isinstance") := by rfl
theorem bt_int : bootBuiltins "int" = some (.type "int") := by rfl
theorem bt_bool : bootBuiltins "bool" = some (.type "bool") := by rfl
theorem bt_str : bootBuiltins "str" = some (.type "str") := by rfl
theorem bt_tuple : bootBuiltins "tuple" = some (.type "tuple") := by rfl
theorem bt_ValueError : bootBuiltins "ValueError" = some (.type "ValueError") := by rfl
theorem Reps.one {d : D} {vs : List V} (h : Reps K mg G [d] vs) : ∃ v, vs = [v] /\ Rep K mg G d v := by
  obtain ⟨v, r, rfl, h2, h3⟩ := h
  cases h3
  exact ⟨v, rfl, h2⟩
theorem Reps.two {d d' : D} {vs : List V} (h : Reps K mg G [d, d'] vs) : ∃ v w, vs = [v, w] /\ Rep K mg G d v /\ Rep K mg G d' w := by
  obtain ⟨v, r, rfl, h2, h3⟩ := h
  obtain ⟨w, rfl, h4⟩ := h3.one
  exact ⟨v, w, rfl, h2, h4⟩
def g1 {α : Type} (g : D -> R α) : List D -> R α
  | [d] => g d
  | _ => .bad
def g2 {α : Type} (g : D -> D -> R α) : List D -> R α
  | [d, e] => g d e
  | _ => .bad
theorem cd1 {r : List V -> Hp -> VK -> Prop} {g : D -> R D} (h : ∀ (G H : Hp) (d : D) (v : V) (Q : VK), Same G H -> Rep K mg G d v -> RW (g d) (After K mg Q G H) (fun _ => False) -> r [v] H Q) : CallD K mg r (g1 g) := by
  intro G H ds vs Q e rp q
  match ds, rp, q with
  | [], rp, q => exact (show False from q).elim
  | [d], rp, q => obtain ⟨v, rfl, h1⟩ := rp.one; exact h G H d v Q e h1 q
  | _ :: _ :: _, rp, q => exact (show False from q).elim
theorem cd2 {r : List V -> Hp -> VK -> Prop} {g : D -> D -> R D} (h : ∀ (G H : Hp) (d d' : D) (v v' : V) (Q : VK), Same G H -> Rep K mg G d v -> Rep K mg G d' v' -> RW (g d d') (After K mg Q G H) (fun _ => False) -> r [v, v'] H Q) : CallD K mg r (g2 g) := by
  intro G H ds vs Q e rp q
  match ds, rp, q with
  | [], rp, q => exact (show False from q).elim
  | [d], rp, q => exact (show False from q).elim
  | [d, d'], rp, q => obtain ⟨v, w, rfl, h1, h2⟩ := rp.two; exact h G H d d' v w Q e h1 h2 q
  | _ :: _ :: _ :: _, rp, q => exact (show False from q).elim
variable {x : Str} {p pos : Pos} {e : Expr} {es : List Expr} {fs : DSt -> R (List D)}
def len1 : D -> R D
  | .lst xs => .ok (.int xs.length)
  | .tup xs => .ok (.int xs.length)
  | .str y => bif le24 y.length then .ok (.int y.length) else .bad
  | _ => .bad
abbrev gLen := g1 len1
theorem cd_len : CallD K mg (fun xs H Q => (∃ p ys, xs = [.ref p] /\ (SqL K H p ys \/ SqT K H p ys) /\ Q (.int ys.length) H) \/ (∃ z, xs = [.str z] /\ z.length <= sizeLine /\ Q (.int z.length) H)) gLen := cd1 fun G H d v Q e r q => by
  cases d with
  | lst xs =>
    obtain ⟨a, vs, rfl, h1, h2⟩ := r
    exact .inl ⟨a, vs, rfl, .inl (e.seq h1), by rw [<- h2.length]; exact After.now q e rfl⟩
  | tup xs =>
    obtain ⟨a, vs, rfl, h1, h2⟩ := r
    exact .inl ⟨a, vs, rfl, .inr (Same.sqT e h1), by rw [<- h2.length]; exact After.now q e rfl⟩
  | str y =>
    cases r
    cases hC : le24 y.length with
    | false => simp only [len1, hC, cond_false] at q; exact q.elim
    | true => simp only [len1, hC, cond_true] at q; exact .inr ⟨y, rfl, xan hC, After.now q e rfl⟩
  | _ => exact (show False from q).elim
theorem de_len (hm : X.mg "len" = none) (ha : DA X E (e :: es) fs) (hg : Gl X "len" := by rfl) (he : starEach (e :: es) X.env = (false, eval e X.env) :: starEach es X.env := by rfl) (hpl : (backTo pos (starEach es X.env)).any (·.1) = false := by rfl) : DE X E (.Call (.Name "len" p) (e :: es) [] pos) (eBlt gLen fs) :=
  de_blt (call_len_seq.or call_len_str) cd_len hm PySem.boot_len ha hg (by decide) (by decide) he hpl
def abs1 : D -> R D
  | .int i => .ok (.int (i.natAbs : Int))
  | _ => .bad
abbrev gAbs := g1 abs1
theorem cd_abs : CallD K mg (fun xs H Q => ∃ i, xs = [.int i] /\ Q (.int (if i < 0 then -i else i)) H) gAbs := cd1 fun G H d v Q e r q => by
  cases d with
  | int i =>
    cases r
    have ea : (if i < 0 then -i else i) = (i.natAbs : Int) := by split <;> omega
    exact ⟨i, rfl, by rw [ea]; exact After.now q e rfl⟩
  | _ => exact (show False from q).elim
theorem de_abs (hm : X.mg "abs" = none) (ha : DA X E (e :: es) fs) (hg : Gl X "abs" := by rfl) (he : starEach (e :: es) X.env = (false, eval e X.env) :: starEach es X.env := by rfl) (hpl : (backTo pos (starEach es X.env)).any (·.1) = false := by rfl) : DE X E (.Call (.Name "abs" p) (e :: es) [] pos) (eBlt gAbs fs) :=
  de_blt call_abs cd_abs hm PyProof.Rows.boot_abs ha hg (by decide) (by decide) he hpl
def min2 : D -> D -> R D
  | .int i, .int j => .ok (.int (min i j))
  | _, _ => .bad
def max2 : D -> D -> R D
  | .int i, .int j => .ok (.int (max i j))
  | _, _ => .bad
abbrev gMin := g2 min2
abbrev gMax := g2 max2
theorem cd_max : CallD K mg (fun xs H Q => ∃ i j, xs = [.int i, .int j] /\ Q (.int (if j > i then j else i)) H) gMax := cd2 fun G H d d' v v' Q e r r' q => by
  cases d with
  | int i => cases d' with
    | int j =>
      cases r; cases r'
      have ea : (if j > i then j else i) = max i j := by split <;> omega
      exact ⟨i, j, rfl, by rw [ea]; exact After.now q e rfl⟩
    | _ => exact (show False from q).elim
  | _ => exact (show False from q).elim
theorem de_max (hc : X.calm = true) (hm : X.mg "max" = none) (ha : DA X E (e :: es) fs) (hg : Gl X "max" := by rfl) (he : starEach (e :: es) X.env = (false, eval e X.env) :: starEach es X.env := by rfl) (hpl : (backTo pos (starEach es X.env)).any (·.1) = false := by rfl) : DE X E (.Call (.Name "max" p) (e :: es) [] pos) (eBlt gMax fs) :=
  de_blt (call_max2 hc) cd_max hm PyProof.Rows.boot_max ha hg (by decide) (by decide) he hpl
def int1 : D -> R D
  | .int i => .ok (.int i)
  | .bl b => .ok (.int (if b then 1 else 0))
  | _ => .bad
abbrev gInt := g1 int1
theorem cd_int : CallD K mg (fun xs H Q => (∃ i, xs = [.int i] /\ Q (.int i) H) \/ ∃ k, xs = [.bl k] /\ Q (.int (if k then 1 else 0)) H) gInt := cd1 fun G H d v Q e r q => by
  cases d with
  | int i => cases r; exact .inl ⟨i, rfl, After.now q e rfl⟩
  | bl b => cases r; exact .inr ⟨b, rfl, After.now q e rfl⟩
  | _ => exact (show False from q).elim
theorem de_intc (hm : X.mg "int" = none) (ha : DA X E (e :: es) fs) (hg : Gl X "int" := by rfl) (he : starEach (e :: es) X.env = (false, eval e X.env) :: starEach es X.env := by rfl) (hpl : (backTo pos (starEach es X.env)).any (·.1) = false := by rfl) : DE X E (.Call (.Name "int" p) (e :: es) [] pos) (eBlt gInt fs) :=
  de_bty call_int1 cd_int hm ha bt_int hg (by decide) (by decide) he hpl
def eBltF (g : List D -> R (List D)) (fs : DSt -> R (List D)) : DSt -> R (List D) := fun Z => (fs Z).bind fun ds => (g ds).noerr
def tyName : D -> Option String
  | .non => some "NoneType"
  | .bl _ => some "bool"
  | .int _ => some "int"
  | .str _ => some "str"
  | .tup _ => some "tuple"
  | .lst _ => some "list"
  | .dct _ _ => some "dict"
  | _ => none
def tyOk (T : String) : Bool := ["int", "bool", "str", "tuple", "list", "dict"].contains T
def subT (t T : String) : Bool := t == T || (t == "bool" && T == "int")
theorem kit_ty (t T : String) (ht : ["NoneType", "bool", "int", "str", "tuple", "list", "dict"].contains t = true) (hT : tyOk T = true) : PySem.W.kitOne K (.type t) (.type T) = some (subT t T) := by
  simp only [List.contains_eq_mem, xaz, xbf, or_false, decide_eq_true_eq] at ht
  simp only [tyOk, List.contains_eq_mem, xaz, xbf, or_false, decide_eq_true_eq] at hT
  rcases ht with rfl | rfl | rfl | rfl | rfl | rfl | rfl <;> rcases hT with rfl | rfl | rfl | rfl | rfl | rfl <;> rfl
end
end DL
namespace DL
open L2 PyProof.Rows
section
variable {X : Cx} {E : XK} {K : xFg} {mg : Str -> Option Value} {G H : Hp}
variable {x : Str} {p pos : Pos} {e : Expr} {es : List Expr} {fs : DSt -> R (List D)}
def rIsi (K : xFg) (mg : Str -> Option Value) : List V -> Hp -> VK -> Prop := fun xs H Q => ∃ G d T v b, xs = [v, .ty T] /\ Same G H /\ Rep K mg G d v /\ (∃ t, tyName d = some t /\ tyOk T = true /\ b = subT t T) /\ Q (.bl b) H
theorem call_isiD : CallR X (.builtin "isinstance") (rIsi X.K X.mg) := by
  intro pins s Z H xs us Q I r h
  obtain ⟨G, d, T, v, b, rfl, e, rp, ⟨t, ht, hT, rfl⟩, q⟩ := h
  obtain ⟨u, w', rfl, ru, rw'⟩ := vals2 r
  cases (show w' = Value.type T from rw')
  have fin : ∀ tk, EP X pins Z Q (.bool (subT t T)) { s with toks := tk } := fun tk => ⟨.bl _, H, I.tok tk, rfl, q⟩
  cases d with
  | non => cases ht; cases rp; cases (show u = Value.none from ru); exact PySem.W.kia_one PySem.W.kitx_none I.kIn True.intro (kit_ty _ _ rfl hT) (fun z => nomatch z) fin
  | bl y => cases ht; cases rp; cases (show u = Value.bool y from ru); exact PySem.W.kia_one PySem.W.kitx_bool I.kIn True.intro (kit_ty _ _ rfl hT) (fun z => nomatch z) fin
  | int i => cases ht; cases rp; obtain ⟨tk, rfl⟩ := (show ∃ tk, u = Value.int i tk from ru); exact PySem.W.kia_one PySem.W.kitx_int I.kIn True.intro (kit_ty _ _ rfl hT) (fun z => nomatch z) fin
  | str y => cases ht; cases rp; obtain ⟨tk, rfl⟩ := (show ∃ tk, u = Value.str y tk from ru); exact PySem.W.kia_one PySem.W.kitx_str I.kIn True.intro (kit_ty _ _ rfl hT) (fun z => nomatch z) fin
  | tup ds =>
    cases ht
    obtain ⟨a, vs, rfl, h1, h2⟩ := rp
    cases (show u = Value.ref a from ru)
    obtain ⟨_, _, ⟨o, h3, h4, _⟩, _⟩ := I.tuple (Same.sqT e h1)
    exact PySem.W.kia_one PySem.W.kitx_tuple I.kIn ⟨o, h3, h4⟩ (kit_ty _ _ rfl hT) (fun z => nomatch z) fin
  | lst ds =>
    cases ht
    obtain ⟨a, vs, rfl, h1, h2⟩ := rp
    cases (show u = Value.ref a from ru)
    obtain ⟨_, _, ⟨o, n, h3, h4, _⟩, _⟩ := I.list (e.seq h1)
    exact PySem.W.kia_one PySem.W.kitx_list I.kIn ⟨o, h3, h4⟩ (kit_ty _ _ rfl hT) (fun z => nomatch z) fin
  | dct ks ds =>
    cases ht
    obtain ⟨a, vs, rfl, h1, _⟩ := rp
    cases (show u = Value.ref a from ru)
    obtain ⟨_, _, _, _, p⟩ := (show ObjOk X.prog X.w H s.heap a (.dK (ks.zip vs)) from (Same.rd e h1).ok I.hok)
    obtain ⟨o, es, ep, h3, h4, _⟩ := p
    exact PySem.W.kia_one PySem.W.kitx_dict I.kIn ⟨o, h3, h4.1⟩ (kit_ty _ _ rfl hT) (fun z => nomatch z) fin
  | _ => cases ht
abbrev rIsiX (K : xFg) : List V -> Hp -> VK -> Prop := fun xs H Q => ∃ (a C : Addr) (c : V) (cv : Value) (b : Bool), xs = [.ref a, c] /\ H a = some (excO a C none) /\ ((∃ D, c = .ref D /\ cv = .ref D) \/ ∃ T, c = .ty T /\ cv = .type T) /\ ExcC K C /\ PySem.W.kitOne K (.ref C) cv = some b /\ Q (.bl b) H
def isi3 : D -> D -> R D
  | d, .ty T => match tyName d with
    | some t => bif tyOk T then .ok (.bl (subT t T)) else .bad
    | none => match d with
      | .exc _ [] => bif T == "ValueError" then .ok (.bl true) else .bad
      | _ => .bad
  | .exc c [], .cls d => match subX c d with
    | some b => .ok (.bl b)
    | none => .bad
  | _, _ => .bad
theorem cd_isi : CallD K mg (fun xs H Q => rIsi K mg xs H Q \/ rIsiX K xs H Q) (g2 isi3) := cd2 fun G H d d' v v' Q e r r' q => by
  have exc : ∀ {c as}, d = .exc c as -> as = [] -> ∃ a C, v = .ref a /\ H a = some (excO a C none) /\ XcOk K mg c C := fun {c as} hd ha => by
    subst hd; subst ha
    obtain ⟨a, C, dct, vs, rfl, h2, h3, h4, h5⟩ := r
    cases h5
    rcases h4 with ⟨rfl, _⟩ | ⟨dx, w, _, z, _⟩
    · exact ⟨a, C, rfl, e _ _ h2, h3⟩
    · cases z
  cases d' with
  | ty T =>
    cases r'
    cases ht : tyName d with
    | some t =>
      cases hT : tyOk T with
      | false => simp only [isi3, ht, hT, cond_false] at q; exact q.elim
      | true => simp only [isi3, ht, hT, cond_true] at q; exact .inl ⟨G, d, T, v, _, rfl, e, r, ⟨t, ht, hT, rfl⟩, After.now q e rfl⟩
    | none =>
      cases d with
      | exc c as =>
        cases as with
        | nil =>
          cases hT : T == "ValueError" with
          | false => simp only [isi3, ht, hT, cond_false] at q; exact q.elim
          | true =>
            simp only [isi3, ht, hT, cond_true] at q
            obtain ⟨a, C, rfl, h1, h2⟩ := exc rfl rfl
            have := eq_of_beq hT
            subst this
            exact .inr ⟨a, C, _, _, true, rfl, h1, .inr ⟨_, rfl, rfl⟩, h2.exc, h2.val, After.now q e rfl⟩
        | cons b bs => simp only [isi3, ht] at q; exact q.elim
      | _ => simp only [isi3, ht] at q; exact q.elim
  | cls c' =>
    cases d with
    | exc c as =>
      cases as with
      | nil =>
        obtain ⟨Dd, rfl, hD⟩ := r'
        cases hs : subX c c' with
        | none => simp only [isi3, hs] at q; exact q.elim
        | some b =>
          simp only [isi3, hs] at q
          obtain ⟨a, C, rfl, h1, h2⟩ := exc rfl rfl
          exact .inr ⟨a, C, _, _, b, rfl, h1, .inl ⟨Dd, rfl, rfl⟩, h2.exc, h2.isi c' Dd b hs hD, After.now q e rfl⟩
      | cons b bs => exact (show False from q).elim
    | _ => exact (show False from q).elim
  | _ => cases d <;> first | exact (show False from q).elim | (rename_i as; cases as <;> exact (show False from q).elim)
theorem de_isi (hm : X.mg "isinstance" = none) (ha : DA X E (e :: es) fs) (hg : Gl X "isinstance" := by rfl) (he : starEach (e :: es) X.env = (false, eval e X.env) :: starEach es X.env := by rfl) (hpl : (backTo pos (starEach es X.env)).any (·.1) = false := by rfl) : DE X E (.Call (.Name "isinstance" p) (e :: es) [] pos) (eBlt (g2 isi3) fs) :=
  de_blt (call_isiD.or call_isiX) cd_isi hm boot_isi ha hg (by decide) (by decide) he hpl
def tO (K : xFg) (mg : Str -> Option Value) (E : XK) (f : DSt -> R (Option Int)) : TO := fun Z H Q => ∃ G Zd, Ok0 K mg Zd Z G H /\ RW (f Zd) (fun o => ∀ G' H', Step G H G' H' -> Q o H') (AfterX K mg E G H)
def DO (X : Cx) (E : XK) (e : Option Expr) (f : DSt -> R (Option Int)) : Prop := PO X e (tO X.K X.mg E f)
def oNone : DSt -> R (Option Int) := fun _ => .ok none
def asI : D -> R (Option Int)
  | .int i => .ok (some i)
  | _ => .bad
def oSome (f : DSt -> R D) : DSt -> R (Option Int) := fun Z => (f Z).bind asI
theorem PO.mono' {e : Option Expr} {t t' : TO} (h : PO X e t) (m : ∀ Z H Q, t' Z H Q -> t Z H Q) : PO X e t' := fun pins s Z H Q I q => h pins s Z H Q I (m Z H Q q)
theorem do_none : DO X E none oNone := PO.mono' po_none fun Z H Q ⟨G, Zd, ok, q⟩ => (show ∀ G' H', Step G H G' H' -> Q none H' from q) G H (.refl ok.ext)
theorem do_some {f : DSt -> R D} (h : DE X E e f) : DO X E (some e) (oSome f) := PO.mono' (po_some h) fun Z H Q ⟨G, Zd, ok, q⟩ => ⟨G, Zd, ok, q.of_bind.mono (fun d _ z v G' H' s r => by
  cases d with
  | int i => cases r; exact ⟨i, rfl, (show ∀ G' H', Step G H G' H' -> Q (some i) H' from z) G' H' s⟩
  | _ => exact (show False from z).elim) fun _ z => z⟩
def cutD {α : Type} (xs : List α) (lo hi : Option Int) : List α := (xs.drop (HT.sIx xs.length 0 lo)).take (HT.sIx xs.length xs.length hi - HT.sIx xs.length 0 lo)
def isWhole {α : Type} (xs : List α) (lo hi : Option Int) : Bool := decide (HT.sIx xs.length 0 lo = 0 /\ HT.sIx xs.length xs.length hi = xs.length)
def gSl : D -> Option Int -> Option Int -> R D
  | .lst xs, lo, hi => .ok (.lst (cutD xs lo hi))
  | .tup xs, lo, hi => bif isWhole xs lo hi then .bad else .ok (.tup (cutD xs lo hi))
  | _, _, _ => .bad
def eSl (fe : DSt -> R D) (fl fh : DSt -> R (Option Int)) : DSt -> R D := fun Z => (fe Z).bind fun d => (fl Z).bind fun lo => (fh Z).bind fun hi => gSl d lo hi
theorem Reps.cut {ds : List D} {vs : List V} (h : Reps K mg G ds vs) (lo hi : Option Int) : Reps K mg G (cutD ds lo hi) (cutV vs lo hi) := by
  unfold cutD cutV
  rw [h.length]
  exact (h.drop _).take _
theorem de_sl {fe : DSt -> R D} {lo hi : Option Expr} {fl fh : DSt -> R (Option Int)} {p2 : Pos} (he : DE X E e fe) (hl : DO X E lo fl) (hh : DO X E hi fh) : DE X E (.Subscript e (.Slice lo hi none p2) pos) (eSl fe fl fh) := by
  refine PE.mono' (pe_slice (sl_list.or sl_tup) he hl hh) fun Z H Q ⟨G, Zd, ok, q⟩ => ?_
  refine tE_then (P := After X.K X.mg Q) ok q fun d v G1 H1 s1 ok1 r1 q1 => ?_
  refine ⟨G1, Zd, ok1, q1.of_bind.mono (fun l _ q2 G2 H2 s2 => ?_) fun _ z => z⟩
  refine ⟨G2, Zd, ok1.step s2, q2.of_bind.mono (fun u _ q3 G3 H3 s3 => ?_) fun _ z => z.step s2⟩
  have s := (s1.trans s2).trans s3
  have r3 := r1.mono (s2.g.trans s3.g)
  cases d with
  | lst xs =>
    obtain ⟨a, vs, rfl, h1, h2⟩ := r3
    refine .inl ⟨a, vs, rfl, s3.e.seq h1, fun pp hp => ?_⟩
    have sp := Step.pub (o := .lst (cutV vs l u)) s3.e hp
    exact (show After X.K X.mg Q G H (.lst (cutD xs l u)) from q3) _ _ _ (s.trans sp) ⟨pp, _, rfl, SqL.of upd_same, (h2.cut l u).mono sp.g⟩
  | tup xs =>
    obtain ⟨a, vs, rfl, h1, h2⟩ := r3
    cases hw : isWhole xs l u with
    | true => simp only [gSl, hw, cond_true] at q3; exact q3.elim
    | false =>
      simp only [gSl, hw, cond_false] at q3
      refine .inr ⟨a, vs, rfl, Same.sqT s3.e h1, by rw [<- h2.length]; exact of_decide_eq_false hw, fun pp hp => ?_⟩
      have sp := Step.pub (o := .tup (cutV vs l u)) s3.e hp
      exact (show After X.K X.mg Q G H (.tup (cutD xs l u)) from q3) _ _ _ (s.trans sp) ⟨pp, _, rfl, SqT.of upd_same, (h2.cut l u).mono sp.g⟩
  | _ => exact (show False from q3).elim
end
def sRaise (c : Str) (fs : DSt -> R (List D)) : DSt -> R Out := fun Z => (fs Z).bind fun ds => bif few ds.length then .err (.exc c []) else .bad
section
variable {P : Program} {w : World} {K : xFg} {mg : Str -> Option Value} {base : Heap} {N : List Str} {qual : Str} {scope : Scope} {f : Addr} {cdv : Value} {A : Around} {outer : List Env} {s0 : Shared} {H0 : Hp} {E : XK} {own own' ol : List Nat}
theorem ds_raise {x : Str} {C : Addr} {e0 : Expr} {rest : List Expr} {np cpos pos : Pos} {fs : DSt -> R (List D)} (q : PySem.W.excIn K C [.type "ValueError", .type "Exception", .type "BaseException", .type "object"] "ValueError.__new__" = true) (hx : XcOk K mg x C)
    (ha : DA (cxOf (CXe P w) P w K mg base N qual scope f cdv A outer s0 H0 E) E (e0 :: rest) fs) (hg : Gl (cxOf (CXe P w) P w K mg base N qual scope f cdv A outer s0 H0 E) x := by rfl)
    (hdb : (x == ("__debug__" : Str)) = false := by decide)
    (he : starEach (e0 :: rest) (envOfC qual scope s0.heap.objs.size f cdv) = (false, eval e0 (envOfC qual scope s0.heap.objs.size f cdv)) :: starEach rest (envOfC qual scope s0.heap.objs.size f cdv) := by rfl)
    (hpl : (backTo cpos (starEach rest (envOfC qual scope s0.heap.objs.size f cdv))).any (·.1) = false := by rfl) :
    DS (cxOf (CXe P w) P w K mg base N qual scope f cdv A outer s0 H0 E) E own own' ol (.Raise (some (.Call (.Name x np) (e0 :: rest) [] cpos)) none pos) (sRaise x fs) := fun G0 =>
  PS.mono' (ps_raise q hg hx.here ha hdb he hpl) fun Dn Z H ⟨G, Zd, ok, s1, z⟩ => by
  have sp := ok.pubStep s1
  refine ⟨_, Zd, ok.pub.1, z.of_bind.mono (fun ds _ z vs G' H' s r => ?_) fun _ z => z.step sp⟩
  cases hf : few ds.length with
  | false => rw [hf] at z; exact (show False from z).elim
  | true =>
    rw [hf] at z
    refine ⟨by rw [<- r.length]; exact few_le hf, ?_⟩
    exact (show AfterX K mg E G0 H0 (.exc x []) from z) G' H' C none (sp.trans s) ⟨x, [], [], rfl, hx, .inl ⟨rfl, rfl⟩, Reps.nil⟩
end
def sRaise1 (c : Str) : DSt -> R Out := fun _ => .err (.exc c [])
theorem ds_raise1 {P : Program} {w : World} {K : xFg} {mg : Str -> Option Value} {base : Heap} {N : List Str} {qual : Str} {scope : Scope} {f : Addr} {cdv : Value} {A : Around} {outer : List Env} {s0 : Shared} {H0 : Hp} {E : XK} {own own' ol : List Nat} {x t : Str} {C : Addr} {np cpos pos tp : Pos} {j} (q : PySem.W.excIn K C [.type "ValueError", .type "Exception", .type "BaseException", .type "object"] "ValueError.__new__" = true) (hx : XcOk K mg x C)
    (hg : Gl (cxOf (CXe P w) P w K mg base N qual scope f cdv A outer s0 H0 E) x := by rfl) (hdb : (x == ("__debug__" : Str)) = false := by decide) :
    DS (cxOf (CXe P w) P w K mg base N qual scope f cdv A outer s0 H0 E) E own own' ol (.Raise (some (.Call (.Name x np) [.Constant (.str t) j tp] [] cpos)) none pos) (sRaise1 x) :=
  ds_raise (fs := aCons (eC (.str t)) aNil) q hx (da_cons de_str da_nil) hg hdb
section
variable (K : xFg) (mg : Str -> Option Value)
def tSX (G0 H0 : Hp) (f : DSt -> R Out) : TSX := fun Dn E Z H => ∃ G Zd, Ok0 K mg Zd Z G H /\ Step G0 H0 G H /\ RW (f Zd) (OutW K mg G0 H0 [] [] Dn G) (AfterX K mg E G H)
end
def DSX (X : Cx) (st : Stmt) (f : DSt -> R Out) : Prop := ∀ G0, PSX X (CXe X.prog X.w) st (tSX X.K X.mg G0 X.H₀ f)
def DSXs (X : Cx) (st : List Stmt) (f : DSt -> R Out) : Prop := ∀ G0, PSXs X (CXe X.prog X.w) st (tSX X.K X.mg G0 X.H₀ f)
theorem PSX.mono' {X : Cx} {CX : CXT} {st : Stmt} {t t' : TSX} (h : PSX X CX st t) (m : ∀ D E Z H, t' D E Z H -> t D E Z H) : PSX X CX st t' := fun pins s Z H D E I q => h pins s Z H D E I (m D E Z H q)
section
variable {X : Cx} {ol : List Nat} {k : Nat} {x y : Str} {m : List D -> R D} {p pos cpos npos : Pos} {e : Expr} {es : List Expr} {fs : DSt -> R (List D)} {f g : DSt -> R Out}
theorem dsxs_one {st : Stmt} (h : DSX X st f) : DSXs X [st] f := fun G0 => psxs_one (h G0)
def xCallD (m : List D -> R D) (fs : DSt -> R (List D)) : DSt -> R D := fun Z => (fs Z).noerr.bind m
theorem xCall_of {G0 G H : Hp} {Zd : DSt} {Z : L2.St} {Q : VK} {E : XK} {S : D -> R Out} {PO : Out -> Prop} (ok : Ok0 X.K X.mg Zd Z G H) (q : RW ((xCallD m fs Zd).bind S) PO (AfterX X.K X.mg E G H))
    (h : ∀ d v G' H', Step G H G' H' -> Rep X.K X.mg G' d v -> RW (S d) PO (AfterX X.K X.mg E G H) -> Q v H') : xCall (spD X.K X.mg m) [] (tAr X.K X.mg E0 fs) Z H Q E := by
  obtain ⟨ds, e1, q⟩ := noerr_ok q.of_bind.of_bind
  refine ⟨G, Zd, ok, RW.ok_of e1 fun vs G' H' s r => ?_⟩
  show spD X.K X.mg m (vs ++ []) H' _ E
  rw [xbm]
  exact ⟨G', ds, s.e, r, q.mono (fun d _ z v G2 H2 s2 r2 => h d v G2 H2 (s.trans s2) r2 z) fun _ z => z.step s⟩
theorem dsx_call (hr : Room k X.A) (F : FnAt X.prog X.w X.K X.mg X.base k x m) (ha : DA X.nox E0 (e :: es) fs) (hg : Gl X x := by rfl) (hdb : (x == ("__debug__" : Str)) = false := by decide)
    (he : starEach (e :: es) X.env = (false, eval e X.env) :: starEach es X.env := by rfl) (hpl : (backTo cpos (starEach es X.env)).any (·.1) = false := by rfl) (hs : swapsWith (.Call (.Name x p) (e :: es) [] cpos) none pos.line X.env = pure false := by rfl) :
    DSX X (.Expr (.Call (.Name x p) (e :: es) [] cpos) pos) (sExpr (xCallD m fs)) := fun G0 => by
  obtain ⟨fa, fd, ps, h1, h2, h3, h4⟩ := F.ex
  refine PSX.mono' (psx_expr (pex_call (dvs := []) (ds := []) h1 hr hg h2 h3 h4 .nil ha hdb he hpl) hs) fun Dn E Z H ⟨G, Zd, ok, s0, q⟩ => ?_
  exact xCall_of (G0 := G0) ok q fun d v G' H' s r z => (show OutW X.K X.mg G0 X.H₀ [] [] Dn G (.nx Zd) from z) Z G' H' (.zero (ok.step s)) (s0.trans s) s.g
def sTry (i : Nat) (c : Str) (body hnd : DSt -> R Out) : DSt -> R Out := fun Z => match body Z with
  | .ok o => .ok o
  | .err (.exc cc as) => bif subX cc c == some true then (hnd (Z.set i (some (.exc cc as)))).noerr.bind fun o => match o with
      | .nx Z' => .ok (.nx (Z'.set i none))
      | _ => .bad
    else .bad
  | _ => .bad
theorem Ok.unset {K : xFg} {mg : Str -> Option Value} {H0 G H : Hp} {Zd : DSt} {Z : L2.St} {i : Nat} {own : List Nat} (o : Ok K mg H0 own Zd Z G H) (hi : i ∉ own) : Ok K mg H0 own (Zd.set i none) (Z.set i none) G H := by
  have back : ∀ {j : Nat} {d : D}, (Zd.set i none)[j]? = some (some d) -> j ≠ i /\ Zd[j]? = some (some d) := fun {j d} q => by
    by_cases hj : j = i
    · subst hj
      have hl : j < Zd.length := by have := (xab.mp q).1; simpa using this
      rw [xas hl] at q; cases q
    · rw [xae (xay hj)] at q; exact ⟨hj, q⟩
  refine ⟨o.ext, by simp [o.len], fun j d hj q => ?_, fun j d hj q => ?_, fun j l a d1 d2 h1 h2 h3 h4 h5 h6 => ?_⟩
  · obtain ⟨hj', q'⟩ := back q
    rw [xae (xay hj')]; exact o.val j d hj q'
  · obtain ⟨hj', q'⟩ := back q
    rw [xae (xay hj')]; exact o.mine j d hj q'
  · obtain ⟨hj', q3⟩ := back h3
    obtain ⟨hl', q4⟩ := back h4
    rw [xae (xay hj')] at h5
    rw [xae (xay hl')] at h6
    exact o.dj j l a d1 d2 h1 h2 q3 q4 h5 h6
theorem ds_try (i : Nat) {E : XK} {body : List Stmt} {c n : Str} {np hpos : Pos} {b0 : Stmt} {suite : List Stmt} {Dc : Addr} (hst : X.stack = X.env :: X.outer) (hf : X.env.frame = some X.env.locals) (hN : X.N.Nodup)
    (hm : X.mg c = some (.ref Dc)) (hb : DSXs X body f) (hh : ∀ x, DSs (hdl X x) E0 [] [] [] (b0 :: suite) g) (hi : X.N[i]? = some n := by rfl) (hn : X.env.scope.names.lookup n = some .local := by rfl) (hg : Gl X c := by rfl)
    (hdb : (c == ("__debug__" : Str)) = false := by decide) : DS X E [] [] [] (.Try body [.ExceptHandler (some (.Name c np)) (some n) (b0 :: suite) hpos] [] [] pos) (sTry i c f g) := fun G0 =>
  PS.mono' (ps_try (th := tS X.K X.mg E0 G0 X.H₀ [] [] [] g) hst hf hN hi hn hg hm (hb G0) (fun x => hh x G0) hdb) fun Dn Z H ⟨G, Zd, ok, s0, q⟩ => by
  have ok0 : Ok0 X.K X.mg Zd Z G H := by have := ok.masked; rw [mask_nil] at this; exact this
  unfold sTry at q
  cases hbd : f Zd with
  | bad => rw [hbd] at q; exact (show False from q).elim
  | ok o =>
    rw [hbd] at q
    exact ⟨fun _ _ _ => False, ⟨G, Zd, ok0, s0, RW.ok_of hbd q⟩, fun C dct H' x z => z.elim⟩
  | err ex =>
    rw [hbd] at q
    cases ex with
    | exc cc as =>
      cases hsub : (subX cc c == some true) with
      | false => simp only [hsub, cond_false] at q; exact q.elim
      | true =>
        simp only [hsub, cond_true] at q
        obtain ⟨o, ho1, q⟩ := noerr_ok q.of_bind
        refine ⟨fun cv dct H' => ∃ C G', cv = .ref C /\ Step G H G' H' /\ ExcR X.K X.mg G' (.exc cc as) C dct, ⟨G, Zd, ok0, s0, ?_⟩, ?_⟩
        · rw [hbd]
          exact fun G' H' C dct s r => ⟨C, G', rfl, s, r⟩
        · rintro C dct H' x ⟨C', G', e1, s', hr⟩ nx
          cases e1
          obtain ⟨c2, as2, vs, e2, hxc, hd, hrs⟩ := hr
          cases e2
          refine ⟨hxc.ctc c Dc (eq_of_beq hsub) hm, ?_⟩
          have sp := Step.pub (o := excO x C dct) s'.e nx
          have st := s'.trans sp
          refine ⟨_, Zd.set i (some (.exc cc as)), .zero ((ok0.step st).set ⟨x, C, dct, vs, rfl, upd_same, hxc, hd.mono sp.g, hrs.mono sp.g⟩), s0.trans st, RW.ok_of ho1 ?_⟩
          cases o with
          | nx Z1 =>
            have q' : OutW X.K X.mg G0 X.H₀ [] [] Dn G (.nx (Z1.set i none)) := q
            exact fun Z2 G2 H2 ok2 s2 e2 => q' _ G2 H2 (ok2.unset (by simp)) s2 (st.g.trans e2)
          | _ => exact (show False from q).elim
    | _ => exact (show False from q).elim
end
end DL
namespace DL
open L2 PyProof.Rows
theorem fnM_go {n nN : Nat} {b : DSt -> R Out} {ds : List D} {Z : DSt} (hl : ds.length = n) (hs : startD nN ds = Z) : fnM n nN b ds = fin (b Z) := by
  subst hl; subst hs; unfold fnM; rw [beq_self_eq_true]; rfl
theorem XC.nox {X : Cx} {E : XK} {k : Nat} (C : XC X E k) : XC X.nox E0 k := ⟨C.calm, C.room, passN⟩
theorem de_k {X : Cx} {E : XK} {x : Str} {d : D} {pos : Pos} (h : ∃ u v, X.mg x = some u /\ RelV v u /\ ∀ G, Rep X.K X.mg G d v) (hg : Gl X x := by rfl) (hd : (x == ("__debug__" : Str)) = false := by decide) : DE X E (.Name x pos) (eC d) := by
  obtain ⟨u, v, h1, h2, h3⟩ := h
  exact de_glob h1 h2 h3 hg hd
section
variable {K : xFg} {mg : Str -> Option Value}
def subB (c d : Str) : Bool := c == d || d == "ChalkError"
def XcRow (K : xFg) (mg : Str -> Option Value) (C : Addr) (d : Str) (b : Bool) : Prop :=
  (∀ D, mg d = some (.ref D) -> PySem.W.kitOne K (.ref C) (.ref D) = some b) /\ (b = true -> ∀ D, mg d = some (.ref D) -> PySem.W.exmOne K (.ref C) (.ref D) = some true)
theorem XcOk.mk' {c : Str} {C : Addr} (here : mg c = some (.ref C)) (exc : ExcC K C) (val : PySem.W.kitOne K (.ref C) (.type "ValueError") = some true) (rows : ∀ d ∈ clsNames, XcRow K mg C d (subB c d)) : XcOk K mg c C := by
  have sub : ∀ d b, subX c d = some b -> d ∈ clsNames /\ b = subB c d := fun d b h => by
    unfold subX at h
    cases hc : (clsNames.contains c && clsNames.contains d) with
    | false => rw [hc] at h; cases h
    | true =>
      rw [hc] at h
      have h' : some (c == d || d == "ChalkError") = some b := h
      rw [xau] at hc
      exact ⟨by simpa using hc.2, by cases h'; rfl⟩
  refine ⟨here, exc, fun d Dd b h hd => ?_, val, fun d Dd h hd => ?_⟩
  · obtain ⟨h1, rfl⟩ := sub d b h
    exact (rows d h1).1 Dd hd
  · obtain ⟨h1, h2⟩ := sub d true h
    exact (rows d h1).2 h2.symm Dd hd
theorem XcRow.of {C D0 : Addr} {d : Str} {b : Bool} (h : mg d = some (.ref D0)) (t : PySem.W.kitOne K (.ref C) (.ref D0) = some b) (u : b = true -> PySem.W.exmOne K (.ref C) (.ref D0) = some true) : XcRow K mg C d b :=
  ⟨fun D hD => by rw [h] at hD; cases hD; exact t, fun hb D hD => by rw [h] at hD; cases hD; exact u hb⟩
theorem XcRow.no {C : Addr} {d : Str} {b : Bool} (h : mg d = none) : XcRow K mg C d b := ⟨fun D hD => (by rw [h] at hD; cases hD), fun _ D hD => (by rw [h] at hD; cases hD)⟩
end
section
variable {P : Program} {w : World} {K : xFg} {mg : Str -> Option Value} {base : Heap}
theorem fnOk_mk {x qual : Str} {st : Stmt} {f : Addr} {fd : FuncData} {N ps : List Str} {k n nN : Nat} {own' : List Nat} {body : DSt -> R Out} (F : Fun K x qual st f fd) (S : FnScope N ps (defScope st))
    (hn : ps.length = n) (hN : N.length = nN)
    (hb : ∀ (X : Cx) (E : XK), (∃ cdv A outer s H, X = cxOf (CXe P w) P w K mg base N qual (defScope st) f cdv A outer s H E) -> XC X E k -> XL X -> DSs X E [] own' [] (defBody st) body) : FnOk P w K mg base (CXe P w) (k + 1) f fd ps (spD K mg (fnM n nN body)) := by
  refine F.okX S (fun vs H Q E h => ?_) (fun cdv A outer s H vs Q E hr hsp => ?_)
  · obtain ⟨G, ds, e, r, q⟩ := h
    by_cases hd : ds.length = n
    · rw [<- r.length, hd, hn]
    · have : (ds.length == n) = false := by simpa using hd
      unfold fnM at q
      rw [this] at q
      exact (show False from q).elim
  · obtain ⟨G, ds, e, r, q⟩ := hsp
    have hd : ds.length = n := by
      by_cases hd : ds.length = n
      · exact hd
      · have : (ds.length == n) = false := by simpa using hd
        unfold fnM at q
        rw [this] at q
        exact (show False from q).elim
    unfold fnM at q
    rw [show (ds.length == n) = true by simpa using hd] at q
    have q' : RW (fin (body (startD nN ds))) (After K mg Q G H) (AfterX K mg E G H) := q
    refine ⟨_, hb _ E ⟨cdv, A, outer, s, H, rfl⟩ ⟨rfl, hr, passE⟩ ⟨PassesOwn.leaving⟩ G, G, startD nN ds, ?_, .refl e, ?_⟩
    · have := Reps.startOk e (N.length - vs.length) r
      unfold L2.start startD
      rw [<- hN, r.length]
      exact .zero this
    · cases hbd : body (startD nN ds) with
      | bad => rw [hbd] at q'; exact q'
      | err e => rw [hbd] at q'; exact q'
      | ok o =>
        rw [hbd] at q'
        cases o with
        | rt d => exact fun v G' H' s r => (show After K mg Q G H d from q') v G' H' s r
        | rf es =>
          intro a vs G' H' s n e g r
          have q2 : After K mg Q G H (.lst es) := q'
          have sg : Same G' (upd G' a (.lst vs)) := same_upd g
          refine q2 (.ref a) (upd G' a (.lst vs)) H' ⟨s.g.trans sg, s.h, fun b u p => ?_, fun b u p1 p2 => ?_⟩ ⟨a, vs, rfl, SqL.of upd_same, r.mono sg⟩
          · by_cases hb : b = a
            · subst hb; rw [upd_same] at p; cases p; exact e
            · rw [upd_ne hb] at p; exact s.e b u p
          · have hb : b ≠ a := ne_of_none p1 n
            rw [upd_ne hb]; exact s.c b u p1 p2
        | nx Z => exact fun Z' G' H' ok s _ => (show After K mg Q G H .non from q') .non G' H' s rfl
        | bk Z => exact (show False from q').elim
        | ct Z => exact (show False from q').elim
def spLaw (K : xFg) : Sp := fun vs H Q _ => ∃ (a : Addr) (ns : List Int), vs = [.ref a] /\ SqL K H a (ns.map V.int) /\ ns.length <= 63 /\ ∀ H', Q (.bl true) H'
theorem law_of {k : Nat} {f : Addr} {fd : FuncData} {m : List D -> R D} (F : FnOk P w K mg base (CXe P w) k f fd ["_law_script"] (spD K mg m)) (hm : ∀ ns : List Int, ns.length <= 63 -> m [.lst (ns.map .int)] = .ok (.bl true)) :
    FnOk P w K mg base (CXe P w) k f fd ["_law_script"] (spLaw K) := F.imp fun vs H Q E h => by
  obtain ⟨a, ns, rfl, hS, hl, q⟩ := h
  refine ⟨H, [.lst (ns.map .int)], Same.refl _, Reps.cons ⟨a, _, rfl, hS, Reps.ints ns⟩ Reps.nil, RW.ok_of (hm ns hl) fun v G' H' s r => ?_⟩
  cases r; exact q H'
end
theorem walkD {l : PySem.W.OpenLaw} {q : Program} {loose : List Str} {XP : (Str -> Option Value) -> Heap -> Prop} {YP : World -> Heap -> Prop} {d : DefRec} {K : Params -> xFg} (k : Nat) (hr : Room k callerA) (hn : l.most = some 63) (hdf : d.params.defaults = [])
    (hY : ∀ (w : World) (h : Heap), YP w h -> (K w.params).In h)
    (F : ∀ (w : World) (mg : Str -> Option Value) (fa : Addr) (h : Heap), (K w.params).In h -> h.Ns mainGlobals mg -> mg d.name = some (.ref fa) ->
      ∃ fd : FuncData, (∀ (s : Shared) (u : Value), BindsTo s fd ⟨[u], []⟩ [("_law_script", u)]) /\ ∀ base : Heap, (K w.params).In base -> base.Ns mainGlobals mg -> FnOk l.prog w (K w.params) mg base (CXe l.prog w) k fa fd ["_law_script"] (spLaw (K w.params))) :
    PySem.W.WalkO q loose XP YP l.row.toRowW d [] (fun f vs => PySem.call f vs) :=
  L2.walk_of (n := 63) (k := k) (x := "_law_script") (CX := fun w => CXe l.prog w) (sp := fun w => spLaw (K w.params)) hn (by decide) hdf hr hY F (fun _ _ a ns hl _ hS => ⟨a, ns, rfl, hS, hl, fun _ => rfl⟩) fun w H s e s' z => by
    obtain ⟨_, _, _, _, _, _, _, _, _, _, _, _, _, z⟩ := z
    exact z.elim
end DL
namespace DL
open L2
def seqK (r : R Out) (g : DSt -> R Out) : R Out := r.bind fun o => match o with
  | .nx Z' => g Z'
  | o => .ok o
theorem sSeq_def (f g : DSt -> R Out) (Z : DSt) : sSeq f g Z = seqK (f Z) g := rfl
theorem seqK_nx (Z : DSt) (g : DSt -> R Out) : seqK (.ok (.nx Z)) g = g Z := rfl
theorem seqK_rt (d : D) (g : DSt -> R Out) : seqK (.ok (.rt d)) g = .ok (.rt d) := rfl
theorem seqK_bk (Z : DSt) (g : DSt -> R Out) : seqK (.ok (.bk Z)) g = .ok (.bk Z) := rfl
theorem seqK_ct (Z : DSt) (g : DSt -> R Out) : seqK (.ok (.ct Z)) g = .ok (.ct Z) := rfl
theorem seqK_err (e : D) (g : DSt -> R Out) : seqK (.err e) g = .err e := rfl
theorem sNext_def (Z : DSt) : sNext Z = .ok (.nx Z) := rfl
theorem eVar_zero (d : D) (Z : DSt) : eVar 0 (some d :: Z) = .ok d := rfl
theorem eVar_succ (n : Nat) (x : Option D) (Z : DSt) : eVar (n + 1) (x :: Z) = eVar n Z := rfl
theorem eC_def (d : D) (Z : DSt) : eC d Z = .ok d := rfl
def opK (g : D -> D -> R D) (a b : R D) : R D := a.bind fun x => b.bind fun y => g x y
theorem eOp_def (g : D -> D -> R D) (fa fb : DSt -> R D) (Z : DSt) : eOp g fa fb Z = opK g (fa Z) (fb Z) := rfl
theorem opK_ok (g : D -> D -> R D) (x y : D) : opK g (.ok x) (.ok y) = g x y := rfl
def unK (g : D -> R D) (a : R D) : R D := a.bind g
theorem eUn_def (g : D -> R D) (fa : DSt -> R D) (Z : DSt) : eUn g fa Z = unK g (fa Z) := rfl
theorem unK_ok (g : D -> R D) (x : D) : unK g (.ok x) = g x := rfl
def callK (m : List D -> R D) (a : R (List D)) : R D := a.bind m
theorem eCall_def (m : List D -> R D) (fs : DSt -> R (List D)) (Z : DSt) : eCall m fs Z = callK m (fs Z) := rfl
theorem callK_ok (m : List D -> R D) (ds : List D) : callK m (.ok ds) = m ds := rfl
theorem callK_err (m : List D -> R D) (e : D) : callK m (.err e) = .err e := rfl
def xcallK (m : List D -> R D) (a : R (List D)) : R D := a.noerr.bind m
theorem xCallD_def (m : List D -> R D) (fs : DSt -> R (List D)) (Z : DSt) : xCallD m fs Z = xcallK m (fs Z) := rfl
theorem xcallK_ok (m : List D -> R D) (ds : List D) : xcallK m (.ok ds) = m ds := rfl
def bltK (g : List D -> R D) (a : R (List D)) : R D := a.bind fun ds => (g ds).noerr
theorem eBlt_def (g : List D -> R D) (fs : DSt -> R (List D)) (Z : DSt) : eBlt g fs Z = bltK g (fs Z) := rfl
theorem bltK_ok (g : List D -> R D) (ds : List D) : bltK g (.ok ds) = (g ds).noerr := rfl
def bltFK (g : List D -> R (List D)) (a : R (List D)) : R (List D) := a.bind fun ds => (g ds).noerr
theorem eBltF_def (g : List D -> R (List D)) (fs : DSt -> R (List D)) (Z : DSt) : eBltF g fs Z = bltFK g (fs Z) := rfl
theorem bltFK_ok (g : List D -> R (List D)) (ds : List D) : bltFK g (.ok ds) = (g ds).noerr := rfl
theorem noerr_okk {α : Type} (a : α) : (R.ok a).noerr = .ok a := rfl
theorem aNil_def (Z : DSt) : aNil Z = .ok [] := rfl
def consK (a : R D) (b : R (List D)) : R (List D) := a.bind fun x => b.bind fun xs => .ok (x :: xs)
theorem aCons_def (fa : DSt -> R D) (fs : DSt -> R (List D)) (Z : DSt) : aCons fa fs Z = consK (fa Z) (fs Z) := rfl
theorem consK_ok (x : D) (xs : List D) : consK (.ok x) (.ok xs) = .ok (x :: xs) := rfl
theorem consK_err (e : D) (b : R (List D)) : consK (.err e) b = .err e := rfl
def tupK (a : R (List D)) : R D := a.bind fun ds => bif few ds.length then .ok (.tup ds) else .bad
theorem eTup_def (fs : DSt -> R (List D)) (Z : DSt) : eTup fs Z = tupK (fs Z) := rfl
theorem tupK_0 : tupK (.ok []) = .ok (.tup []) := rfl
theorem tupK_1 (a : D) : tupK (.ok [a]) = .ok (.tup [a]) := rfl
theorem tupK_2 (a b : D) : tupK (.ok [a, b]) = .ok (.tup [a, b]) := rfl
theorem tupK_3 (a b c : D) : tupK (.ok [a, b, c]) = .ok (.tup [a, b, c]) := rfl
theorem tupK_4 (a b c d : D) : tupK (.ok [a, b, c, d]) = .ok (.tup [a, b, c, d]) := rfl
theorem tupK_5 (a b c d e : D) : tupK (.ok [a, b, c, d, e]) = .ok (.tup [a, b, c, d, e]) := rfl
theorem tupK_6 (a b c d e f : D) : tupK (.ok [a, b, c, d, e, f]) = .ok (.tup [a, b, c, d, e, f]) := rfl
theorem tupK_9 (a b c d e f g h i : D) : tupK (.ok [a, b, c, d, e, f, g, h, i]) = .ok (.tup [a, b, c, d, e, f, g, h, i]) := rfl
def lstK (a : R (List D)) : R (List D) := a.bind fun ds => bif few ds.length then .ok ds else .bad
theorem eLst_def (fs : DSt -> R (List D)) (Z : DSt) : eLst fs Z = lstK (fs Z) := rfl
theorem lstK_0 : lstK (.ok []) = .ok [] := rfl
theorem lstK_1 (a : D) : lstK (.ok [a]) = .ok [a] := rfl
theorem lstK_2 (a b : D) : lstK (.ok [a, b]) = .ok [a, b] := rfl
theorem lstK_3 (a b c : D) : lstK (.ok [a, b, c]) = .ok [a, b, c] := rfl
theorem lstK_4 (a b c d : D) : lstK (.ok [a, b, c, d]) = .ok [a, b, c, d] := rfl
theorem lstK_5 (a b c d e : D) : lstK (.ok [a, b, c, d, e]) = .ok [a, b, c, d, e] := rfl
theorem lstK_6 (a b c d e f : D) : lstK (.ok [a, b, c, d, e, f]) = .ok [a, b, c, d, e, f] := rfl
def vlstK (a : R (List D)) : R D := a.bind fun ds => .ok (.lst ds)
theorem vLst_def (fl : DSt -> R (List D)) (Z : DSt) : vLst fl Z = vlstK (fl Z) := rfl
theorem vlstK_ok (ds : List D) : vlstK (.ok ds) = .ok (.lst ds) := rfl
def testK (a : R D) : R Bool := a.bind asB
theorem eTest_def (f : DSt -> R D) (Z : DSt) : eTest f Z = testK (f Z) := rfl
theorem testK_bl (b : Bool) : testK (.ok (.bl b)) = .ok b := rfl
def andK (a : R Bool) (fb : DSt -> R Bool) (Z : DSt) : R Bool := a.bind fun k => bif k then fb Z else .ok false
theorem eAnd_def (fa fb : DSt -> R Bool) (Z : DSt) : eAnd fa fb Z = andK (fa Z) fb Z := rfl
theorem andK_t (fb : DSt -> R Bool) (Z : DSt) : andK (.ok true) fb Z = fb Z := rfl
theorem andK_f (fb : DSt -> R Bool) (Z : DSt) : andK (.ok false) fb Z = .ok false := rfl
def orK (a : R Bool) (fb : DSt -> R Bool) (Z : DSt) : R Bool := a.bind fun k => bif k then .ok true else fb Z
theorem eOr_def (fa fb : DSt -> R Bool) (Z : DSt) : eOr fa fb Z = orK (fa Z) fb Z := rfl
theorem orK_t (fb : DSt -> R Bool) (Z : DSt) : orK (.ok true) fb Z = .ok true := rfl
theorem orK_f (fb : DSt -> R Bool) (Z : DSt) : orK (.ok false) fb Z = fb Z := rfl
def notK (a : R Bool) : R Bool := a.bind fun k => .ok (!k)
theorem eNot_def (fa : DSt -> R Bool) (Z : DSt) : eNot fa Z = notK (fa Z) := rfl
theorem notK_ok (b : Bool) : notK (.ok b) = .ok (!b) := rfl
def vandK (a : R D) (fb : DSt -> R D) (Z : DSt) : R D := a.bind fun x => (asB x).bind fun k => bif k then fb Z else .ok (.bl false)
theorem vAnd_def (fa fb : DSt -> R D) (Z : DSt) : vAnd fa fb Z = vandK (fa Z) fb Z := rfl
theorem vandK_t (fb : DSt -> R D) (Z : DSt) : vandK (.ok (.bl true)) fb Z = fb Z := rfl
theorem vandK_f (fb : DSt -> R D) (Z : DSt) : vandK (.ok (.bl false)) fb Z = .ok (.bl false) := rfl
def vorK (a : R D) (fb : DSt -> R D) (Z : DSt) : R D := a.bind fun x => (asB x).bind fun k => bif k then .ok (.bl true) else fb Z
theorem vOr_def (fa fb : DSt -> R D) (Z : DSt) : vOr fa fb Z = vorK (fa Z) fb Z := rfl
theorem vorK_t (fb : DSt -> R D) (Z : DSt) : vorK (.ok (.bl true)) fb Z = .ok (.bl true) := rfl
theorem vorK_f (fb : DSt -> R D) (Z : DSt) : vorK (.ok (.bl false)) fb Z = fb Z := rfl
def vnotK (a : R D) : R D := a.bind fun x => (asB x).bind fun k => .ok (.bl !k)
theorem vNot_def (fa : DSt -> R D) (Z : DSt) : vNot fa Z = vnotK (fa Z) := rfl
theorem vnotK_ok (b : Bool) : vnotK (.ok (.bl b)) = .ok (.bl !b) := rfl
def eifK (c : R Bool) (fa fb : DSt -> R D) (Z : DSt) : R D := c.bind fun k => bif k then fa Z else fb Z
theorem eIf_def (c : DSt -> R Bool) (fa fb : DSt -> R D) (Z : DSt) : eIf c fa fb Z = eifK (c Z) fa fb Z := rfl
theorem eifK_t (fa fb : DSt -> R D) (Z : DSt) : eifK (.ok true) fa fb Z = fa Z := rfl
theorem eifK_f (fa fb : DSt -> R D) (Z : DSt) : eifK (.ok false) fa fb Z = fb Z := rfl
def ifK (c : R Bool) (f g : DSt -> R Out) (Z : DSt) : R Out := c.bind fun k => bif k then f Z else g Z
theorem sIf_def (c : DSt -> R Bool) (f g : DSt -> R Out) (Z : DSt) : sIf c f g Z = ifK (c Z) f g Z := rfl
theorem ifK_t (f g : DSt -> R Out) (Z : DSt) : ifK (.ok true) f g Z = f Z := rfl
theorem ifK_f (f g : DSt -> R Out) (Z : DSt) : ifK (.ok false) f g Z = g Z := rfl
def chainS (g g' : D -> D -> R D) (a b c : R D) : R D := a.bind fun x => b.bind fun y => (g x y).bind fun z => (asB z).bind fun k => bif k then c.bind fun w => g' y w else .ok (.bl false)
theorem eChain_def (g g' : D -> D -> R D) (fa fb fc : DSt -> R D) (Z : DSt) : eChain g g' fa fb fc Z = chainS g g' (fa Z) (fb Z) (fc Z) := rfl
theorem chain_ints (p q : Int -> Int -> Bool) (i j k : Int) : chainS (gB p) (gB q) (.ok (.int i)) (.ok (.int j)) (.ok (.int k)) = .ok (.bl (p i j && q j k)) := by
  show (bif p i j then R.ok (D.bl (q j k)) else R.ok (D.bl false)) = _
  cases p i j <;> rfl
def appK (i : Nat) (l : R (List D)) (a : R D) (Z : DSt) : R Out := l.bind fun ds => a.bind fun d => bif most ds.length then .ok (.nx (Z.set i (some (.lst (ds ++ [d]))))) else .bad
theorem sApp_def (own : List Nat) (i : Nat) (fe : DSt -> R D) (Z : DSt) : sApp own i fe Z = appK i (lstAt Z i) (fe (mask own Z)) Z := rfl
theorem most_of' {n : Nat} (h : n <= 1000000) : most n = true := xah (xbr h (by decide))
theorem appK_ok (i : Nat) (ds : List D) (d : D) (Z : DSt) (h : ds.length <= 1000000) : appK i (.ok ds) (.ok d) Z = .ok (.nx (Z.set i (some (.lst (ds ++ [d]))))) := by
  show (bif most ds.length then _ else _) = _
  rw [most_of' h]; rfl
def appPK (i : Nat) (l : R (List D)) (a : R D) (Z : DSt) : R Out := l.bind fun ds => a.bind fun d => bif most ds.length && imm d then .ok (.nx (Z.set i (some (.lst (ds ++ [d]))))) else .bad
theorem sAppP_def (i : Nat) (fe : DSt -> R D) (Z : DSt) : sAppP i fe Z = appPK i (lstAt Z i) (fe Z) Z := rfl
theorem appPK_ok (i : Nat) (ds : List D) (d : D) (Z : DSt) (h : ds.length <= 1000000) (h' : imm d = true) : appPK i (.ok ds) (.ok d) Z = .ok (.nx (Z.set i (some (.lst (ds ++ [d]))))) := by
  show (bif most ds.length && imm d then _ else _) = _
  rw [most_of' h, h']; rfl
theorem lstAt_zero (ds : List D) (Z : DSt) : lstAt (some (.lst ds) :: Z) 0 = .ok ds := rfl
theorem lstAt_succ (x : Option D) (Z : DSt) (n : Nat) : lstAt (x :: Z) (n + 1) = lstAt Z n := rfl
theorem mulB_le {i : Int} (h1 : -(10 ^ 100) <= i) (h2 : i <= 10 ^ 100) : mulB i = true := mulB_of (n := 400) (B.of (k := 10 ^ 100) (by omega))
theorem divB_le {i : Int} (h1 : -(10 ^ 100) <= i) (h2 : i <= 10 ^ 100) (h : i ≠ 0) : divB i = true := divB_of (n := 400) (B.of (k := 10 ^ 100) (by omega)) h
def retK (a : R D) : R Out := a.bind fun d => .ok (.rt d)
theorem sRet_def (fe : DSt -> R D) (Z : DSt) : sRet fe Z = retK (fe Z) := rfl
theorem retK_ok (d : D) : retK (.ok d) = .ok (.rt d) := rfl
theorem retK_err (e : D) : retK (.err e) = .err e := rfl
def exprK (a : R D) (Z : DSt) : R Out := a.bind fun _ => .ok (.nx Z)
theorem sExpr_def (fe : DSt -> R D) (Z : DSt) : sExpr fe Z = exprK (fe Z) Z := rfl
theorem exprK_ok (d : D) (Z : DSt) : exprK (.ok d) Z = .ok (.nx Z) := rfl
theorem exprK_err (e : D) (Z : DSt) : exprK (.err e) Z = .err e := rfl
def setK (i : Nat) (a : R D) (Z : DSt) : R Out := a.bind fun d => .ok (.nx (Z.set i (some d)))
theorem sSet0_def (i : Nat) (fe : DSt -> R D) (Z : DSt) : sSet0 i fe Z = setK i (fe Z) Z := rfl
theorem sSet_def (own : List Nat) (i : Nat) (fe : DSt -> R D) (Z : DSt) : sSet own i fe Z = setK i (fe (mask own Z)) Z := rfl
theorem setK_ok (i : Nat) (d : D) (Z : DSt) : setK i (.ok d) Z = .ok (.nx (Z.set i (some d))) := rfl
theorem setK_err (i : Nat) (e : D) (Z : DSt) : setK i (.err e) Z = .err e := rfl
def setPK (i : Nat) (a : R D) (Z : DSt) : R Out := a.bind fun d => bif imm d then .ok (.nx (Z.set i (some d))) else .bad
theorem sSetP_def (i : Nat) (fe : DSt -> R D) (Z : DSt) : sSetP i fe Z = setPK i (fe Z) Z := rfl
theorem setPK_ok (i : Nat) (d : D) (Z : DSt) (h : imm d = true) : setPK i (.ok d) Z = .ok (.nx (Z.set i (some d))) := by
  show (bif imm d then _ else _) = _
  rw [h]; rfl
def newK (i : Nat) (a : R (List D)) (Z : DSt) : R Out := a.bind fun ds => .ok (.nx (Z.set i (some (.lst ds))))
theorem sNew_def (own : List Nat) (i : Nat) (fe : DSt -> R (List D)) (Z : DSt) : sNew own i fe Z = newK i (fe (mask own Z)) Z := rfl
theorem newK_ok (i : Nat) (ds : List D) (Z : DSt) : newK i (.ok ds) Z = .ok (.nx (Z.set i (some (.lst ds)))) := rfl
def asgK (ks : List Nat) (gp : D -> R (List D)) (a : R D) (Z : DSt) : R Out := a.bind fun d => (gp d).noerr.bind fun us => .ok (.nx (setAll Z ks us))
theorem sAsg_def (own ks : List Nat) (gp : D -> R (List D)) (fe : DSt -> R D) (Z : DSt) : sAsg own ks gp fe Z = asgK ks gp (fe (mask own Z)) Z := rfl
theorem asgK_2t (i j : Nat) (a b : D) (Z : DSt) : asgK [i, j] (gpSeq 2) (.ok (.tup [a, b])) Z = .ok (.nx ((Z.set i (some a)).set j (some b))) := rfl
theorem asgK_2l (i j : Nat) (a b : D) (Z : DSt) : asgK [i, j] (gpSeq 2) (.ok (.lst [a, b])) Z = .ok (.nx ((Z.set i (some a)).set j (some b))) := rfl
theorem asgK_3t (i j k : Nat) (a b c : D) (Z : DSt) : asgK [i, j, k] (gpSeq 3) (.ok (.tup [a, b, c])) Z = .ok (.nx (((Z.set i (some a)).set j (some b)).set k (some c))) := rfl
theorem asgK_3l (i j k : Nat) (a b c : D) (Z : DSt) : asgK [i, j, k] (gpSeq 3) (.ok (.lst [a, b, c])) Z = .ok (.nx (((Z.set i (some a)).set j (some b)).set k (some c))) := rfl
def parK (i j : Nat) (a : R (List D)) (Z : DSt) : R Out := a.bind fun ds => match ds with
  | [a, b] => .ok (.nx ((Z.set i (some a)).set j (some b)))
  | _ => .bad
theorem sPar_def (own : List Nat) (i j : Nat) (fs : DSt -> R (List D)) (Z : DSt) : sPar own i j fs Z = parK i j (fs (mask own Z)) Z := rfl
theorem parK_ok (i j : Nat) (a b : D) (Z : DSt) : parK i j (.ok [a, b]) Z = .ok (.nx ((Z.set i (some a)).set j (some b))) := rfl
def raiseK (c : Str) (a : R (List D)) : R Out := a.bind fun ds => bif few ds.length then .err (.exc c []) else .bad
theorem sRaise_def (c : Str) (fs : DSt -> R (List D)) (Z : DSt) : sRaise c fs Z = raiseK c (fs Z) := rfl
theorem raiseK_1 (c : Str) (a : D) : raiseK c (.ok [a]) = .err (.exc c []) := rfl
theorem sRaise1_def (c : Str) (Z : DSt) : sRaise1 c Z = .err (.exc c []) := rfl
def tryK (i : Nat) (c : Str) (r : R Out) (hnd : DSt -> R Out) (Z : DSt) : R Out := match r with
  | .ok o => .ok o
  | .err (.exc cc as) => bif subX cc c == some true then (hnd (Z.set i (some (.exc cc as)))).noerr.bind fun o => match o with
      | .nx Z' => .ok (.nx (Z'.set i none))
      | _ => .bad
    else .bad
  | _ => .bad
theorem sTry_def (i : Nat) (c : Str) (body hnd : DSt -> R Out) (Z : DSt) : sTry i c body hnd Z = tryK i c (body Z) hnd Z := rfl
theorem tryK_ok (i : Nat) (c : Str) (o : Out) (hnd : DSt -> R Out) (Z : DSt) : tryK i c (.ok o) hnd Z = .ok o := rfl
def handK (i : Nat) (r : R Out) : R Out := r.noerr.bind fun o => match o with
  | .nx Z' => .ok (.nx (Z'.set i none))
  | _ => .bad
theorem handK_nx (i : Nat) (Z : DSt) : handK i (.ok (.nx Z)) = .ok (.nx (Z.set i none)) := rfl
theorem tryK_err (i : Nat) (c cc : Str) (as : List D) (hnd : DSt -> R Out) (Z : DSt) (h : subX cc c = some true) : tryK i c (.err (.exc cc as)) hnd Z = handK i (hnd (Z.set i (some (.exc cc as)))) := by
  show (bif subX cc c == some true then _ else _) = _
  rw [h]; rfl
theorem fin_rt (d : D) : fin (.ok (.rt d)) = .ok d := rfl
theorem fin_nx (Z : DSt) : fin (.ok (.nx Z)) = .ok .non := rfl
theorem fin_err (e : D) : fin (.err e) = .err e := rfl
theorem gAdd_ii (i j : Int) : gAdd (.int i) (.int j) = .ok (.int (i + j)) := rfl
theorem gSub_ii (i j : Int) : gSub (.int i) (.int j) = .ok (.int (i - j)) := rfl
theorem gMul_ii (i j : Int) (hi : mulB i = true) (hj : mulB j = true) : gMul (.int i) (.int j) = .ok (.int (i * j)) := by
  show (bif mulB i && mulB j then _ else _) = _
  rw [hi, hj]; rfl
theorem gFdiv_pos (i j : Int) (h : divB j = true) (h0 : 0 < j) : gFdiv (.int i) (.int j) = .ok (.int (i / j)) := by
  show (bif divB j then R.ok (D.int (i.fdiv j)) else .bad) = _
  rw [h, Int.fdiv_eq_ediv_of_nonneg _ (Int.le_of_lt h0)]; rfl
theorem gFdiv_ii (i j : Int) (h : divB j = true) : gFdiv (.int i) (.int j) = .ok (.int (i.fdiv j)) := by
  show (bif divB j then _ else _) = _
  rw [h]; rfl
theorem gMod_pos (i j : Int) (h0 : 0 < j) : gMod (.int i) (.int j) = .ok (.int (i % j)) := by
  have : decide (j ≠ 0) = true := xah (by omega)
  show (bif decide (j ≠ 0) then R.ok (D.int (i.fmod j)) else .bad) = _
  rw [this, Int.fmod_eq_emod_of_nonneg _ (Int.le_of_lt h0)]; rfl
theorem gPow_ii (i j : Int) (h : powB i j = true) : gPow (.int i) (.int j) = .ok (.int (i ^ j.toNat)) := by
  show (bif powB i j then _ else _) = _
  rw [h]; rfl
theorem gShr_ii (i j : Int) (h : 0 <= j) : gShr (.int i) (.int j) = .ok (.int (i / 2 ^ j.toNat)) := by
  show (bif decide (0 <= j) then _ else _) = _
  rw [xah h]; rfl
theorem gNeg_i (i : Int) : gNeg (.int i) = .ok (.int (-i)) := rfl
theorem gLt_ii (i j : Int) : gLt (.int i) (.int j) = .ok (.bl (decide (i < j))) := rfl
theorem gLe_ii (i j : Int) : gLe (.int i) (.int j) = .ok (.bl (decide (i <= j))) := rfl
theorem gGt_ii (i j : Int) : gGt (.int i) (.int j) = .ok (.bl (decide (j < i))) := rfl
theorem gGe_ii (i j : Int) : gGe (.int i) (.int j) = .ok (.bl (decide (j <= i))) := rfl
theorem gEq_of {a b : D} (h : cmp2 a b = true) : gEq a b = .ok (.bl (eqD a b)) := by unfold gEq; rw [h]; rfl
theorem gNe_of {a b : D} (h : cmp2 a b = true) : gNe a b = .ok (.bl (!eqD a b)) := by unfold gNe; rw [h]; rfl
theorem eqD_ii (i j : Int) : eqD (.int i) (.int j) = decide (i = j) := by unfold eqD; rfl
theorem gEq_ii (i j : Int) : gEq (.int i) (.int j) = .ok (.bl (decide (i = j))) := by rw [gEq_of rfl, eqD_ii]
theorem gNe_ii (i j : Int) : gNe (.int i) (.int j) = .ok (.bl (!decide (i = j))) := by rw [gNe_of rfl, eqD_ii]
theorem gEq_bb (i j : Bool) : gEq (.bl i) (.bl j) = .ok (.bl (i == j)) := by rw [gEq_of rfl]; unfold eqD; rfl
theorem gNe_bb (i j : Bool) : gNe (.bl i) (.bl j) = .ok (.bl (!(i == j))) := by rw [gNe_of rfl]; unfold eqD; rfl
abbrev t3 (x y z : Int) : D := .tup [.int x, .int y, .int z]
abbrev l3 (x y z : Int) : D := .lst [.int x, .int y, .int z]
theorem eqDs_ints : ∀ (ns ms : List Int), eqDs (ns.map D.int) (ms.map D.int) = decide (ns = ms)
  | [], [] => by unfold eqDs; rfl
  | [], _ :: _ => by unfold eqDs; rfl
  | _ :: _, [] => by unfold eqDs; rfl
  | n :: ns, m :: ms => by
    show eqDs (D.int n :: ns.map D.int) (D.int m :: ms.map D.int) = _
    unfold eqDs
    rw [eqDs_ints ns ms, eqD_ii, Bool.eq_iff_iff]
    simp
theorem eqD_t3 (a b c x y z : Int) : eqD (t3 a b c) (t3 x y z) = decide (a = x /\ b = y /\ c = z) := by
  have := eqDs_ints [a, b, c] [x, y, z]
  unfold eqD
  rw [show ([D.int a, .int b, .int c] : List D) = [a, b, c].map D.int from rfl, show ([D.int x, .int y, .int z] : List D) = [x, y, z].map D.int from rfl, this, Bool.eq_iff_iff]
  simp
theorem eqD_l3 (a b c x y z : Int) : eqD (l3 a b c) (l3 x y z) = decide (a = x /\ b = y /\ c = z) := by
  have := eqD_t3 a b c x y z
  unfold eqD at this ⊢
  exact this
theorem gEq_t3 (a b c x y z : Int) : gEq (t3 a b c) (t3 x y z) = .ok (.bl (decide (a = x /\ b = y /\ c = z))) := by rw [gEq_of rfl, eqD_t3]
theorem gNe_t3 (a b c x y z : Int) : gNe (t3 a b c) (t3 x y z) = .ok (.bl (!decide (a = x /\ b = y /\ c = z))) := by rw [gNe_of rfl, eqD_t3]
theorem gEq_l3 (a b c x y z : Int) : gEq (l3 a b c) (l3 x y z) = .ok (.bl (decide (a = x /\ b = y /\ c = z))) := by rw [gEq_of rfl, eqD_l3]
theorem gIs_bb (a b : Bool) : gIs (.bl a) (.bl b) = .ok (.bl (a == b)) := rfl
theorem gIsn_bb (a b : Bool) : gIsn (.bl a) (.bl b) = .ok (.bl (a != b)) := rfl
theorem gIs_non (d : D) : gIs d .non = .ok (.bl (isNon d)) := by cases d <;> rfl
theorem gIsn_non (d : D) : gIsn d .non = .ok (.bl (!isNon d)) := by cases d <;> rfl
theorem gIx_t3_0 (a b c : D) : gIx (.tup [a, b, c]) (.int 0) = .ok a := rfl
theorem gIx_t3_1 (a b c : D) : gIx (.tup [a, b, c]) (.int 1) = .ok b := rfl
theorem gIx_t3_2 (a b c : D) : gIx (.tup [a, b, c]) (.int 2) = .ok c := rfl
theorem gIx_l3_0 (a b c : D) : gIx (.lst [a, b, c]) (.int 0) = .ok a := rfl
theorem gIx_l3_1 (a b c : D) : gIx (.lst [a, b, c]) (.int 1) = .ok b := rfl
theorem gIx_l3_2 (a b c : D) : gIx (.lst [a, b, c]) (.int 2) = .ok c := rfl
theorem gIx_nat {xs : List D} {j : Nat} {d : D} (h : xs[j]? = some d) : gIx (.lst xs) (.int (j : Int)) = .ok d := by
  show (match atI xs (j : Int) with | some d => R.ok d | none => .bad) = _
  rw [atI_nat h]
theorem gLen_l (xs : List D) : gLen [.lst xs] = .ok (.int xs.length) := rfl
theorem gLen_t0 : gLen [.tup []] = .ok (.int 0) := rfl
theorem gLen_t1 (a : D) : gLen [.tup [a]] = .ok (.int 1) := rfl
theorem gLen_t2 (a b : D) : gLen [.tup [a, b]] = .ok (.int 2) := rfl
theorem gLen_t3 (a b c : D) : gLen [.tup [a, b, c]] = .ok (.int 3) := rfl
theorem gLen_t4 (a b c d : D) : gLen [.tup [a, b, c, d]] = .ok (.int 4) := rfl
theorem gAbs_i (i : Int) : gAbs [.int i] = .ok (.int (i.natAbs : Int)) := rfl
theorem gMin_ii (i j : Int) : gMin [.int i, .int j] = .ok (.int (min i j)) := rfl
theorem gMax_ii (i j : Int) : gMax [.int i, .int j] = .ok (.int (max i j)) := rfl
theorem gInt_b (b : Bool) : gInt [.bl b] = .ok (.int (if b then 1 else 0)) := rfl
theorem isi_int_int (i : Int) : g2 isi3 [.int i, .ty "int"] = .ok (.bl true) := rfl
theorem isi_int_bool (i : Int) : g2 isi3 [.int i, .ty "bool"] = .ok (.bl false) := rfl
theorem isi_bl_bool (i : Bool) : g2 isi3 [.bl i, .ty "bool"] = .ok (.bl true) := rfl
theorem isi_bl_int (i : Bool) : g2 isi3 [.bl i, .ty "int"] = .ok (.bl true) := rfl
theorem isi_tup_tup (xs : List D) : g2 isi3 [.tup xs, .ty "tuple"] = .ok (.bl true) := rfl
theorem isi_lst_lst (xs : List D) : g2 isi3 [.lst xs, .ty "list"] = .ok (.bl true) := rfl
theorem isi_lst_tup (xs : List D) : g2 isi3 [.lst xs, .ty "tuple"] = .ok (.bl false) := rfl
theorem isi_tup_lst (xs : List D) : g2 isi3 [.tup xs, .ty "list"] = .ok (.bl false) := rfl
theorem isi_exc {c d : Str} {b : Bool} (h : subX c d = some b) : g2 isi3 [.exc c [], .cls d] = .ok (.bl b) := by
  show (match subX c d with | some b => R.ok (D.bl b) | none => .bad) = _
  rw [h]
theorem isi_excV (c : Str) : g2 isi3 [.exc c [], .ty "ValueError"] = .ok (.bl true) := rfl
theorem rng1_i (j : Int) (h : rOk j = true) : rng1 [.int j] = .ok (rngD 0 j.toNat) := by
  show (bif rOk j then _ else _) = _
  rw [h]; rfl
theorem rng2_ii (i j : Int) (h : rOk i = true) (h' : rOk j = true) : rng2 [.int i, .int j] = .ok (rngD i (j - i).toNat) := by
  show (bif rOk i && rOk j then _ else _) = _
  rw [h, h']; rfl
theorem rOk_of {i : Int} (h : -1000000000 <= i) (h' : i <= 1000000000) : rOk i = true := by
  unfold rOk
  rw [Nat.blt_eq]
  omega
def argsK (g : List D -> R (List D)) (a : R (List D)) : R (List D) := a.bind g
theorem iArgs_def (g : List D -> R (List D)) (fs : DSt -> R (List D)) (Z : DSt) : iArgs g fs Z = argsK g (fs Z) := (rfl)
theorem argsK_ok (g : List D -> R (List D)) (ds : List D) : argsK g (.ok ds) = g ds := (rfl)
def seqKi (a : R D) : R (List D) := a.bind asSeq
theorem iSeq_def (f : DSt -> R D) (Z : DSt) : iSeq f Z = seqKi (f Z) := rfl
theorem seqKi_t (xs : List D) : seqKi (.ok (.tup xs)) = .ok xs := rfl
theorem seqKi_l (xs : List D) : seqKi (.ok (.lst xs)) = .ok xs := rfl
def forK (ks : List Nat) (gp : D -> R (List D)) (fb : DSt -> R Out) (a : R (List D)) (Z : DSt) : R Out := a.bind fun ds => forL ks gp fb ds Z
theorem sFor_def (own ks : List Nat) (gp : D -> R (List D)) (fi : DSt -> R (List D)) (fb : DSt -> R Out) (Z : DSt) : sFor own ks gp fi fb Z = forK ks gp fb (fi (mask own Z)) Z := rfl
theorem forK_ok (ks : List Nat) (gp : D -> R (List D)) (fb : DSt -> R Out) (ds : List D) (Z : DSt) : forK ks gp fb (.ok ds) Z = forL ks gp fb ds Z := rfl
def turnK (r : R Out) (k : DSt -> R Out) : R Out := r.bind fun o => match o with
  | .nx Z' => k Z'
  | .ct Z' => k Z'
  | .bk Z' => .ok (.nx Z')
  | .rt d => .ok (.rt d)
  | .rf d => .ok (.rf d)
theorem turnK_nx (Z : DSt) (k : DSt -> R Out) : turnK (.ok (.nx Z)) k = k Z := rfl
theorem turnK_ct (Z : DSt) (k : DSt -> R Out) : turnK (.ok (.ct Z)) k = k Z := rfl
theorem turnK_bk (Z : DSt) (k : DSt -> R Out) : turnK (.ok (.bk Z)) k = .ok (.nx Z) := rfl
theorem turnK_rt (d : D) (k : DSt -> R Out) : turnK (.ok (.rt d)) k = .ok (.rt d) := rfl
theorem turnK_err (d : D) (k : DSt -> R Out) : turnK (.err d) k = .err d := rfl
theorem forL_nil (ks : List Nat) (gp : D -> R (List D)) (fb : DSt -> R Out) (Z : DSt) : forL ks gp fb [] Z = .ok (.nx Z) := rfl
theorem forL_one (i : Nat) (fb : DSt -> R Out) (d : D) (ds : List D) (Z : DSt) : forL [i] gpOne fb (d :: ds) Z = turnK (fb (Z.set i (some d))) (forL [i] gpOne fb ds) := by
  show (fb (Z.set i (some d))).bind _ = _
  unfold turnK
  cases fb (Z.set i (some d)) with
  | ok o => cases o <;> rfl
  | err e => rfl
  | bad => rfl
theorem forL_inv {i : Nat} {fb : DSt -> R Out} (I : DSt -> Prop) : ∀ (ds : List D), (∀ d ∈ ds, ∀ Z, I Z -> ∃ Z', (fb (Z.set i (some d)) = .ok (.nx Z') \/ fb (Z.set i (some d)) = .ok (.ct Z')) /\ I Z') -> ∀ Z, I Z -> ∃ Z', forL [i] gpOne fb ds Z = .ok (.nx Z') /\ I Z'
  | [], _, Z, h => ⟨Z, rfl, h⟩
  | d :: ds, hs, Z, h => by
    obtain ⟨Z1, h1, h2⟩ := hs d xa3 Z h
    obtain ⟨Z2, h3, h4⟩ := forL_inv I ds (fun d' hd => hs d' (xaq _ hd)) Z1 h2
    refine ⟨Z2, ?_, h4⟩
    rw [forL_one]
    rcases h1 with h1 | h1 <;> rw [h1]
    · exact h3
    · exact h3
theorem forL_nth {i : Nat} {fb : DSt -> R Out} (I : Nat -> DSt -> Prop) (ds : List D) (hs : ∀ (k : Nat) (d : D) (Z : DSt), ds[k]? = some d -> I k Z -> ∃ Z', (fb (Z.set i (some d)) = .ok (.nx Z') \/ fb (Z.set i (some d)) = .ok (.ct Z')) /\ I (k + 1) Z') (Z : DSt) (h : I 0 Z) : ∃ Z', forL [i] gpOne fb ds Z = .ok (.nx Z') /\ I ds.length Z' := by
  have go : ∀ (ds : List D) (n : Nat), (∀ (k : Nat) (d : D) (Z : DSt), ds[k]? = some d -> I (n + k) Z -> ∃ Z', (fb (Z.set i (some d)) = .ok (.nx Z') \/ fb (Z.set i (some d)) = .ok (.ct Z')) /\ I (n + k + 1) Z') -> ∀ Z, I n Z -> ∃ Z', forL [i] gpOne fb ds Z = .ok (.nx Z') /\ I (n + ds.length) Z' := by
    intro ds
    induction ds with
    | nil => intro n _ Z h; exact ⟨Z, rfl, h⟩
    | cons d ds ih =>
      intro n hs Z h
      obtain ⟨Z1, h1, h2⟩ := hs 0 d Z rfl h
      obtain ⟨Z2, h3, h4⟩ := ih (n + 1) (fun k d' Z hd hI => by
        have := hs (k + 1) d' Z (by simpa using hd) (by rw [show n + (k + 1) = n + 1 + k by omega]; exact hI)
        rw [show n + (k + 1) + 1 = n + 1 + k + 1 by omega] at this
        exact this) Z1 h2
      refine ⟨Z2, ?_, by rw [xaw, show n + (ds.length + 1) = n + 1 + ds.length by omega]; exact h4⟩
      rw [forL_one]
      rcases h1 with h1 | h1 <;> rw [h1]
      · exact h3
      · exact h3
  obtain ⟨Z', h1, h2⟩ := go ds 0 (fun k d Z hd hI => by
    rw [xb4] at hI ⊢
    exact hs k d Z hd hI) Z h
  exact ⟨Z', h1, by rw [xb4] at h2; exact h2⟩
theorem sWhile_t {c : DSt -> R Bool} {fb : DSt -> R Out} {Z Z' : DSt} (h : c Z = .ok true) (h' : fb Z = .ok (.nx Z')) : sWhile c fb Z = sWhile c fb Z' := by rw [sWhile_step, h]; show (fb Z).bind _ = _; rw [h']; rfl
theorem sWhile_f {c : DSt -> R Bool} {fb : DSt -> R Out} {Z : DSt} (h : c Z = .ok false) : sWhile c fb Z = .ok (.nx Z) := by rw [sWhile_step, h]; rfl
def lcK (k : Nat) (ks : List Nat) (a : R (List D)) (gp : D -> R (List D)) (c : DSt -> R Bool) (e : DSt -> R D) (Z : DSt) : R (List D) := a.bind fun ds => bif most ds.length then (lcD ks gp c e (List.replicate k none ++ Z) ds).noerr else .bad
theorem eLC_def (k : Nat) (ks : List Nat) (fi : DSt -> R (List D)) (gp : D -> R (List D)) (c : DSt -> R Bool) (e : DSt -> R D) (Z : DSt) : eLC k ks fi gp c e Z = lcK k ks (fi Z) gp c e Z := rfl
theorem most_of {n : Nat} (h : n <= 1000000) : most n = true := xah (xbr h (by decide))
theorem lc_map {ds : List D} {e : DSt -> R D} {Z : DSt} {g : D -> D} (hl : ds.length <= 1000000) (h : ∀ d ∈ ds, e (some d :: Z) = .ok (g d)) : lcK 1 [0] (.ok ds) gpOne eTrue e Z = .ok (ds.map g) := by
  have go : ∀ ds : List D, (∀ d ∈ ds, e (some d :: Z) = .ok (g d)) -> lcD [0] gpOne eTrue e (List.replicate 1 none ++ Z) ds = .ok (ds.map g) := by
    intro ds
    induction ds with
    | nil => intro _; rfl
    | cons d ds ih =>
      intro h
      show (e (some d :: Z)).bind (fun y => (lcD [0] gpOne eTrue e (List.replicate 1 none ++ Z) ds).bind fun ys => .ok (y :: ys)) = _
      rw [h d xa3, ih fun d' hd => h d' (xaq _ hd)]; rfl
  show (bif most ds.length then _ else _) = _
  rw [most_of hl, go ds h]; rfl
end DL
namespace DL
open L2 PyProof.Rows
section
variable {X : Cx} {E : XK} {e : Expr} {te : TE} {pos : Pos}
theorem Reps.reverse {K : xFg} {mg : Str -> Option Value} {G : Hp} : ∀ {ds : List D} {vs : List V}, Reps K mg G ds vs -> Reps K mg G ds.reverse vs.reverse
  | [], _, h => by cases h; exact rfl
  | d :: ds, _, ⟨v, r, h1, h2, h3⟩ => by
    subst h1
    rw [xbp, xbp]
    exact (Reps.reverse h3).append (Reps.cons h2 Reps.nil)
def putK (i : Nat) (l : R (List D)) (a k : R D) (Z : DSt) : R Out := l.bind fun ds => a.bind fun d => k.bind fun kd => match kd with
  | .int n => match ixN ds.length n with
    | some j => .ok (.nx (Z.set i (some (.lst (ds.set j d)))))
    | none => .bad
  | _ => .bad
variable {own ol : List Nat} {x : Str} {k : Expr} {fk fe : DSt -> R D} {np tpos : Pos}
end
section
variable {X : Cx} {E : XK} {K : xFg} {mg : Str -> Option Value} {p pos : Pos} {e : Expr} {es : List Expr} {fs : DSt -> R (List D)}
def str1 : D -> R D
  | .int i => bif decide (i.natAbs.log2 < 1920) then .ok (.str (toString i)) else .bad
  | _ => .bad
abbrev gStr := g1 str1
theorem cd_str : CallD K mg (fun xs H Q => ∃ i, xs = [.int i] /\ i.natAbs.log2 < 1920 /\ Q (.str (toString i)) H) gStr := cd1 fun G H d v Q e r q => by
  cases d with
  | int i =>
    cases r
    cases hC : decide (i.natAbs.log2 < 1920) with
    | false => simp only [str1, hC, cond_false] at q; exact q.elim
    | true => simp only [str1, hC, cond_true] at q; exact ⟨i, rfl, xan hC, After.now q e rfl⟩
  | _ => exact (show False from q).elim
theorem de_strc (hm : X.mg "str" = none) (ha : DA X E (e :: es) fs) (hg : Gl X "str" := by rfl) (he : starEach (e :: es) X.env = (false, eval e X.env) :: starEach es X.env := by rfl) (hpl : (backTo pos (starEach es X.env)).any (·.1) = false := by rfl) : DE X E (.Call (.Name "str" p) (e :: es) [] pos) (eBlt gStr fs) :=
  de_bty call_str_int cd_str hm ha bt_str hg (by decide) (by decide) he hpl
end
end DL
namespace DL
open L2 PyProof.Rows
def inD (d : D) (xs : List D) : Bool := xs.any fun y => eqD y d
def in2 (d : D) (xs : List D) : Bool := datN 9 d && xs.all (datN 9)
def gIn : D -> D -> R D
  | d, .lst xs => bif in2 d xs then .ok (.bl (inD d xs)) else .bad
  | d, .tup xs => bif in2 d xs then .ok (.bl (inD d xs)) else .bad
  | .str i, .str j => .ok (.bl (!(Builtin.Str.occurrences j i 0 j.length 1).isEmpty))
  | _, _ => .bad
def gNin : D -> D -> R D
  | d, .lst xs => bif in2 d xs then .ok (.bl (!inD d xs)) else .bad
  | d, .tup xs => bif in2 d xs then .ok (.bl (!inD d xs)) else .bad
  | .str i, .str j => .ok (.bl (!(!(Builtin.Str.occurrences j i 0 j.length 1).isEmpty)))
  | _, _ => .bad
section
variable {X : Cx} {E : XK}
theorem any_e {K : xFg} {mg : Str -> Option Value} {G : Hp} {d : D} (f : Value -> Bool) : ∀ {ds : List D} {vs : List V} {its : List Value}, (∀ d' v' u, d' ∈ ds -> Rep K mg G d' v' -> RelV v' u -> f u = eqD d' d) -> Reps K mg G ds vs -> Vals vs its -> its.any f = ds.any fun y => eqD y d
  | [], _, _, _, r, t => by cases r; cases t; rfl
  | d' :: ds, _, _, h, ⟨v, vs, e, r1, r2⟩, t => by
    subst e
    cases t with
    | cons q t =>
      rw [xb6, xb6, h d' _ _ xa3 r1 q, any_e f (fun d'' v'' u hd => h d'' v'' u (xaq _ hd)) r2 t]
theorem mem_of_vals {K : xFg} {mg : Str -> Option Value} {G : Hp} : ∀ {ds : List D} {vs : List V} {its : List Value}, Reps K mg G ds vs -> Vals vs its -> ∀ u ∈ its, ∃ d' v', d' ∈ ds /\ Rep K mg G d' v' /\ RelV v' u
  | [], _, _, r, t, u, hu => by cases r; cases t; cases hu
  | d' :: ds, _, _, ⟨v, vs, e, r1, r2⟩, t, u, hu => by
    subst e
    cases t with
    | cons q t =>
      rcases xaz.mp hu with rfl | hu
      · exact ⟨d', v, xa3, r1, q⟩
      · obtain ⟨d'', v'', h1, h2, h3⟩ := mem_of_vals r2 t u hu
        exact ⟨d'', v'', xaq _ h1, h2, h3⟩
def rInD (K : xFg) (mg : Str -> Option Value) (neg : Bool) : R2 := fun x y H Q => ∃ G d ds p vs, Same G H /\ Rep K mg G d x /\ y = .ref p /\ (SqL K G p vs \/ SqT K G p vs) /\ Reps K mg G ds vs /\ in2 d ds = true /\ Q (.bl (bif neg then !inD d ds else inD d ds)) H
open Classical in
theorem in_facts {pins : List (Addr × Obj)} {Z : L2.St} {G H : Hp} {s : Shared} (I : Inv X pins Z H s) {k : Nat} (r : Room k X.A) (e : Same G H) {d : D} {x : V} {v : Value} {ds : List D} {vs : List V} {its : List Value} (rx : Rep X.K X.mg G d x) (qx : RelV x v) (rs : Reps X.K X.mg G ds vs) (t : Vals vs its) (h : in2 d ds = true) :
    ∃ f : Value -> Bool, (∀ u ∈ its, SeqAt.EqAt X.A.in1 s u v (f u)) /\ its.any f = inD d ds := by
  unfold in2 at h
  rw [xau, xbc] at h
  obtain ⟨h1, h2⟩ := h
  have key : ∀ d' v' u, d' ∈ ds -> Rep X.K X.mg G d' v' -> RelV v' u -> decide (∃ d'' v'', d'' ∈ ds /\ Rep X.K X.mg G d'' v'' /\ RelV v'' u /\ eqD d'' d = true) = eqD d' d := by
    intro d' v' u hd r1 q1
    by_cases hq : eqD d' d = true
    · rw [hq]; exact xah ⟨d', v', hd, r1, q1, hq⟩
    · rw [Bool.not_eq_true] at hq
      rw [hq]
      refine xal ?_
      rintro ⟨d'', v'', hd', r2, q2, hq'⟩
      have ev := q1.inj q2
      subst ev
      have := rep_inj I e 9 (h2 _ hd) (h2 _ hd') r1 r2
      subst this
      rw [hq] at hq'; cases hq'
  refine ⟨fun u => decide (∃ d'' v'', d'' ∈ ds /\ Rep X.K X.mg G d'' v'' /\ RelV v'' u /\ eqD d'' d = true), fun u hu => ?_, any_e _ key rs t⟩
  obtain ⟨d', v', hd, r1, q1⟩ := mem_of_vals rs t u hu
  show SeqAt.EqAt X.A.in1 s u v (decide _)
  rw [key d' v' u hd r1 q1]
  exact (eqAt_D I e 9 (by rw [in1_units]; have := r.un; omega) (h2 _ hd) h1 r1 q1 rx qx).1
theorem op_inD {k : Nat} (r : Room k X.A) : OpR X (compareOp .In) (rInD X.K X.mg false) := by
  intro pins s Z H x y v u Q I rx ry h
  obtain ⟨G, d, ds, p, vs, e, r1, rfl, hq, rs, c, q⟩ := h
  cases ry
  rcases hq with hq | hq
  · obtain ⟨its, t, pl, hz⟩ := I.list (e.seq hq)
    obtain ⟨f, h1, h2⟩ := in_facts I r e r1 rx rs t c
    refine SeqAt.in_listAt f pl.isList (fun w hw => h1 w (by simpa using hw)) ⟨.bl _, H, I, rfl, ?_⟩
    rw [show its.toArray.any f = its.any f by simp, h2]; exact q
  · obtain ⟨its, t, pl, hz⟩ := I.tuple (Same.sqT e hq)
    obtain ⟨f, h1, h2⟩ := in_facts I r e r1 rx rs t c
    refine SeqAt.in_tupleAt f pl (fun w hw => h1 w (by simpa using hw)) ⟨.bl _, H, I, rfl, ?_⟩
    rw [show its.toArray.any f = its.any f by simp, h2]; exact q
theorem op_ninD {k : Nat} (r : Room k X.A) : OpR X (compareOp .NotIn) (rInD X.K X.mg true) := by
  intro pins s Z H x y v u Q I rx ry h
  obtain ⟨G, d, ds, p, vs, e, r1, rfl, hq, rs, c, q⟩ := h
  cases ry
  rcases hq with hq | hq
  · obtain ⟨its, t, pl, hz⟩ := I.list (e.seq hq)
    obtain ⟨f, h1, h2⟩ := in_facts I r e r1 rx rs t c
    refine SeqAt.notIn_listAt f pl.isList (fun w hw => h1 w (by simpa using hw)) ⟨.bl _, H, I, rfl, ?_⟩
    rw [show its.toArray.any f = its.any f by simp, h2]; exact q
  · obtain ⟨its, t, pl, hz⟩ := I.tuple (Same.sqT e hq)
    obtain ⟨f, h1, h2⟩ := in_facts I r e r1 rx rs t c
    refine SeqAt.notIn_tupleAt f pl (fun w hw => h1 w (by simpa using hw)) ⟨.bl _, H, I, rfl, ?_⟩
    rw [show its.toArray.any f = its.any f by simp, h2]; exact q
abbrev rInS (neg : Bool) : R2 := fun x y H Q => ∃ i j, x = .str i /\ y = .str j /\ Q (.bl (bif neg then !(!(Builtin.Str.occurrences j i 0 j.length 1).isEmpty) else !(Builtin.Str.occurrences j i 0 j.length 1).isEmpty)) H
theorem cf_in {k : Nat} (C : XC X E k) : CmpF X .In gIn := ⟨_, (op_inD C.room).or (op_in_str : OpR X _ (rInS false)), fun G H a b x y Q e ra rb q => by
  cases b with
  | lst xs =>
    obtain ⟨p, vs, rfl, h1, h2⟩ := rb
    cases hc : in2 a xs with
    | false => simp only [gIn, hc, cond_false] at q; exact q.elim
    | true => simp only [gIn, hc, cond_true] at q; exact .inl ⟨G, a, xs, p, vs, e, ra, rfl, .inl h1, h2, hc, After.now q e rfl⟩
  | tup xs =>
    obtain ⟨p, vs, rfl, h1, h2⟩ := rb
    cases hc : in2 a xs with
    | false => simp only [gIn, hc, cond_false] at q; exact q.elim
    | true => simp only [gIn, hc, cond_true] at q; exact .inl ⟨G, a, xs, p, vs, e, ra, rfl, .inr h1, h2, hc, After.now q e rfl⟩
  | str j => cases a with
    | str i => cases ra; cases rb; exact .inr ⟨i, j, rfl, rfl, After.now q e rfl⟩
    | _ => exact (show False from q).elim
  | _ => cases a <;> exact (show False from q).elim, fun a b e => by
    cases b with
    | lst xs => simp only [gIn]; cases in2 a xs <;> simp [cond]
    | tup xs => simp only [gIn]; cases in2 a xs <;> simp [cond]
    | _ => cases a <;> simp [gIn]⟩
theorem cf_nin {k : Nat} (C : XC X E k) : CmpF X .NotIn gNin := ⟨_, (op_ninD C.room).or (op_notIn_str : OpR X _ (rInS true)), fun G H a b x y Q e ra rb q => by
  cases b with
  | lst xs =>
    obtain ⟨p, vs, rfl, h1, h2⟩ := rb
    cases hc : in2 a xs with
    | false => simp only [gNin, hc, cond_false] at q; exact q.elim
    | true => simp only [gNin, hc, cond_true] at q; exact .inl ⟨G, a, xs, p, vs, e, ra, rfl, .inl h1, h2, hc, After.now q e rfl⟩
  | tup xs =>
    obtain ⟨p, vs, rfl, h1, h2⟩ := rb
    cases hc : in2 a xs with
    | false => simp only [gNin, hc, cond_false] at q; exact q.elim
    | true => simp only [gNin, hc, cond_true] at q; exact .inl ⟨G, a, xs, p, vs, e, ra, rfl, .inr h1, h2, hc, After.now q e rfl⟩
  | str j => cases a with
    | str i => cases ra; cases rb; exact .inr ⟨i, j, rfl, rfl, After.now q e rfl⟩
    | _ => exact (show False from q).elim
  | _ => cases a <;> exact (show False from q).elim, fun a b e => by
    cases b with
    | lst xs => simp only [gNin]; cases in2 a xs <;> simp [cond]
    | tup xs => simp only [gNin]; cases in2 a xs <;> simp [cond]
    | _ => cases a <;> simp [gNin]⟩
end
end DL
namespace DL
open L2 PyProof.Rows
def sign (c : Nat) : Str := ⟨#[c]⟩
def Its (z : Str) : It := ⟨fun i _ => i < z.cps.size, fun i H x H' => H' = H /\ ∃ c, z.cps[i]? = some c /\ x = .str (sign c), fun i _ => z.cps.size <= i⟩
theorem turn_text {P : Program} {w : World} {K : xFg} {tg : Expr} (z : Str) (it : Addr) (nm : String) (t : Tok) (hnm : nm = "str_ascii_iterator" \/ nm = "str_iterator") : Turn P w K tg (Its z) [it] it (fun i h => h.IsStrIter it nm z t i) where
  mem := by simp
  obj := fun i h st b hb => by
    have e : b = it := by simpa using hb
    subst e
    obtain ⟨o, e, c, d⟩ := st
    exact ⟨o, e, fun v z => by rw [d] at z; cases z⟩
  keep := fun i h h' st k => by
    obtain ⟨o, e, r⟩ := st
    exact ⟨o, k it (by simp) o e, r⟩
  item := by
    intro X hP hw hK hc i pins s Z H E I hf st hg
    subst hP hw hK
    obtain ⟨f0, f1, f2, f3, f4, f5⟩ := hf it (by simp)
    have go : ∀ (W : Walks X.prog X.w X.A it [it] [it] z.cps.size (SignAt z) (fun i h => h.IsStrIter it nm z t i)), wpAny (model X.prog X.w) X.A (pyNext (.ref it)) (fun r s1 => ∃ u, r = some u /\ wpAny (model X.prog X.w) X.A (letOwnedTupleGo tg (.ref it) u) (fun _ s2 => ∃ x H', Inv X pins Z H' s2 /\ RelV x u /\ (Its z).yld i H x H' /\ s2.heap.IsStrIter it nm z t (i + 1) /\ ∀ b ∈ [it], H' b = none) E s1) E s := by
      intro W
      refine W.item i s _ _ hg st fun v h' tk hv st' kk => ?_
      obtain ⟨c, u, hc', rfl⟩ := hv
      have I1 : Inv X pins Z H { s with heap := h', toks := tk } := I.turned (fun b o hb e => kk b o (by simpa using hb) e) f0 f1 f3 f4 f5
      obtain ⟨o, e, cl, d⟩ := id st'
      exact ⟨_, rfl, go_of (s := { s with heap := h', toks := tk }) e cl d (by rcases hnm with rfl | rfl <;> decide) ⟨.str (sign c), H, I1, ⟨u, rfl⟩, ⟨rfl, c, hc', rfl⟩, st', fun b hb => (hf b hb).1⟩⟩
    rcases hnm with rfl | rfl
    · exact go (Walks.strAscii (I.ok.hd hc) it z t)
    · exact go (Walks.strWide (I.ok.hd hc) it z t)
  done := by
    intro X hP hw hK hc i pins s Z H E I hf st hg
    subst hP hw hK
    obtain ⟨f0, f1, f2, f3, f4, f5⟩ := hf it (by simp)
    rcases hnm with rfl | rfl
    · exact wpAny_pyNext_ascii_end (I.ok.hd hc) st (by have : z.cps.size <= i := hg; simp; omega) fun h' eb => ⟨rfl, I.turned (t' := s.toks) (fun b o hb e => eb b o hb e) f0 f1 f3 f4 f5⟩
    · exact wpAny_pyNext_wide_end (I.ok.hd hc) st (by have : z.cps.size <= i := hg; simp; omega) fun h' eb => ⟨rfl, I.turned (t' := s.toks) (fun b o hb e => eb b o hb e) f0 f1 f3 f4 f5⟩
  self := fun A i s Q E st h => by
    rcases hnm with rfl | rfl
    · exact wpAny_pyIter_striter_ascii st h
    · exact wpAny_pyIter_striter_wide st h
section
variable {X : Cx} {E : XK} {tg : Expr}
def iTxt (tl : TE) : TI := fun Z H R => tl Z H fun x H1 => ∃ z, x = .str z /\ R (Its z) H1
theorem pi_text {l : Expr} {tl : TE} (hl : PE X l tl) : PI X tg l (iTxt tl) := by
  intro pins s Z H R I h
  refine thn (hl pins s Z H _ I h) fun v s1 ⟨x, H1, I1, r1, q1⟩ => ?_
  obtain ⟨z, e, q⟩ := q1
  subst e
  obtain ⟨t, rfl⟩ := r1
  have fpo : ∀ b ∈ [s1.heap.objs.size], FpOk X pins H1 b := fun b hb => by
    have e : b = s1.heap.objs.size := by simpa using hb
    subst e
    exact I1.fpOk (xam _) (I1.hok.fresh (xam _))
  cases ha : z.cps.all (· < 128)
  · exact wpAny_pyIter_wide ha ⟨s1.heap.objs.size, [s1.heap.objs.size], _, _, H1, rfl, I1.kept (t' := s1.toks) fun b o e => xad _ e, turn_text z _ "str_iterator" t (.inr rfl), ⟨_, xa4 _ rfl, rfl, rfl⟩, fpo, q⟩
  · exact wpAny_pyIter_ascii ha ⟨s1.heap.objs.size, [s1.heap.objs.size], _, _, H1, rfl, I1.kept (t' := s1.toks) fun b o e => xad _ e, turn_text z _ "str_ascii_iterator" t (.inl rfl), ⟨_, xa4 _ rfl, rfl, rfl⟩, fpo, q⟩
def signsD (z : Str) : List D := z.cps.toList.map fun c => .str (sign c)
def asTxt : D -> R (List D)
  | .str z => .ok (signsD z)
  | _ => .bad
def iStr (f : DSt -> R D) : DSt -> R (List D) := fun Z => (f Z).bind asTxt
theorem IterD.text {K : xFg} {mg : Str -> Option Value} {G : Hp} (z : Str) : IterD K mg (Its z) G (signsD z) := by
  have hl : (signsD z).length = z.cps.size := by simp [signsD]
  refine ⟨fun H e => by rw [hl]; exact xam _, fun H i d e hd => ?_⟩
  have hi : i < z.cps.size := by have := (xab.mp hd).1; omega
  refine ⟨hi, fun x H' y G1 e1 e2 => ?_⟩
  obtain ⟨rfl, c, hc, rfl⟩ := y
  have : d = .str (sign c) := by
    unfold signsD at hd
    rw [xa2, xbn, hc] at hd
    simpa using hd.symm
  subst this
  exact ⟨G1, .refl e2, rfl⟩
theorem di_text {l : Expr} {f : DSt -> R D} (hl : DE X E l f) : DI X E tg l (iStr f) := by
  have hT : PI X tg l (iTxt (tE X.K X.mg E f)) := pi_text hl
  intro pins s Z H R I ⟨G, Zd, ok, q⟩
  refine hT pins s Z H R I ⟨G, Zd, ok, ?_⟩
  refine q.of_bind.mono (fun d _ z => ?_) fun _ z => z
  rintro v G' H' st r
  cases d with
  | str y =>
    cases r
    exact ⟨y, rfl, (show ∀ J G' H', Step G H G' H' -> IterD X.K X.mg J G' (signsD y) -> R J H' from z) _ G' H' st (.text y)⟩
  | _ => exact (show False from z).elim
variable {a b : Expr} {fa fb : DSt -> R D} {pos : Pos}
def gIxS : D -> D -> R D
  | .str z, .int i => bif decide (0 <= i) && Nat.blt i.natAbs 1073741824 then (match z.cps[i.toNat]? with
    | some c => .ok (.str (sign c))
    | none => .bad) else .bad
  | _, _ => .bad
abbrev rIxS : R2 := fun x y H Q => ∃ z i c, x = .str z /\ y = .int i /\ 0 <= i /\ i < 2 ^ 63 /\ i < z.length /\ z.cps[i.toNat]? = some c /\ Q (.str ⟨#[c]⟩) H
theorem nx_ixS : NoErr gIxS := by
  intro a b e h
  cases a with
  | str z => cases b with
    | int i =>
      cases hC : (decide (0 <= i) && Nat.blt i.natAbs 1073741824) with
      | false => simp only [gIxS, hC, cond_false] at h; cases h
      | true =>
        simp only [gIxS, hC, cond_true] at h
        split at h <;> cases h
    | _ => cases h
  | _ => cases b <;> cases h
theorem od_ixS {K : xFg} {mg : Str -> Option Value} : OpD K mg rIxS gIxS := by
  intro G H a b x y Q e ra rb q
  cases a with
  | str z => cases b with
    | int i =>
      cases ra; cases rb
      cases hC : (decide (0 <= i) && Nat.blt i.natAbs 1073741824) with
      | false => simp only [gIxS, hC, cond_false] at q; exact q.elim
      | true =>
        simp only [gIxS, hC, cond_true] at q
        rw [xau, decide_eq_true_eq, Nat.blt_eq] at hC
        cases hc : z.cps[i.toNat]? with
        | none => rw [hc] at q; exact q.elim
        | some c =>
          rw [hc] at q
          have hlt : i.toNat < z.cps.size := (xbe.mp hc).1
          have hlt' : i < (z.length : Int) := by
            show i < (z.cps.size : Int)
            omega
          exact ⟨z, i, c, rfl, rfl, hC.1, by omega, hlt', hc, After.now q e rfl⟩
    | _ => exact (show False from q).elim
  | _ => cases b <;> exact (show False from q).elim
theorem de_ixS (ha : DE X E a fa) (hb : DE X E b fb) (hs : PlainIxT b := by intro _ _; rfl) : DE X E (.Subscript a b pos) (eOp gIxS fa fb) :=
  PE.mono' (pe_item_str ha hb hs) fun _ _ _ h => tOp_of od_ixS nx_ixS h
def joinT (sep : Str) : List Str -> Str
  | [y] => y
  | ys => Builtin.Str.glued sep ys
def strsOf : List D -> Option (List Str)
  | [] => some []
  | .str y :: ds => (strsOf ds).map (y :: ·)
  | _ => none
theorem Reps.strs {K : xFg} {mg : Str -> Option Value} {G : Hp} : ∀ {ds : List D} {ys : List Str} {vs : List V}, strsOf ds = some ys -> Reps K mg G ds vs -> vs = ys.map V.str
  | [], _, _, h, r => by cases h; cases r; rfl
  | .str y :: ds, _, _, h, ⟨v, t, e1, r1, r2⟩ => by
    subst e1
    cases hd : strsOf ds with
    | none => simp [strsOf, hd] at h
    | some ys' =>
      simp [strsOf, hd] at h
      subst h
      rw [Reps.strs hd r2]
      have : v = V.str y := r1
      rw [this]; rfl
  | .non :: _, _, _, h, _ => by simp [strsOf] at h
  | .bl _ :: _, _, _, h, _ => by simp [strsOf] at h
  | .int _ :: _, _, _, h, _ => by simp [strsOf] at h
  | .ty _ :: _, _, _, h, _ => by simp [strsOf] at h
  | .cls _ :: _, _, _, h, _ => by simp [strsOf] at h
  | .tup _ :: _, _, _, h, _ => by simp [strsOf] at h
  | .lst _ :: _, _, _, h, _ => by simp [strsOf] at h
  | .dct _ _ :: _, _, _, h, _ => by simp [strsOf] at h
  | .exc _ _ :: _, _, _, h, _ => by simp [strsOf] at h
theorem vals_strs : ∀ {ys : List Str} {us : List Value}, Vals (ys.map V.str) us -> ∃ l : List (Str × Tok), us = strValues l /\ l.map (·.1) = ys
  | [], _, h => by cases h; exact ⟨[], rfl, rfl⟩
  | y :: ys, _, h => by
    cases h with
    | cons q t =>
      obtain ⟨l, rfl, hl⟩ := vals_strs t
      obtain ⟨tk, rfl⟩ := q
      exact ⟨(y, tk) :: l, rfl, by rw [xba, hl]⟩
def sumL (sep : Str) (ys : List Str) : Nat := ys.toArray.foldl (· + ·.length + sep.length) 0
def rJoin (K : xFg) : V -> List V -> Hp -> VK -> Prop := fun x vs H Q => ∃ sep b ys, x = .str sep /\ vs = [.ref b] /\ SqL K H b (ys.map V.str) /\ sumL sep ys <= sizeLine /\ (joinT sep ys).length <= sizeLine /\ Q (.str (joinT sep ys)) H
theorem mt_join : MtM X "str.join" (rJoin X.K) := by
  intro pins s Z H x vs v us Q I rx rv h
  obtain ⟨sep, b, ys, rfl, rfl, hB, hz, hz2, q⟩ := h
  obtain ⟨t, rfl⟩ := rx
  obtain ⟨u, rfl, ru⟩ := rv.one
  cases ru
  obtain ⟨its, r, pl, _⟩ := I.list hB
  obtain ⟨l, rfl, hl⟩ := vals_strs r
  subst hl
  refine call_meets F.slot_str_join (typeIs_str s sep t) F.entry_str_join (F.args_str_join_2 _ _) (meets_str_join_list sep t b l (xal (by show ¬ sizeLine < _; exact Nat.not_lt.mpr hz))) ⟨pl.isList, ?_⟩
  match l, hz2, q with
  | [], hz2, q => exact ⟨hz2, .str _, H, I.tok _, ⟨_, rfl⟩, q⟩
  | [p], hz2, q => exact ⟨.str _, H, I, ⟨_, rfl⟩, q⟩
  | _ :: _ :: _, hz2, q => exact ⟨hz2, .str _, H, I.tok _, ⟨_, rfl⟩, q⟩
def joinD (sep : D) (d : D) : R D := match sep, d with
  | .str z, .lst ds => match strsOf ds with
    | some ys => bif le24 (sumL z ys) && le24 (joinT z ys).length then .ok (.str (joinT z ys)) else .bad
    | none => .bad
  | _, _ => .bad
def joinE (fe : DSt -> R D) (Z : DSt) : D -> R D
  | .str z => (fe Z).bind fun d => joinD (.str z) d
  | _ => .bad
def eJoin (fo fe : DSt -> R D) : DSt -> R D := fun Z => (fo Z).bind fun z => joinE fe Z z
theorem de_join {o e : Expr} {fo fe : DSt -> R D} {apos cpos : Pos} (ho : DE X E o fo) (he : DE X E e fe)
    (hbase : attributeBase o "join" X.env (eval o X.env) = eval o X.env := by rfl)
    (hfew : ((backTo cpos (starEach [e] X.env)).all (fun x => !x.1) && (backToKw cpos (keywordEach [] X.env)).all (fun x => x.1.isSome) && decide ([e].length + ([] : List Keyword).length + (if ([] : List Keyword).isEmpty then 0 else 1) < 30)) = true := by rfl)
    (hline : (apos.endLine == cpos.line) = true := by rfl) (hs : starEach [e] X.env = (false, eval e X.env) :: starEach [] X.env := by rfl) (hplain : (backTo cpos (starEach [] X.env)).any (·.1) = false := by rfl) :
    DE X E (.Call (.Attribute o "join" apos) [e] [] cpos) (eJoin fo fe) := by
  refine PE.mono' (pe_bm PySem.F.plainAttrs_str PySem.F.slot_str_join PySem.F.type_str_join mt_join ho (da_cons he da_nil hs) hbase hfew hline hs hplain) fun Z H Q ⟨G, Zd, ok, q⟩ => ?_
  refine tE_then (P := After X.K X.mg Q) ok q fun z x G1 H1 s1 ok1 r1 q1 => ?_
  cases z with
  | str y =>
    cases r1
    refine ⟨rfl, G1, Zd, ok1, (show RW ((aCons fe aNil) Zd) _ _ from ?_)⟩
    unfold aCons
    have q2 := (show RW ((fe Zd).bind fun d => joinD (.str y) d) _ _ from q1).of_bind
    cases hf : fe Zd with
    | bad => rw [hf] at q2; exact q2.elim
    | err e => rw [hf] at q2; exact (show AfterX X.K X.mg E G1 H1 e from q2)
    | ok d =>
      rw [hf] at q2
      have q3 : RW (joinD (.str y) d) (After X.K X.mg Q G H) (AfterX X.K X.mg E G1 H1) := q2
      rintro ws G2 H2 s2 ⟨v, _, e1, r3, r4⟩
      subst e1
      cases r4
      cases d with
      | lst ds =>
        obtain ⟨b, vs, rfl, hb, hv⟩ := r3
        cases hs' : strsOf ds with
        | none => simp only [joinD, hs'] at q3; exact q3.elim
        | some ys =>
          have ev := Reps.strs hs' hv
          subst ev
          cases hC : (le24 (sumL y ys) && le24 (joinT y ys).length) with
          | false => simp only [joinD, hs', hC, cond_false] at q3; exact q3.elim
          | true =>
            simp only [joinD, hs', hC, cond_true] at q3
            rw [xau] at hC
            exact ⟨y, b, ys, rfl, rfl, s2.e.seq hb, xan hC.1, xan hC.2, After.now ((show After X.K X.mg Q G H (.str (joinT y ys)) from q3).step (s1.trans s2)) s2.e rfl⟩
      | _ => exact (show False from q3).elim
  | _ => exact (show False from q1).elim
theorem vals_of_strs : ∀ l : List (Str × Tok), Vals (l.map fun p => V.str p.1) (strValues l)
  | [] => .nil
  | p :: l => .cons ⟨p.2, rfl⟩ (vals_of_strs l)
theorem reps_of_strs {K : xFg} {mg : Str -> Option Value} {G : Hp} : ∀ l : List (Str × Tok), Reps K mg G (l.map fun p => D.str p.1) (l.map fun p => V.str p.1)
  | [] => Reps.nil
  | p :: l => Reps.cons rfl (reps_of_strs l)
theorem rep_ktup {K : xFg} {mg : Str -> Option Value} {G : Hp} {a : Addr} {its : Array Value} {n : Nat} {sl : Array (Option Value)} {l : List (Str × Tok)} (lk : K.lookup a = some ⟨.type "tuple", none, .seq its n, sl⟩) (h : its.toList = strValues l) (hz : l.length <= 100) : Rep K mg G (.tup (l.map fun p => D.str p.1)) (.ref a) := by
  refine ⟨a, _, rfl, .inr ⟨_, its, n, lk, rfl, rfl, ?_, by rw [h]; exact vals_of_strs l, rfl⟩, reps_of_strs l⟩
  rw [<- xby, h]
  unfold strValues
  rw [xar]
  exact xa1 hz (by decide)
end
end DL
namespace DL
open L2 PyProof.Rows
section
variable {prog : Program} {w : World} {A : Around} {E : Value -> Shared -> Prop} {s : Shared}
theorem items_int {ks : List Int} {vs : List Value} (h : ItemsAre (intKind prog w) ks vs) : ∀ v ∈ vs, ∃ i t, v = .int i t := by
  induction h with
  | nil => intro v hv; cases hv
  | cons q _ ih =>
    intro v hv
    rcases xaz.mp hv with rfl | hv
    · cases v with
      | int i t => exact ⟨i, t, rfl⟩
      | _ => cases q
    · exact ih v hv
structure TSet (prog : Program) (w : World) (h : Heap) (a : Addr) (o : Obj) (es : Array (Int × Value)) (ep : Nat) (t : SetTable) (kss : List (List Int)) : Prop where
  get : h.get? a = some o
  ex : o.ExactSet
  dat : o.data = .set es ep t
  dm : t.dummies = #[]
  pl : t.place.size = es.size
  msk : (t.mask = 7 /\ es.size <= 4) \/ (t.mask = 31 /\ es.size <= 18)
  n : es.size = kss.length
  el : ∀ e ∈ es.toList, ∃ c ls, e.2 = .ref c /\ IsTupleKey (intKind prog w) h ls c /\ ls ∈ kss
variable {h : Heap} {a : Addr} {o : Obj} {es : Array (Int × Value)} {ep : Nat} {t : SetTable} {kss : List (List Int)}
end
end DL
namespace DL
open L2 PyProof.Rows
section
variable {P : Program} {w : World} {K : xFg} {mg : Str -> Option Value} {base : Heap} {x : Str} {st : Stmt} {f : Addr} {fd : FuncData} {N ps : List Str} {k n nN : Nat} {own' : List Nat} {body : DSt -> R Out}
structure FD (K : xFg) (x : Str) (st : Stmt) : Prop where
  ex : ∃ f fd, PySem.W.nsIn K mainGlobals x = some (some (.ref f)) /\ Fun K x x st f fd
theorem FD.mk' {oc : Value} {od an : Option Addr} {osl : Array (Option Value)} {kV doc pm cdv ct : Value} (a : PySem.W.nsIn K mainGlobals x = some (some (.ref f))) (l : K.lookup f = some ⟨oc, od, .func (PySem.W.fnOf x x (defArgs st) (defBody st) (defScope st) .none kV doc pm an cdv ct), osl⟩)
    (c : PySem.W.codeIn K cdv x = true) (k : PySem.W.keepIn K (.ref f) = true) : FD K x st := ⟨f, _, a, fun_mk l c k⟩
structure FA (K : xFg) (mg : Str -> Option Value) (x : Str) (st : Stmt) (ps : List Str) (f : Addr) (fd : FuncData) : Prop where
  F : Fun K x x st f fd
  m : mg x = some (.ref f)
  b : Binds K fd ps []
theorem FD.go {h : Heap} (d : FD K x st) (X : K.In h) (G : h.Ns mainGlobals mg) (ps : List Str)
    (b : ∀ (kV doc pm : Value) (an : Option Addr) (cdv ct : Value) (us : List Value), us.length = ps.length -> bindArgs (PySem.W.fnOf x x (defArgs st) (defBody st) (defScope st) .none kV doc pm an cdv ct) ⟨us, []⟩ = pure (ps.zip us)) : ∃ f fd, FA K mg x st ps f fd := by
  obtain ⟨f, fd, a, F⟩ := d.ex
  exact ⟨f, fd, F, xax X G a, F.binds b⟩
abbrev XX (P : Program) (w : World) (K : xFg) (mg : Str -> Option Value) (base : Heap) (x : Str) (st : Stmt) (f : Addr) (N : List Str) (k : Nat) (D : Cx -> XK -> Prop) : Prop :=
  ∀ cdv A outer s H E, XC (cxOf (CXe P w) P w K mg base N x (defScope st) f cdv A outer s H E) E k -> XL (cxOf (CXe P w) P w K mg base N x (defScope st) f cdv A outer s H E) -> N.Nodup -> D (cxOf (CXe P w) P w K mg base N x (defScope st) f cdv A outer s H E) E
theorem FA.ok (F : FA K mg x st ps f fd) (S : FnScope N ps (defScope st)) (hn : ps.length = n) (hN : N.length = nN)
    (hb : XX P w K mg base x st f N k fun X E => DSs X E [] own' [] (defBody st) body) : FnAt P w K mg base (k + 1) x (fnM n nN body) :=
  FnAt.mk' F.F S F.m F.b hn hN fun X E hX C L => by
    obtain ⟨cdv, A, outer, s, H, rfl⟩ := hX
    exact hb cdv A outer s H E C L S.nd
end
end DL
namespace DL
open PySem.W PyProof.Rows
section
variable {n : Nat} {lt : Nat -> Nat -> Bool}
abbrev sg (p : Array Nat) (i : Nat) : Nat := p.getD i 0
def Dn (lt : Nat -> Nat -> Bool) (p : Array Nat) (m : Nat) : Prop := ∀ i j, i < j -> j < m -> lt (sg p j) (sg p i) = true
end
end DL
section
set_option maxHeartbeats 2000000
namespace DL
open L2 PyProof.Rows
theorem maskF_ne {own : List Nat} : ∀ (Z : DSt) (k j : Nat) (x : Option D), own.contains (k + j) = false -> maskF own k (Z.set j x) = (maskF own k Z).set j x
  | [], _, _, _, _ => rfl
  | d :: ds, k, 0, x, h => by
    show (bif own.contains k then none else x) :: maskF own (k + 1) ds = x :: maskF own (k + 1) ds
    rw [show own.contains k = false from h]; rfl
  | d :: ds, k, j + 1, x, h => by
    show (bif own.contains k then none else d) :: maskF own (k + 1) (ds.set j x) = (bif own.contains k then none else d) :: (maskF own (k + 1) ds).set j x
    rw [maskF_ne ds (k + 1) j x (by rw [show k + 1 + j = k + (j + 1) by omega]; exact h)]
theorem maskF_self {own : List Nat} : ∀ (Z : DSt) (k j : Nat) (x : Option D), own.contains (k + j) = true -> maskF own k (Z.set j x) = maskF own k Z
  | [], _, _, _, _ => rfl
  | d :: ds, k, 0, x, h => by
    show (bif own.contains k then none else x) :: maskF own (k + 1) ds = (bif own.contains k then none else d) :: maskF own (k + 1) ds
    rw [show own.contains k = true from h]; rfl
  | d :: ds, k, j + 1, x, h => by
    show (bif own.contains k then none else d) :: maskF own (k + 1) (ds.set j x) = (bif own.contains k then none else d) :: maskF own (k + 1) ds
    rw [maskF_self ds (k + 1) j x (by rw [show k + 1 + j = k + (j + 1) by omega]; exact h)]
theorem mask_ne {i j : Nat} (h : j ≠ i) (Z : DSt) (x : Option D) : mask [i] (Z.set j x) = (mask [i] Z).set j x := maskF_ne Z 0 j x (by simp [h])
theorem mask_self {i : Nat} (Z : DSt) (x : Option D) : mask [i] (Z.set i x) = mask [i] Z := maskF_self Z 0 i x (by simp)
theorem mask_all {i : Nat} : ∀ (ks : List Nat) (us : List D) (Z : DSt), (∀ k ∈ ks, k ≠ i) -> mask [i] (setAll Z ks us) = setAll (mask [i] Z) ks us
  | [], _, _, _ => by unfold setAll; rfl
  | _ :: _, [], _, _ => by unfold setAll; rfl
  | k :: ks, u :: us, Z, h => by
    unfold setAll
    rw [mask_all ks us _ fun j hj => h j (xaq _ hj), mask_ne (h k xa3)]
theorem all_get {α : Type} {i : Nat} : ∀ (ks : List Nat) (us : List α) (Z : List (Option α)), (∀ k ∈ ks, k ≠ i) -> (setAll Z ks us)[i]? = Z[i]?
  | [], _, _, _ => by unfold setAll; rfl
  | _ :: _, [], _, _ => by unfold setAll; rfl
  | k :: ks, u :: us, Z, h => by
    unfold setAll
    rw [all_get ks us _ fun j hj => h j (xaq _ hj), xae (h k xa3)]
section
variable {X : Cx} {E : XK} {i : Nat} {st : Stmt} {rest : List Stmt} {f g : DSt -> R Out} {pos : Pos}
def eM (i : Nat) {α : Type} (c : DSt -> R α) : DSt -> R α := fun Z => c (mask [i] Z)
end
end DL
end
namespace DL
open L2 PyProof.Rows
section
variable {K : xFg} {mg : Str -> Option Value} {c d : Str} {C D0 : Addr}
def NR (K : xFg) (C : Addr) (c d : Str) : Prop := PySem.W.nsIn K mainGlobals d = some none \/ ∃ D0, PySem.W.nsIn K mainGlobals d = some (some (.ref D0)) /\ PySem.W.kitOne K (.ref C) (.ref D0) = some (subB c d) /\ (subB c d = true -> PySem.W.exmOne K (.ref C) (.ref D0) = some true)
theorem NR.no (a : PySem.W.nsIn K mainGlobals d = some none) : NR K C c d := .inl a
theorem NR.ff (h : subB c d = false) (a : PySem.W.nsIn K mainGlobals d = some (some (.ref D0))) (t : PySem.W.kitOne K (.ref C) (.ref D0) = some false) : NR K C c d := .inr ⟨D0, a, by rw [h]; exact t, fun z => by rw [h] at z; cases z⟩
theorem NR.tt (h : subB c d = true) (a : PySem.W.nsIn K mainGlobals d = some (some (.ref D0))) (t : PySem.W.kitOne K (.ref C) (.ref D0) = some true) (u : PySem.W.exmOne K (.ref C) (.ref D0) = some true) : NR K C c d := .inr ⟨D0, a, by rw [h]; exact t, fun _ => u⟩
theorem NR.row {h : Heap} (r : NR K C c d) (X : K.In h) (G : h.Ns mainGlobals mg) : XcRow K mg C d (subB c d) := by
  rcases r with a | ⟨D0, a, t, u⟩
  · exact XcRow.no (xa7 X G a)
  · exact XcRow.of (xax X G a) t u
structure XD (K : xFg) (c : Str) : Prop where
  ex : ∃ C, PySem.W.nsIn K mainGlobals c = some (some (.ref C)) /\ PySem.W.excIn K C [.type "ValueError", .type "Exception", .type "BaseException", .type "object"] "ValueError.__new__" = true /\ ExcC K C /\ PySem.W.kitOne K (.ref C) (.type "ValueError") = some true /\ ∀ d ∈ clsNames, NR K C c d
theorem XD.mk' (e : PySem.W.nsIn K mainGlobals c = some (some (.ref C))) (y : PySem.W.excIn K C [.type "ValueError", .type "Exception", .type "BaseException", .type "object"] "ValueError.__new__" = true)
    (ga : PySem.W.findIn K (.ref C) "__getattribute__" = some (some (.builtin "BaseException.__getattribute__"))) (gh : PySem.W.findIn K (.ref C) "__getattr__" = some none) (bs : PySem.W.mroIn K C (.type "BaseException") = some true) (ob : PySem.W.mroIn K C (.type "object") = some true) (ca : PySem.W.findIn K (.ref C) "__class__" = some (some (.builtin "object.__class__")))
    (cg : PySem.W.specialIn K (.builtin "object.__class__") "__get__" = some (some (.builtin "getset_descriptor.__get__"))) (ct : PySem.W.takesIn K (.builtin "object.__class__") = some true) (vv : PySem.W.kitOne K (.ref C) (.type "ValueError") = some true)
    (r0 : NR K C c "ChalkError") (r1 : NR K C c "NoPlace") (r2 : NR K C c "Same") (r3 : NR K C c "NoFloor") (r4 : NR K C c "Endless") (r5 : NR K C c "NoDeed") (r6 : NR K C c "NoText") (r7 : NR K C c "NoName") (r8 : NR K C c "TooMany") (r9 : NR K C c "NoChange") (r10 : NR K C c "NoFrame") (r11 : NR K C c "NoValue") (r12 : NR K C c "Unlike") (r13 : NR K C c "NoRatio") (r14 : NR K C c "NoBow") (r15 : NR K C c "NoRow") : XD K c := by
  refine ⟨C, e, y, ⟨by (obtain ⟨_, hc, _⟩ := PySem.W.kw_along ga; rw [hc]; rfl), ga, gh, bs, ob, ca, cg, ct⟩, vv, fun d hd => ?_⟩
  simp only [clsNames, xaz, xbf, or_false] at hd
  rcases hd with rfl | rfl | rfl | rfl | rfl | rfl | rfl | rfl | rfl | rfl | rfl | rfl | rfl | rfl | rfl | rfl <;> assumption
theorem XD.go {h : Heap} (x : XD K c) (X : K.In h) (G : h.Ns mainGlobals mg) : ∃ C, mg c = some (.ref C) /\ PySem.W.excIn K C [.type "ValueError", .type "Exception", .type "BaseException", .type "object"] "ValueError.__new__" = true /\ XcOk K mg c C := by
  obtain ⟨C, e, y, ec, vv, r⟩ := x.ex
  exact ⟨C, xax X G e, y, XcOk.mk' (xax X G e) ec vv fun d hd => (r d hd).row X G⟩
end
end DL
namespace DL
open PySem
theorem us0 {P : List Value -> Prop} (h : P []) : ∀ us : List Value, us.length = 0 -> P us := fun us hl => by
  cases us with
  | nil => exact h
  | cons => cases hl
theorem us1 {P : List Value -> Prop} (h : ∀ a, P [a]) : ∀ us : List Value, us.length = 1 -> P us := fun us hl => by
  cases us with
  | nil => cases hl
  | cons a us => exact us0 (P := fun l => P (a :: l)) (h a) us (Nat.succ.inj hl)
theorem us2 {P : List Value -> Prop} (h : ∀ a b, P [a, b]) : ∀ us : List Value, us.length = 2 -> P us := fun us hl => by
  cases us with
  | nil => cases hl
  | cons a us => exact us1 (P := fun l => P (a :: l)) (h a) us (Nat.succ.inj hl)
theorem us3 {P : List Value -> Prop} (h : ∀ a b c, P [a, b, c]) : ∀ us : List Value, us.length = 3 -> P us := fun us hl => by
  cases us with
  | nil => cases hl
  | cons a us => exact us2 (P := fun l => P (a :: l)) (h a) us (Nat.succ.inj hl)
theorem us4 {P : List Value -> Prop} (h : ∀ a b c d, P [a, b, c, d]) : ∀ us : List Value, us.length = 4 -> P us := fun us hl => by
  cases us with
  | nil => cases hl
  | cons a us => exact us3 (P := fun l => P (a :: l)) (h a) us (Nat.succ.inj hl)
theorem us5 {P : List Value -> Prop} (h : ∀ a b c d e, P [a, b, c, d, e]) : ∀ us : List Value, us.length = 5 -> P us := fun us hl => by
  cases us with
  | nil => cases hl
  | cons a us => exact us4 (P := fun l => P (a :: l)) (h a) us (Nat.succ.inj hl)
end DL
namespace DL
open L2 PyProof.Rows
variable {X : Cx} {E : XK} {own ol : List Nat} {x y : Str} {pos pos' np : Pos}
def sPop (i j : Nat) : DSt -> R Out := fun Z => (lstAt Z i).bind fun ds => match ds[ds.length - 1]? with
  | some d => .ok (.nx ((Z.set i (some (.lst ds.dropLast))).set j (some d)))
  | none => .bad
theorem Reps.dropLast {K : xFg} {mg : Str -> Option Value} {G : Hp} {ds : List D} {vs : List V} (h : Reps K mg G ds vs) : Reps K mg G ds.dropLast vs.dropLast := by
  rw [List.dropLast_eq_take, List.dropLast_eq_take, h.length]; exact h.take _
theorem ds_pop (i j : Nat) {apos cpos : Pos} (hN : X.N.Nodup) (ho : own.contains i = true := by rfl) (ho' : own.contains j = false := by rfl) (hi : X.N[i]? = some x := by rfl) (hj : X.N[j]? = some y := by rfl) (hv : Vis X.env.scope x := by first | exact Or.inl rfl | exact Or.inr (Or.inl rfl) | exact Or.inr (Or.inr rfl)) (hd : (x == ("__debug__" : Str)) = false := by decide)
    (hcd : (x == ("__classdict__" : Str)) = false := by decide) (hy : Loc X.env.scope y := by first | exact Or.inl rfl | exact Or.inr rfl)
    (hbase : attributeBase (.Name x np) "pop" X.env (eval (.Name x np) X.env) = eval (.Name x np) X.env := by rfl) (hline : (apos.endLine == cpos.line) = true := by rfl)
    (hs : swapsWith (.Call (.Attribute (.Name x np) "pop" apos) [] [] cpos) (some (.Name y pos')) pos.line X.env = pure false := by rfl)
    (hf : X.fn y = true \/ X.env.scope.names.lookup y = some .local := by first | exact .inl rfl | exact .inr rfl | assumption) :
    DS X E own own ol (.Assign [.Name y pos'] (.Call (.Attribute (.Name x np) "pop" apos) [] [] cpos) pos) (sPop i j) := fun G0 =>
  PS.mono' (ps_set hN hj hy (pe_bm0 PySem.F.plainAttrs_list PySem.F.slot_list_pop PySem.F.type_list_pop mt_pop (pv i hi hv hd hcd) hbase hline) hs hf) fun Dn Z H ⟨G, Zd, ok, s0, q⟩ => by
  have q1 := q.of_bind
  cases hL : lstAt Zd i with
  | bad => rw [hL] at q1; exact q1.elim
  | err e => exact xak hL lstAt_ne
  | ok ds =>
    rw [hL] at q1
    have hd := lstAt_ok hL
    have hm : i ∈ own := by simpa using ho
    obtain ⟨a, ds', vs, p1, p2, p3, p4, p5, p6⟩ := ok.mine i _ hm hd
    cases p2
    cases hg : ds[ds.length - 1]? with
    | none =>
      have q2 : RW (match ds[ds.length - 1]? with
        | some d => R.ok (.nx ((Zd.set i (some (.lst ds.dropLast))).set j (some d)))
        | none => .bad) (OutW X.K X.mg G0 X.H₀ own ol Dn G) (AfterX X.K X.mg E G0 X.H₀) := q1
      rw [hg] at q2; exact (show False from q2).elim
    | some d =>
      have q2 : RW (match ds[ds.length - 1]? with
        | some d => R.ok (.nx ((Zd.set i (some (.lst ds.dropLast))).set j (some d)))
        | none => .bad) (OutW X.K X.mg G0 X.H₀ own ol Dn G) (AfterX X.K X.mg E G0 X.H₀) := q1
      rw [hg] at q2
      obtain ⟨v, hv', r⟩ := p6.get hg
      rw [p6.length] at hv'
      refine ⟨_, p1, .inl ⟨rfl, _, SqL.of p3⟩, a, vs, v, rfl, rfl, p3, hv', ?_⟩
      exact (show OutW X.K X.mg G0 X.H₀ own ol Dn G (.nx ((Zd.set i (some (.lst ds.dropLast))).set j (some d))) from q2) _ G _ ((ok.write hm hd p1 p6.dropLast).set (mem_of ho') r) (s0.write (o := .lst vs) p5 p4) (Same.refl _)
end DL
namespace DL
open L2 PyProof.Rows
variable {P : Program} {w : World} {K : xFg} {mg : Str -> Option Value} {base : Heap} {x : Str} {st : Stmt} {ps N : List Str} {f : Addr} {fd : FuncData} {k n nN : Nat} {own' : List Nat}
def badM : List D -> R D := fun _ => .bad
def recM (g : (List D -> R D) -> List D -> R D) : Nat -> List D -> R D
  | 0 => badM
  | n + 1 => g (recM g n)
theorem FA.bad (F : FA K mg x st ps f fd) (S : FnScope N ps (defScope st)) : FnAt P w K mg base (k + 1) x badM := by
  refine ⟨f, fd, ps, F.F.okX S (fun vs H Q E h => ?_) (fun cdv A outer s H vs Q E hr hsp => ?_), F.m, F.F.kp, F.b⟩
  · obtain ⟨G, ds, e, r, q⟩ := h
    exact (show False from q).elim
  · obtain ⟨G, ds, e, r, q⟩ := hsp
    exact (show False from q).elim
theorem FA.deep (F : FA K mg x st ps f fd) (S : FnScope N ps (defScope st)) (hn : ps.length = n) (hN : N.length = nN) {body : (List D -> R D) -> DSt -> R Out}
    (hb : ∀ (j : Nat) (m : List D -> R D), FnAt P w K mg base (k + 1 + j) x m -> XX P w K mg base x st f N (k + 1 + j) fun X E => DSs X E [] own' [] (defBody st) (body m)) :
    ∀ j, FnAt P w K mg base (k + 1 + j) x (recM (fun m => fnM n nN (body m)) j)
  | 0 => FA.bad F S
  | j + 1 => F.ok S hn hN (hb j _ (FA.deep F S hn hN hb j))
end DL
section
namespace L2
open PySem.Spec PyProof.Rows PySem.Calls
variable {X : Cx}
theorem vals_rev : ∀ {xs : List V} {its : List Value}, Vals xs its -> Vals xs.reverse its.reverse
  | _, _, .nil => .nil
  | _, _, .cons r t => by
    rw [xbp, xbp]
    exact (vals_rev t).append (.cons r .nil)
def rRev : V -> List V -> Hp -> VK -> Prop := fun x vs H Q => ∃ l xs, x = .ref l /\ vs = [] /\ H l = some (.lst xs) /\ Q .non (upd H l (.lst xs.reverse))
theorem mt_rev : MtM X "list.reverse" rRev := by
  intro pins s Z H x vs v us Q I rx rv h
  obtain ⟨l, xs, rfl, rfl, hH, q⟩ := h
  cases rx
  have hus := rv.zero
  subst hus
  obtain ⟨z, its, n, r, hl, e⟩ := I.lstM hH
  refine call_meets F.slot_list_reverse ⟨_, e, rfl⟩ F.entry_list_reverse (F.args_list_reverse_1 _) (AutoSeq1.list_reverse_list_0 l its.toArray n (by rw [xag]; omega)) ⟨e, ?_⟩
  exact ⟨.non, _, I.lset (its' := its.reverse) hH e (by simp) (vals_rev r) (by rw [List.length_reverse]; omega), rfl, q⟩
end L2
namespace DL
open L2 PyProof.Rows
variable {X : Cx} {E : XK} {own ol : List Nat} {x y : Str} {pos pos' np : Pos}
def sRev (i : Nat) : DSt -> R Out := fun Z => (lstAt Z i).bind fun ds => .ok (.nx (Z.set i (some (.lst ds.reverse))))
theorem ds_rev (i : Nat) {apos cpos : Pos} (ho : own.contains i = true := by rfl) (hN : X.N[i]? = some x := by rfl) (hv : Vis X.env.scope x := by first | exact Or.inl rfl | exact Or.inr (Or.inl rfl) | exact Or.inr (Or.inr rfl)) (hd : (x == ("__debug__" : Str)) = false := by decide)
    (hcd : (x == ("__classdict__" : Str)) = false := by decide) (hbase : attributeBase (.Name x np) "reverse" X.env (eval (.Name x np) X.env) = eval (.Name x np) X.env := by rfl) (hline : (apos.endLine == cpos.line) = true := by rfl)
    (hsw : swapsWith (.Call (.Attribute (.Name x np) "reverse" apos) [] [] cpos) none pos.line X.env = pure false := by rfl) :
    DS X E own own ol (.Expr (.Call (.Attribute (.Name x np) "reverse" apos) [] [] cpos) pos) (sRev i) := fun G0 =>
  PS.mono' (ps_expr (pe_bm0 PySem.F.plainAttrs_list PySem.F.slot_list_reverse PySem.F.type_list_reverse mt_rev (pv i hN hv hd hcd) hbase hline) hsw) fun Dn Z H ⟨G, Zd, ok, s0, q⟩ => by
  have q1 := q.of_bind
  cases hL : lstAt Zd i with
  | bad => rw [hL] at q1; exact q1.elim
  | err e => exact xak hL lstAt_ne
  | ok ds =>
    rw [hL] at q1
    have hd := lstAt_ok hL
    have hi : i ∈ own := by simpa using ho
    obtain ⟨a, ds', vs, p1, p2, p3, p4, p5, p6⟩ := ok.mine i _ hi hd
    cases p2
    refine ⟨_, p1, .inl ⟨rfl, _, SqL.of p3⟩, a, vs, rfl, rfl, p3, ?_⟩
    exact (show OutW X.K X.mg G0 X.H₀ own ol Dn G (.nx (Zd.set i (some (.lst ds.reverse)))) from q1) Z G _ (ok.write hi hd p1 p6.reverse) (s0.write (o := .lst vs) p5 p4) (Same.refl _)
end DL
end
namespace DL
open L2 PyProof.Rows
variable {X : Cx} {E : XK} {own ol : List Nat} {x y : Str} {pos np nq : Pos} {e1 e2 : Expr} {f1 f2 : DSt -> R D}
def sAppPop (own : List Nat) (i j : Nat) (f1 f2 : DSt -> R D) : DSt -> R Out := fun Z => (lstAt Z i).bind fun _ => (f1 (mask own Z)).bind fun d1 => (lstAt Z j).bind fun ds => match ds[ds.length - 1]? with
  | some d => (f2 (mask own (Z.set j (some (.lst ds.dropLast))))).bind fun d2 => (lstAt (Z.set j (some (.lst ds.dropLast))) i).bind fun xs => bif most xs.length then .ok (.nx ((Z.set j (some (.lst ds.dropLast))).set i (some (.lst (xs ++ [.tup [d1, d, d2]]))))) else .bad
  | none => .bad
theorem ds_appPop (i j : Nat) {apos bpos cpos dpos tpos : Pos} {x1} (h1 : DE X E e1 f1) (h2 : DE X E e2 f2) (ho : own.contains i = true := by rfl) (ho' : own.contains j = true := by rfl) (hN : X.N[i]? = some x := by rfl) (hM : X.N[j]? = some y := by rfl)
    (hv : Vis X.env.scope x := by first | exact Or.inl rfl | exact Or.inr (Or.inl rfl) | exact Or.inr (Or.inr rfl)) (hd : (x == ("__debug__" : Str)) = false := by decide) (hcd : (x == ("__classdict__" : Str)) = false := by decide)
    (hv' : Vis X.env.scope y := by first | exact Or.inl rfl | exact Or.inr (Or.inl rfl) | exact Or.inr (Or.inr rfl)) (hd' : (y == ("__debug__" : Str)) = false := by decide) (hcd' : (y == ("__classdict__" : Str)) = false := by decide)
    (hbase : attributeBase (.Name x np) "append" X.env (eval (.Name x np) X.env) = eval (.Name x np) X.env := by rfl) (hbase' : attributeBase (.Name y nq) "pop" X.env (eval (.Name y nq) X.env) = eval (.Name y nq) X.env := by rfl)
    (hfew : ((backTo cpos (starEach [.Tuple [e1, .Call (.Attribute (.Name y nq) "pop" bpos) [] [] dpos, e2] x1 tpos] X.env)).all (fun x => !x.1) && (backToKw cpos (keywordEach [] X.env)).all (fun x => x.1.isSome) && decide ([Expr.Tuple [e1, .Call (.Attribute (.Name y nq) "pop" bpos) [] [] dpos, e2] x1 tpos].length + ([] : List Keyword).length + (if ([] : List Keyword).isEmpty then 0 else 1) < 30)) = true := by rfl)
    (hline : (apos.endLine == cpos.line) = true := by rfl) (hline' : (bpos.endLine == dpos.line) = true := by rfl)
    (hs : starEach [.Tuple [e1, .Call (.Attribute (.Name y nq) "pop" bpos) [] [] dpos, e2] x1 tpos] X.env = (false, eval (.Tuple [e1, .Call (.Attribute (.Name y nq) "pop" bpos) [] [] dpos, e2] x1 tpos) X.env) :: starEach [] X.env := by rfl) (hplain : (backTo cpos (starEach [] X.env)).any (·.1) = false := by rfl)
    (hs1 : starEach [e1, .Call (.Attribute (.Name y nq) "pop" bpos) [] [] dpos, e2] X.env = (false, eval e1 X.env) :: starEach [.Call (.Attribute (.Name y nq) "pop" bpos) [] [] dpos, e2] X.env := by rfl)
    (hs2 : starEach [.Call (.Attribute (.Name y nq) "pop" bpos) [] [] dpos, e2] X.env = (false, eval (.Call (.Attribute (.Name y nq) "pop" bpos) [] [] dpos) X.env) :: starEach [e2] X.env := by rfl)
    (hs3 : starEach [e2] X.env = (false, eval e2 X.env) :: starEach [] X.env := by rfl)
    (hsw : swapsWith (.Call (.Attribute (.Name x np) "append" apos) [.Tuple [e1, .Call (.Attribute (.Name y nq) "pop" bpos) [] [] dpos, e2] x1 tpos] [] cpos) none pos.line X.env = pure false := by rfl) :
    DS X E own own ol (.Expr (.Call (.Attribute (.Name x np) "append" apos) [.Tuple [e1, .Call (.Attribute (.Name y nq) "pop" bpos) [] [] dpos, e2] x1 tpos] [] cpos) pos) (sAppPop own i j f1 f2) := fun G0 =>
  PS.mono' (ps_expr (pe_bm PySem.F.plainAttrs_list PySem.F.slot_list_append PySem.F.type_list_append mt_append (pv i hN hv hd hcd)
    (pa_cons (pe_tup (pa_cons h1 (pa_cons (pe_bm0 PySem.F.plainAttrs_list PySem.F.slot_list_pop PySem.F.type_list_pop mt_pop (pv j hM hv' hd' hcd') hbase' hline') (pa_cons h2 pa_nil hs3) hs2) hs1)) pa_nil hs) hbase hfew hline hs hplain) hsw) fun Dn Z H ⟨G, Zd, ok, s0, q⟩ => by
  have hi : i ∈ own := by simpa using ho
  have hj : j ∈ own := by simpa using ho'
  have q0 := q.of_bind
  cases hL : lstAt Zd i with
  | bad => rw [hL] at q0; exact q0.elim
  | err e => exact xak hL lstAt_ne
  | ok xs0 =>
    rw [hL] at q0
    obtain ⟨a, _, vs0, p1, _, p0, _⟩ := ok.mine i _ hi (lstAt_ok hL)
    refine ⟨_, p1, .inl ⟨rfl, _, SqL.of p0⟩, ?_⟩
    refine ⟨G, mask own Zd, ok.masked, (show RW ((f1 (mask own Zd)).bind _) (OutW X.K X.mg G0 X.H₀ own ol Dn G) (AfterX X.K X.mg E G0 X.H₀) from q0).of_bind.mono (fun d1 _ q1 v1 G1 H1 st1 r1 => ?_) fun _ z => z.step s0⟩
    have ok1 := ok.step st1
    have s1 := s0.trans st1
    have q2 := q1.of_bind
    cases hJ : lstAt Zd j with
    | bad => rw [hJ] at q2; exact q2.elim
    | err e => exact xak hJ lstAt_ne
    | ok ds =>
      rw [hJ] at q2
      obtain ⟨b, ds', vs, p3, p4, p5, p6, p7, p8⟩ := ok1.mine j _ hj (lstAt_ok hJ)
      cases p4
      cases hg : ds[ds.length - 1]? with
      | none =>
        have q3 : RW (match ds[ds.length - 1]? with
          | some d => (f2 (mask own (Zd.set j (some (.lst ds.dropLast))))).bind fun d2 => (lstAt (Zd.set j (some (.lst ds.dropLast))) i).bind fun xs => bif most xs.length then R.ok (.nx ((Zd.set j (some (.lst ds.dropLast))).set i (some (.lst (xs ++ [.tup [d1, d, d2]]))))) else .bad
          | none => .bad) (OutW X.K X.mg G0 X.H₀ own ol Dn G) (AfterX X.K X.mg E G0 X.H₀) := q2
        rw [hg] at q3; exact (show False from q3).elim
      | some d =>
        have q3 : RW (match ds[ds.length - 1]? with
          | some d => (f2 (mask own (Zd.set j (some (.lst ds.dropLast))))).bind fun d2 => (lstAt (Zd.set j (some (.lst ds.dropLast))) i).bind fun xs => bif most xs.length then R.ok (.nx ((Zd.set j (some (.lst ds.dropLast))).set i (some (.lst (xs ++ [.tup [d1, d, d2]]))))) else .bad
          | none => .bad) (OutW X.K X.mg G0 X.H₀ own ol Dn G) (AfterX X.K X.mg E G0 X.H₀) := q2
        rw [hg] at q3
        obtain ⟨v, hv1, rv⟩ := p8.get hg
        rw [p8.length] at hv1
        refine ⟨_, p3, .inl ⟨rfl, _, SqL.of p5⟩, b, vs, v, rfl, rfl, p5, hv1, ?_⟩
        have ok2 := ok1.write hj (lstAt_ok hJ) p3 p8.dropLast
        have s2 := s1.write (o := .lst vs) (u := .lst vs.dropLast) p7 p6
        refine ⟨G1, mask own (Zd.set j (some (.lst ds.dropLast))), ok2.masked, (show RW ((f2 (mask own (Zd.set j (some (.lst ds.dropLast))))).bind _) (OutW X.K X.mg G0 X.H₀ own ol Dn G) (AfterX X.K X.mg E G0 X.H₀) from q3).of_bind.mono (fun d2 _ q4 v2 G3 H3 st3 r3 => ?_) fun _ z => z.step s2⟩
        refine ⟨by show 3 <= sizeLine; decide, fun p hp => ?_⟩
        have ok3 := ok2.step st3
        have sp : Step G3 H3 (upd G3 p (.tup [v1, v, v2])) (upd H3 p (.tup [v1, v, v2])) := .pub ok3.ext hp
        have ok4 := ok3.step sp
        have q5 := q4.of_bind
        cases hI : lstAt (Zd.set j (some (.lst ds.dropLast))) i with
        | bad => rw [hI] at q5; exact q5.elim
        | err e => exact xak hI lstAt_ne
        | ok xs =>
          rw [hI] at q5
          have q6 : RW (bif most xs.length then R.ok (.nx ((Zd.set j (some (.lst ds.dropLast))).set i (some (.lst (xs ++ [.tup [d1, d, d2]]))))) else .bad) (OutW X.K X.mg G0 X.H₀ own ol Dn G) (AfterX X.K X.mg E G0 X.H₀) := q5
          obtain ⟨a', xs', ws, p9, p10, p11, p12, p13, p14⟩ := ok4.mine i _ hi (lstAt_ok hI)
          cases p10
          rw [p1] at p9
          cases p9
          cases hm : most xs.length with
          | false => rw [hm] at q6; exact (show False from q6).elim
          | true =>
            rw [hm] at q6
            have hlt : xs.length < sizeLine := xan hm
            refine ⟨a, ws, .ref p, rfl, rfl, p11, by rw [<- p14.length]; exact hlt, ?_⟩
            have rt : Rep X.K X.mg (upd G3 p (.tup [v1, v, v2])) (.tup [d1, d, d2]) (.ref p) := ⟨p, [v1, v, v2], rfl, SqT.of upd_same, Reps.cons (r1.mono (st3.g.trans sp.g)) (Reps.cons (rv.mono (st3.g.trans sp.g)) (Reps.cons (r3.mono sp.g) Reps.nil))⟩
            exact (show OutW X.K X.mg G0 X.H₀ own ol Dn G (.nx ((Zd.set j (some (.lst ds.dropLast))).set i (some (.lst (xs ++ [.tup [d1, d, d2]]))))) from q6) Z _ _ (ok4.write hi (lstAt_ok hI) p1 (p14.append (Reps.cons rt Reps.nil))) ((s2.trans (st3.trans sp)).write (o := .lst ws) p13 p12) (st1.g.trans (st3.g.trans sp.g))
end DL
namespace L2
open PySem.Spec PyProof.Rows
section
variable {κ : Type} [DecidableEq κ]
def valV (kvs : List (κ × V)) (k : κ) : Option V := (kvs.find? fun kv => decide (kv.1 = k)).map (·.2)
def putK (kvs : List (κ × V)) (k : κ) (v : V) : List (κ × V) :=
  if (kvs.any fun kv => decide (kv.1 = k)) = true then kvs.map (fun kv => if kv.1 = k then (kv.1, v) else kv) else kvs ++ [(k, v)]
def dropK (kvs : List (κ × V)) (k : κ) : List (κ × V) := kvs.filter fun kv => decide (kv.1 ≠ k)
theorem valV_pos {p : κ × V} {r : List (κ × V)} {k : κ} (e : p.1 = k) : valV (p :: r) k = some p.2 := by simp [valV, xbo, e]
theorem valV_neg {p : κ × V} {r : List (κ × V)} {k : κ} (e : ¬ p.1 = k) : valV (p :: r) k = valV r k := by simp [valV, xbo, e]
theorem valV_any (k : κ) : ∀ kvs : List (κ × V), (kvs.any fun kv => decide (kv.1 = k)) = (valV kvs k).isSome
  | [] => rfl
  | p :: r => by
    rw [xb6]
    by_cases e : p.1 = k
    · simp only [valV_pos e, xah e, Bool.true_or, Option.isSome_some]
    · rw [valV_neg e, xal e, Bool.false_or]; exact valV_any k r
theorem length_putK (kvs : List (κ × V)) (k : κ) (v : V) : (putK kvs k v).length <= kvs.length + 1 := by
  unfold putK
  split
  · rw [xar]; omega
  · rw [xat, xaw, xbs]; omega
theorem putK_new {kvs : List (κ × V)} {k : κ} (v : V) (h : valV kvs k = none) : putK kvs k v = kvs ++ [(k, v)] := by
  unfold putK
  rw [valV_any, h]
  exact xao (by decide)
theorem RelO.isSome_eq {o : Option V} {u : Option Value} (r : RelO o u) : o.isSome = u.isSome := by
  cases o with
  | none => cases u with
    | none => rfl
    | some _ => exact (show False from r).elim
  | some _ => cases u with
    | none => exact (show False from r).elim
    | some _ => rfl
theorem RelO.getD {o : Option V} {u : Option Value} {d : V} {d' : Value} (r : RelO o u) (rd : RelV d d') : RelV (o.getD d) (u.getD d') := by
  cases o with
  | none => cases u with
    | none => exact rd
    | some _ => exact (show False from r).elim
  | some _ => cases u with
    | none => exact (show False from r).elim
    | some _ => exact r
theorem KV.val {kvs : List (κ × V)} {vs : List (κ × Value)} (r : KV kvs vs) (k : κ) : RelO (valV kvs k) (valueAt vs k) := by
  unfold KV at r
  induction r with
  | nil => exact True.intro
  | @cons p q ps qs h t ih =>
    obtain ⟨h1, h2⟩ := h
    by_cases e : p.1 = k
    · have e' : q.1 = k := h1.symm.trans e
      have b : valueAt (q :: qs) k = some q.2 := by simp [valueAt, xbo, e']
      rw [valV_pos e, b]; exact h2
    · have e' : ¬ q.1 = k := fun z => e (h1.trans z)
      have b : valueAt (q :: qs) k = valueAt qs k := by simp [valueAt, xbo, e']
      rw [valV_neg e, b]; exact ih
theorem KV.any {kvs : List (κ × V)} {vs : List (κ × Value)} (r : KV kvs vs) (k : κ) : (kvs.any fun kv => decide (kv.1 = k)) = vs.any fun kv => decide (kv.1 = k) := by
  unfold KV at r
  induction r with
  | nil => rfl
  | cons h t ih => rw [xb6, xb6, ih, h.1]
theorem KV.repl {kvs : List (κ × V)} {vs : List (κ × Value)} (r : KV kvs vs) (k : κ) {y : V} {u : Value} (ry : RelV y u) :
    KV (kvs.map fun kv => if kv.1 = k then (kv.1, y) else kv) (vs.map fun kv => if kv.1 = k then (kv.1, u) else kv) := by
  unfold KV at r ⊢
  induction r with
  | nil => exact .nil
  | @cons p q ps qs h t ih =>
    rw [xba, xba]
    refine .cons ?_ ih
    obtain ⟨h1, h2⟩ := h
    by_cases e : p.1 = k
    · rw [xav e, xav (h1.symm.trans e)]; exact ⟨h1, ry⟩
    · rw [xao e, xao (fun z => e (h1.trans z))]; exact ⟨h1, h2⟩
theorem KV.put {kvs : List (κ × V)} {vs : List (κ × Value)} (r : KV kvs vs) (k : κ) {y : V} {u : Value} (ry : RelV y u) : KV (putK kvs k y) (stored vs k u) := by
  unfold putK stored
  rw [r.any k]
  by_cases e : (vs.any fun kv => decide (kv.1 = k)) = true
  · rw [xav e, xav e]; exact r.repl k ry
  · rw [xao e, xao e]; exact Paired.snoc r ⟨rfl, ry⟩
theorem KV.drop {kvs : List (κ × V)} {vs : List (κ × Value)} (r : KV kvs vs) (k : κ) : KV (dropK kvs k) (without vs k) := by
  unfold KV at r ⊢
  unfold dropK without
  induction r with
  | nil => exact .nil
  | @cons p q ps qs h t ih =>
    obtain ⟨h1, h2⟩ := h
    rw [xb7, xb7]
    by_cases e : p.1 = k
    · have a : ¬ decide (p.1 ≠ k) = true := by simp [e]
      have b : ¬ decide (q.1 ≠ k) = true := by simp [h1.symm.trans e]
      rw [xao a, xao b]; exact ih
    · have e' : ¬ q.1 = k := fun z => e (h1.trans z)
      have a : decide (p.1 ≠ k) = true := by simp [e]
      have b : decide (q.1 ≠ k) = true := by simp [e']
      rw [xav a, xav b]; exact .cons ⟨h1, h2⟩ ih
theorem KV.keys {kvs : List (κ × V)} {vs : List (κ × Value)} (r : KV kvs vs) : kvs.map (·.1) = vs.map (·.1) := by
  unfold KV at r
  induction r with
  | nil => rfl
  | cons h t ih => rw [xba, xba, ih, h.1]
theorem KV.length {kvs : List (κ × V)} {vs : List (κ × Value)} (r : KV kvs vs) : kvs.length = vs.length := Paired.length r
theorem dropK_le (kvs : List (κ × V)) (k : κ) : (dropK kvs k).length <= kvs.length := List.length_filter_le _ _
end
theorem kV_is {P : Program} {w : World} {k : Key} {u : Value} (r : RelV (kV k) u) : (mixKind P w).is k u = true := by
  cases k with
  | inl i => obtain ⟨t, e⟩ := (show ∃ t, u = Value.int i t from r); subst e; exact mixKind_int P w i t
  | inr x => obtain ⟨t, e⟩ := (show ∃ t, u = Value.str x t from r); subst e; exact mixKind_str P w x t
theorem items_are {P : Program} {w : World} : ∀ {ks : List Key} {us : List Value}, Vals (ks.map kV) us -> ItemsAre (mixKind P w) ks us
  | [], _, r => by rw [List.map_nil] at r; cases r; exact .nil
  | k :: ks, _, r => by
    rw [xba] at r
    cases r with
    | cons h t => exact .cons (kV_is h) (items_are t)
abbrev KT (H : Hp) : List (List Key × V) -> List (List Key × Addr × Value) -> Prop := Paired fun p q => p.1 = q.1 /\ H q.2.1 = some (.tup (p.1.map kV)) /\ RelV p.2 q.2.2
theorem KT.val {H : Hp} {kvs : List (List Key × V)} {xs : List (List Key × Addr × Value)} (r : KT H kvs xs) (k : List Key) : RelO (valV kvs k) ((atKey xs k).map (·.2)) := by
  induction r with
  | nil => exact True.intro
  | @cons p q ps qs h t ih =>
    obtain ⟨h1, _, h2⟩ := h
    by_cases e : p.1 = k
    · have e' : q.1 = k := h1.symm.trans e
      have b : atKey (q :: qs) k = some q.2 := by simp [atKey, xbo, e']
      rw [valV_pos e, b]; exact h2
    · have e' : ¬ q.1 = k := fun z => e (h1.trans z)
      have b : atKey (q :: qs) k = atKey qs k := by simp [atKey, xbo, e']
      rw [valV_neg e, b]; exact ih
theorem KT.repl {H : Hp} {kvs : List (List Key × V)} {xs : List (List Key × Addr × Value)} (r : KT H kvs xs) (k : List Key) {y : V} {u : Value} (ry : RelV y u) :
    KT H (kvs.map fun kv => if kv.1 = k then (kv.1, y) else kv) (xs.map (putAt k u)) := by
  induction r with
  | nil => exact .nil
  | @cons p q ps qs h t ih =>
    rw [xba, xba]
    refine .cons ?_ ih
    obtain ⟨h1, h2, h3⟩ := h
    unfold putAt
    by_cases e : p.1 = k
    · rw [xav e, xav (h1.symm.trans e)]; exact ⟨h1, h2, ry⟩
    · rw [xao e, xao (fun z => e (h1.trans z))]; exact ⟨h1, h2, h3⟩
theorem KT.put {H : Hp} {kvs : List (List Key × V)} {xs : List (List Key × Addr × Value)} (r : KT H kvs xs) (k : List Key) {b : Addr} {y : V} {u : Value} (hb : H b = some (.tup (k.map kV))) (ry : RelV y u) :
    KT H (putK kvs k y) (storedH xs k b u) := by
  have e : (kvs.any fun kv => decide (kv.1 = k)) = (atKey xs k).isSome := by
    rw [valV_any, (r.val k).isSome_eq, xbu]
  unfold putK storedH
  rw [e]
  by_cases q : (atKey xs k).isSome = true
  · rw [xav q, xav q]; exact r.repl k ry
  · rw [xao q, xao q]; exact Paired.snoc r ⟨rfl, hb, ry⟩
theorem KT.keeps {H H' : Hp} {kvs : List (List Key × V)} {xs : List (List Key × Addr × Value)} (r : KT H kvs xs) (ht : ∀ b ys, H b = some (.tup ys) -> H' b = some (.tup ys)) : KT H' kvs xs :=
  Paired.mapP r fun _ _ z => ⟨z.1, ht _ _ z.2.1, z.2.2⟩
section
variable {P : Program} {w : World} {H : Hp} {h : Heap} {a : Addr}
theorem rd_of {u : HO} (ok : HOk P w H h) (e : Rd H a u) : ObjOk P w H h a u := e.ok ok
theorem dk_rd {kvs : List (Key × V)} (ok : HOk P w H h) (e : Rd H a (.dK kvs)) : kvs.length <= sizeLine /\ (a == sysModules) = false /\ ∃ vs, KV kvs vs /\ h.DictOf (mixKind P w) a vs :=
  show ObjOk P w H h a (.dK kvs) from rd_of ok e
theorem dk_of {kvs : List (Key × V)} (ok : HOk P w H h) (e : H a = some (.dK kvs)) : kvs.length <= sizeLine /\ (a == sysModules) = false /\ ∃ vs, KV kvs vs /\ h.DictOf (mixKind P w) a vs := dk_rd ok (.inl e)
theorem key_of {ks : List Key} (ok : HOk P w H h) (e : H a = some (.tup (ks.map kV))) : (tupleKind (mixKind P w)).is h ks a := by
  obtain ⟨_, its, r, o, h1, h2, ⟨n, h3⟩, _⟩ := (show ObjOk P w H h a (.tup (ks.map kV)) from ok a _ e)
  exact ⟨o, its.toArray, n, h1, h2, h3, by simpa using items_are r⟩
theorem dt_rd {kvs : List (List Key × V)} (ok : HOk P w H h) (e : Rd H a (.dT kvs)) : kvs.length <= sizeLine /\ (a == sysModules) = false /\
    ∃ xs, KT H kvs xs /\ h.DictOfH (tupleKind (mixKind P w)) a xs := by
  obtain ⟨z, y, xs, r, o, es, ep, h1, h2, h3, h4, h5⟩ := (show ObjOk P w H h a (.dT kvs) from rd_of ok e)
  refine ⟨z, y, xs, r, o, es, ep, h1, h2, h3, h4, fun x hx => ?_, h5⟩
  have all : ∀ {l : List (List Key × V)} {m : List (List Key × Addr × Value)}, KT H l m -> ∀ x ∈ m, (tupleKind (mixKind P w)).is h x.1 x.2.1 := by
    intro l m q
    induction q with
    | nil => intro x hx; exact nomatch hx
    | @cons p q ps qs hq t ih =>
      intro x hx
      rcases xaz.mp hx with e | hx
      · subst e
        exact key_of ok (by rw [<- hq.1]; exact hq.2.1)
      · exact ih x hx
  exact all r x hx
theorem dt_of {kvs : List (List Key × V)} (ok : HOk P w H h) (e : H a = some (.dT kvs)) : kvs.length <= sizeLine /\ (a == sysModules) = false /\
    ∃ xs, KT H kvs xs /\ h.DictOfH (tupleKind (mixKind P w)) a xs := dt_rd ok (.inl e)
end
def DGet (H : Hp) (a : Addr) (y : V) (r : Option V) : Prop :=
  (∃ kvs k, Rd H a (.dK kvs) /\ y = kV k /\ r = valV kvs k) \/ ∃ kvs k b, Rd H a (.dT kvs) /\ y = .ref b /\ H b = some (.tup (k.map kV)) /\ r = valV kvs k
def DPut (H : Hp) (a : Addr) (y v : V) (H' : Hp) : Prop :=
  (∃ kvs k, H a = some (.dK kvs) /\ y = kV k /\ kvs.length < sizeLine /\ H' = upd H a (.dK (putK kvs k v))) \/
  ∃ kvs k b, H a = some (.dT kvs) /\ y = .ref b /\ H b = some (.tup (k.map kV)) /\ kvs.length < sizeLine /\ H' = upd H a (.dT (putK kvs k v))
section
variable {X : Cx} {pins : List (Addr × Obj)} {Z : St} {H : Hp} {s : Shared} {a : Addr} {y v : V} {u r : Value} {o : Option V} {A : Around} {E : Value -> Shared -> Prop}
theorem Inv.big (I : Inv X pins Z H s) : sysModules < s.heap.objs.size := by
  have h : mainGlobals < s.heap.objs.size := (I.mod.glob.keeps I.bk).lt
  exact Nat.lt_trans (by decide) h
theorem d_getItem {Q : Value -> Shared -> Prop} (hu : A.units + 1 < cLine) (I : Inv X pins Z H s) (g : DGet H a y (some v)) (ry : RelV y u) (h : ∀ w' s', Inv X pins Z H s' -> RelV v w' -> Q w' s') :
    wpAny (model X.prog X.w) A (getItem (.ref a) u) Q E s := by
  rcases g with ⟨kvs, k, e, ey, l⟩ | ⟨kvs, k, b, e, ey, eb, l⟩
  · subst ey
    obtain ⟨z, hd, vs, rel, dd⟩ := dk_rd I.hok e
    obtain ⟨w', hw, rw'⟩ := RelO.some_of (v := v) (o := valueAt vs k) (by rw [l]; exact rel.val k)
    exact wpAny_getItem_of (kV_is ry) dd.mapOf hw (h w' _ (I.tok _) rw')
  · subst ey
    cases (show u = Value.ref b from ry)
    obtain ⟨z, hd, xs, rel, dd⟩ := dt_rd I.hok e
    obtain ⟨w', hw, rw'⟩ := RelO.some_of (v := v) (o := (atKey xs k).map (·.2)) (by rw [l]; exact rel.val k)
    obtain ⟨p, hp, hp2⟩ := Option.map_eq_some_iff.mp hw
    refine wpAny_getItem_heap (tupleKind_room_in1 hu) (key_of I.hok eb) dd hp ?_
    rw [hp2]
    exact h w' _ (I.tok _) rw'
theorem d_in {Q : Value -> Shared -> Prop} (hu : A.units + 1 < cLine) (I : Inv X pins Z H s) (g : DGet H a y o) (ry : RelV y u) (h : ∀ s', Inv X pins Z H s' -> Q (.bool o.isSome) s') :
    wpAny (model X.prog X.w) A (compareOp .In u (.ref a)) Q E s := by
  rcases g with ⟨kvs, k, e, ey, l⟩ | ⟨kvs, k, b, e, ey, eb, l⟩
  · subst ey
    obtain ⟨z, hd, vs, rel, dd⟩ := dk_rd I.hok e
    refine wpAny_in_of (kV_is ry) hd dd.mapOf ?_
    rw [<- (rel.val k).isSome_eq, <- l]
    exact h _ (I.tok _)
  · subst ey
    cases (show u = Value.ref b from ry)
    obtain ⟨z, hd, xs, rel, dd⟩ := dt_rd I.hok e
    refine wpAny_in_heap (tupleKind_room_in1 hu) (key_of I.hok eb) hd dd ?_
    have q := (rel.val k).isSome_eq
    rw [xbu] at q
    rw [<- q, <- l]
    exact h _ (I.tok _)
theorem d_write {h' : Heap} {t' : Nat} {ob : HO} (I : Inv X pins Z H s) (mu : Mut (H a)) (hs : Heap.SameBut a s.heap h') (he : ∃ q, h'.get? a = some q) (new : ObjOk X.prog X.w (upd H a ob) h' a ob) :
    Inv X pins Z (upd H a ob) { s with heap := h', toks := t' } :=
  I.write (x := a) (e := a) mu (.inl rfl) (fun b q hb z => (hs.2 b hb).trans z) he new
theorem dk_new {P : Program} {w : World} {H' : Hp} {h' : Heap} {kvs : List (Key × V)} {vs : List (Key × Value)} (z : kvs.length <= sizeLine) (hd : (a == sysModules) = false) (rel : KV kvs vs) (dd : h'.DictOf (mixKind P w) a vs) :
    ObjOk P w H' h' a (.dK kvs) := ⟨z, hd, vs, rel, dd⟩
theorem d_setItem {H' : Hp} {Q : Unit -> Shared -> Prop} (hu : A.units + 1 < cLine) (I : Inv X pins Z H s) (g : DPut H a y v H') (ry : RelV y u) (rv : RelV v r) (h : ∀ s', Inv X pins Z H' s' -> Q () s') :
    wpAny (model X.prog X.w) A (setItem (.ref a) u r) Q E s := by
  rcases g with ⟨kvs, k, e, ey, l, eH⟩ | ⟨kvs, k, b, e, ey, eb, l, eH⟩
  · subst ey eH
    obtain ⟨z, hd, vs, rel, dd⟩ := dk_of I.hok e
    have hz : vs.length <= sizeLine := by rw [<- rel.length]; exact z
    have hl : (putK kvs k v).length <= sizeLine := by have := length_putK kvs k v; omega
    refine wpAny_setItem_pairs (hsz := hz) (kV_is ry) dd fun h' dd' hs => h _ ?_
    have he : ∃ q, h'.get? a = some q := let ⟨q, _, _, hq, _⟩ := dd'; ⟨q, hq⟩
    exact d_write I (by rw [e]; exact True.intro) hs he (dk_new hl hd (rel.put k rv) dd')
  · subst ey eH
    cases (show u = Value.ref b from ry)
    obtain ⟨z, hd, xs, rel, dd⟩ := dt_of I.hok e
    have hz : xs.length <= sizeLine := by rw [<- Paired.length rel]; exact z
    have hl : (putK kvs k v).length <= sizeLine := by have := length_putK kvs k v; omega
    refine wpAny_setItem_heap (hsz := hz) (tupleKind_room_in1 hu) (key_of I.hok eb) dd fun h' dd' hs => h _ ?_
    obtain ⟨q, es, ep, hq, h2, h3, h4, _, h5⟩ := dd'
    refine d_write I (by rw [e]; exact True.intro) hs ⟨q, hq⟩ ⟨hl, hd, _, (rel.put k eb rv).keeps fun c ys ec => ?_, q, es, ep, hq, h2, h3, h4, h5⟩
    rw [upd_ne (ne_of ec e (fun z => nomatch z))]
    exact ec
end
section
variable {X : Cx} {pins : List (Addr × Obj)} {Z : St} {H : Hp} {s : Shared} {a : Addr} {kvs : List (Key × V)} {k : Key} {u : Value} {A : Around} {E : Value -> Shared -> Prop}
theorem d_delItem {Q : Unit -> Shared -> Prop} (I : Inv X pins Z H s) (e : H a = some (.dK kvs)) (ry : RelV (kV k) u) (l : (valV kvs k).isSome = true) (h : ∀ s', Inv X pins Z (upd H a (.dK (dropK kvs k))) s' -> Q () s') :
    wpAny (model X.prog X.w) A (delItem (.ref a) u) Q E s := by
  obtain ⟨z, hd, vs, rel, dd⟩ := dk_of I.hok e
  refine wpAny_delItem_slot dd.typeIs (by decide) PySem.F.slot_dict_delitem
    (call_meetsIn PySem.F.slot_dict_delitem dd.typeIs PySem.F.entry_dict_delitem (PySem.F.args_dict_delitem_2 _ _) (meets_dict_delitem_pairs (mixKind X.prog X.w) a (kV_is ry)) ⟨vs, dd, by rw [<- rel.length]; exact z, by rw [<- (rel.val k).isSome_eq]; exact l, fun h' dd' hs => h _ ?_⟩)
  have he : ∃ q, h'.get? a = some q := let ⟨q, _, _, hq, _⟩ := dd'; ⟨q, hq⟩
  exact d_write I (by rw [e]; exact True.intro) hs he (dk_new (xa1 (dropK_le kvs k) z) hd (rel.drop k) dd')
theorem d_pop {v : V} {more : List Value} {Q : Value -> Shared -> Prop} (I : Inv X pins Z H s) (e : H a = some (.dK kvs)) (ry : RelV (kV k) u) (l : valV kvs k = some v) (hm : more = [] \/ ∃ x, more = [x])
    (h : ∀ w' s', Inv X pins Z (upd H a (.dK (dropK kvs k))) s' -> RelV v w' -> Q w' s') : wpAny (model X.prog X.w) A (call (.builtin "dict.pop") (.ref a :: u :: more)) Q E s := by
  obtain ⟨z, hd, vs, rel, dd⟩ := dk_of I.hok e
  obtain ⟨w', hw, rw'⟩ := RelO.some_of (v := v) (o := valueAt vs k) (by rw [<- l]; exact rel.val k)
  have hp : (keyPart u).isSome = true := by
    cases k with
    | inl i => obtain ⟨t, q⟩ := (show ∃ t, u = Value.int i t from ry); subst q; rfl
    | inr x => obtain ⟨t, q⟩ := (show ∃ t, u = Value.str x t from ry); subst q; rfl
  have ha : argsOk "dict.pop" ⟨.ref a :: u :: more, []⟩ := by
    rcases hm with q | ⟨x, q⟩
    · subst q; exact PySem.F.args_dict_pop_2 _ _
    · subst q; exact PySem.F.args_dict_pop_3 _ _ _
  refine call_meetsIn PySem.F.slot_dict_pop dd.typeIs PySem.F.entry_dict_pop ha (meets_dict_pop_there (mixKind X.prog X.w) a (kV_is ry) more hm hp)
    ⟨vs, w', dd, by rw [<- rel.length]; exact z, hw, fun h' dd' hs => h w' _ ?_ rw'⟩
  have he : ∃ q, h'.get? a = some q := let ⟨q, _, _, hq, _⟩ := dd'; ⟨q, hq⟩
  exact d_write I (by rw [e]; exact True.intro) hs he (dk_new (xa1 (dropK_le kvs k) z) hd (rel.drop k) dd')
end
def NoSl (i : Expr) : Prop := ∀ ov iv, subscripted i false ov iv = operate [ov, iv] (getItem ov iv)
theorem subD_of {prog : Program} {w : World} {A : Around} {E : Value -> Shared -> Prop} {s : Shared} {env : Env} {value slice : Expr} {pos : Pos} {T id : String} {Q : Value -> Shared -> Prop}
    (hl : typeLookup (.type T) "__getitem__" = pure (some (.builtin id))) (hs : NoSl slice)
    (h : wpAny (model prog w) A (eval value env) (fun o s₁ => wpAny (model prog w) A (eval slice env) (fun i s₂ => s₂.TypeIs o T /\ wpAny (model prog w) A (getItem o i) Q E s₂) E s₁) E s) :
    wpAny (model prog w) A (eval (.Subscript value slice pos) env) Q E s := by
  refine Subscript_ (wpAny_mono h (fun o s₁ h₁ => wpAny_mono h₁ (fun i s₂ h₂ => ?_) fun _ _ x => x) fun _ _ x => x)
  obtain ⟨hT, h₂⟩ := h₂
  unfold subscriptTail
  refine xaa ?_
  rw [getitemInPython_of_ne hT.not_modules]
  refine xaa (wpAny_specialOf hT hl ?_)
  have fin : wpAny (model prog w) A (subscripted slice false o i) (fun r s₃ => wpAny (model prog w) A (letTemporaryGo value o r >>= fun _ => pure r) Q E s₃) E s₂ := by
    rw [hs o i]
    exact wpAny_operating (wpAny_mono h₂ (fun r s₃ h₃ => xaa (wpAny_letTemporaryGo (xaj h₃))) fun _ _ x => x)
  first
    | exact xaj (xaa fin)
    | exact xaa (xaj (xaa fin))
    | exact xaa fin
theorem dict_typeIs {X : Cx} {pins : List (Addr × Obj)} {Z : St} {H : Hp} {s : Shared} {a : Addr} {y : V} {o : Option V} (I : Inv X pins Z H s) (g : DGet H a y o) : s.TypeIs (.ref a) "dict" := by
  rcases g with ⟨kvs, k, e, _, _⟩ | ⟨kvs, k, b, e, _, _, _⟩
  · obtain ⟨_, _, vs, _, dd⟩ := dk_rd I.hok e
    exact dd.typeIs
  · obtain ⟨_, _, xs, _, dd⟩ := dt_rd I.hok e
    exact dd.typeIs
def tDGet (td ty : TE) : TE := fun Z H Q => td Z H fun x H1 => ty Z H1 fun y H2 => ∃ a v, x = .ref a /\ DGet H2 a y (some v) /\ Q v H2
def sDPut (td ty tv : TE) : TS := fun D Z H => tv Z H fun v H1 => td Z H1 fun x H2 => ty Z H2 fun y H3 => ∃ a H4, x = .ref a /\ DPut H3 a y v H4 /\ D.nx Z H4
section
variable {X : Cx} {o i e value : Expr} {pos pos' tpos : Pos} {td ty tv : TE}
theorem pe_dget (hu : X.A.units + 1 < cLine) (ho : PE X o td) (hi : PE X i ty) (hs : NoSl i) : PE X (.Subscript o i pos) (tDGet td ty) := by
  intro pins s Z H Q I h
  refine subD_of PySem.F.slot_dict_getitem.lookup hs (thn (ho pins s Z H _ I h) fun u s1 ⟨x, H1, I1, rx, q1⟩ => thn (hi pins s1 Z H1 _ I1 q1) fun iv s2 ⟨y, H2, I2, ry, a, v, ex, g, q2⟩ => ?_)
  subst ex
  obtain rfl : u = Value.ref a := rx
  exact ⟨dict_typeIs I2 g, d_getItem hu I2 g ry fun w' s3 I3 rw' => ⟨v, H2, I3, rw', q2⟩⟩
theorem ps_dput (hu : X.A.units + 1 < cLine) (ho : PE X o td) (hi : PE X i ty) (hv : PE X value tv) (hs : swapsWith value (some (.Subscript o i pos')) pos.line X.env = pure false) :
    PS X (.Assign [.Subscript o i pos'] value pos) (sDPut td ty tv) := by
  intro pins s Z H D I h
  refine wpAny_Assign_Subscript (thn (hv pins s Z H _ I h) fun r s1 ⟨v, H1, I1, rv, q1⟩ => thn (ho pins s1 Z H1 _ I1 q1) fun u s2 ⟨x, H2, I2, rx, q2⟩ => thn (hi pins s2 Z H2 _ I2 q2) fun iv s3 ⟨y, H3, I3, ry, a, H4, ex, g, q3⟩ => ?_) hs
  subst ex
  obtain rfl : u = Value.ref a := rx
  exact d_setItem hu I3 g ry rv fun s4 I4 => ⟨Z, H4, I4, q3⟩
end
theorem dk_empty {P : Program} {w : World} {H : Hp} (h : Heap) (hb : sysModules < h.objs.size) : ObjOk P w H (h.push { cls := .type "dict", data := .dict #[] }) h.objs.size (.dK []) :=
  ⟨xbw _, beq_eq_false_iff_ne.mpr (xay (xa5 hb)), [], .nil, Heap.DictOf.new h⟩
def tDNewK : TE := fun _ H Q => ∀ p, H p = none -> Q (.ref p) (upd H p (.dK []))
section
variable {X : Cx} {pos : Pos}
theorem pe_dnewK : PE X (.Dict [] [] pos) tDNewK := fun pins s Z H Q I h =>
  wpAny_Dict_empty ⟨.ref s.heap.objs.size, _, I.laid (a := s.heap.objs.size) (o := .dK []) (t' := s.toks) (fun _ _ q => xad _ q) (xam _) (dk_empty s.heap I.big), rfl, h _ (I.hok.fresh (xam _))⟩
end
structure M1 (X : Cx) (o : Expr) (m : Str) (apos : Pos) (e : Expr) (cpos : Pos) : Prop where
  base : attributeBase o m X.env (eval o X.env) = eval o X.env
  few : ((backTo cpos (starEach [e] X.env)).all (fun x => !x.1) && (backToKw cpos (keywordEach [] X.env)).all (fun x => x.1.isSome)
    && decide (([e] : List Expr).length + ([] : List Keyword).length + (if ([] : List Keyword).isEmpty then 0 else 1) < 30)) = true
  line : (apos.endLine == cpos.line) = true
  trees : backTo cpos (starEach [e] X.env) = [(false, eval e X.env)]
def IsD (H : Hp) (a : Addr) : Prop := (∃ kvs, Rd H a (.dK kvs)) \/ ∃ kvs, Rd H a (.dT kvs)
theorem isD_at {X : Cx} {pins : List (Addr × Obj)} {Z : St} {H : Hp} {s : Shared} {a : Addr} (I : Inv X pins Z H s) (d : IsD H a) :
    s.TypeIs (.ref a) "dict" /\ (∀ b, Value.ref a = .ref b -> ∃ ob, s.heap.get? b = some ob /\ ob.dict = none) /\ (a == sysModules) = false := by
  rcases d with ⟨kvs, e⟩ | ⟨kvs, e⟩
  · obtain ⟨_, hd, vs, _, dd⟩ := dk_rd I.hok e
    refine ⟨dd.typeIs, fun b q => ?_, hd⟩
    cases q
    obtain ⟨ob, _, _, h1, h2, _⟩ := dd
    exact ⟨ob, h1, h2.2.1⟩
  · obtain ⟨_, hd, xs, _, dd⟩ := dt_rd I.hok e
    refine ⟨dd.typeIs, fun b q => ?_, hd⟩
    cases q
    obtain ⟨ob, _, _, h1, h2, _⟩ := dd
    exact ⟨ob, h1, h2.2.1⟩
section
variable {X : Cx} {pins : List (Addr × Obj)} {Z : St} {H : Hp} {s : Shared} {a : Addr} {y d : V} {u r : Value} {o : Option V} {A : Around} {E : Value -> Shared -> Prop}
theorem d_get1 {Q : Value -> Shared -> Prop} (hu : A.units + 1 < cLine) (I : Inv X pins Z H s) (g : DGet H a y o) (ry : RelV y u) (h : ∀ w' s', Inv X pins Z H s' -> RelV (o.getD .non) w' -> Q w' s') :
    wpAny (model X.prog X.w) A (call (.builtin "dict.get") [.ref a, u]) Q E s := by
  rcases g with ⟨kvs, k, e, ey, l⟩ | ⟨kvs, k, b, e, ey, eb, l⟩
  · subst ey
    obtain ⟨z, hd, vs, rel, dd⟩ := dk_rd I.hok e
    refine call_meetsIn PySem.F.slot_dict_get dd.typeIs PySem.F.entry_dict_get (PySem.F.args_dict_get_2 _ _) (meets_dict_get (mixKind X.prog X.w) a (kV_is ry) hd) ⟨_, dd.mapOf, h _ _ (I.tok _) ?_⟩
    rw [l]
    exact (rel.val k).getD rfl
  · subst ey
    cases (show u = Value.ref b from ry)
    obtain ⟨z, hd, xs, rel, dd⟩ := dt_rd I.hok e
    refine call_meetsIn PySem.F.slot_dict_get dd.typeIs PySem.F.entry_dict_get (PySem.F.args_dict_get_2 _ _) (meetsH_dict_get (tupleKind (mixKind X.prog X.w)) a b hd) ⟨tupleKind_room_in1 hu, k, xs, key_of I.hok eb, dd, h _ _ (I.tok _) ?_⟩
    rw [l]
    exact (rel.val k).getD rfl
end
def tDGet1 (td ty : TE) : TE := fun Z H Q => td Z H fun x H1 => ∃ a, x = .ref a /\ IsD H1 a /\ ty Z H1 fun y H2 => ∃ o, DGet H2 a y o /\ Q (o.getD .non) H2
def tDPop1 (td ty : TE) : TE := fun Z H Q => td Z H fun x H1 => ∃ a, x = .ref a /\ IsD H1 a /\ ty Z H1 fun y H2 => ∃ kvs k v, H2 a = some (.dK kvs) /\ y = kV k /\ valV kvs k = some v /\ Q v (upd H2 a (.dK (dropK kvs k)))
section
variable {X : Cx} {o e f : Expr} {apos cpos : Pos} {td ty tx : TE}
theorem pe_dget1 (hu : X.A.units + 1 < cLine) (ho : PE X o td) (he : PE X e ty) (m : M1 X o "get" apos e cpos) : PE X (.Call (.Attribute o "get" apos) [e] [] cpos) (tDGet1 td ty) := by
  intro pins s Z H Q I h
  refine wpAny_Call_method m.base m.few m.line PySem.F.plainAttrs_dict PySem.F.slot_dict_get PySem.F.type_dict_get (thn (ho pins s Z H _ I h) fun u s1 ⟨x, H1, I1, rx, a, ex, d, q1⟩ => ?_)
  subst ex
  obtain rfl : u = Value.ref a := rx
  obtain ⟨t1, t2, _⟩ := isD_at I1 d
  refine ⟨t1, t2, ?_⟩
  rw [m.trees]
  refine Calls.callWith_builtin rfl (Calls.evalArgs_plain (Calls.spliced_cons (thn (he pins s1 Z H1 _ I1 q1) fun iv s2 ⟨y, H2, I2, ry, ov, g, q2⟩ => Calls.spliced_nil ?_)))
  exact d_get1 hu I2 g ry fun w' s3 I3 rw' => ⟨_, H2, I3, rw', q2⟩
theorem pe_dpop1 (ho : PE X o td) (he : PE X e ty) (m : M1 X o "pop" apos e cpos) : PE X (.Call (.Attribute o "pop" apos) [e] [] cpos) (tDPop1 td ty) := by
  intro pins s Z H Q I h
  refine wpAny_Call_method m.base m.few m.line PySem.F.plainAttrs_dict PySem.F.slot_dict_pop PySem.F.type_dict_pop (thn (ho pins s Z H _ I h) fun u s1 ⟨x, H1, I1, rx, a, ex, d, q1⟩ => ?_)
  subst ex
  obtain rfl : u = Value.ref a := rx
  obtain ⟨t1, t2, _⟩ := isD_at I1 d
  refine ⟨t1, t2, ?_⟩
  rw [m.trees]
  refine Calls.callWith_builtin rfl (Calls.evalArgs_plain (Calls.spliced_cons (thn (he pins s1 Z H1 _ I1 q1) fun iv s2 ⟨y, H2, I2, ry, kvs, k, v, ea, ey, l, q2⟩ => Calls.spliced_nil ?_)))
  subst ey
  exact d_pop I2 ea ry l (.inl rfl) fun w' s3 I3 rw' => ⟨v, _, I3, rw', q2⟩
end
section
variable {X : Cx} {pins : List (Addr × Obj)} {Z : St} {H : Hp} {s : Shared} {a : Addr} {kvs : List (Key × V)} {A : Around} {E : Value -> Shared -> Prop}
theorem d_copyOf {Q : Value -> Shared -> Prop} (I : Inv X pins Z H s) (e : Rd H a (.dK kvs)) (h : ∀ p s', H p = none -> Inv X pins Z (upd H p (.dK kvs)) s' -> Q (.ref p) s') : wpAny (model X.prog X.w) A (call (.type "dict") [.ref a]) Q E s := by
  obtain ⟨z, hd, vs, rel, dd⟩ := dk_rd I.hok e
  refine kt_call_dict hd dd (by rw [<- rel.length]; exact z) fun h' dd' hs => ?_
  refine h _ _ (I.hok.fresh (xam _)) (I.laid (a := s.heap.objs.size) (o := .dK kvs) (t' := s.toks) (fun b q hq => ?_) (xam _) (dk_new z (beq_eq_false_iff_ne.mpr (xay (xa5 I.big))) rel dd'))
  exact (hs.2 b (xa5 (xai hq))).trans (xad _ hq)
end
end L2
section
set_option maxHeartbeats 2000000
namespace L2
open PySem.Spec PyProof.Rows
section
variable {P : Program} {w : World} {K : Type} [DecidableEq K] {knd : KeyKind P w K}
theorem pairs_len : ∀ {es : List DictEntry} {kvs : List (K × Value)}, Pairs knd es kvs -> es.length = kvs.length
  | _, _, .nil => rfl
  | _, _, .cons _ _ t => by rw [xaw, xaw, pairs_len t]
theorem pairs_get : ∀ {es : List DictEntry} {kvs : List (K × Value)}, Pairs knd es kvs -> ∀ (i : Nat) (e : DictEntry), es[i]? = some e -> ∃ kv, kvs[i]? = some kv /\ knd.is kv.1 e.key = true /\ e.val = kv.2
  | _, _, .nil, i, e, h => by simp at h
  | _, _, .cons (kv := kv) h1 h2 t, 0, e, h => by simp at h; subst h; exact ⟨kv, rfl, h1, h2⟩
  | _, _, .cons h1 h2 t, i + 1, e, h => by
    obtain ⟨kv, q1, q2⟩ := pairs_get t i e (by simpa using h)
    exact ⟨kv, by simpa using q1, q2⟩
theorem key_once {kvs : List (K × Value)} (nd : (kvs.map (·.1)).Nodup) {i j : Nat} {x y : K × Value} (hx : kvs[i]? = some x) (hy : kvs[j]? = some y) (e : x.1 = y.1) : i = j := by
  have li : i < (kvs.map (·.1)).length := by rw [xar]; exact (xab.mp hx).1
  refine (List.getElem?_inj li nd).mp ?_
  rw [xa2, xa2, hx, hy, Option.map_some, Option.map_some, e]
theorem same_pairs {A : Around} {E : Value -> Shared -> Prop} {s : Shared} {a b : Addr} {kvs kvs' : List (K × Value)} {id : String} {Q : Bool -> Shared -> Prop}
    (ha : (a == sysModules) = false) (hb : (b == sysModules) = false) (da : s.heap.DictOf knd a kvs) (db : s.heap.DictOf knd b kvs') (hk : kvs.map (·.1) = kvs'.map (·.1))
    (hv : ∀ (i : Nat) (x y : K × Value), kvs[i]? = some x -> kvs'[i]? = some y -> SeqAt.EqAt A s x.2 y.2 true) (q : Q true s) : wpAny (model P w) A (Builtin.Dict.samePairs id a b) Q E s := by
  obtain ⟨oa, ea, pa, g1, g2, g3, g4, g5, g6⟩ := da
  obtain ⟨ob, eb, pb, f1, f2, f3, f4, f5, f6⟩ := db
  have hlen : kvs.length = kvs'.length := by have := congrArg List.length hk; simpa using this
  have la : ea.size = kvs.length := by rw [<- pairs_len g5]; simp
  have lb : eb.size = kvs'.length := by rw [<- pairs_len f5]; simp
  unfold Builtin.Dict.samePairs Builtin.Dict.showsAll
  rw [ha, hb, xao xap]
  refine xaa (xaj (xaa (xaj (xaa (wpAny_dictEntries g1 g3 (xaa (wpAny_dictEntries f1 f3 ?_)))))))
  have hne : (ea.size != eb.size) = false := by rw [la, lb, hlen]; simp
  rw [hne, xao xap]
  refine xaa (wpAny_dictEpoch g1 g3 (xaa ?_))
  rw [Std.Legacy.Range.forIn_eq_forIn_range']
  refine wpAny_forIn_list _ (fun l r s' => s' = s /\ r = (none, ()) /\ ∃ k, k + l.length = ea.size /\ l = List.range' k l.length 1) _ ?_ ?_ _ _ ⟨rfl, rfl, 0, ?_, ?_⟩
  · rintro i rest r s' ⟨rfl, rfl, k, h1, h2⟩
    rw [xaw, List.range'_succ] at h2
    injection h2 with h3 h4
    subst h3
    have hi : i < ea.size := by rw [xaw] at h1; omega
    refine xaa (wpAny_dictEntries g1 g3 ?_)
    rw [xbg hi]
    obtain ⟨kv, k1, k2, k3⟩ := pairs_get g5 i ea[i] (by rw [xbn]; exact xbg hi)
    have hi' : i < eb.size := by omega
    obtain ⟨kv', j1, j2, j3⟩ := pairs_get f5 i eb[i] (by rw [xbn]; exact xbg hi')
    have ek : kv.1 = kv'.1 := by
      have z1 : (kvs.map (·.1))[i]? = some kv.1 := by rw [xa2, k1]; rfl
      have z2 : (kvs'.map (·.1))[i]? = some kv'.1 := by rw [xa2, j1]; rfl
      rw [hk, z2] at z1
      exact (xa0 z1).symm
    obtain ⟨k', hk', hh⟩ := g4 ea[i] (Array.getElem_mem hi)
    have : k' = kv.1 := knd.inj _ _ _ hk' k2
    subst this
    refine xaa (wpAny_holding (xaa ?_))
    rw [hh]
    refine wpAny_dictFind_of k2 f1 f3 f4 ?_
    have hf : Array.findIdx? (fun e => knd.is kv.1 e.key) eb = some i := by
      rw [Array.findIdx?_eq_some_iff_getElem]
      refine ⟨hi', by rw [ek]; exact j2, fun j hj hc => ?_⟩
      obtain ⟨kj, c1, c2, _⟩ := pairs_get f5 j eb[j] (by rw [xbn]; exact xbg (by omega))
      have := key_once f6 c1 j1 ((knd.inj _ _ _ c2 hc).trans ek)
      omega
    rw [hf]
    refine xaa (wpAny_dictEntries f1 f3 ?_)
    rw [xbg hi']
    refine wpAny_holding ?_
    rw [k3, j3]
    refine hv i kv kv' k1 j1 _ _ _ _ ?_
    rw [Bool.not_true, xao xap]
    refine xaa (wpAny_dictEpoch g1 g3 ?_)
    rw [show (pa != pa) = false by simp, xao xap]
    exact xaj ⟨rfl, rfl, i + 1, by rw [xaw] at h1; omega, h4⟩
  · rintro r s' ⟨rfl, rfl, _⟩
    exact xaj q
  · simp
  · simp
theorem ne_dicts {A : Around} {E : Value -> Shared -> Prop} {s : Shared} {a b : Addr} {kvs kvs' : List (K × Value)} {Q : Value -> Shared -> Prop} (hu : A.units < cLine)
    (ha : (a == sysModules) = false) (hb : (b == sysModules) = false) (da : s.heap.DictOf knd a kvs) (db : s.heap.DictOf knd b kvs') (hk : kvs.map (·.1) = kvs'.map (·.1))
    (hv : ∀ (i : Nat) (x y : K × Value), kvs[i]? = some x -> kvs'[i]? = some y -> SeqAt.EqAt A.in1 s x.2 y.2 true) (q : Q (.bool false) s) : wpAny (model P w) A (compareOp .NotEq (.ref a) (.ref b)) Q E s := by
  show wpAny (model P w) A (richCompare .NotEq (.ref a) (.ref b)) Q E s
  refine wpAny_richCompare_same_room da.typeIs db.typeIs F.slot_dict_ne (call_meetsIn F.slot_dict_ne da.typeIs F.entry_dict_ne (F.args_dict_ne_2 _ _) (S := fun A' R s' => A' = A /\ s' = s /\ R (.ok (.ret (.bool false))) s) ?_ ⟨rfl, rfl, show Value.bool false ≠ Value.notImplemented /\ Q (.bool false) s from ⟨by simp, q⟩⟩) hu
  rintro A' R s' ⟨rfl, rfl, r⟩
  unfold Builtin.«dict.__ne__»
  refine xaa (m := Builtin.Dict.dictSlotArgs "__ne__" _) (xaa (wpAny_notOrdered_dict da.typeIs (xaa ?_)))
  refine xaj (xaj (xaa (wpAny_isInstance db.typeIs isSubtype_dict_dict ?_)))
  rw [Bool.not_true, xao xap]
  refine xaa (xaj (xaa (xaj (xaa (same_pairs ha hb da db hk hv ?_)))))
  exact xaj r
end
end L2
namespace DL
open L2 PyProof.Rows
def valD : List Key -> List D -> Key -> Option D
  | k :: ks, d :: ds, x => if k = x then some d else valD ks ds x
  | _, _, _ => none
def dropD : List Key -> List D -> Key -> List Key × List D
  | k :: ks, d :: ds, x => if k = x then dropD ks ds x else (k :: (dropD ks ds x).1, d :: (dropD ks ds x).2)
  | _, _, _ => ([], [])
section
variable {K : xFg} {mg : Str -> Option Value} {G : Hp}
theorem valD_some : ∀ {ks : List Key} {ds : List D} {vs : List V} {x : Key} {d : D}, Reps K mg G ds vs -> ks.length = vs.length -> valD ks ds x = some d -> ∃ v, valV (ks.zip vs) x = some v /\ Rep K mg G d v
  | [], _, _, _, _, _, _, h => by unfold valD at h; cases h
  | _ :: _, [], _, _, _, _, _, h => by unfold valD at h; cases h
  | k :: ks, d' :: ds, _, x, d, ⟨v, r, h1, h2, h3⟩, hl, h => by
    subst h1
    unfold valD at h
    rw [xbt]
    by_cases e : k = x
    · rw [xav e] at h; cases h
      exact ⟨v, valV_pos (p := (k, v)) e, h2⟩
    · rw [xao e] at h
      obtain ⟨u, q1, q2⟩ := valD_some h3 (by simpa using hl) h
      exact ⟨u, by rw [valV_neg (p := (k, v)) e]; exact q1, q2⟩
theorem valD_none : ∀ {ks : List Key} {ds : List D} {vs : List V} {x : Key}, Reps K mg G ds vs -> ks.length = vs.length -> valD ks ds x = none -> valV (ks.zip vs) x = none
  | [], _, _, _, _, _, _ => by rw [List.zip_nil_left]; rfl
  | _ :: _, [], _, _, h, hl, _ => by cases h; simp at hl
  | k :: ks, d' :: ds, _, x, ⟨v, r, h1, h2, h3⟩, hl, h => by
    subst h1
    unfold valD at h
    rw [xbt]
    by_cases e : k = x
    · rw [xav e] at h; cases h
    · rw [xao e] at h
      rw [valV_neg (p := (k, v)) e]
      exact valD_none h3 (by simpa using hl) h
theorem dropD_ok : ∀ {ks : List Key} {ds : List D} {vs : List V} {x : Key}, Reps K mg G ds vs -> ks.length = vs.length -> ∃ vs', Reps K mg G (dropD ks ds x).2 vs' /\ (dropD ks ds x).1.length = vs'.length /\ dropK (ks.zip vs) x = (dropD ks ds x).1.zip vs'
  | [], [], _, _, h, hl => by cases h; exact ⟨[], rfl, rfl, rfl⟩
  | [], _ :: _, _, _, ⟨v, r, h1, _⟩, hl => by subst h1; simp at hl
  | _ :: _, [], _, _, h, hl => by cases h; simp at hl
  | k :: ks, d :: ds, _, x, ⟨v, r, h1, h2, h3⟩, hl => by
    subst h1
    obtain ⟨vs', q1, q2, q3⟩ := dropD_ok (x := x) h3 (by simpa using hl)
    unfold dropD
    rw [xbt]
    unfold dropK at q3 ⊢
    rw [xb7]
    by_cases e : k = x
    · rw [xav e, xao (by simp [e])]; exact ⟨vs', q1, q2, q3⟩
    · rw [xao e, xav (by simp [e])]
      exact ⟨v :: vs', Reps.cons h2 q1, by simp [q2], by rw [xbt, q3]⟩
end
def gIxD : D -> D -> R D
  | .dct ks ds, .str x => match valD ks ds (.inr x) with
    | some d => .ok d
    | none => .bad
  | _, _ => .bad
def gInK : D -> D -> R D
  | .str x, .dct ks ds => .ok (.bl (valD ks ds (.inr x)).isSome)
  | _, _ => .bad
def gGetD : D -> D -> R D
  | .dct ks ds, .str x => .ok ((valD ks ds (.inr x)).getD .non)
  | _, _ => .bad
def eGetD (fa fb : DSt -> R D) : DSt -> R D := fun Z => (fa Z).bind fun x => match x with
  | .dct ks ds => (fb Z).bind fun y => gGetD (.dct ks ds) y
  | _ => .bad
def gCopyD : List D -> R D
  | [.dct ks ds] => .ok (.dct ks ds)
  | _ => .bad
def gNeD : D -> D -> R D
  | .dct ks ds, .dct ks' ds' => bif decide (ks = ks') && ds.all (datN 9) && ds'.all (datN 9) && eqDs ds ds' then .ok (.bl false) else .bad
  | _, _ => .bad
section
variable {X : Cx} {E : XK} {K : xFg} {mg : Str -> Option Value} {j : Nat} {a b : Expr} {fa fb : DSt -> R D} {pos : Pos}
theorem rdH {G H : Hp} {p : Addr} {u : HO} (e : Same G H) (h : Rd G p u) : Rd H p u := Same.rd e h
theorem de_ixD (C : XC X E j) (ha : DE X E a fa) (hb : DE X E b fb) (hs : NoSl b := by intro _ _; rfl) : DE X E (.Subscript a b pos) (eOp gIxD fa fb) :=
  PE.mono' (pe_dget (by have := C.room.un; omega) ha hb hs) fun Z H Q ⟨G, Zd, ok, q⟩ => by
  refine tE_then (P := After X.K X.mg Q) ok q fun d x G1 H1 s1 ok1 r1 q1 => ?_
  refine tE_then (P := fun _ _ => After X.K X.mg Q G H) ok1 q1 fun d' y G2 H2 s2 ok2 r2 q2 => ?_
  cases d with
  | dct ks ds => cases d' with
    | str z =>
      cases r2
      obtain ⟨p, vs, rfl, h1, h2, h3⟩ := r1.mono s2.g
      simp only [gIxD] at q2
      cases hv : valD ks ds (.inr z) with
      | none => rw [hv] at q2; exact (show False from q2).elim
      | some u =>
        rw [hv] at q2
        obtain ⟨v, e1, e2⟩ := valD_some h3 h2 hv
        exact ⟨p, v, rfl, .inl ⟨_, .inr z, rdH ok2.ext h1, rfl, e1.symm⟩, (show After X.K X.mg Q G H u from q2) v G2 H2 (s1.trans s2) e2⟩
    | _ => exact (show False from q2).elim
  | _ => cases d' <;> exact (show False from q2).elim
abbrev rInK : R2 := fun x y H Q => ∃ p kvs k, y = .ref p /\ Rd H p (.dK kvs) /\ x = kV k /\ Q (.bl (valV kvs k).isSome) H
theorem cf_inK (C : XC X E j) : CmpF X .In gInK := ⟨rInK, (fun pins s Z H x y v u Q I rx ry ⟨p, kvs, k, e1, e2, e3, q⟩ => by
  subst e1 e3
  obtain rfl : u = Value.ref p := ry
  exact d_in (by have := C.room.un; omega) I (.inl ⟨kvs, k, e2, rfl, rfl⟩) rx fun s' I' => ⟨.bl _, H, I', rfl, q⟩), fun G H d d' x y Q e ra rb q => by
  cases d with
  | str z => cases d' with
    | dct ks ds =>
      cases ra
      obtain ⟨p, vs, rfl, h1, h2, h3⟩ := rb
      refine ⟨p, _, .inr z, rfl, rdH e h1, rfl, ?_⟩
      have q' : After X.K X.mg Q G H (.bl (valD ks ds (.inr z)).isSome) := q
      cases hv : valD ks ds (.inr z) with
      | none => rw [valD_none h3 h2 hv]; rw [hv] at q'; exact After.now q' e rfl
      | some u => obtain ⟨v, e1, _⟩ := valD_some h3 h2 hv; rw [e1]; rw [hv] at q'; exact After.now q' e rfl
    | _ => exact (show False from q).elim
  | _ => cases d' <;> exact (show False from q).elim, fun d d' e h => by
    cases d <;> cases d' <;> simp [gInK] at h⟩
theorem de_getD (C : XC X E j) (ha : DE X E a fa) (hb : DE X E b fb) {apos cpos : Pos} (h1 : attributeBase a "get" X.env (eval a X.env) = eval a X.env := by rfl)
    (h2 : ((backTo cpos (starEach [b] X.env)).all (fun x => !x.1) && (backToKw cpos (keywordEach [] X.env)).all (fun x => x.1.isSome) && decide (([b] : List Expr).length + ([] : List Keyword).length + (if ([] : List Keyword).isEmpty then 0 else 1) < 30)) = true := by rfl)
    (h3 : (apos.endLine == cpos.line) = true := by rfl) (h4 : backTo cpos (starEach [b] X.env) = [(false, eval b X.env)] := by rfl) : DE X E (.Call (.Attribute a "get" apos) [b] [] cpos) (eGetD fa fb) :=
  PE.mono' (pe_dget1 (by have := C.room.un; omega) ha hb ⟨h1, h2, h3, h4⟩) fun Z H Q ⟨G, Zd, ok, q⟩ => by
  refine tE_then (P := After X.K X.mg Q) ok q fun d x G1 H1 s1 ok1 r1 q1 => ?_
  cases d with
  | dct ks ds =>
    obtain ⟨p, vs, rfl, g1, g2, g3⟩ := r1
    refine ⟨p, rfl, .inl ⟨_, rdH ok1.ext g1⟩, ?_⟩
    refine tE_then (P := fun _ _ => After X.K X.mg Q G H) ok1 q1 fun d' y G2 H2 s2 ok2 r2 q2 => ?_
    cases d' with
    | str z =>
      cases r2
      have q' : After X.K X.mg Q G H ((valD ks ds (.inr z)).getD .non) := q2
      refine ⟨_, .inl ⟨_, .inr z, rdH ok2.ext (Same.rd s2.g g1), rfl, rfl⟩, ?_⟩
      cases hv : valD ks ds (.inr z) with
      | none => rw [valD_none g3 g2 hv]; rw [hv] at q'; exact q' _ G2 H2 (s1.trans s2) rfl
      | some u => obtain ⟨v, e1, e2⟩ := valD_some g3 g2 hv; rw [e1]; rw [hv] at q'; exact q' _ G2 H2 (s1.trans s2) (e2.mono s2.g)
    | _ => exact (show False from q2).elim
  | _ => exact (show False from q1).elim
theorem call_copyD : CallR X (.type "dict") (fun xs H Q => ∃ p kvs, xs = [.ref p] /\ Rd H p (.dK kvs) /\ ∀ z, H z = none -> Q (.ref z) (upd H z (.dK kvs))) := by
  intro pins s Z H xs us Q I r h
  obtain ⟨p, kvs, rfl, e, q⟩ := h
  obtain ⟨u, rfl, ru⟩ := vals1 r
  cases ru
  exact d_copyOf I e fun z s' hz I' => ⟨.ref z, _, I', rfl, q z hz⟩
theorem de_copyD {p : Pos} (hm : X.mg "dict" = none) (ha : DA X E [a] (aCons fa aNil)) (hg : Gl X "dict" := by rfl) (he : starEach [a] X.env = (false, eval a X.env) :: starEach [] X.env := by rfl) (hpl : (backTo pos (starEach [] X.env)).any (·.1) = false := by rfl) :
    DE X E (.Call (.Name "dict" p) [a] [] pos) (eBlt gCopyD (aCons fa aNil)) :=
  de_bty call_copyD (fun G H ds vs Q e r q => by
    match ds, r, q with
    | [.dct ks ds], ⟨v, _, h1, ⟨p, us, h2, h3, h4, h5⟩, h6⟩, q =>
      cases h6; subst h1 h2
      refine ⟨p, _, rfl, rdH e h3, fun z hz => ?_⟩
      have sp := Step.pub (o := .dK (ks.zip us)) e hz
      exact (show After X.K X.mg Q G H (.dct ks ds) from q) _ _ _ sp ⟨z, us, rfl, .inl upd_same, h4, h5.mono sp.g⟩
    | [], _, q => exact (show False from q).elim
    | .non :: _, _, q => exact (show False from q).elim
    | .bl _ :: _, _, q => exact (show False from q).elim
    | .int _ :: _, _, q => exact (show False from q).elim
    | .str _ :: _, _, q => exact (show False from q).elim
    | .ty _ :: _, _, q => exact (show False from q).elim
    | .cls _ :: _, _, q => exact (show False from q).elim
    | .tup _ :: _, _, q => exact (show False from q).elim
    | .lst _ :: _, _, q => exact (show False from q).elim
    | .exc _ _ :: _, _, q => exact (show False from q).elim
    | .dct _ _ :: _ :: _, _, q => exact (show False from q).elim) hm ha (by rfl) hg (by decide) (by decide) he hpl
theorem eqDs_at : ∀ {xs ys : List D} {i : Nat} {x y : D}, eqDs xs ys = true -> xs[i]? = some x -> ys[i]? = some y -> eqD x y = true
  | [], _, _, _, _, _, h, _ => by simp at h
  | _ :: _, [], _, _, _, _, _, h => by simp at h
  | x' :: xs, y' :: ys, 0, x, y, e, h, h' => by
    unfold eqDs at e
    simp at h h'; subst h h'
    exact (xcc.mp e).1
  | x' :: xs, y' :: ys, i + 1, x, y, e, h, h' => by
    unfold eqDs at e
    exact eqDs_at (xcc.mp e).2 (by simpa using h) (by simpa using h')
abbrev rNeD (K : xFg) (mg : Str -> Option Value) : R2 := fun x y H Q => ∃ (G : Hp) (p p' : Addr) (ks : List Key) (ds ds' : List D) (vs vs' : List V), Same G H /\ x = .ref p /\ y = .ref p' /\ Rd H p (.dK (ks.zip vs)) /\ Rd H p' (.dK (ks.zip vs')) /\ ks.length = vs.length /\ ks.length = vs'.length /\ Reps K mg G ds vs /\ Reps K mg G ds' vs' /\
  ds.all (datN 9) = true /\ ds'.all (datN 9) = true /\ eqDs ds ds' = true /\ Q (.bl false) H
theorem kv_at : ∀ {ks : List Key} {vs : List V} {us : List (Key × Value)} {i : Nat} {u : Key × Value}, KV (ks.zip vs) us -> us[i]? = some u -> ∃ v, vs[i]? = some v /\ RelV v u.2
  | [], _, _, _, _, r, h => by rw [List.zip_nil_left] at r; cases r; simp at h
  | _ :: _, [], _, _, _, r, h => by rw [List.zip_nil_right] at r; cases r; simp at h
  | k :: ks, v :: vs, _, i, u, r, h => by
    rw [xbt] at r
    cases r with
    | cons h1 t => cases i with
      | zero => simp at h; subst h; exact ⟨v, rfl, h1.2⟩
      | succ i =>
        obtain ⟨z, q1, q2⟩ := kv_at t (i := i) (by simpa using h)
        exact ⟨z, by simpa using q1, q2⟩
theorem op_neDct (r : Room j X.A) : OpR X (compareOp .NotEq) (rNeD X.K X.mg) := by
  intro pins s Z H x y v u Q I rx ry h
  obtain ⟨G, p, p', ks, ds, ds', vs, vs', e, rfl, rfl, h1, h2, l1, l2, r1, r2, a1, a2, a3, q⟩ := h
  obtain rfl : v = Value.ref p := rx
  obtain rfl : u = Value.ref p' := ry
  obtain ⟨z, hd, us, rel, dd⟩ := dk_rd I.hok h1
  obtain ⟨z', hd', us', rel', dd'⟩ := dk_rd I.hok h2
  refine ne_dicts (by have := r.un; omega) hd hd' dd dd' ?_ ?_ ⟨.bl false, H, I, rfl, q⟩
  · rw [<- rel.keys, <- rel'.keys, List.map_fst_zip (by omega), List.map_fst_zip (by omega)]
  · intro i k k' e1 e2
    obtain ⟨w1, q1, q2⟩ := kv_at rel e1
    obtain ⟨w2, q3, q4⟩ := kv_at rel' e2
    obtain ⟨d, d1, d2⟩ := r1.getV q1
    obtain ⟨d', d3, d4⟩ := r2.getV q3
    have := (eqAt_D I e 9 (A := X.A.in1) (by rw [in1_units]; have := r.un; omega) (xbc.mp a1 _ (xbv d1)) (xbc.mp a2 _ (xbv d3)) d2 q2 d4 q4).1
    rw [eqDs_at a3 d1 d3] at this
    exact this
theorem cf_neD (C : XC X E j) : CmpF X .NotEq gNeD := ⟨_, op_neDct C.room, fun G H d d' x y Q e ra rb q => by
  cases d with
  | dct ks ds => cases d' with
    | dct ks' ds' =>
      obtain ⟨p, vs, rfl, h1, h2, h3⟩ := ra
      obtain ⟨p', vs', rfl, h1', h2', h3'⟩ := rb
      simp only [gNeD] at q
      cases hc : (decide (ks = ks') && ds.all (datN 9) && ds'.all (datN 9) && eqDs ds ds') with
      | false => rw [hc] at q; exact (show False from q).elim
      | true =>
        rw [hc] at q
        simp only [xau, decide_eq_true_eq] at hc
        obtain ⟨⟨⟨rfl, c1⟩, c2⟩, c3⟩ := hc
        exact ⟨G, p, p', ks, ds, ds', vs, vs', e, rfl, rfl, rdH e h1, rdH e h1', h2, h2', h3, h3', c1, c2, c3, After.now (show After X.K X.mg Q G H (.bl false) from q) e rfl⟩
    | _ => exact (show False from q).elim
  | _ => cases d' <;> exact (show False from q).elim, fun d d' e h => by
    cases d with
    | dct ks ds => cases d' with
      | dct ks' ds' =>
        simp only [gNeD] at h
        cases hc : (decide (ks = ks') && ds.all (datN 9) && ds'.all (datN 9) && eqDs ds ds') <;> rw [hc] at h <;> cases h
      | _ => cases h
    | _ => cases d' <;> cases h⟩
end
end DL
end
section
set_option maxHeartbeats 2000000
namespace DL
open L2 PyProof.Rows
theorem maskF_at {own : List Nat} : ∀ (Z : DSt) (k j : Nat) (d : D), own.contains (k + j) = false -> Z[j]? = some (some d) -> (maskF own k Z)[j]? = some (some d)
  | [], _, _, _, _, h => by simp at h
  | x :: Z, k, 0, d, ho, h => by
    unfold maskF
    rw [show own.contains k = false from ho]
    simpa using h
  | x :: Z, k, j + 1, d, ho, h => by
    unfold maskF
    have := maskF_at Z (k + 1) j d (by rw [show k + 1 + j = k + (j + 1) by omega]; exact ho) (by simpa using h)
    simpa using this
structure OkK (K : xFg) (mg : Str -> Option Value) (H0 : Hp) (i : Nat) (Zd : DSt) (Z : L2.St) (G H : Hp) : Prop where
  ok : Ok K mg H0 [] (mask [i] Zd) Z G H
  kct : ∃ a ks ds vs, Zd[i]? = some (some (.dct ks ds)) /\ Z[i]? = some (some (.ref a)) /\ List.length ks = List.length vs /\ Reps K mg G ds vs /\ H a = some (.dK (List.zip ks vs)) /\ G a = none /\ H0 a = none
section
variable {K : xFg} {mg : Str -> Option Value} {G G' G0 H H' H0 : Hp} {i : Nat} {Zd : DSt} {Z : L2.St}
theorem OkK.ok0 (o : OkK K mg H0 i Zd Z G H) : Ok0 K mg (mask [i] Zd) Z G H := by
  have := o.ok.masked
  rw [mask_nil] at this
  exact this
theorem OkK.step (o : OkK K mg H0 i Zd Z G H) (s : Step G H G' H') : OkK K mg H0 i Zd Z G' H' := by
  obtain ⟨a, ks, ds, vs, h1, h2, h3, h4, h5, h6, h7⟩ := o.kct
  exact ⟨o.ok.step s, a, ks, ds, vs, h1, h2, h3, h4.mono s.g, s.h _ _ h5, s.c _ _ h5 h6, h7⟩
theorem OkK.setAll {ks : List Nat} {us : List D} {ws : List V} (o : OkK K mg H0 i Zd Z G H) (hk : ∀ k ∈ ks, k ≠ i) (h : Reps K mg G us ws) : OkK K mg H0 i (DL.setAll Zd ks us) (DL.setAll Z ks ws) G H := by
  obtain ⟨a, kk, ds, vs, h1, h2, r⟩ := o.kct
  refine ⟨?_, a, kk, ds, vs, by rw [all_get ks us Zd hk]; exact h1, by rw [all_get ks ws Z hk]; exact h2, r⟩
  rw [mask_all ks us Zd hk]
  exact o.ok.setAll (fun k _ => by simp) h
theorem OkK.put {a : Addr} {ks : List Key} {ds : List D} {vs : List V} (o : OkK K mg H0 i Zd Z G H) (h2 : Z[i]? = some (some (.ref a))) (hd : ∃ d, Zd[i]? = some d) (hl : ks.length = vs.length) (hr : Reps K mg G ds vs) (h5 : G a = none) (h6 : H0 a = none) :
    OkK K mg H0 i (Zd.set i (some (.dct ks ds))) Z G (upd H a (.dK (ks.zip vs))) := by
  obtain ⟨d, hd⟩ := hd
  have hi : i < Zd.length := (xab.mp hd).1
  refine ⟨?_, a, ks, ds, vs, by rw [xas hi], h2, hl, hr, upd_same, h5, h6⟩
  rw [mask_self]
  exact ⟨fun b u q => by rw [upd_ne (ne_of_none q h5)]; exact o.ok.ext b u q, o.ok.len, o.ok.val, fun j d hj => xak hj (by simp), fun j k a d d' hj => xak hj (by simp)⟩
theorem OkK.frz (o : OkK K mg H0 i Zd Z G H) (s0 : Step G0 H0 G H) : ∃ G', Ok K mg H0 [] Zd Z G' H /\ Step G0 H0 G' H /\ Same G G' := by
  obtain ⟨a, ks, ds, vs, h1, h2, h3, h4, h5, h6, h7⟩ := o.kct
  have sg : Same G (upd G a (.dK (ks.zip vs))) := same_upd h6
  have sh : Same (upd G a (.dK (ks.zip vs))) H := fun b u p => by
    by_cases hb : b = a
    · subst hb; rw [upd_same] at p; cases p; exact h5
    · rw [upd_ne hb] at p; exact o.ok.ext b u p
  refine ⟨upd G a (.dK (ks.zip vs)), ⟨sh, ?_, fun j d _ hj => ?_, fun j d hj => xak hj (by simp), fun j k a d d' hj => xak hj (by simp)⟩, ⟨s0.g.trans sg, s0.h, sh, fun b u p1 p2 => ?_⟩, sg⟩
  · have := o.ok.len
    unfold mask at this
    rw [maskF_len] at this
    exact this
  · by_cases e : j = i
    · subst e
      rw [h1] at hj
      cases hj
      exact ⟨_, h2, a, vs, rfl, .inl upd_same, h3, h4.mono sg⟩
    · obtain ⟨v, v1, v2⟩ := o.ok.val j d (by simp) (maskF_at Zd 0 j d (by simp [e]) hj)
      exact ⟨v, v1, v2.mono sg⟩
  · have hb : b ≠ a := ne_of_none p1 h7
    rw [upd_ne hb]; exact s0.c b u p1 p2
end
section
variable (K : xFg) (mg : Str -> Option Value) (E : XK)
def OutK (G0 H0 : Hp) (i : Nat) (Dn : Ends) (G : Hp) (Zd' : DSt) : Prop := ∀ Z' G' H', OkK K mg H0 i Zd' Z' G' H' -> Step G0 H0 G' H' -> Same G G' -> Dn.nx Z' H'
def tKc (G0 H0 : Hp) (i : Nat) (f : DSt -> R DSt) : TS := fun Dn Z H => ∃ G Zd, OkK K mg H0 i Zd Z G H /\ Step G0 H0 G H /\ RW (f Zd) (OutK K mg G0 H0 i Dn G) (AfterX K mg E G0 H0)
def tKo (G0 H0 : Hp) (i : Nat) (own' ol : List Nat) (f : DSt -> R Out) : TS := fun Dn Z H => ∃ G Zd, OkK K mg H0 i Zd Z G H /\ Step G0 H0 G H /\ RW (f Zd) (OutW K mg G0 H0 own' ol Dn G) (AfterX K mg E G0 H0)
end
theorem OutK.shift {K : xFg} {mg : Str -> Option Value} {G0 H0 G G' : Hp} {i : Nat} {Dn : Ends} (s : Same G G') {o : DSt} (h : OutK K mg G0 H0 i Dn G o) : OutK K mg G0 H0 i Dn G' o := fun a b c d e f => h a b c d e (s.trans f)
def DK (X : Cx) (E : XK) (i : Nat) (st : Stmt) (f : DSt -> R DSt) : Prop := ∀ G0, PS X st (tKc X.K X.mg E G0 X.H₀ i f)
def DKs (X : Cx) (E : XK) (i : Nat) (st : List Stmt) (f : DSt -> R DSt) : Prop := ∀ G0, PSs X st (tKc X.K X.mg E G0 X.H₀ i f)
def DKo (X : Cx) (E : XK) (i : Nat) (own' ol : List Nat) (st : List Stmt) (f : DSt -> R Out) : Prop := ∀ G0, PSs X st (tKo X.K X.mg E G0 X.H₀ i own' ol f)
def kNext : DSt -> R DSt := fun Z => .ok Z
def kThen (f : DSt -> R DSt) (g : DSt -> R Out) : DSt -> R Out := fun Z => (f Z).bind g
def kIf (c : DSt -> R Bool) (f g : DSt -> R DSt) : DSt -> R DSt := fun Z => (c Z).bind fun k => bif k then f Z else g Z
def kForL (k : Nat) (fb : DSt -> R DSt) : List D -> DSt -> R DSt
  | [], Z => .ok Z
  | d :: ds, Z => (fb (Z.set k (some d))).bind (kForL k fb ds)
def kFor (i k : Nat) (fi : DSt -> R (List D)) (fb : DSt -> R DSt) : DSt -> R DSt := fun Z => (fi (mask [i] Z)).bind fun ds => kForL k fb ds Z
def dctAt (Z : DSt) (i : Nat) : R (List Key × List D) := match Z[i]? with
  | some (some (.dct ks ds)) => .ok (ks, ds)
  | _ => .bad
theorem dctAt_of {Z : DSt} {i : Nat} {ks : List Key} {ds : List D} (h : Z[i]? = some (some (.dct ks ds))) : dctAt Z i = .ok (ks, ds) := by unfold dctAt; rw [h]
def kPut (i : Nat) (fk fv : DSt -> R D) : DSt -> R DSt := fun Z => (fv (mask [i] Z)).bind fun v => (fk (mask [i] Z)).bind fun d => (dctAt Z i).bind fun p => match d with
  | .str x => bif (valD p.1 p.2 (.inr x)).isNone && most p.1.length then .ok (Z.set i (some (.dct (p.1 ++ [.inr x]) (p.2 ++ [v])))) else .bad
  | _ => .bad
def kPop (i : Nat) (fk : DSt -> R D) : DSt -> R DSt := fun Z => (fk (mask [i] Z)).bind fun d => (dctAt Z i).bind fun p => match d with
  | .str x => bif (valD p.1 p.2 (.inr x)).isSome then .ok (Z.set i (some (.dct (dropD p.1 p.2 (.inr x)).1 (dropD p.1 p.2 (.inr x)).2))) else .bad
  | _ => .bad
def sDictK (i : Nat) (g : DSt -> R Out) : DSt -> R Out := fun Z => bif Nat.blt i Z.length then g (Z.set i (some (.dct [] []))) else .bad
section
variable {X : Cx} {E : XK} {i : Nat} {st : Stmt} {rest : List Stmt} {f g : DSt -> R DSt} {pos np : Pos} {own' ol : List Nat} {x : Str}
theorem dks_nil : DKs X E i [] kNext := fun G0 => PSs.mono' pss_nil fun Dn Z H ⟨G, Zd, ok, s0, q⟩ => (show OutK X.K X.mg G0 X.H₀ i Dn G Zd from q) Z G H ok s0 (Same.refl _)
theorem dks_one (h1 : DK X E i st f) : DKs X E i [st] f := fun G0 => pss_one (h1 G0)
theorem dko_cons {h : DSt -> R Out} (h1 : DK X E i st f) (h2 : DKo X E i own' ol rest h) : DKo X E i own' ol (st :: rest) (kThen f h) := fun G0 => PSs.mono' (pss_cons (h1 G0) (h2 G0)) fun Dn Z H ⟨G, Zd, ok, s0, q⟩ => by
  refine ⟨G, Zd, ok, s0, q.of_bind.mono (fun Z1 _ z => ?_) fun _ z => z⟩
  intro Z' G' H' ok' s' e'
  exact ⟨G', Z1, ok', s', (show RW (h Z1) _ _ from z).mono (fun o _ z => z.shift e') fun _ z => z⟩
theorem dko_end {h : DSt -> R Out} (h1 : DSs X E [] own' ol rest h) : DKo X E i own' ol rest h := fun G0 => PSs.mono' (h1 G0) fun Dn Z H ⟨G, Zd, ok, s0, q⟩ => by
  obtain ⟨G', ok', s', e'⟩ := ok.frz s0
  exact ⟨G', Zd, ok', s', q.mono (fun o _ z => z.shift e') fun _ z => z⟩
theorem dk_if {c : Expr} {a b : List Stmt} {fc : DSt -> R Bool} (hc : DT X E c fc) (ha : DKs X E i a f) (hb : DKs X E i b g) : DK X E i (.If c a b pos) (kIf (eM i fc) f g) := fun G0 =>
  PS.mono' (ps_if hc (ha G0) (hb G0)) fun Dn Z H ⟨G, Zd, ok, s0, q⟩ => by
  refine ⟨G, mask [i] Zd, ok.ok0, q.of_bind.mono (fun k _ z G' H' s => ?_) fun _ z => z.step s0⟩
  have ok' := ok.step s
  have s' := s0.trans s
  cases k with
  | true => exact iteT ⟨G', Zd, ok', s', (show RW (f Zd) _ _ from z).mono (fun o _ z => z.shift s.g) fun _ z => z⟩
  | false => exact iteF ⟨G', Zd, ok', s', (show RW (g Zd) _ _ from z).mono (fun o _ z => z.shift s.g) fun _ z => z⟩
theorem dk_for (k : Nat) {iter : Expr} {body : List Stmt} {fi : DSt -> R (List D)} {tp : Pos} (L : XL X) (hc : X.calm = true) (hi : DI X E (.Name x tp) iter fi) (hg : DG X (.Name x tp) [k] gpOne) (hb : DKs X E i body f) (ho : [i].contains k = false := by rfl) (hs : ∀ x, foldedSetIterable iter X.env x = pure x := by intro _; rfl) :
    DK X E i (.For (.Name x tp) iter body [] pos) (kFor i k fi f) := fun G0 => PS.mono' (ps_for L.own hc hi hg (hb G0) hs) fun Dn Z H ⟨G, Zd, ok, s0, q⟩ => by
  refine ⟨G, mask [i] Zd, ok.ok0, q.of_bind.mono (fun ds _ z J G1 H1 s1 it => ?_) fun _ z => z.step s0⟩
  have hki : k ≠ i := by simpa using ho
  have hko : ∀ j ∈ [k], j ≠ i := fun j hj => by simp at hj; subst hj; exact hki
  refine ⟨fun n m Z' H' => m = ds.length - n /\ n <= ds.length /\ ∃ G' Zd', OkK X.K X.mg X.H₀ i Zd' Z' G' H' /\ Same G1 G' /\ Step G0 X.H₀ G' H' /\ RW (kForL k f (ds.drop n) Zd') (OutK X.K X.mg G0 X.H₀ i Dn G1) (AfterX X.K X.mg E G0 X.H₀),
    ⟨ds.length, by simp, xbw _, G1, Zd, ok.step s1, Same.refl _, s0.trans s1, (show RW (kForL k f ds Zd) _ _ from z).mono (fun _ _ z => z.shift s1.g) fun _ z => z⟩, ?_⟩
  rintro n m Z' H' ⟨rfl, hn, G', Zd', ok', e', s', w⟩
  by_cases hlt : n < ds.length
  · right
    obtain ⟨d, hd⟩ : ∃ d, ds[n]? = some d := ⟨ds[n], by simp [hlt]⟩
    obtain ⟨g1, g2⟩ := it.turn H' n d (e'.trans ok'.ok.ext) hd
    have hdrop : ds.drop n = d :: ds.drop (n + 1) := by
      rw [xb1 hlt]
      congr 1
      exact xa0 ((xa6 hlt).symm.trans hd)
    rw [hdrop] at w
    refine ⟨g1, fun Z2 H2 => n + 1 <= ds.length /\ ∃ G' Zd', OkK X.K X.mg X.H₀ i Zd' Z2 G' H2 /\ Same G1 G' /\ Step G0 X.H₀ G' H2 /\ RW (kForL k f (ds.drop (n + 1)) Zd') (OutK X.K X.mg G0 X.H₀ i Dn G1) (AfterX X.K X.mg E G0 X.H₀),
      fun Z2 H2 ⟨h1, h2⟩ => ⟨ds.length - (n + 1), by omega, rfl, h1, h2⟩, fun x H2 hy => ?_⟩
    obtain ⟨G2, s2, r2⟩ := g2 x H2 hy G' e' ok'.ok.ext
    unfold kForL at w
    refine ⟨G2, d, s2.e, r2, RW.ok_of (a := [d]) rfl fun ws rws => ?_⟩
    have ok2 := (ok'.step s2).setAll hko rws
    refine ⟨G2, _, ok2, s'.trans s2, w.of_bind.mono (fun o _ z => ?_) fun _ z => z⟩
    exact fun Z4 G4 H4 ok4 s4 e4 => ⟨hlt, G4, o, ok4, (e'.trans s2.g).trans e4, s4, z⟩
  · left
    have hn2 : n = ds.length := by omega
    subst hn2
    rw [List.drop_length] at w
    refine ⟨it.stop H' (e'.trans ok'.ok.ext), ?_⟩
    unfold kForL at w
    exact (show OutK X.K X.mg G0 X.H₀ i Dn G1 Zd' from w) Z' G' H' ok' s' e'
theorem dk_put (i : Nat) {j : Nat} {k value : Expr} {fk fv : DSt -> R D} {tpos : Pos} (C : XC X E j) (hk : DE X E k fk) (hv : DE X E value fv) (hN : X.N[i]? = some x := by rfl) (hvi : Vis X.env.scope x := by first | exact Or.inl rfl | exact Or.inr (Or.inl rfl) | exact Or.inr (Or.inr rfl)) (hd : (x == ("__debug__" : Str)) = false := by decide)
    (hcd : (x == ("__classdict__" : Str)) = false := by decide) (hs : swapsWith value (some (.Subscript (.Name x np) k tpos)) pos.line X.env = pure false := by rfl) :
    DK X E i (.Assign [.Subscript (.Name x np) k tpos] value pos) (kPut i fk fv) := fun G0 =>
  PS.mono' (ps_dput (by have := C.room.un; omega) (pv i hN hvi hd hcd) hk hv hs) fun Dn Z H ⟨G, Zd, ok, s0, q⟩ => by
  obtain ⟨a, ks, ds, vs, h1, h2, h3, h4, h5, h6, h7⟩ := ok.kct
  refine ⟨G, mask [i] Zd, ok.ok0, q.of_bind.mono (fun dv _ z v G1 H1 s1 rv => ?_) fun _ z => z.step s0⟩
  have ok1 := ok.step s1
  refine ⟨_, h2, G1, mask [i] Zd, ok1.ok0, (show RW ((fk (mask [i] Zd)).bind _) _ _ from z).of_bind.mono (fun d _ z y G2 H2 s2 ry => ?_) fun _ z => z.step (s0.trans s1)⟩
  have ok2 := ok1.step s2
  have z := z.of_bind
  rw [dctAt_of h1] at z
  cases d with
  | str t =>
    cases ry
    have z : RW (bif (valD ks ds (.inr t)).isNone && most ks.length then R.ok (Zd.set i (some (.dct (ks ++ [.inr t]) (ds ++ [dv])))) else .bad) (OutK X.K X.mg G0 X.H₀ i Dn G) (AfterX X.K X.mg E G0 X.H₀) := z
    cases hC : ((valD ks ds (.inr t)).isNone && most ks.length) with
    | false => rw [hC] at z; exact (show False from z).elim
    | true =>
      rw [hC] at z
      obtain ⟨c1, c2⟩ := xcc.mp hC
      have s12 := s1.trans s2
      have g2 : G2 a = none := s12.c _ _ h5 h6
      have hn : valV (ks.zip vs) (.inr t) = none := valD_none h4 h3 (by simpa using c1)
      have hm : ks.length < sizeLine := xan c2
      refine ⟨a, _, rfl, .inl ⟨_, .inr t, s12.h _ _ h5, rfl, by rw [List.length_zip]; omega, rfl⟩, ?_⟩
      rw [putK_new v hn, show ks.zip vs ++ [((Sum.inr t : Key), v)] = (ks ++ [Sum.inr t]).zip (vs ++ [v]) by rw [List.zip_append h3]; rfl]
      exact (show OutK X.K X.mg G0 X.H₀ i Dn G (Zd.set i (some (.dct (ks ++ [.inr t]) (ds ++ [dv])))) from z) Z G2 _ (ok2.put h2 ⟨_, h1⟩ (by rw [xat, xat, h3]; rfl) ((h4.mono s12.g).append (Reps.cons (rv.mono s2.g) Reps.nil)) g2 h7) ((s0.trans s12).write (o := .dK (ks.zip vs)) h7 g2) s12.g
  | _ => exact (show False from z).elim
theorem dk_pop (i : Nat) {k : Expr} {fk : DSt -> R D} {apos cpos : Pos} (hk : DE X E k fk) (hN : X.N[i]? = some x := by rfl) (hvi : Vis X.env.scope x := by first | exact Or.inl rfl | exact Or.inr (Or.inl rfl) | exact Or.inr (Or.inr rfl)) (hd : (x == ("__debug__" : Str)) = false := by decide)
    (hcd : (x == ("__classdict__" : Str)) = false := by decide) (m1 : attributeBase (.Name x np) "pop" X.env (eval (.Name x np) X.env) = eval (.Name x np) X.env := by rfl)
    (m2 : ((backTo cpos (starEach [k] X.env)).all (fun x => !x.1) && (backToKw cpos (keywordEach [] X.env)).all (fun x => x.1.isSome) && decide (([k] : List Expr).length + ([] : List Keyword).length + (if ([] : List Keyword).isEmpty then 0 else 1) < 30)) = true := by rfl)
    (m3 : (apos.endLine == cpos.line) = true := by rfl) (m4 : backTo cpos (starEach [k] X.env) = [(false, eval k X.env)] := by rfl)
    (hsw : swapsWith (.Call (.Attribute (.Name x np) "pop" apos) [k] [] cpos) none pos.line X.env = pure false := by rfl) :
    DK X E i (.Expr (.Call (.Attribute (.Name x np) "pop" apos) [k] [] cpos) pos) (kPop i fk) := fun G0 =>
  PS.mono' (ps_expr (pe_dpop1 (pv i hN hvi hd hcd) hk ⟨m1, m2, m3, m4⟩) hsw) fun Dn Z H ⟨G, Zd, ok, s0, q⟩ => by
  obtain ⟨a, ks, ds, vs, h1, h2, h3, h4, h5, h6, h7⟩ := ok.kct
  refine ⟨_, h2, a, rfl, .inl ⟨_, .inl h5⟩, G, mask [i] Zd, ok.ok0, q.of_bind.mono (fun d _ z y G1 H1 s1 ry => ?_) fun _ z => z.step s0⟩
  have ok1 := ok.step s1
  have z := z.of_bind
  rw [dctAt_of h1] at z
  cases d with
  | str t =>
    cases ry
    have z : RW (bif (valD ks ds (.inr t)).isSome then R.ok (Zd.set i (some (.dct (dropD ks ds (.inr t)).1 (dropD ks ds (.inr t)).2))) else .bad) (OutK X.K X.mg G0 X.H₀ i Dn G) (AfterX X.K X.mg E G0 X.H₀) := z
    cases hC : (valD ks ds (.inr t)).isSome with
    | false => rw [hC] at z; exact (show False from z).elim
    | true =>
      rw [hC] at z
      obtain ⟨u, hu⟩ := xbi.mp hC
      obtain ⟨v, e1, e2⟩ := valD_some h4 h3 hu
      have g1 : G1 a = none := s1.c _ _ h5 h6
      obtain ⟨vs', r1, r2, r3⟩ := dropD_ok (x := .inr t) h4 h3
      refine ⟨_, .inr t, v, s1.h _ _ h5, rfl, e1, ?_⟩
      rw [r3]
      exact (show OutK X.K X.mg G0 X.H₀ i Dn G (Zd.set i (some (.dct (dropD ks ds (.inr t)).1 (dropD ks ds (.inr t)).2))) from z) Z G1 _ (ok1.put h2 ⟨_, h1⟩ r2 (r1.mono s1.g) g1 h7) ((s0.trans s1).write (o := .dK (ks.zip vs)) h7 g1) s1.g
  | _ => exact (show False from z).elim
theorem dss_dictK (i : Nat) {h : DSt -> R Out} {pos' dpos : Pos} (hN : X.N.Nodup) (h1 : DKo X E i own' ol rest h) (hi : X.N[i]? = some x := by rfl) (hx : Loc X.env.scope x := by first | exact Or.inl rfl | exact Or.inr rfl) (hs : swapsWith (.Dict [] [] dpos) (some (.Name x pos')) pos.line X.env = pure false := by rfl)
    (hf : X.fn x = true \/ X.env.scope.names.lookup x = some .local := by first | exact .inl rfl | exact .inr rfl | assumption) : DSs X E [] own' ol (.Assign [.Name x pos'] (.Dict [] [] dpos) pos :: rest) (sDictK i h) := fun G0 =>
  PSs.mono' (pss_cons (ps_set hN hi hx pe_dnewK hs hf) (h1 G0)) fun Dn Z H ⟨G, Zd, ok, s0, q⟩ => by
  unfold sDictK at q
  cases hl : Nat.blt i Zd.length with
  | false => rw [hl] at q; exact (show False from q).elim
  | true =>
    rw [hl] at q
    rw [Nat.blt_eq] at hl
    intro p hp
    refine ⟨G, Zd.set i (some (.dct [] [])), ⟨?_, p, [], [], [], by rw [xas hl], by rw [xas (by rw [<- ok.len]; exact hl)], rfl, rfl, upd_same, ok.ext.free hp, s0.h.free hp⟩, s0.trans (.hid ok.ext hp), q⟩
    rw [mask_self]
    refine ⟨ok.ext.trans (same_upd hp), by unfold mask; rw [maskF_len, List.length_set]; exact ok.len, fun j d hj e => ?_, fun j d hj => xak hj (by simp), fun j k a d d' hj => xak hj (by simp)⟩
    have m := maskF_get Zd 0 j d e
    rw [xb4] at m
    obtain ⟨v, v1, v2⟩ := ok.val j d hj m.2
    have hji : j ≠ i := fun z => m.1 (by simp [z])
    exact ⟨v, by rw [xae (xay hji)]; exact v1, v2⟩
end
end DL
end
namespace DL
open L2 PyProof.Rows
variable {X : Cx} {E : XK} {own ol : List Nat} {x y : Str} {pos np nq : Pos} {e1 e2 : Expr} {f1 f2 : DSt -> R D}
def sAppPopP (own : List Nat) (i j : Nat) (f1 f2 : DSt -> R D) : DSt -> R Out := fun Z => (lstAt Z i).bind fun _ => (f1 Z).bind fun d1 => bif imm d1 then (lstAt Z j).bind fun ds => match ds[ds.length - 1]? with
  | some d => (f2 (mask own (Z.set j (some (.lst ds.dropLast))))).bind fun d2 => (lstAt (Z.set j (some (.lst ds.dropLast))) i).bind fun xs => bif most xs.length then .ok (.nx ((Z.set j (some (.lst ds.dropLast))).set i (some (.lst (xs ++ [.tup [d1, d, d2]]))))) else .bad
  | none => .bad
  else .bad
theorem ds_appPopP (i j : Nat) {apos bpos cpos dpos tpos : Pos} {x1} (h1 : DE X E e1 f1) (h2 : DE X E e2 f2) (ho : own.contains i = true := by rfl) (ho' : own.contains j = true := by rfl) (hN : X.N[i]? = some x := by rfl) (hM : X.N[j]? = some y := by rfl)
    (hv : Vis X.env.scope x := by first | exact Or.inl rfl | exact Or.inr (Or.inl rfl) | exact Or.inr (Or.inr rfl)) (hd : (x == ("__debug__" : Str)) = false := by decide) (hcd : (x == ("__classdict__" : Str)) = false := by decide)
    (hv' : Vis X.env.scope y := by first | exact Or.inl rfl | exact Or.inr (Or.inl rfl) | exact Or.inr (Or.inr rfl)) (hd' : (y == ("__debug__" : Str)) = false := by decide) (hcd' : (y == ("__classdict__" : Str)) = false := by decide)
    (hbase : attributeBase (.Name x np) "append" X.env (eval (.Name x np) X.env) = eval (.Name x np) X.env := by rfl) (hbase' : attributeBase (.Name y nq) "pop" X.env (eval (.Name y nq) X.env) = eval (.Name y nq) X.env := by rfl)
    (hfew : ((backTo cpos (starEach [.Tuple [e1, .Call (.Attribute (.Name y nq) "pop" bpos) [] [] dpos, e2] x1 tpos] X.env)).all (fun x => !x.1) && (backToKw cpos (keywordEach [] X.env)).all (fun x => x.1.isSome) && decide ([Expr.Tuple [e1, .Call (.Attribute (.Name y nq) "pop" bpos) [] [] dpos, e2] x1 tpos].length + ([] : List Keyword).length + (if ([] : List Keyword).isEmpty then 0 else 1) < 30)) = true := by rfl)
    (hline : (apos.endLine == cpos.line) = true := by rfl) (hline' : (bpos.endLine == dpos.line) = true := by rfl)
    (hs : starEach [.Tuple [e1, .Call (.Attribute (.Name y nq) "pop" bpos) [] [] dpos, e2] x1 tpos] X.env = (false, eval (.Tuple [e1, .Call (.Attribute (.Name y nq) "pop" bpos) [] [] dpos, e2] x1 tpos) X.env) :: starEach [] X.env := by rfl) (hplain : (backTo cpos (starEach [] X.env)).any (·.1) = false := by rfl)
    (hs1 : starEach [e1, .Call (.Attribute (.Name y nq) "pop" bpos) [] [] dpos, e2] X.env = (false, eval e1 X.env) :: starEach [.Call (.Attribute (.Name y nq) "pop" bpos) [] [] dpos, e2] X.env := by rfl)
    (hs2 : starEach [.Call (.Attribute (.Name y nq) "pop" bpos) [] [] dpos, e2] X.env = (false, eval (.Call (.Attribute (.Name y nq) "pop" bpos) [] [] dpos) X.env) :: starEach [e2] X.env := by rfl)
    (hs3 : starEach [e2] X.env = (false, eval e2 X.env) :: starEach [] X.env := by rfl)
    (hsw : swapsWith (.Call (.Attribute (.Name x np) "append" apos) [.Tuple [e1, .Call (.Attribute (.Name y nq) "pop" bpos) [] [] dpos, e2] x1 tpos] [] cpos) none pos.line X.env = pure false := by rfl) :
    DS X E own own ol (.Expr (.Call (.Attribute (.Name x np) "append" apos) [.Tuple [e1, .Call (.Attribute (.Name y nq) "pop" bpos) [] [] dpos, e2] x1 tpos] [] cpos) pos) (sAppPopP own i j f1 f2) := fun G0 =>
  PS.mono' (ps_expr (pe_bm PySem.F.plainAttrs_list PySem.F.slot_list_append PySem.F.type_list_append mt_append (pv i hN hv hd hcd)
    (pa_cons (pe_tup (pa_cons h1 (pa_cons (pe_bm0 PySem.F.plainAttrs_list PySem.F.slot_list_pop PySem.F.type_list_pop mt_pop (pv j hM hv' hd' hcd') hbase' hline') (pa_cons h2 pa_nil hs3) hs2) hs1)) pa_nil hs) hbase hfew hline hs hplain) hsw) fun Dn Z H ⟨G, Zd, ok, s0, q⟩ => by
  have hi : i ∈ own := by simpa using ho
  have hj : j ∈ own := by simpa using ho'
  have q0 := q.of_bind
  cases hL : lstAt Zd i with
  | bad => rw [hL] at q0; exact q0.elim
  | err e => exact xak hL lstAt_ne
  | ok xs0 =>
    rw [hL] at q0
    obtain ⟨a, _, vs0, p1, _, p0, _⟩ := ok.mine i _ hi (lstAt_ok hL)
    refine ⟨_, p1, .inl ⟨rfl, _, SqL.of p0⟩, ?_⟩
    refine ⟨_, Zd, ok.pub.1, (show RW ((f1 Zd).bind _) (OutW X.K X.mg G0 X.H₀ own ol Dn G) (AfterX X.K X.mg E G0 X.H₀) from q0).of_bind.mono (fun d1 _ q1 v1 Gp H1 stp rp => ?_) fun _ z => z.step (ok.pubStep s0)⟩
    cases him : imm d1 with
    | false => rw [him] at q1; exact (show False from q1).elim
    | true =>
    rw [him] at q1
    obtain ⟨G1, st1, r1⟩ : ∃ G1, Step G H G1 H1 /\ Rep X.K X.mg G1 d1 v1 := ⟨_, (ok.hide stp).1, rp.imm (ok.hide stp).2 him⟩
    have ok1 := ok.step st1
    have s1 := s0.trans st1
    have q1 : RW ((lstAt Zd j).bind _) (OutW X.K X.mg G0 X.H₀ own ol Dn G) (AfterX X.K X.mg E G0 X.H₀) := q1
    have q2 := q1.of_bind
    cases hJ : lstAt Zd j with
    | bad => rw [hJ] at q2; exact q2.elim
    | err e => exact xak hJ lstAt_ne
    | ok ds =>
      rw [hJ] at q2
      obtain ⟨b, ds', vs, p3, p4, p5, p6, p7, p8⟩ := ok1.mine j _ hj (lstAt_ok hJ)
      cases p4
      cases hg : ds[ds.length - 1]? with
      | none =>
        have q3 : RW (match ds[ds.length - 1]? with
          | some d => (f2 (mask own (Zd.set j (some (.lst ds.dropLast))))).bind fun d2 => (lstAt (Zd.set j (some (.lst ds.dropLast))) i).bind fun xs => bif most xs.length then R.ok (.nx ((Zd.set j (some (.lst ds.dropLast))).set i (some (.lst (xs ++ [.tup [d1, d, d2]]))))) else .bad
          | none => .bad) (OutW X.K X.mg G0 X.H₀ own ol Dn G) (AfterX X.K X.mg E G0 X.H₀) := q2
        rw [hg] at q3; exact (show False from q3).elim
      | some d =>
        have q3 : RW (match ds[ds.length - 1]? with
          | some d => (f2 (mask own (Zd.set j (some (.lst ds.dropLast))))).bind fun d2 => (lstAt (Zd.set j (some (.lst ds.dropLast))) i).bind fun xs => bif most xs.length then R.ok (.nx ((Zd.set j (some (.lst ds.dropLast))).set i (some (.lst (xs ++ [.tup [d1, d, d2]]))))) else .bad
          | none => .bad) (OutW X.K X.mg G0 X.H₀ own ol Dn G) (AfterX X.K X.mg E G0 X.H₀) := q2
        rw [hg] at q3
        obtain ⟨v, hv1, rv⟩ := p8.get hg
        rw [p8.length] at hv1
        refine ⟨_, p3, .inl ⟨rfl, _, SqL.of p5⟩, b, vs, v, rfl, rfl, p5, hv1, ?_⟩
        have ok2 := ok1.write hj (lstAt_ok hJ) p3 p8.dropLast
        have s2 := s1.write (o := .lst vs) (u := .lst vs.dropLast) p7 p6
        refine ⟨G1, mask own (Zd.set j (some (.lst ds.dropLast))), ok2.masked, (show RW ((f2 (mask own (Zd.set j (some (.lst ds.dropLast))))).bind _) (OutW X.K X.mg G0 X.H₀ own ol Dn G) (AfterX X.K X.mg E G0 X.H₀) from q3).of_bind.mono (fun d2 _ q4 v2 G3 H3 st3 r3 => ?_) fun _ z => z.step s2⟩
        refine ⟨by show 3 <= sizeLine; decide, fun p hp => ?_⟩
        have ok3 := ok2.step st3
        have sp : Step G3 H3 (upd G3 p (.tup [v1, v, v2])) (upd H3 p (.tup [v1, v, v2])) := .pub ok3.ext hp
        have ok4 := ok3.step sp
        have q5 := q4.of_bind
        cases hI : lstAt (Zd.set j (some (.lst ds.dropLast))) i with
        | bad => rw [hI] at q5; exact q5.elim
        | err e => exact xak hI lstAt_ne
        | ok xs =>
          rw [hI] at q5
          have q6 : RW (bif most xs.length then R.ok (.nx ((Zd.set j (some (.lst ds.dropLast))).set i (some (.lst (xs ++ [.tup [d1, d, d2]]))))) else .bad) (OutW X.K X.mg G0 X.H₀ own ol Dn G) (AfterX X.K X.mg E G0 X.H₀) := q5
          obtain ⟨a', xs', ws, p9, p10, p11, p12, p13, p14⟩ := ok4.mine i _ hi (lstAt_ok hI)
          cases p10
          rw [p1] at p9
          cases p9
          cases hm : most xs.length with
          | false => rw [hm] at q6; exact (show False from q6).elim
          | true =>
            rw [hm] at q6
            have hlt : xs.length < sizeLine := xan hm
            refine ⟨a, ws, .ref p, rfl, rfl, p11, by rw [<- p14.length]; exact hlt, ?_⟩
            have rt : Rep X.K X.mg (upd G3 p (.tup [v1, v, v2])) (.tup [d1, d, d2]) (.ref p) := ⟨p, [v1, v, v2], rfl, SqT.of upd_same, Reps.cons (r1.mono (st3.g.trans sp.g)) (Reps.cons (rv.mono (st3.g.trans sp.g)) (Reps.cons (r3.mono sp.g) Reps.nil))⟩
            exact (show OutW X.K X.mg G0 X.H₀ own ol Dn G (.nx ((Zd.set j (some (.lst ds.dropLast))).set i (some (.lst (xs ++ [.tup [d1, d, d2]]))))) from q6) Z _ _ (ok4.write hi (lstAt_ok hI) p1 (p14.append (Reps.cons rt Reps.nil))) ((s2.trans (st3.trans sp)).write (o := .lst ws) p13 p12) (st1.g.trans (st3.g.trans sp.g))
end DL
namespace DL
open L2 PyProof.Rows
theorem list_extendX (l : Addr) (items : Array Value) (n : Nat) (b : Addr) (items2 : Array Value) (n2 : Nat) (dd : Option Addr) (sl : Array (Option Value)) (hc0 : ¬(!items.isEmpty && Builtin.List.listTooLong (items.size + items2.size)) = true) (hc1 : items.size <= sizeLine) (hs2 : items.size + items2.size <= sizeLine + 1) :
    Meets (Builtin.«list.extend» ⟨[.ref l, .ref b], []⟩) (fun _ R s => s.heap.get? l = some { cls := .type "list", dict := none, data := .seq items n, slots := #[] } /\ s.heap.get? b = some { cls := .type "tuple", dict := dd, data := .seq items2 n2, slots := sl } /\ R (.ok (.ret Value.none)) { s with heap := s.heap.update l (Obj.mapSeq fun x => x ++ items2), toks := s.toks }) :=
  .of_wp fun _ _ _ _ s q => by
    obtain ⟨hp, gg, dr, tk, os⟩ := s
    obtain ⟨e1, e2, q⟩ := q
    have i1 := AutoSeq1.idx_int
    have i2 := AutoSeq1.sub_tuple_tuple
    have i3 := AutoSeq1.sub_list_list
    have i4 := AutoSeq1.sub_tuple_list
    have i5 := AutoSeq1.sub_list_tuple
    have room : (items ++ items2).size <= sizeLine + 1 := by
      rw [Array.size_append]
      exact hs2
    wp_walk using (wpAny_updateSeq e1 rfl (hz := hc1) (_hz' := room)), wpAny_loadPart' e1, wpAny_loadPart' e2
    exact ⟨_, rfl, q⟩
section
variable {X : Cx}
def rExtU (K : xFg) : V -> List V -> Hp -> VK -> Prop := fun x vs H Q => ∃ l b xs zs, x = .ref l /\ vs = [.ref b] /\ H l = some (.lst xs) /\ SqT K H b zs /\ xs.length + zs.length <= sizeLine /\ Q .non (upd H l (.lst (xs ++ zs)))
theorem mt_extU : MtM X "list.extend" (rExtU X.K) := by
  intro pins s Z H x vs v us Q I rx rv h
  obtain ⟨l, b, xs, zs, rfl, rfl, hH, hB, hz, q⟩ := h
  cases rx
  obtain ⟨u, rfl, ru⟩ := rv.one
  cases ru
  obtain ⟨z, its, n, r, hl, e⟩ := I.lstM hH
  obtain ⟨its2, r2, pl2, z2⟩ := I.tuple hB
  have hl2 := r2.length
  obtain ⟨⟨cls2, dd2, data2, sl2⟩, ho2, hc2, n2, hd2⟩ := id pl2
  simp only at hc2 hd2
  subst hc2 hd2
  have hsz : its.toArray.size + its2.toArray.size <= sizeLine := by rw [xag, xag]; omega
  have hlong : ¬ (!its.toArray.isEmpty && Builtin.List.listTooLong (its.toArray.size + its2.toArray.size)) = true := by
    rw [notLongL hsz, Bool.and_false]
    exact xap
  refine call_meets F.slot_list_extend ⟨_, e, rfl⟩ F.entry_list_extend (F.args_list_extend_2 _ _)
    (list_extendX l its.toArray n b its2.toArray n2 dd2 sl2 hlong (by rw [xag]; omega) (by omega)) ⟨e, ho2, ?_⟩
  refine ⟨.non, _, I.lset (its' := its ++ its2) hH e (by simp) (r.append r2) ?_, rfl, q⟩
  rw [xat]
  omega
end
def extU (ds : List D) (i : Nat) (Z : DSt) : D -> R Out
  | .tup es => bif le24 (ds.length + es.length) then .ok (.nx (Z.set i (some (.lst (ds ++ es))))) else .bad
  | _ => .bad
def sExtU (own : List Nat) (i : Nat) (fe : DSt -> R D) : DSt -> R Out := fun Z => (lstAt Z i).bind fun ds => (fe (mask own Z)).bind fun d => extU ds i Z d
section
variable {X : Cx} {E : XK} {own ol : List Nat} {e : Expr} {fe : DSt -> R D} {x : Str} {pos : Pos}
theorem ds_extU (i : Nat) {apos cpos : Pos} {np : Pos} (he : DE X E e fe) (ho : own.contains i = true := by rfl) (hN : X.N[i]? = some x := by rfl) (hv : Vis X.env.scope x := by first | exact Or.inl rfl | exact Or.inr (Or.inl rfl) | exact Or.inr (Or.inr rfl)) (hd : (x == ("__debug__" : Str)) = false := by decide)
    (hcd : (x == ("__classdict__" : Str)) = false := by decide)
    (hbase : attributeBase (.Name x np) "extend" X.env (eval (.Name x np) X.env) = eval (.Name x np) X.env := by rfl)
    (hfew : ((backTo cpos (starEach [e] X.env)).all (fun x => !x.1) && (backToKw cpos (keywordEach [] X.env)).all (fun x => x.1.isSome) && decide ([e].length + ([] : List Keyword).length + (if ([] : List Keyword).isEmpty then 0 else 1) < 30)) = true := by rfl)
    (hline : (apos.endLine == cpos.line) = true := by rfl) (hs : starEach [e] X.env = (false, eval e X.env) :: starEach [] X.env := by rfl) (hplain : (backTo cpos (starEach [] X.env)).any (·.1) = false := by rfl)
    (hsw : swapsWith (.Call (.Attribute (.Name x np) "extend" apos) [e] [] cpos) none pos.line X.env = pure false := by rfl) :
    DS X E own own ol (.Expr (.Call (.Attribute (.Name x np) "extend" apos) [e] [] cpos) pos) (sExtU own i fe) := fun G0 =>
  PS.mono' (ps_expr (pe_bm PySem.F.plainAttrs_list PySem.F.slot_list_extend PySem.F.type_list_extend mt_extU (pv i hN hv hd hcd) (da_cons he da_nil hs) hbase hfew hline hs hplain) hsw) fun Dn Z H ⟨G, Zd, ok, s0, q⟩ => by
  have q1 := q.of_bind
  cases hL : lstAt Zd i with
  | bad => rw [hL] at q1; exact q1.elim
  | err e => exact xak hL lstAt_ne
  | ok ds =>
    rw [hL] at q1
    have q2 : RW ((fe (mask own Zd)).bind fun d => extU ds i Zd d) (OutW X.K X.mg G0 X.H₀ own ol Dn G) (AfterX X.K X.mg E G0 X.H₀) := q1
    have hd := lstAt_ok hL
    have hi : i ∈ own := by simpa using ho
    obtain ⟨a, ds', vs, p1, p2, p3, p4, p5, p6⟩ := ok.mine i _ hi hd
    cases p2
    refine ⟨_, p1, .inl ⟨rfl, _, SqL.of p3⟩, ?_⟩
    refine ⟨G, mask own Zd, ok.masked, (show RW ((aCons fe aNil) (mask own Zd)) _ _ from ?_)⟩
    unfold aCons
    have q3 := q2.of_bind
    cases hf : fe (mask own Zd) with
    | bad => rw [hf] at q3; exact q3.elim
    | err e => rw [hf] at q3; exact (show AfterX X.K X.mg E G0 X.H₀ e from q3).step s0
    | ok d =>
      rw [hf] at q3
      have q3 : RW (extU ds i Zd d) (OutW X.K X.mg G0 X.H₀ own ol Dn G) (AfterX X.K X.mg E G0 X.H₀) := q3
      rintro ws G' H' s ⟨v, _, e1, r1, r2⟩
      subst e1
      cases r2
      cases d with
      | tup es =>
        obtain ⟨b, ys, rfl, hb, hy⟩ := r1
        cases hm : le24 (ds.length + es.length) with
        | false => simp only [extU, hm, cond_false] at q3; exact (show False from q3).elim
        | true =>
          simp only [extU, hm, cond_true] at q3
          have hle : ds.length + es.length <= sizeLine := xan hm
          have ok' := ok.step s
          refine ⟨a, b, vs, ys, rfl, rfl, s.h _ _ p3, Same.sqT s.e hb, by rw [<- p6.length, <- hy.length]; exact hle, ?_⟩
          exact (show OutW X.K X.mg G0 X.H₀ own ol Dn G (.nx (Zd.set i (some (.lst (ds ++ es))))) from q3) Z G' _ (ok'.write hi hd p1 ((p6.mono s.g).append hy)) ((s0.trans s).write (o := .lst vs) p5 (s.c _ _ p3 p4)) s.g
      | _ => exact (show False from q3).elim
end
def extUK (i : Nat) (l : R (List D)) (a : R D) (Z : DSt) : R Out := l.bind fun ds => a.bind fun d => extU ds i Z d
theorem sExtU_def (own : List Nat) (i : Nat) (fe : DSt -> R D) (Z : DSt) : sExtU own i fe Z = extUK i (lstAt Z i) (fe (mask own Z)) Z := rfl
theorem extUK_ok (i : Nat) (ds es : List D) (Z : DSt) (h : ds.length + es.length <= 1000000) : extUK i (.ok ds) (.ok (.tup es)) Z = .ok (.nx (Z.set i (some (.lst (ds ++ es))))) := by
  show (bif le24 (ds.length + es.length) then R.ok _ else .bad) = _
  rw [show le24 (ds.length + es.length) = true from xah (xa1 h (by decide))]; rfl
end DL
namespace Mir
open L2 DL
noncomputable def b_divisor_2c : DSt -> R Bool := (eTest (eOp gNe (eVar 1) (eC (.int 0))))
noncomputable def b_divisor_2w_2 : DSt -> R Out := (sSet0 1 (eVar 2))
noncomputable def b_divisor_2w_1 : DSt -> R Out := (sSeq (sSet0 0 (eVar 1)) b_divisor_2w_2)
noncomputable def b_divisor_2w : DSt -> R Out := (sSeq (sSet0 2 (eOp gMod (eVar 0) (eVar 1))) b_divisor_2w_1)
noncomputable def b_divisor_3 : DSt -> R Out := (sRet (eVar 0))
noncomputable def b_divisor_2 : DSt -> R Out := (sSeq (sWhile b_divisor_2c b_divisor_2w) b_divisor_3)
noncomputable def b_divisor_1 : DSt -> R Out := (sSeq (sSet0 1 (eBlt gAbs (aCons (eVar 1) aNil))) b_divisor_2)
noncomputable def b_divisor : DSt -> R Out := (sSeq (sSet0 0 (eBlt gAbs (aCons (eVar 0) aNil))) b_divisor_1)
noncomputable def m_divisor : List D -> R D := fnM 2 3 b_divisor
theorem m_divisor_go (a0 : D) (a1 : D) : m_divisor [a0, a1] = fin (b_divisor [some a0, some a1, none]) := fnM_go (b := b_divisor) rfl rfl
def k_SIGNS : D := .tup [.str "+", .str "-", .str "*", .str "/"]
noncomputable def b_parts_of_2c : DSt -> R Bool := (eTest (eOp gGt (eBlt gLen (aCons (eVar 2) aNil)) (eC (.int 0))))
noncomputable def b_parts_of_2w_2 : DSt -> R Out := (sIf (eTest (eOp gIn (eOp gIx (eVar 3) (eC (.int 0))) (eC k_SIGNS))) (sExtU [2, 1] 2 (eSl (eVar 3) (oSome (eC (.int 1))) oNone)) sNext)
noncomputable def b_parts_of_2w_1 : DSt -> R Out := (sSeq (sApp [2, 1] 1 (eVar 3)) b_parts_of_2w_2)
noncomputable def b_parts_of_2w : DSt -> R Out := (sSeq (sPop 2 3) b_parts_of_2w_1)
noncomputable def b_parts_of_4 : DSt -> R Out := (sRet (eVar 1))
noncomputable def b_parts_of_3 : DSt -> R Out := (sSeq (sRev 1) b_parts_of_4)
noncomputable def b_parts_of_2 : DSt -> R Out := (sSeq (sWhile b_parts_of_2c b_parts_of_2w) b_parts_of_3)
noncomputable def b_parts_of_1 : DSt -> R Out := (sSeq (sNew [1] 2 (eLst (aCons (eVar 0) aNil))) b_parts_of_2)
noncomputable def b_parts_of : DSt -> R Out := (sSeq (sNew [] 1 (eLst aNil)) b_parts_of_1)
noncomputable def m_parts_of : List D -> R D := fnM 1 4 b_parts_of
theorem m_parts_of_go (a0 : D) : m_parts_of [a0] = fin (b_parts_of [some a0, none, none, none]) := fnM_go (b := b_parts_of) rfl rfl
noncomputable def b_fraction_2 : DSt -> R Out := (sRet (eTup (aCons (eOp gFdiv (eVar 0) (eVar 2)) (aCons (eOp gFdiv (eVar 1) (eVar 2)) aNil))))
noncomputable def b_fraction_1 : DSt -> R Out := (sSeq (sIf (eTest (eOp gLt (eVar 1) (eC (.int 0)))) (sSet0 2 (eUn gNeg (eVar 2))) sNext) b_fraction_2)
noncomputable def b_fraction : DSt -> R Out := (sSeq (sSet0 2 (eCall m_divisor (aCons (eVar 0) (aCons (eVar 1) aNil)))) b_fraction_1)
noncomputable def m_fraction : List D -> R D := fnM 2 3 b_fraction
theorem m_fraction_go (a0 : D) (a1 : D) : m_fraction [a0, a1] = fin (b_fraction [some a0, some a1, none]) := fnM_go (b := b_fraction) rfl rfl
noncomputable def b_reckoned_4 : DSt -> R Out := (sRet (eCall m_fraction (aCons (eOp gMul (eOp gIx (eVar 1) (eC (.int 0))) (eOp gIx (eVar 2) (eC (.int 1)))) (aCons (eOp gMul (eOp gIx (eVar 1) (eC (.int 1))) (eOp gIx (eVar 2) (eC (.int 0)))) aNil))))
noncomputable def b_reckoned_3 : DSt -> R Out := (sSeq (sIf (eTest (eOp gEq (eOp gIx (eVar 2) (eC (.int 0))) (eC (.int 0)))) (sRaise1 "NoValue") sNext) b_reckoned_4)
noncomputable def b_reckoned_2 : DSt -> R Out := (sSeq (sIf (eTest (eOp gEq (eVar 0) (eC (.str "*")))) (sRet (eCall m_fraction (aCons (eOp gMul (eOp gIx (eVar 1) (eC (.int 0))) (eOp gIx (eVar 2) (eC (.int 0)))) (aCons (eOp gMul (eOp gIx (eVar 1) (eC (.int 1))) (eOp gIx (eVar 2) (eC (.int 1)))) aNil)))) sNext) b_reckoned_3)
noncomputable def b_reckoned_1 : DSt -> R Out := (sSeq (sIf (eTest (eOp gEq (eVar 0) (eC (.str "-")))) (sRet (eCall m_fraction (aCons (eOp gSub (eOp gMul (eOp gIx (eVar 1) (eC (.int 0))) (eOp gIx (eVar 2) (eC (.int 1)))) (eOp gMul (eOp gIx (eVar 2) (eC (.int 0))) (eOp gIx (eVar 1) (eC (.int 1))))) (aCons (eOp gMul (eOp gIx (eVar 1) (eC (.int 1))) (eOp gIx (eVar 2) (eC (.int 1)))) aNil)))) sNext) b_reckoned_2)
noncomputable def b_reckoned : DSt -> R Out := (sSeq (sIf (eTest (eOp gEq (eVar 0) (eC (.str "+")))) (sRet (eCall m_fraction (aCons (eOp gAdd (eOp gMul (eOp gIx (eVar 1) (eC (.int 0))) (eOp gIx (eVar 2) (eC (.int 1)))) (eOp gMul (eOp gIx (eVar 2) (eC (.int 0))) (eOp gIx (eVar 1) (eC (.int 1))))) (aCons (eOp gMul (eOp gIx (eVar 1) (eC (.int 1))) (eOp gIx (eVar 2) (eC (.int 1)))) aNil)))) sNext) b_reckoned_1)
noncomputable def m_reckoned : List D -> R D := fnM 3 3 b_reckoned
theorem m_reckoned_go (a0 : D) (a1 : D) (a2 : D) : m_reckoned [a0, a1, a2] = fin (b_reckoned [some a0, some a1, some a2]) := fnM_go (b := b_reckoned) rfl rfl
noncomputable def b_value_1ft_2 : DSt -> R Out := (sApp [2] 2 (eCall m_reckoned (aCons (eOp gIx (eVar 3) (eC (.int 0))) (aCons (eVar 5) (aCons (eVar 4) aNil)))))
noncomputable def b_value_1ft_1 : DSt -> R Out := (sSeq (sPop 2 5) b_value_1ft_2)
noncomputable def b_value_1ft : DSt -> R Out := (sSeq (sPop 2 4) b_value_1ft_1)
noncomputable def b_value_1f : DSt -> R Out := (sIf (eTest (eOp gIn (eOp gIx (eVar 3) (eC (.int 0))) (eC k_SIGNS))) b_value_1ft (sIf (eTest (eOp gEq (eOp gIx (eVar 3) (eC (.int 0))) (eC (.str "number")))) (sApp [2] 2 (eTup (aCons (eOp gIx (eVar 3) (eC (.int 1))) (aCons (eC (.int 1)) aNil)))) (sIf (eTest (eOp gInK (eOp gIx (eVar 3) (eC (.int 1))) (eVar 1))) (sApp [2] 2 (eOp gIxD (eVar 1) (eOp gIx (eVar 3) (eC (.int 1))))) (sRaise1 "NoValue"))))
noncomputable def b_value_2 : DSt -> R Out := (sRet (eOp gIx (eVar 2) (eC (.int 0))))
noncomputable def b_value_1 : DSt -> R Out := (sSeq (sFor [2] [3] gpOne (iSeq (eCall m_parts_of (aCons (eVar 0) aNil))) b_value_1f) b_value_2)
noncomputable def b_value : DSt -> R Out := (sSeq (sNew [] 2 (eLst aNil)) b_value_1)
noncomputable def m_value : List D -> R D := fnM 2 6 b_value
theorem m_value_go (a0 : D) (a1 : D) : m_value [a0, a1] = fin (b_value [some a0, some a1, none, none, none, none]) := fnM_go (b := b_value) rfl rfl
noncomputable def b_law_cell_1 : DSt -> R Out := (sRet (eC (.int 0)))
noncomputable def b_law_cell : DSt -> R Out := (sSeq (sIf (eTest (eOp gLt (eVar 1) (eBlt gLen (aCons (eVar 0) aNil)))) (sRet (eOp gIx (eVar 0) (eVar 1))) sNext) b_law_cell_1)
noncomputable def m_law_cell : List D -> R D := fnM 2 2 b_law_cell
theorem m_law_cell_go (a0 : D) (a1 : D) : m_law_cell [a0, a1] = fin (b_law_cell [some a0, some a1]) := fnM_go (b := b_law_cell) rfl rfl
noncomputable def b_law_whole : DSt -> R Out := (sRet (vAnd (eBlt (g2 isi3) (aCons (eVar 0) (aCons (eC (.ty "int")) aNil))) (vNot (eBlt (g2 isi3) (aCons (eVar 0) (aCons (eC (.ty "bool")) aNil))))))
noncomputable def m_law_whole : List D -> R D := fnM 1 1 b_law_whole
theorem m_law_whole_go (a0 : D) : m_law_whole [a0] = fin (b_law_whole [some a0]) := fnM_go (b := b_law_whole) rfl rfl
noncomputable def b_law_mixed_3 : DSt -> R Out := (sRet (eOp gMod (eOp gMul (eVar 2) (eVar 2)) (eC (.int 2305843009213693951))))
noncomputable def b_law_mixed_2 : DSt -> R Out := (sSeq (sSet0 2 (eOp gMod (eOp gAdd (eOp gAdd (eOp gMul (eVar 2) (eVar 2)) (eOp gMul (eOp gMul (eC (.int 69621)) (eVar 1)) (eVar 1))) (eVar 1)) (eC (.int 2305843009213693951)))) b_law_mixed_3)
noncomputable def b_law_mixed_1 : DSt -> R Out := (sSeq (sSet0 2 (eOp gMod (eVar 2) (eC (.int 2305843009213693951)))) b_law_mixed_2)
noncomputable def b_law_mixed : DSt -> R Out := (sSeq (sSet0 2 (eOp gAdd (eOp gAdd (eOp gMul (eOp gAdd (eOp gMod (eVar 0) (eC (.int 1000000007))) (eC (.int 1))) (eC (.int 6364136223846793005))) (eOp gMul (eOp gMul (eC (.int 7919)) (eVar 1)) (eVar 1))) (eOp gMul (eC (.int 31)) (eVar 1)))) b_law_mixed_1)
noncomputable def m_law_mixed : List D -> R D := fnM 2 3 b_law_mixed
theorem m_law_mixed_go (a0 : D) (a1 : D) : m_law_mixed [a0, a1] = fin (b_law_mixed [some a0, some a1, none]) := fnM_go (b := b_law_mixed) rfl rfl
noncomputable def b_law_digits_2ft_1 : DSt -> R Out := (sSet [2] 3 (eOp gFdiv (eVar 3) (eOp gPow (eC (.int 10)) (eC (.int 6)))))
noncomputable def b_law_digits_2ft : DSt -> R Out := (sSeq (sApp [2] 2 (eOp gMod (eVar 3) (eOp gPow (eC (.int 10)) (eC (.int 6))))) b_law_digits_2ft_1)
noncomputable def b_law_digits_2f : DSt -> R Out := (sIf (eAnd (eTest (eOp gEq (eOp gMod (eVar 0) (eC (.int 2))) (eC (.int 0)))) (eTest (eOp gGt (eVar 3) (eC (.int 0))))) b_law_digits_2ft (sApp [2] 2 (eOp gMod (eCall m_law_mixed (aCons (eVar 0) (aCons (eVar 4) aNil))) (eOp gPow (eC (.int 10)) (eC (.int 6))))))
noncomputable def b_law_digits_3 : DSt -> R Out := (sRet (eVar 2))
noncomputable def b_law_digits_2 : DSt -> R Out := (sSeq (sFor [2] [4] gpOne (iArgs rng1 (aCons (eVar 1) aNil)) b_law_digits_2f) b_law_digits_3)
noncomputable def b_law_digits_1 : DSt -> R Out := (sSeq (sSet [2] 3 (eOp gFdiv (eVar 0) (eC (.int 2)))) b_law_digits_2)
noncomputable def b_law_digits : DSt -> R Out := (sSeq (sNew [] 2 (eLst aNil)) b_law_digits_1)
noncomputable def m_law_digits : List D -> R D := fnM 2 5 b_law_digits
theorem m_law_digits_go (a0 : D) (a1 : D) : m_law_digits [a0, a1] = fin (b_law_digits [some a0, some a1, none, none, none]) := fnM_go (b := b_law_digits) rfl rfl
noncomputable def b_law_divisor_2c : DSt -> R Bool := (eTest (eOp gGt (eVar 1) (eC (.int 0))))
noncomputable def b_law_divisor_2w : DSt -> R Out := (sPar [] 0 1 (aCons (eVar 1) (aCons (eOp gMod (eVar 0) (eVar 1)) aNil)))
noncomputable def b_law_divisor_3 : DSt -> R Out := (sRet (eVar 0))
noncomputable def b_law_divisor_2 : DSt -> R Out := (sSeq (sWhile b_law_divisor_2c b_law_divisor_2w) b_law_divisor_3)
noncomputable def b_law_divisor_1 : DSt -> R Out := (sSeq (sSet0 1 (eBlt gAbs (aCons (eVar 1) aNil))) b_law_divisor_2)
noncomputable def b_law_divisor : DSt -> R Out := (sSeq (sSet0 0 (eBlt gAbs (aCons (eVar 0) aNil))) b_law_divisor_1)
noncomputable def m_law_divisor : List D -> R D := fnM 2 2 b_law_divisor
theorem m_law_divisor_go (a0 : D) (a1 : D) : m_law_divisor [a0, a1] = fin (b_law_divisor [some a0, some a1]) := fnM_go (b := b_law_divisor) rfl rfl
noncomputable def b_law_words_3f : DSt -> R Out := (sSet0 4 (eOp gAdd (eVar 4) (eOp gIxS (eVar 2) (eOp gMod (eOp gFdiv (eOp gIx (eVar 3) (eC (.int 11))) (eOp gIx (vLst (eLst (aCons (eC (.int 1)) (aCons (eC (.int 26)) (aCons (eC (.int 676)) (aCons (eC (.int 17576)) (aCons (eC (.int 5)) (aCons (eC (.int 9)) (aCons (eC (.int 77)) aNil))))))))) (eVar 5))) (eC (.int 26))))))
noncomputable def b_law_words_5 : DSt -> R Out := (sRet (vLst (eLC 1 [0] (iArgs rng1 (aCons (eVar 1) aNil)) gpOne eTrue (eOp gAdd (eOp gIxS (eVar 3) (eOp gMod (eOp gAdd (eOp gIx (eVar 4) (eC (.int 9))) (eVar 0)) (eC (.int 26)))) (eVar 5)))))
noncomputable def b_law_words_4 : DSt -> R Out := (sSeq (sIf (eTest (eOp gEq (eOp gMod (eOp gIx (eVar 3) (eC (.int 8))) (eC (.int 4))) (eC (.int 1)))) (sRet (eSl (vLst (eLst (aCons (eC (.str "end")) (aCons (eC (.str "x")) (aCons (eC (.str "times")) (aCons (eC (.str "rule")) (aCons (eC (.str "ends")) (aCons (eC (.str "xx")) aNil)))))))) oNone (oSome (eVar 1)))) sNext) b_law_words_5)
noncomputable def b_law_words_3 : DSt -> R Out := (sSeq (sFor [] [5] gpOne (iArgs rng1 (aCons (eOp gMod (eOp gIx (eVar 3) (eC (.int 10))) (eC (.int 8))) aNil)) b_law_words_3f) b_law_words_4)
noncomputable def b_law_words_2 : DSt -> R Out := (sSeq (sSet0 4 (eC (.str ""))) b_law_words_3)
noncomputable def b_law_words_1 : DSt -> R Out := (sSeq (sSet0 3 (eCall m_law_digits (aCons (eVar 0) (aCons (eC (.int 12)) aNil)))) b_law_words_2)
noncomputable def b_law_words : DSt -> R Out := (sSeq (sSet0 2 (eC (.str "abcdefghijklmnopqrstuvwxyz"))) b_law_words_1)
noncomputable def m_law_words : List D -> R D := fnM 2 6 b_law_words
theorem m_law_words_go (a0 : D) (a1 : D) : m_law_words [a0, a1] = fin (b_law_words [some a0, some a1, none, none, none, none]) := fnM_go (b := b_law_words) rfl rfl
noncomputable def b_law_leaf_1 : DSt -> R Out := (sRet (eTup (aCons (eC (.str "number")) (aCons (eOp gIx (vLst (eLst (aCons (eOp gMod (eOp gIx (eVar 0) (eC (.int 3))) (eC (.int 10))) (aCons (eOp gMod (eOp gIx (eVar 0) (eC (.int 3))) (eC (.int 10))) (aCons (eOp gIx (eVar 0) (eC (.int 3))) (aCons (eOp gAdd (eOp gMul (eOp gIx (eVar 0) (eC (.int 3))) (eC (.int 1000))) (eOp gMod (eOp gIx (eVar 0) (eC (.int 4))) (eC (.int 1000)))) aNil)))))) (eOp gMod (eOp gIx (eVar 0) (eC (.int 5))) (eC (.int 4)))) aNil))))
noncomputable def b_law_leaf : DSt -> R Out := (sSeq (sIf (eTest (eOp gGt (eOp gMod (eOp gIx (eVar 0) (eC (.int 2))) (eC (.int 3))) (eC (.int 0)))) (sRet (eTup (aCons (eC (.str "name")) (aCons (eOp gIx (eVar 1) (eOp gMod (eOp gIx (eVar 0) (eC (.int 3))) (eBlt gLen (aCons (eVar 1) aNil)))) aNil)))) sNext) b_law_leaf_1)
noncomputable def m_law_leaf : List D -> R D := fnM 2 2 b_law_leaf
theorem m_law_leaf_go (a0 : D) (a1 : D) : m_law_leaf [a0, a1] = fin (b_law_leaf [some a0, some a1]) := fnM_go (b := b_law_leaf) rfl rfl
noncomputable def b_law_tree_1f_1t_1 : DSt -> R Out := (sAppPop [2] 2 2 (eOp gIxS (eC (.str "+-*/")) (eOp gMod (eOp gIx (eVar 4) (eC (.int 1))) (eC (.int 4)))) (eVar 5))
noncomputable def b_law_tree_1f_1t : DSt -> R Out := (sSeq (sPop 2 5) b_law_tree_1f_1t_1)
noncomputable def b_law_tree_1f_1 : DSt -> R Out := (sIf (eAnd (eTest (eOp gGt (eBlt gLen (aCons (eVar 2) aNil)) (eC (.int 1)))) (eTest (eOp gEq (eOp gMod (eOp gIx (eVar 4) (eC (.int 0))) (eC (.int 2))) (eC (.int 0))))) b_law_tree_1f_1t (sApp [2] 2 (eCall m_law_leaf (aCons (eVar 4) (aCons (eVar 1) aNil)))))
noncomputable def b_law_tree_1f : DSt -> R Out := (sSeq (sSet [2] 4 (eCall m_law_digits (aCons (eVar 3) (aCons (eC (.int 6)) aNil)))) b_law_tree_1f_1)
noncomputable def b_law_tree_2c : DSt -> R Bool := (eTest (eOp gGt (eBlt gLen (aCons (eVar 2) aNil)) (eC (.int 1))))
noncomputable def b_law_tree_2w_1 : DSt -> R Out := (sAppPopP [2] 2 2 (eOp gIxS (eC (.str "-+/*")) (eOp gMod (eBlt gLen (aCons (eVar 2) aNil)) (eC (.int 4)))) (eVar 5))
noncomputable def b_law_tree_2w : DSt -> R Out := (sSeq (sPop 2 5) b_law_tree_2w_1)
noncomputable def b_law_tree_3 : DSt -> R Out := (sRet (eOp gIx (eVar 2) (eC (.int 0))))
noncomputable def b_law_tree_2 : DSt -> R Out := (sSeq (sWhile b_law_tree_2c b_law_tree_2w) b_law_tree_3)
noncomputable def b_law_tree_1 : DSt -> R Out := (sSeq (sFor [2] [3] gpOne (iSeq (eVar 0)) b_law_tree_1f) b_law_tree_2)
noncomputable def b_law_tree : DSt -> R Out := (sSeq (sNew [] 2 (eLst aNil)) b_law_tree_1)
noncomputable def m_law_tree : List D -> R D := fnM 2 6 b_law_tree
theorem m_law_tree_go (a0 : D) (a1 : D) : m_law_tree [a0, a1] = fin (b_law_tree [some a0, some a1, none, none, none, none]) := fnM_go (b := b_law_tree) rfl rfl
noncomputable def b_law_part_5 (m : List D -> R D) : DSt -> R Out := (sRet (eVar 3))
noncomputable def b_law_part_4 (m : List D -> R D) : DSt -> R Out := (sSeq (sIf (eTest (eOp gLt (eVar 2) (eVar 1))) (sRet (eOp gAdd (eOp gAdd (eC (.str "(")) (eVar 3)) (eC (.str ")")))) sNext) (b_law_part_5 m))
noncomputable def b_law_part_3 (m : List D -> R D) : DSt -> R Out := (sSeq (sSet0 3 (eJoin (eC (.str " ")) (vLst (eLst (aCons (eCall m (aCons (eOp gIx (eVar 0) (eC (.int 1))) (aCons (eVar 2) aNil))) (aCons (eOp gIx (eVar 0) (eC (.int 0))) (aCons (eCall m (aCons (eOp gIx (eVar 0) (eC (.int 2))) (aCons (eOp gAdd (eVar 2) (eC (.int 1))) aNil))) aNil))))))) (b_law_part_4 m))
noncomputable def b_law_part_2 (m : List D -> R D) : DSt -> R Out := (sSeq (sSet0 2 (eOp gAdd (eC (.int 1)) (eBlt gInt (aCons (eOp gIn (eOp gIx (eVar 0) (eC (.int 0))) (eC (.str "*/"))) aNil)))) (b_law_part_3 m))
noncomputable def b_law_part_1 (m : List D -> R D) : DSt -> R Out := (sSeq (sIf (eTest (eOp gEq (eOp gIx (eVar 0) (eC (.int 0))) (eC (.str "number")))) (sRet (eBlt gStr (aCons (eOp gIx (eVar 0) (eC (.int 1))) aNil))) sNext) (b_law_part_2 m))
noncomputable def b_law_part (m : List D -> R D) : DSt -> R Out := (sSeq (sIf (eTest (eOp gEq (eOp gIx (eVar 0) (eC (.int 0))) (eC (.str "name")))) (sRet (eOp gIx (eVar 0) (eC (.int 1)))) sNext) (b_law_part_1 m))
noncomputable def m_law_part_at : Nat -> List D -> R D := recM fun m => fnM 2 4 (b_law_part m)
noncomputable def m_law_part : List D -> R D := m_law_part_at 64
theorem m_law_part_go (n : Nat) (a0 : D) (a1 : D) : m_law_part_at (n + 1) [a0, a1] = fin (b_law_part (m_law_part_at n) [some a0, some a1, none, none]) := show fnM 2 4 (b_law_part (m_law_part_at n)) [a0, a1] = _ from fnM_go (b := b_law_part (m_law_part_at n)) rfl rfl
noncomputable def b_law_deep_2f_1 : DSt -> R Out := (sSet0 2 (eBlt gMax (aCons (eVar 2) (aCons (eVar 1) aNil))))
noncomputable def b_law_deep_2f : DSt -> R Out := (sSeq (sSet0 1 (eOp gSub (eOp gAdd (eVar 1) (eBlt gInt (aCons (eOp gEq (eVar 3) (eC (.str "("))) aNil))) (eBlt gInt (aCons (eOp gEq (eVar 3) (eC (.str ")"))) aNil)))) b_law_deep_2f_1)
noncomputable def b_law_deep_3 : DSt -> R Out := (sRet (eVar 2))
noncomputable def b_law_deep_2 : DSt -> R Out := (sSeq (sFor [] [3] gpOne (iStr (eVar 0)) b_law_deep_2f) b_law_deep_3)
noncomputable def b_law_deep_1 : DSt -> R Out := (sSeq (sSet0 2 (eC (.int 0))) b_law_deep_2)
noncomputable def b_law_deep : DSt -> R Out := (sSeq (sSet0 1 (eC (.int 0))) b_law_deep_1)
noncomputable def m_law_deep : List D -> R D := fnM 1 4 b_law_deep
theorem m_law_deep_go (a0 : D) : m_law_deep [a0] = fin (b_law_deep [some a0, none, none, none]) := fnM_go (b := b_law_deep) rfl rfl
noncomputable def b_law_shallow_1c : DSt -> R Bool := (eTest (eOp gGt (eCall m_law_deep (aCons (eCall m_law_part (aCons (eVar 2) (aCons (eC (.int 0)) aNil))) aNil)) (eC (.int 8))))
noncomputable def b_law_shallow_1w_1 : DSt -> R Out := (sSet0 2 (eCall m_law_tree (aCons (eVar 0) (aCons (eVar 1) aNil))))
noncomputable def b_law_shallow_1w : DSt -> R Out := (sSeq (sSet0 0 (eSl (eVar 0) oNone (oSome (eOp gFdiv (eBlt gLen (aCons (eVar 0) aNil)) (eC (.int 2)))))) b_law_shallow_1w_1)
noncomputable def b_law_shallow_2 : DSt -> R Out := (sRet (eVar 2))
noncomputable def b_law_shallow_1 : DSt -> R Out := (sSeq (sWhile b_law_shallow_1c b_law_shallow_1w) b_law_shallow_2)
noncomputable def b_law_shallow : DSt -> R Out := (sSeq (sSet0 2 (eCall m_law_tree (aCons (eVar 0) (aCons (eVar 1) aNil)))) b_law_shallow_1)
noncomputable def m_law_shallow : List D -> R D := fnM 2 3 b_law_shallow
theorem m_law_shallow_go (a0 : D) (a1 : D) : m_law_shallow [a0, a1] = fin (b_law_shallow [some a0, some a1, none]) := fnM_go (b := b_law_shallow) rfl rfl
noncomputable def b_law_low_v1_2 : DSt -> R Out := (sRet (eTup (aCons (eOp gFdiv (eVar 0) (eVar 2)) (aCons (eOp gFdiv (eVar 1) (eVar 2)) aNil))))
noncomputable def b_law_low_v1_1 : DSt -> R Out := (sSeq (sIf (eTest (eOp gLt (eVar 1) (eC (.int 0)))) (sSet0 2 (eOp gSub (eC (.int 0)) (eVar 2))) sNext) b_law_low_v1_2)
noncomputable def b_law_low_v1 : DSt -> R Out := (sSeq (sSet0 2 (eCall m_law_divisor (aCons (eVar 0) (aCons (eVar 1) aNil)))) b_law_low_v1_1)
noncomputable def m_law_low_v1 : List D -> R D := fnM 2 3 b_law_low_v1
theorem m_law_low_v1_go (a0 : D) (a1 : D) : m_law_low_v1 [a0, a1] = fin (b_law_low_v1 [some a0, some a1, none]) := fnM_go (b := b_law_low_v1) rfl rfl
noncomputable def b_law_worth_8 (m : List D -> R D) : DSt -> R Out := (sRet (eCall m_law_low_v1 (aCons (eOp gMul (eOp gIx (eVar 2) (eC (.int 0))) (eOp gIx (eVar 3) (eC (.int 1)))) (aCons (eOp gMul (eOp gIx (eVar 2) (eC (.int 1))) (eOp gIx (eVar 3) (eC (.int 0)))) aNil))))
noncomputable def b_law_worth_7 (m : List D -> R D) : DSt -> R Out := (sSeq (sIf (eTest (eOp gEq (eOp gIx (eVar 0) (eC (.int 0))) (eC (.str "*")))) (sRet (eCall m_law_low_v1 (aCons (eOp gMul (eOp gIx (eVar 2) (eC (.int 0))) (eOp gIx (eVar 3) (eC (.int 0)))) (aCons (eOp gMul (eOp gIx (eVar 2) (eC (.int 1))) (eOp gIx (eVar 3) (eC (.int 1)))) aNil)))) sNext) (b_law_worth_8 m))
noncomputable def b_law_worth_6 (m : List D -> R D) : DSt -> R Out := (sSeq (sIf (eTest (eOp gEq (eOp gIx (eVar 0) (eC (.int 0))) (eC (.str "-")))) (sRet (eCall m_law_low_v1 (aCons (eOp gSub (eOp gMul (eOp gIx (eVar 2) (eC (.int 0))) (eOp gIx (eVar 3) (eC (.int 1)))) (eOp gMul (eOp gIx (eVar 3) (eC (.int 0))) (eOp gIx (eVar 2) (eC (.int 1))))) (aCons (eOp gMul (eOp gIx (eVar 2) (eC (.int 1))) (eOp gIx (eVar 3) (eC (.int 1)))) aNil)))) sNext) (b_law_worth_7 m))
noncomputable def b_law_worth_5 (m : List D -> R D) : DSt -> R Out := (sSeq (sIf (eTest (eOp gEq (eOp gIx (eVar 0) (eC (.int 0))) (eC (.str "+")))) (sRet (eCall m_law_low_v1 (aCons (eOp gAdd (eOp gMul (eOp gIx (eVar 2) (eC (.int 0))) (eOp gIx (eVar 3) (eC (.int 1)))) (eOp gMul (eOp gIx (eVar 3) (eC (.int 0))) (eOp gIx (eVar 2) (eC (.int 1))))) (aCons (eOp gMul (eOp gIx (eVar 2) (eC (.int 1))) (eOp gIx (eVar 3) (eC (.int 1)))) aNil)))) sNext) (b_law_worth_6 m))
noncomputable def b_law_worth_4 (m : List D -> R D) : DSt -> R Out := (sSeq (sIf (eOr (eTest (eOp gIs (eVar 2) (eC .non))) (eOr (eTest (eOp gIs (eVar 3) (eC .non))) (eAnd (eTest (eOp gEq (eOp gIx (eVar 0) (eC (.int 0))) (eC (.str "/")))) (eTest (eOp gEq (eOp gIx (eVar 3) (eC (.int 0))) (eC (.int 0))))))) (sRet (eC .non)) sNext) (b_law_worth_5 m))
noncomputable def b_law_worth_3 (m : List D -> R D) : DSt -> R Out := (sSeq (sSet0 3 (eCall m (aCons (eOp gIx (eVar 0) (eC (.int 2))) (aCons (eVar 1) aNil)))) (b_law_worth_4 m))
noncomputable def b_law_worth_2 (m : List D -> R D) : DSt -> R Out := (sSeq (sSet0 2 (eCall m (aCons (eOp gIx (eVar 0) (eC (.int 1))) (aCons (eVar 1) aNil)))) (b_law_worth_3 m))
noncomputable def b_law_worth_1 (m : List D -> R D) : DSt -> R Out := (sSeq (sIf (eTest (eOp gEq (eOp gIx (eVar 0) (eC (.int 0))) (eC (.str "name")))) (sRet (eGetD (eVar 1) (eOp gIx (eVar 0) (eC (.int 1))))) sNext) (b_law_worth_2 m))
noncomputable def b_law_worth (m : List D -> R D) : DSt -> R Out := (sSeq (sIf (eTest (eOp gEq (eOp gIx (eVar 0) (eC (.int 0))) (eC (.str "number")))) (sRet (eTup (aCons (eOp gIx (eVar 0) (eC (.int 1))) (aCons (eC (.int 1)) aNil)))) sNext) (b_law_worth_1 m))
noncomputable def m_law_worth_at : Nat -> List D -> R D := recM fun m => fnM 2 4 (b_law_worth m)
noncomputable def m_law_worth : List D -> R D := m_law_worth_at 64
theorem m_law_worth_go (n : Nat) (a0 : D) (a1 : D) : m_law_worth_at (n + 1) [a0, a1] = fin (b_law_worth (m_law_worth_at n) [some a0, some a1, none, none]) := show fnM 2 4 (b_law_worth (m_law_worth_at n)) [a0, a1] = _ from fnM_go (b := b_law_worth (m_law_worth_at n)) rfl rfl
noncomputable def b_law_fraction_v1_2 : DSt -> R Out := (sRet (eCall m_law_low_v1 (aCons (eOp gIx (vLst (eLst (aCons (eC (.int 0)) (aCons (eC (.int 1)) (aCons (eUn gNeg (eC (.int 1))) (aCons (eOp gSub (eOp gMod (eOp gIx (eVar 2) (eC (.int 0))) (eC (.int 61))) (eC (.int 30))) aNil)))))) (eOp gMod (eOp gIx (eVar 2) (eC (.int 1))) (eC (.int 4)))) (aCons (eOp gIx (vLst (eLst (aCons (eC (.int 1)) (aCons (eOp gAdd (eC (.int 1)) (eOp gMod (eOp gIx (eVar 2) (eC (.int 2))) (eC (.int 12)))) aNil)))) (eOp gMod (eOp gIx (eVar 2) (eC (.int 3))) (eC (.int 2)))) aNil))))
noncomputable def b_law_fraction_v1_1 : DSt -> R Out := (sSeq (sIf (eTest (eOp gEq (eOp gMod (eVar 0) (eC (.int 2))) (eC (.int 0)))) (sRet (eCall m_law_low_v1 (aCons (eOp gSub (eOp gAdd (eOp gMul (eOp gIx (eVar 2) (eC (.int 0))) (eOp gPow (eC (.int 10)) (eC (.int 6)))) (eOp gIx (eVar 2) (eC (.int 1)))) (eOp gMul (eC (.int 5)) (eOp gPow (eC (.int 10)) (eC (.int 11))))) (aCons (eOp gAdd (eC (.int 1)) (eOp gIx (eVar 2) (eC (.int 2)))) aNil)))) sNext) b_law_fraction_v1_2)
noncomputable def b_law_fraction_v1 : DSt -> R Out := (sSeq (sSet0 2 (eCall m_law_digits (aCons (eVar 0) (aCons (eC (.int 4)) aNil)))) b_law_fraction_v1_1)
noncomputable def m_law_fraction_v1 : List D -> R D := fnM 2 3 b_law_fraction_v1
theorem m_law_fraction_v1_go (a0 : D) (a1 : D) : m_law_fraction_v1 [a0, a1] = fin (b_law_fraction_v1 [some a0, some a1, none]) := fnM_go (b := b_law_fraction_v1) rfl rfl
noncomputable def b_law_alone_5 : DSt -> R Out := (sRet (vAnd (eOp gEq (eVar 1) (eC (.int 1))) (vAnd (eBlt (g2 isi3) (aCons (eVar 0) (aCons (eC (.cls "ChalkError")) aNil))) (eBlt (g2 isi3) (aCons (eVar 0) (aCons (eC (.ty "ValueError")) aNil))))))
noncomputable def b_law_alone_4 : DSt -> R Out := (sSeq (sSet0 1 (eOp gAdd (eOp gAdd (eOp gAdd (eVar 1) (eBlt gInt (aCons (eBlt (g2 isi3) (aCons (eVar 0) (aCons (eC (.cls "NoRatio")) aNil))) aNil))) (eBlt gInt (aCons (eBlt (g2 isi3) (aCons (eVar 0) (aCons (eC (.cls "NoBow")) aNil))) aNil))) (eBlt gInt (aCons (eBlt (g2 isi3) (aCons (eVar 0) (aCons (eC (.cls "NoRow")) aNil))) aNil)))) b_law_alone_5)
noncomputable def b_law_alone_3 : DSt -> R Out := (sSeq (sSet0 1 (eOp gAdd (eOp gAdd (eOp gAdd (eVar 1) (eBlt gInt (aCons (eBlt (g2 isi3) (aCons (eVar 0) (aCons (eC (.cls "NoFrame")) aNil))) aNil))) (eBlt gInt (aCons (eBlt (g2 isi3) (aCons (eVar 0) (aCons (eC (.cls "NoValue")) aNil))) aNil))) (eBlt gInt (aCons (eBlt (g2 isi3) (aCons (eVar 0) (aCons (eC (.cls "Unlike")) aNil))) aNil)))) b_law_alone_4)
noncomputable def b_law_alone_2 : DSt -> R Out := (sSeq (sSet0 1 (eOp gAdd (eOp gAdd (eOp gAdd (eVar 1) (eBlt gInt (aCons (eBlt (g2 isi3) (aCons (eVar 0) (aCons (eC (.cls "NoName")) aNil))) aNil))) (eBlt gInt (aCons (eBlt (g2 isi3) (aCons (eVar 0) (aCons (eC (.cls "TooMany")) aNil))) aNil))) (eBlt gInt (aCons (eBlt (g2 isi3) (aCons (eVar 0) (aCons (eC (.cls "NoChange")) aNil))) aNil)))) b_law_alone_3)
noncomputable def b_law_alone_1 : DSt -> R Out := (sSeq (sSet0 1 (eOp gAdd (eOp gAdd (eOp gAdd (eVar 1) (eBlt gInt (aCons (eBlt (g2 isi3) (aCons (eVar 0) (aCons (eC (.cls "Endless")) aNil))) aNil))) (eBlt gInt (aCons (eBlt (g2 isi3) (aCons (eVar 0) (aCons (eC (.cls "NoDeed")) aNil))) aNil))) (eBlt gInt (aCons (eBlt (g2 isi3) (aCons (eVar 0) (aCons (eC (.cls "NoText")) aNil))) aNil)))) b_law_alone_2)
noncomputable def b_law_alone : DSt -> R Out := (sSeq (sSet0 1 (eOp gAdd (eOp gAdd (eBlt gInt (aCons (eBlt (g2 isi3) (aCons (eVar 0) (aCons (eC (.cls "NoPlace")) aNil))) aNil)) (eBlt gInt (aCons (eBlt (g2 isi3) (aCons (eVar 0) (aCons (eC (.cls "Same")) aNil))) aNil))) (eBlt gInt (aCons (eBlt (g2 isi3) (aCons (eVar 0) (aCons (eC (.cls "NoFloor")) aNil))) aNil)))) b_law_alone_1)
noncomputable def m_law_alone : List D -> R D := fnM 1 2 b_law_alone
theorem m_law_alone_go (a0 : D) : m_law_alone [a0] = fin (b_law_alone [some a0, none]) := fnM_go (b := b_law_alone) rfl rfl
noncomputable def b_law_refused_v15_2 : DSt -> R Out := (sRet (vAnd (eOp gIsn (eVar 2) (eC .non)) (vAnd (eBlt (g2 isi3) (aCons (eVar 2) (aCons (eC (.cls "NoValue")) aNil))) (eCall m_law_alone (aCons (eVar 2) aNil)))))
noncomputable def b_law_refused_v15_1 : DSt -> R Out := (sSeq (sTry 3 "ChalkError" (sExpr (xCallD m_value (aCons (eVar 0) (aCons (eVar 1) aNil)))) (sSet0 2 (eVar 3))) b_law_refused_v15_2)
noncomputable def b_law_refused_v15 : DSt -> R Out := (sSeq (sSet0 2 (eC .non)) b_law_refused_v15_1)
noncomputable def m_law_refused_v15 : List D -> R D := fnM 2 4 b_law_refused_v15
theorem m_law_refused_v15_go (a0 : D) (a1 : D) : m_law_refused_v15 [a0, a1] = fin (b_law_refused_v15 [some a0, some a1, none, none]) := fnM_go (b := b_law_refused_v15) rfl rfl
noncomputable def b_law_v44_1kf_3e_2 : DSt -> R Out := (sIf (eOr (eNot (eTest (eCall m_law_whole (aCons (eOp gIx (eVar 8) (eC (.int 0))) aNil)))) (eNot (eTest (eCall m_law_whole (aCons (eOp gIx (eVar 8) (eC (.int 1))) aNil))))) (sRet (eC (.bl false))) sNext)
noncomputable def b_law_v44_1kf_3e_1 : DSt -> R Out := (sSeq (sIf (eOr (eNot (eTest (eBlt (g2 isi3) (aCons (eVar 8) (aCons (eC (.ty "tuple")) aNil))))) (eOr (eTest (eOp gNe (eBlt gLen (aCons (eVar 8) aNil)) (eC (.int 2)))) (eTest (eOp gNe (eVar 8) (eVar 6))))) (sRet (eC (.bl false))) sNext) b_law_v44_1kf_3e_2)
noncomputable def b_law_v44_1kf_3e : DSt -> R Out := (sSeq (sSet0 8 (eCall m_value (aCons (eVar 5) (aCons (eVar 7) aNil)))) b_law_v44_1kf_3e_1)
noncomputable def b_law_v44_1kf_4 : DSt -> R Out := (sIf (eTest (eOp gNeD (eVar 7) (eVar 2))) (sRet (eC (.bl false))) sNext)
noncomputable def b_law_v44_1kf_3 : DSt -> R Out := (sSeq (sIf (eTest (eOp gIs (eVar 6) (eC .non))) (sIf (eNot (eTest (eCall m_law_refused_v15 (aCons (eVar 5) (aCons (eVar 7) aNil))))) (sRet (eC (.bl false))) sNext) b_law_v44_1kf_3e) b_law_v44_1kf_4)
noncomputable def b_law_v44_1kf_2 : DSt -> R Out := (sSeq (sSet0 7 (eBlt gCopyD (aCons (eVar 2) aNil))) b_law_v44_1kf_3)
noncomputable def b_law_v44_1kf_1 : DSt -> R Out := (sSeq (sSet0 6 (eCall m_law_worth (aCons (eVar 5) (aCons (eVar 2) aNil)))) b_law_v44_1kf_2)
noncomputable def b_law_v44_1kf : DSt -> R Out := (sSeq (sSet0 5 (eCall m_law_shallow (aCons (eOp gAdd (eSl (eVar 0) (oSome (eC (.int 1))) (oSome (eVar 4))) (vLst (eLst (aCons (eC (.int 1)) aNil)))) (aCons (eVar 1) aNil)))) b_law_v44_1kf_1)
noncomputable def b_law_v44_1k_1 : DSt -> R Out := (sRet (eC (.bl true)))
noncomputable def b_law_v44_1k : DSt -> R Out := (sSeq (sFor [] [4] gpOne (iSeq (vLst (eLst (aCons (eC (.int 4)) (aCons (eC (.int 12)) (aCons (eC (.int 31)) (aCons (eC (.int 60)) aNil))))))) b_law_v44_1kf) b_law_v44_1k_1)
noncomputable def b_law_v44_1 : DSt -> R Out := (sDictK 2 (kThen (kFor 2 3 (iArgs rng1 (aCons (eC (.int 5)) aNil)) (kPut 2 (eOp gIx (eVar 1) (eVar 3)) (eCall m_law_fraction_v1 (aCons (eCall m_law_cell (aCons (eVar 0) (aCons (eOp gAdd (eC (.int 41)) (eVar 3)) aNil))) (aCons (eVar 3) aNil))))) (kThen (kIf (eM 2 (eTest (eOp gEq (eOp gMod (eOp gIx (eCall m_law_digits (aCons (eCall m_law_cell (aCons (eVar 0) (aCons (eC (.int 0)) aNil))) (aCons (eC (.int 12)) aNil))) (eC (.int 8))) (eC (.int 4))) (eC (.int 1))))) (kPop 2 (eOp gIx (eVar 1) (eOp gMod (eOp gIx (eCall m_law_digits (aCons (eCall m_law_cell (aCons (eVar 0) (aCons (eC (.int 0)) aNil))) (aCons (eC (.int 12)) aNil))) (eC (.int 7))) (eC (.int 5))))) kNext) b_law_v44_1k)))
noncomputable def b_law_v44 : DSt -> R Out := (sSeq (sSet0 1 (eCall m_law_words (aCons (eCall m_law_cell (aCons (eVar 0) (aCons (eC (.int 0)) aNil))) (aCons (eC (.int 5)) aNil)))) b_law_v44_1)
noncomputable def m_law_v44 : List D -> R D := fnM 1 9 b_law_v44
theorem m_law_v44_go (a0 : D) : m_law_v44 [a0] = fin (b_law_v44 [some a0, none, none, none, none, none, none, none, none]) := fnM_go (b := b_law_v44) rfl rfl
end Mir
section
open L2 DL Mir
local macro_rules | `(tactic| kd_p) => `(tactic| simp only [sSeq_def, seqK_nx, seqK_rt, seqK_bk, seqK_ct, seqK_err, sNext_def, eVar_zero, eVar_succ, eC_def, eOp_def, opK_ok, eUn_def, unK_ok, eCall_def, callK_ok, callK_err, xCallD_def, xcallK_ok, eBlt_def, bltK_ok, eBltF_def, bltFK_ok, noerr_okk, aNil_def, aCons_def, consK_ok, consK_err, eTup_def, tupK_0, tupK_1, tupK_2, tupK_3, tupK_4, tupK_5, tupK_6, tupK_9, eLst_def, lstK_0, lstK_1, lstK_2, lstK_3, lstK_4, lstK_5, lstK_6, vLst_def, vlstK_ok, eTest_def, testK_bl, eAnd_def, andK_t, andK_f, eOr_def, orK_t, orK_f, eNot_def, notK_ok, vAnd_def, vandK_t, vandK_f, vOr_def, vorK_t, vorK_f, vNot_def, vnotK_ok, eIf_def, eifK_t, eifK_f, sIf_def, ifK_t, ifK_f, eChain_def, chain_ints, sApp_def, sAppP_def, lstAt_zero, lstAt_succ, sRet_def, retK_ok, retK_err, sExpr_def, exprK_ok, exprK_err, sSet0_def, sSet_def, setK_ok, setK_err, sNew_def, newK_ok, sAsg_def, asgK_2t, asgK_2l, asgK_3t, asgK_3l, sPar_def, parK_ok, sRaise_def, raiseK_1, sRaise1_def, sTry_def, tryK_ok, handK_nx, fin_rt, fin_nx, fin_err, gAdd_ii, gSub_ii, gNeg_i, gLt_ii, gLe_ii, gGt_ii, gGe_ii, gEq_ii, gNe_ii, gEq_bb, gNe_bb, gEq_t3, gNe_t3, gEq_l3, gIs_bb, gIsn_bb, gIs_non, gIsn_non, isNon, gIx_t3_0, gIx_t3_1, gIx_t3_2, gIx_l3_0, gIx_l3_1, gIx_l3_2, gLen_l, gLen_t0, gLen_t1, gLen_t2, gLen_t3, gLen_t4, eq_self, decide_true, decide_false, Int.reduceEq, Int.reduceLT, Int.reduceLE, Int.reduceNeg, Int.reduceToNat, gAbs_i, gMin_ii, gMax_ii, gInt_b, isi_int_int, isi_int_bool, isi_bl_bool, isi_bl_int, isi_tup_tup, isi_lst_lst, isi_lst_tup, isi_tup_lst, isi_excV, iArgs_def, argsK_ok, iSeq_def, seqKi_t, seqKi_l, sFor_def, forK_ok, forL_one, forL_nil, turnK_nx, turnK_ct, turnK_bk, turnK_rt, turnK_err, eLC_def, mask_nil, mask, maskF, List.contains_cons, List.contains_nil, Bool.or_false, Bool.false_or, Bool.true_or, Bool.or_true, Nat.reduceBEq, Nat.reduceAdd, xb4, cond_true, cond_false, List.set_cons_zero, List.set_cons_succ, Bool.not_true, Bool.not_false, Bool.not_not, Bool.true_and, Bool.false_and, Bool.and_true, Bool.and_false])
local macro_rules | `(tactic| walk_at "side") => `(tactic| first | assumption | decide | omega | (refine mulB_le ?_ ?_ <;> omega) | (refine divB_le ?_ ?_ ?_ <;> omega) | (refine rOk_of ?_ ?_ <;> omega) | (simp only [xaw, xbs, xat, xar]; omega))
local macro_rules | `(tactic| kst_p2) => `(tactic| simp (disch := walk_at "side") only [sSeq_def, seqK_nx, seqK_rt, seqK_bk, seqK_ct, seqK_err, sNext_def, eVar_zero, eVar_succ, eC_def, eOp_def, opK_ok, eUn_def, unK_ok, eCall_def, callK_ok, callK_err, xCallD_def, xcallK_ok, eBlt_def, bltK_ok, eBltF_def, bltFK_ok, noerr_okk, aNil_def, aCons_def, consK_ok, consK_err, eTup_def, tupK_0, tupK_1, tupK_2, tupK_3, tupK_4, tupK_5, tupK_6, tupK_9, eLst_def, lstK_0, lstK_1, lstK_2, lstK_3, lstK_4, lstK_5, lstK_6, vLst_def, vlstK_ok, eTest_def, testK_bl, eAnd_def, andK_t, andK_f, eOr_def, orK_t, orK_f, eNot_def, notK_ok, vAnd_def, vandK_t, vandK_f, vOr_def, vorK_t, vorK_f, vNot_def, vnotK_ok, eIf_def, eifK_t, eifK_f, sIf_def, ifK_t, ifK_f, eChain_def, chain_ints, sApp_def, sAppP_def, lstAt_zero, lstAt_succ, sRet_def, retK_ok, retK_err, sExpr_def, exprK_ok, exprK_err, sSet0_def, sSet_def, setK_ok, setK_err, sNew_def, newK_ok, sAsg_def, asgK_2t, asgK_2l, asgK_3t, asgK_3l, sPar_def, parK_ok, sRaise_def, raiseK_1, sRaise1_def, sTry_def, tryK_ok, handK_nx, fin_rt, fin_nx, fin_err, gAdd_ii, gSub_ii, gNeg_i, gLt_ii, gLe_ii, gGt_ii, gGe_ii, gEq_ii, gNe_ii, gEq_bb, gNe_bb, gEq_t3, gNe_t3, gEq_l3, gIs_bb, gIsn_bb, gIs_non, gIsn_non, isNon, gIx_t3_0, gIx_t3_1, gIx_t3_2, gIx_l3_0, gIx_l3_1, gIx_l3_2, gLen_l, gLen_t0, gLen_t1, gLen_t2, gLen_t3, gLen_t4, eq_self, decide_true, decide_false, Int.reduceEq, Int.reduceLT, Int.reduceLE, Int.reduceNeg, Int.reduceToNat, gAbs_i, gMin_ii, gMax_ii, gInt_b, isi_int_int, isi_int_bool, isi_bl_bool, isi_bl_int, isi_tup_tup, isi_lst_lst, isi_lst_tup, isi_tup_lst, isi_excV, iArgs_def, argsK_ok, iSeq_def, seqKi_t, seqKi_l, sFor_def, forK_ok, forL_one, forL_nil, turnK_nx, turnK_ct, turnK_bk, turnK_rt, turnK_err, eLC_def, mask_nil, mask, maskF, List.contains_cons, List.contains_nil, Bool.or_false, Bool.false_or, Bool.true_or, Bool.or_true, Nat.reduceBEq, Nat.reduceAdd, xb4, cond_true, cond_false, List.set_cons_zero, List.set_cons_succ, Bool.not_true, Bool.not_false, Bool.not_not, Bool.true_and, Bool.false_and, Bool.and_true, Bool.and_false, gMul_ii, gFdiv_pos, gMod_pos, gPow_ii, gShr_ii, rng1_i, rng2_ii, appK_ok, appPK_ok, setPK_ok, sSetP_def])
namespace LmP
open Mth
theorem divisor_eq (a b : Int) : m_divisor [.int a, .int b] = .ok (.int ((Nat.gcd a.natAbs b.natAbs : Nat) : Int)) := by
  rw [m_divisor_go]
  unfold b_divisor b_divisor_1 b_divisor_2 b_divisor_3
  kd_p
  have loop : ∀ (n m : Nat) (z : Option D), ∃ z', sWhile b_divisor_2c b_divisor_2w [some (.int (m : Int)), some (.int (n : Int)), z] = .ok (.nx [some (.int ((Nat.gcd m n : Nat) : Int)), some (.int 0), z']) := by
    intro n
    induction n using Nat.strongRecOn with
    | _ n ih =>
      intro m z
      by_cases hn : n = 0
      · subst hn
        refine ⟨z, ?_⟩
        rw [sWhile_f (by unfold b_divisor_2c; kd_p; rfl), Nat.gcd_zero_right]; rfl
      · have hlt : m % n < n := Nat.mod_lt _ (by omega)
        obtain ⟨z', h⟩ := ih (m % n) hlt n (some (.int ((m % n : Nat) : Int)))
        refine ⟨z', ?_⟩
        rw [sWhile_t (Z' := [some (.int (n : Int)), some (.int ((m % n : Nat) : Int)), some (.int ((m % n : Nat) : Int))]) ?_ ?_, h, Mth.gcd_step]
        · unfold b_divisor_2c; kd_p
          simp [hn]
        · unfold b_divisor_2w b_divisor_2w_1 b_divisor_2w_2; kd_p
          rw [gMod_pos _ _ (by omega)]
          kd_p
          rfl
  obtain ⟨z', h⟩ := loop b.natAbs a.natAbs none
  rw [h]
  kd_p
end LmP
open L2 DL Mir
namespace LmA
open Mth LmP
theorem em_pos {i j : Int} (h : 0 < j) : 0 <= i % j /\ i % j < j := ⟨Int.emod_nonneg _ (by omega), Int.emod_lt_of_pos _ h⟩
theorem law_mixed_ok (c k : Int) (h0 : 0 <= k) (h1 : k <= 1000) : ∃ r, m_law_mixed [.int c, .int k] = .ok (.int r) /\ 0 <= r /\ r < 2305843009213693951 := by
  rw [m_law_mixed_go]; unfold b_law_mixed b_law_mixed_1 b_law_mixed_2 b_law_mixed_3; kd_p
  have m1 := em_pos (i := c) (j := 1000000007) (by decide)
  rw [gMod_pos _ _ (by decide)]; kd_p
  rw [gMul_ii _ _ (mulB_le (by omega) (by omega)) (by decide +kernel), gMul_ii _ k (by decide +kernel) (mulB_le (by omega) (by omega))]; kd_p
  rw [gMul_ii _ k (mulB_le (by omega) (by omega)) (mulB_le (by omega) (by omega)), gMul_ii _ k (by decide +kernel) (mulB_le (by omega) (by omega))]; kd_p
  rw [gMod_pos _ _ (by decide)]; kd_p
  generalize ((c % 1000000007 + 1) * 6364136223846793005 + 7919 * k * k + 31 * k) = v
  have m2 := em_pos (i := v) (j := 2305843009213693951) (by decide)
  generalize v % 2305843009213693951 = u at m2 ⊢
  rw [gMul_ii u u (mulB_le (by omega) (by omega)) (mulB_le (by omega) (by omega)), gMul_ii _ k (by decide +kernel) (mulB_le (by omega) (by omega))]; kd_p
  rw [gMul_ii _ k (mulB_le (by omega) (by omega)) (mulB_le (by omega) (by omega))]; kd_p
  rw [gMod_pos _ _ (by decide)]; kd_p
  generalize (u * u + 69621 * k * k + k) = t
  have m3 := em_pos (i := t) (j := 2305843009213693951) (by decide)
  generalize t % 2305843009213693951 = q at m3 ⊢
  rw [gMul_ii q q (mulB_le (by omega) (by omega)) (mulB_le (by omega) (by omega))]; kd_p
  rw [gMod_pos _ _ (by decide)]; kd_p
  exact ⟨_, rfl, em_pos (by decide)⟩
theorem law_divisor_eq (a b : Int) : m_law_divisor [.int a, .int b] = .ok (.int ((Nat.gcd a.natAbs b.natAbs : Nat) : Int)) := by
  rw [m_law_divisor_go]; unfold b_law_divisor b_law_divisor_1 b_law_divisor_2 b_law_divisor_3; kd_p
  have loop : ∀ (n m : Nat), sWhile b_law_divisor_2c b_law_divisor_2w [some (.int (m : Int)), some (.int (n : Int))] = .ok (.nx [some (.int ((Nat.gcd m n : Nat) : Int)), some (.int 0)]) := by
    intro n
    induction n using Nat.strongRecOn with
    | _ n ih =>
      intro m
      by_cases hn : n = 0
      · subst hn
        rw [sWhile_f (by unfold b_law_divisor_2c; kd_p; rfl), Nat.gcd_zero_right]; rfl
      · have hlt : m % n < n := Nat.mod_lt _ (by omega)
        have h := ih (m % n) hlt n
        rw [sWhile_t (Z' := [some (.int (n : Int)), some (.int ((m % n : Nat) : Int))]) ?_ ?_, h, Mth.gcd_step]
        · unfold b_law_divisor_2c; kd_p
          rw [xah (by omega)]
        · unfold b_law_divisor_2w; kd_p
          rw [gMod_pos _ _ (by omega)]
          kd_p
          rfl
  rw [loop]
  kd_p
theorem law_whole_i (i : Int) : m_law_whole [.int i] = .ok (.bl true) := by
  rw [m_law_whole_go]; unfold b_law_whole; kd_p
end LmA
open L2 DL Mir
open L2 DL Mir
open L2 DL Mir
namespace Lk42
open Mth LmP LmA
theorem eSl_to (fe f : DSt -> R D) (Z : DSt) (ds : List D) (n : Nat) (h1 : fe Z = .ok (.lst ds)) (h2 : f Z = .ok (.int (n : Int))) : eSl fe oNone (oSome f) Z = .ok (.lst (ds.take n)) := by
  unfold eSl oNone oSome
  rw [h1, h2]
  show R.ok (D.lst (cutD ds none (some (n : Int)))) = _
  unfold cutD
  rw [HT.sIx_none, HT.sIx_nat, List.drop_zero, Nat.sub_zero, <- List.take_eq_take_min]
end Lk42
open L2 DL Mir
open L2 DL Mir
open L2 DL Mir
open L2 DL Mir
open L2 DL Mir
open L2 DL Mir
open L2 DL Mir
open L2 DL Mir
open L2 DL Mir
open L2 DL Mir
open L2 DL Mir
namespace LmC
open Mth LmP LmA
def cell (ns : List Int) (k : Nat) : Int := ns.getD k 0
theorem law_cell_ok (ns : List Int) (k : Nat) : m_law_cell [.lst (ns.map .int), .int (k : Int)] = .ok (.int (cell ns k)) := by
  rw [m_law_cell_go]; unfold b_law_cell b_law_cell_1; kd_p
  rw [xar]
  by_cases h : k < ns.length
  · rw [xah (by omega)]; kd_p
    rw [gIx_nat (d := .int ns[k]) (by simp [h])]; kd_p
    simp [cell, h]
  · rw [xal (by omega)]; kd_p
    simp [cell, h]
end LmC
open L2 DL Mir
open L2 DL Mir
open L2 DL Mir
namespace LmW
open Mth LmP LmA LmC
structure Dd where
  w : Bool
  a : Nat
  b : Nat
end LmW
open L2 DL Mir
namespace LmX
open Mth LmP LmA LmC LmW
theorem eSl_mid (fe f g : DSt -> R D) (Z : DSt) (ds : List D) (a b : Nat) (h1 : fe Z = .ok (.lst ds)) (h2 : f Z = .ok (.int (a : Int))) (h3 : g Z = .ok (.int (b : Int))) : eSl fe (oSome f) (oSome g) Z = .ok (.lst ((ds.drop (min a ds.length)).take (min b ds.length - min a ds.length))) := by
  unfold eSl oSome
  rw [h1, h2, h3]
  show R.ok (D.lst (cutD ds (some (a : Int)) (some (b : Int)))) = _
  unfold cutD
  rw [HT.sIx_nat, HT.sIx_nat]
end LmX
open L2 DL Mir
open L2 DL Mir
namespace LmY
open Mth LmP LmA LmW LmX TxtA
theorem str_ok {n : Nat} (h : n < 10 ^ 70) : gStr [.int (n : Int)] = .ok (.str (ofL (digs n))) := by
  show str1 (.int (n : Int)) = _
  have hl : ((n : Int)).natAbs.log2 < 1920 := by
    rw [Int.natAbs_natCast]
    have : n.log2 <= n := Nat.log2_le_self n
    by_cases h0 : n = 0
    · rw [h0]; decide
    · exact (Nat.log2_lt h0).mpr (xaf h (by decide))
  show (bif decide (((n : Int)).natAbs.log2 < 1920) then R.ok (D.str (toString ((n : Nat) : Int))) else .bad) = _
  rw [xah hl, cond_true]
  show R.ok (D.str (Str.ofString (toString ((n : Nat) : Int)))) = _
  rw [ofS]
theorem strs_map : ∀ ys : List Str, strsOf (ys.map D.str) = some ys
  | [] => rfl
  | y :: ys => by
    show (strsOf (ys.map D.str)).map (y :: ·) = _
    rw [strs_map ys]; rfl
theorem joinT_eq (z : Str) (ys : List Str) : joinT z ys = Str.join z ys := by
  unfold joinT
  split
  · rfl
  · exact StrLaws.glued_eq_join z ys
theorem sumL_eq (z : Str) (ys : List Str) : sumL z ys = (ys.map (·.length)).sum + ys.length * z.length := StrLaws.joinTotal z ys
theorem join_ok {y : List Nat} {rows : List (List Nat)} {B : Nat} (hB : ∀ r ∈ rows, r.length <= B) (h : rows.length * B + rows.length * y.length <= 10000000) : joinD (.str (ofL y)) (.lst ((rows.map ofL).map D.str)) = .ok (.str (ofL (TxtA.flat y rows))) := by
  have lo : ∀ l : List Nat, (ofL l).length = l.length := fun l => by simp [ofL, Str.length]
  have h1 : sumL (ofL y) (rows.map ofL) <= 10000000 := by
    rw [sumL_eq, lo, xar]
    have := StrLaws.sumLen_le (B := B) (rows.map ofL) (fun s hs => by obtain ⟨r, hr, rfl⟩ := xb3.mp hs; rw [lo]; exact hB r hr)
    rw [xar] at this
    omega
  have h2 : (joinT (ofL y) (rows.map ofL)).length <= 10000000 := by
    rw [joinT_eq, join_rows, lo]
    have fl : ∀ rows : List (List Nat), (∀ r ∈ rows, r.length <= B) -> (TxtA.flat y rows).length <= rows.length * B + rows.length * y.length := by
      intro rows
      induction rows with
      | nil => intro _; simp [TxtA.flat]
      | cons r rs ih =>
        intro hr
        cases rs with
        | nil => have := hr r (by simp); simp [TxtA.flat]; omega
        | cons r' rs =>
          have a1 := hr r (by simp)
          have a2 := ih fun q hq => hr q (xaq _ hq)
          rw [TxtA.flat]
          simp only [xat, xaw] at a2 ⊢
          rw [Nat.add_mul (rs.length + 1) 1 B, Nat.add_mul (rs.length + 1) 1 y.length]
          omega
    exact xa1 (fl rows hB) h
  unfold joinD
  simp only [strs_map]
  rw [show (le24 (sumL (ofL y) (rows.map ofL)) && le24 (joinT (ofL y) (rows.map ofL)).length) = true from by
    rw [xau]; exact ⟨xah (xa1 h1 (by decide)), xah (xa1 h2 (by decide))⟩, cond_true, joinT_eq, join_rows]
end LmY
open L2 DL Mir
namespace LmWa
open Mth LmP LmA LmY TxtA
theorem digits_ok (c : Int) (N : Nat) (hN : N <= 1000) : ∃ ns : List Int, m_law_digits [.int c, .int (N : Int)] = .ok (.lst (ns.map .int)) /\ ns.length = N /\ ∀ n ∈ ns, 0 <= n /\ n < 1000000 := by
  rw [m_law_digits_go]; unfold b_law_digits; kd_p
  unfold b_law_digits_1; kst_p2
  unfold b_law_digits_2; kst_p2
  rw [Int.toNat_natCast]
  have turn : ∀ (j : Nat) (d : D) (Z : DSt), (rngD 0 N)[j]? = some d -> (∃ (ns : List Int) (v : Int) (a : Option D), Z = [some (.int c), some (.int (N : Int)), some (.lst (ns.map .int)), some (.int v), a] /\ ns.length = j /\ ∀ n ∈ ns, 0 <= n /\ n < 1000000) -> ∃ Z', (b_law_digits_2f (Z.set 4 (some d)) = .ok (.nx Z') \/ b_law_digits_2f (Z.set 4 (some d)) = .ok (.ct Z')) /\ ∃ (ns : List Int) (v : Int) (a : Option D), Z' = [some (.int c), some (.int (N : Int)), some (.lst (ns.map .int)), some (.int v), a] /\ ns.length = j + 1 /\ ∀ n ∈ ns, 0 <= n /\ n < 1000000 := by
    rintro j d Z hd ⟨ns, v, a, rfl, hl, hb⟩
    have hj : j < N := by
      have := (xab.mp hd).1
      simpa [rngD] using this
    obtain rfl : d = .int (j : Int) := by
      unfold rngD at hd
      rw [xa2, xcd hj] at hd
      simpa using hd.symm
    have put : ∀ x : Int, 0 <= x -> x < 1000000 -> (ns ++ [x]).length = j + 1 /\ ∀ n ∈ ns ++ [x], 0 <= n /\ n < 1000000 := fun x h0 h1 => by
      refine ⟨by simp [hl], fun n hn => ?_⟩
      rcases xbh.mp hn with hn | hn
      · exact hb n hn
      · rw [xbl.mp hn]; exact ⟨h0, h1⟩
    unfold b_law_digits_2f; kst_p2
    obtain ⟨k, hk⟩ : ∃ k, andK (.ok (decide (c % 2 = 0))) (eTest (eOp gGt (eVar 3) (eC (.int 0)))) [some (.int c), some (.int (N : Int)), some (.lst (ns.map .int)), some (.int v), some (.int (j : Int))] = .ok k := by
      cases decide (c % 2 = 0)
      · exact ⟨_, rfl⟩
      · kd_p; exact ⟨_, rfl⟩
    rw [hk]
    cases k with
    | true =>
      kd_p
      unfold b_law_digits_2ft; kst_p2
      have e := em_pos (i := v) (j := 10 ^ 6) (by decide)
      unfold b_law_digits_2ft_1; kst_p2
      obtain ⟨p1, p2⟩ := put (v % 10 ^ 6) (by omega) (by omega)
      exact ⟨_, .inl rfl, ns ++ [v % 10 ^ 6], v / 10 ^ 6, some (.int (j : Int)), by rw [xa9]; rfl, p1, p2⟩
    | false =>
      kd_p
      obtain ⟨r, er, r0, r1⟩ := law_mixed_ok c (j : Int) (by omega) (by omega)
      rw [er]; kst_p2
      have e := em_pos (i := r) (j := 10 ^ 6) (by decide)
      obtain ⟨p1, p2⟩ := put (r % 10 ^ 6) (by omega) (by omega)
      exact ⟨_, .inl rfl, ns ++ [r % 10 ^ 6], v, some (.int (j : Int)), by rw [xa9]; rfl, p1, p2⟩
  obtain ⟨Z', e, ns, v, a, rfl, hl, hb⟩ := forL_nth (i := 4) (fb := b_law_digits_2f) _ _ turn [some (.int c), some (.int (N : Int)), some (.lst []), some (.int (c / 2)), none] ⟨[], c / 2, none, rfl, rfl, by simp⟩
  rw [e]; kd_p
  unfold b_law_digits_3; kd_p
  exact ⟨ns, rfl, by rw [hl]; simp [rngD], hb⟩
end LmWa
open L2 DL Mir
namespace LmWb
open Mth LmP LmA LmY LmWa TxtA
inductive Sg where | plus | minus | times | over
def Sg.str : Sg -> Str
  | .plus => "+" | .minus => "-" | .times => "*" | .over => "/"
inductive Tr where
  | nm (x : Str) | nb (i : Int) | op (s : Sg) (a b : Tr)
def Tr.d : Tr -> D
  | .nm x => .tup [.str "name", .str x]
  | .nb i => .tup [.str "number", .int i]
  | .op s a b => .tup [.str s.str, a.d, b.d]
def Tr.many : Tr -> Nat
  | .nm _ => 1 | .nb _ => 1 | .op _ a b => a.many + b.many
theorem Tr.pos : ∀ t : Tr, 0 < t.many
  | .nm _ => Nat.one_pos | .nb _ => Nat.one_pos
  | .op _ a b => by have := a.pos; show 0 < a.many + b.many; omega
def sg (p q : Int) : Int := if q < 0 then -((Nat.gcd p.natAbs q.natAbs : Nat) : Int) else ((Nat.gcd p.natAbs q.natAbs : Nat) : Int)
def low (p q : Int) : Int × Int := (p.fdiv (sg p q), q.fdiv (sg p q))
def fr (v : Int × Int) : D := .tup [.int v.1, .int v.2]
theorem sg_parts {p q : Int} (h0 : q ≠ 0) : sg p q ≠ 0 /\ (sg p q).natAbs <= q.natAbs /\ (∃ a, p = sg p q * a) /\ ∃ b, q = sg p q * b /\ 0 < b := by
  have hg : 0 < Nat.gcd p.natAbs q.natAbs := Nat.gcd_pos_of_pos_right _ (by omega)
  have dp : ((Nat.gcd p.natAbs q.natAbs : Nat) : Int) ∣ p := Int.ofNat_dvd_left.mpr (Nat.gcd_dvd_left _ _)
  have dq : ((Nat.gcd p.natAbs q.natAbs : Nat) : Int) ∣ q := Int.ofNat_dvd_left.mpr (Nat.gcd_dvd_right _ _)
  have lq : Nat.gcd p.natAbs q.natAbs <= q.natAbs := Nat.le_of_dvd (by omega) (Nat.gcd_dvd_right _ _)
  unfold sg
  generalize ((Nat.gcd p.natAbs q.natAbs : Nat)) = g at *
  obtain ⟨a, ha⟩ := dp
  obtain ⟨b, hb⟩ := dq
  by_cases hq : q < 0
  · rw [xav hq]
    refine ⟨by omega, by omega, ⟨-a, by rw [ha]; grind⟩, -b, by rw [hb]; grind, ?_⟩
    by_cases hbb : 0 <= b
    · have := Int.mul_nonneg (show (0 : Int) <= (g : Int) by omega) hbb
      omega
    · omega
  · rw [xao hq]
    refine ⟨by omega, by omega, ⟨a, ha⟩, b, hb, ?_⟩
    by_cases hbb : b <= 0
    · have := Int.mul_nonneg (show (0 : Int) <= (g : Int) by omega) (show 0 <= -b by omega)
      have : (g : Int) * -b = -(g * b) := by grind
      omega
    · omega
theorem low_sz {n : Nat} {p q : Int} (hp : B n p) (hq : B n q) (h0 : q ≠ 0) : B n (low p q).1 /\ B n (low p q).2 /\ 0 < (low p q).2 := by
  obtain ⟨h1, h2, ⟨a, ha⟩, b, hb, hb0⟩ := sg_parts (p := p) h0
  unfold low
  have ea : p.fdiv (sg p q) = a := by
    conv => lhs; arg 1; rw [ha]
    exact Int.mul_fdiv_cancel_left _ h1
  have eb : q.fdiv (sg p q) = b := by
    conv => lhs; arg 1; rw [hb]
    exact Int.mul_fdiv_cancel_left _ h1
  have la : a.natAbs <= p.natAbs := by
    conv => rhs; rw [ha, Int.natAbs_mul]
    exact Nat.le_mul_of_pos_left _ (by omega)
  have lb : b.natAbs <= q.natAbs := by
    conv => rhs; rw [hb, Int.natAbs_mul]
    exact Nat.le_mul_of_pos_left _ (by omega)
  show B n (p.fdiv (sg p q)) /\ B n (q.fdiv (sg p q)) /\ 0 < q.fdiv (sg p q)
  rw [ea, eb]
  unfold B at *
  exact ⟨by omega, by omega, hb0⟩
theorem sg_div {n : Nat} {p q : Int} (hq : B n q) (h0 : q ≠ 0) (hn : n <= 9000) : divB (sg p q) = true := by
  obtain ⟨h1, h2, _⟩ := sg_parts (p := p) h0
  exact divB_of (n := n) (xbr h2 hq) h1 hn
theorem fraction_ok {n : Nat} {p q : Int} (hq : B n q) (h0 : q ≠ 0) (hn : n <= 9000) : m_fraction [.int p, .int q] = .ok (fr (low p q)) := by
  have hd := sg_div (p := p) hq h0 hn
  unfold low fr
  rw [m_fraction_go]; unfold b_fraction b_fraction_1 b_fraction_2; kd_p
  rw [divisor_eq]; kd_p
  by_cases h : q < 0
  · have e : -((Nat.gcd p.natAbs q.natAbs : Nat) : Int) = sg p q := by unfold sg; rw [xav h]
    rw [xah h]; kd_p
    rw [e, gFdiv_ii _ _ hd, gFdiv_ii _ _ hd]; kd_p
  · have e : ((Nat.gcd p.natAbs q.natAbs : Nat) : Int) = sg p q := by unfold sg; rw [xao h]
    rw [xal h]; kd_p
    rw [e, gFdiv_ii _ _ hd, gFdiv_ii _ _ hd]; kd_p
theorem law_low_ok {n : Nat} {p q : Int} (hq : B n q) (h0 : q ≠ 0) (hn : n <= 9000) : m_law_low_v1 [.int p, .int q] = .ok (fr (low p q)) := by
  have hd := sg_div (p := p) hq h0 hn
  unfold low fr
  rw [m_law_low_v1_go]; unfold b_law_low_v1 b_law_low_v1_1 b_law_low_v1_2; kd_p
  rw [law_divisor_eq]; kd_p
  by_cases h : q < 0
  · have e : 0 - ((Nat.gcd p.natAbs q.natAbs : Nat) : Int) = sg p q := by unfold sg; rw [xav h]; omega
    rw [xah h]; kd_p
    rw [e, gFdiv_ii _ _ hd, gFdiv_ii _ _ hd]; kd_p
  · have e : ((Nat.gcd p.natAbs q.natAbs : Nat) : Int) = sg p q := by unfold sg; rw [xao h]
    rw [xal h]; kd_p
    rw [e, gFdiv_ii _ _ hd, gFdiv_ii _ _ hd]; kd_p
def two : Sg -> Int × Int -> Int × Int -> Int × Int
  | .plus, a, b => (a.1 * b.2 + b.1 * a.2, a.2 * b.2)
  | .minus, a, b => (a.1 * b.2 - b.1 * a.2, a.2 * b.2)
  | .times, a, b => (a.1 * b.1, a.2 * b.2)
  | .over, a, b => (a.1 * b.2, a.2 * b.1)
def byS (s : Sg) (a b : Int × Int) : Option (Int × Int) := match s with
  | .over => if b.1 = 0 then none else some (low (two .over a b).1 (two .over a b).2)
  | s => some (low (two s a b).1 (two s a b).2)
structure Fr (n : Nat) (v : Int × Int) : Prop where
  p : B n v.1
  q : B n v.2
  pos : 0 < v.2
theorem two_sz {m n : Nat} {a b : Int × Int} (ha : Fr m a) (hb : Fr n b) (s : Sg) : B (m + n + 1) (two s a b).1 /\ B (m + n + 1) (two s a b).2 := by
  have x1 : B (m + n) (a.1 * b.2) := ha.p.mul hb.q
  have x2 : B (m + n) (b.1 * a.2) := (hb.p.mul ha.q).mono (by omega)
  have x3 : B (m + n) (a.2 * b.2) := ha.q.mul hb.q
  have x4 : B (m + n) (a.1 * b.1) := ha.p.mul hb.p
  have x5 : B (m + n) (a.2 * b.1) := ha.q.mul hb.p
  cases s with
  | plus => exact ⟨(x1.add x2).mono (by omega), x3.mono (by omega)⟩
  | minus => exact ⟨(x1.sub x2).mono (by omega), x3.mono (by omega)⟩
  | times => exact ⟨x4.mono (by omega), x3.mono (by omega)⟩
  | over => exact ⟨x1.mono (by omega), x5.mono (by omega)⟩
theorem two_nz {m n : Nat} {a b : Int × Int} (ha : Fr m a) (hb : Fr n b) (s : Sg) (h : s = .over -> b.1 ≠ 0) : (two s a b).2 ≠ 0 := by
  have h1 := ha.pos
  have h2 := hb.pos
  cases s with
  | over => exact Int.mul_ne_zero (by omega) (h rfl)
  | _ => exact Int.mul_ne_zero (by omega) (by omega)
theorem byS_sz {m n : Nat} {a b v : Int × Int} (ha : Fr m a) (hb : Fr n b) {s : Sg} (h : byS s a b = some v) : Fr (m + n + 1) v := by
  obtain ⟨z1, z2⟩ := two_sz ha hb s
  have key : ∀ nz : (two s a b).2 ≠ 0, Fr (m + n + 1) (low (two s a b).1 (two s a b).2) := fun nz => let ⟨y1, y2, y3⟩ := low_sz z1 z2 nz; ⟨y1, y2, y3⟩
  cases s with
  | over =>
    unfold byS at h
    by_cases h0 : b.1 = 0
    · simp only [h0, if_true] at h; cases h
    · simp only [h0, if_false] at h
      cases h
      exact key (two_nz ha hb .over fun _ => h0)
  | plus => cases h; exact key (two_nz ha hb .plus nofun)
  | minus => cases h; exact key (two_nz ha hb .minus nofun)
  | times => cases h; exact key (two_nz ha hb .times nofun)
end LmWb
open L2 DL Mir
namespace LmWc
open Mth LmP LmA LmY LmWa LmWb TxtA
theorem ix20 (a b : D) : gIx (.tup [a, b]) (.int 0) = .ok a := (rfl)
theorem ix21 (a b : D) : gIx (.tup [a, b]) (.int 1) = .ok b := (rfl)
theorem mul_ok {m n : Nat} {x y : Int} (hx : B m x) (hy : B n y) (hm : m <= 9000) (hn : n <= 9000) : gMul (.int x) (.int y) = .ok (.int (x * y)) := gMul_ii _ _ (mulB_of hx (by omega)) (mulB_of hy (by omega))
def resV : Option (Int × Int) -> R D
  | some v => .ok (fr v)
  | none => .err (.exc "NoValue" [])
theorem reckoned_ok {m n : Nat} {a b : Int × Int} (ha : Fr m a) (hb : Fr n b) (hn : m + n + 1 <= 9000) (s : Sg) : m_reckoned [.str s.str, fr a, fr b] = resV (byS s a b) := by
  have z2 := (two_sz ha hb s).2
  have x1 := mul_ok ha.p hb.q (by omega) (by omega)
  have x2 := mul_ok hb.p ha.q (by omega) (by omega)
  have x3 := mul_ok ha.q hb.q (by omega) (by omega)
  have x4 := mul_ok ha.p hb.p (by omega) (by omega)
  have x5 := mul_ok ha.q hb.p (by omega) (by omega)
  have nz := two_nz ha hb s
  rw [m_reckoned_go]; unfold b_reckoned; kd_p
  cases s with
  | plus =>
    rw [show gEq (.str Sg.plus.str) (.str "+") = .ok (.bl true) from rfl]; kd_p
    unfold fr; simp only [ix20, ix21]; kd_p
    rw [x1, x2, x3]; kd_p
    show fin (seqK (retK (m_fraction [.int (two .plus a b).1, .int (two .plus a b).2])) _) = _
    rw [fraction_ok z2 (nz nofun) hn] ;rfl
  | minus =>
    rw [show gEq (.str Sg.minus.str) (.str "+") = .ok (.bl false) from rfl]; kd_p
    unfold b_reckoned_1; kd_p
    rw [show gEq (.str Sg.minus.str) (.str "-") = .ok (.bl true) from rfl]; kd_p
    unfold fr; simp only [ix20, ix21]; kd_p
    rw [x1, x2, x3]; kd_p
    show fin (seqK (retK (m_fraction [.int (two .minus a b).1, .int (two .minus a b).2])) _) = _
    rw [fraction_ok z2 (nz nofun) hn] ;rfl
  | times =>
    rw [show gEq (.str Sg.times.str) (.str "+") = .ok (.bl false) from rfl]; kd_p
    unfold b_reckoned_1; kd_p
    rw [show gEq (.str Sg.times.str) (.str "-") = .ok (.bl false) from rfl]; kd_p
    unfold b_reckoned_2; kd_p
    rw [show gEq (.str Sg.times.str) (.str "*") = .ok (.bl true) from rfl]; kd_p
    unfold fr; simp only [ix20, ix21]; kd_p
    rw [x4, x3]; kd_p
    show fin (seqK (retK (m_fraction [.int (two .times a b).1, .int (two .times a b).2])) _) = _
    rw [fraction_ok z2 (nz nofun) hn] ;rfl
  | over =>
    rw [show gEq (.str Sg.over.str) (.str "+") = .ok (.bl false) from rfl]; kd_p
    unfold b_reckoned_1; kd_p
    rw [show gEq (.str Sg.over.str) (.str "-") = .ok (.bl false) from rfl]; kd_p
    unfold b_reckoned_2; kd_p
    rw [show gEq (.str Sg.over.str) (.str "*") = .ok (.bl false) from rfl]; kd_p
    unfold b_reckoned_3 b_reckoned_4; kd_p
    unfold fr; simp only [ix20, ix21]; kd_p
    unfold byS
    by_cases h0 : b.1 = 0
    · rw [xah h0]; kd_p
      simp only [h0, if_true]; rfl
    · rw [xal h0]; kd_p
      simp only [ix20, ix21]; kd_p
      rw [x1, x5]; kd_p
      simp only [h0, if_false]
      show fin (retK (m_fraction [.int (two .over a b).1, .int (two .over a b).2])) = _
      rw [fraction_ok z2 (nz fun _ => h0) hn]; rfl
def worth (val : Str -> Option (Int × Int)) : Tr -> Option (Int × Int)
  | .nm x => val x
  | .nb i => some (i, 1)
  | .op s a b => match worth val a, worth val b with
    | some u, some v => byS s u v
    | _, _ => none
theorem worth_op (val : Str -> Option (Int × Int)) (s : Sg) (a b : Tr) : worth val (.op s a b) = (worth val a).bind fun u => (worth val b).bind fun v => byS s u v := by
  rw [worth]
  cases worth val a <;> cases worth val b <;> rfl
def opt : Option (Int × Int) -> D
  | none => .non
  | some v => fr v
structure En (ks : List Key) (ds : List D) (val : Str -> Option (Int × Int)) : Prop where
  here : ∀ x, valD ks ds (.inr x) = (val x).map fr
  sz : ∀ x v, val x = some v -> Fr 40 v
def Nums : Tr -> Prop
  | .nb i => 0 <= i /\ i < 10000000000
  | .op _ a b => Nums a /\ Nums b
  | .nm _ => True
section
variable {ks : List Key} {ds : List D} {val : Str -> Option (Int × Int)} (E : En ks ds val)
include E
theorem worth_sz : ∀ {t : Tr} {v : Int × Int}, Nums t -> worth val t = some v -> Fr (41 * t.many - 1) v
  | .nm x, v, _, h => E.sz x v h
  | .nb i, v, hN, h => by
    cases h
    show Fr 40 (i, 1)
    refine ⟨?_, ?_, show (0 : Int) < 1 by decide⟩
    · exact B.of (k := 10000000000) (by obtain ⟨h1, h2⟩ := hN; show i.natAbs <= _; omega)
    · exact B.of (k := 1) (show (1 : Int).natAbs <= 1 by decide)
  | .op s a b, v, hN, h => by
    unfold worth at h
    cases ea : worth val a with
    | none => rw [ea] at h; simp at h
    | some u => cases eb : worth val b with
      | none => rw [ea, eb] at h; simp at h
      | some w =>
        rw [ea, eb] at h
        have := byS_sz (worth_sz hN.1 ea) (worth_sz hN.2 eb) h
        have pa := a.pos
        have pb := b.pos
        rw [show 41 * (Tr.op s a b).many - 1 = 41 * a.many - 1 + (41 * b.many - 1) + 1 by show 41 * (a.many + b.many) - 1 = _; omega]
        exact this
theorem law_worth_ok : ∀ (t : Tr) (n : Nat), Nums t -> t.many <= n -> t.many <= 200 -> m_law_worth_at n [t.d, .dct ks ds] = .ok (opt (worth val t))
  | .nm x, n, _, hn, _ => by
    obtain ⟨k, rfl⟩ : ∃ k, n = k + 1 := ⟨n - 1, by have : 1 <= n := hn; omega⟩
    rw [m_law_worth_go]; unfold b_law_worth b_law_worth_1; kd_p
    unfold Tr.d; simp only [ix20, ix21]; kd_p
    rw [show gEq (.str "name") (.str "number") = .ok (.bl false) from rfl]; kd_p
    simp only [ix20, ix21]; kd_p
    rw [show gEq (.str "name") (.str "name") = .ok (.bl true) from rfl]; kd_p
    rw [show eGetD (eVar 1) (eOp gIx (eVar 0) (eC (.int 1))) [some (.tup [.str "name", .str x]), some (.dct ks ds), none, none] = .ok ((valD ks ds (.inr x)).getD .non) from rfl, E.here]; kd_p
    show R.ok _ = .ok (opt (val x))
    cases val x <;> rfl
  | .nb i, n, _, hn, _ => by
    obtain ⟨k, rfl⟩ : ∃ k, n = k + 1 := ⟨n - 1, by have : 1 <= n := hn; omega⟩
    rw [m_law_worth_go]; unfold b_law_worth; kd_p
    unfold Tr.d; simp only [ix20, ix21]; kd_p
    rw [show gEq (.str "number") (.str "number") = .ok (.bl true) from rfl]; kd_p
    rfl
  | .op s a b, n, hN, hn, h2 => by
    have pa := a.pos
    have pb := b.pos
    have hm : (Tr.op s a b).many = a.many + b.many := rfl
    obtain ⟨k, rfl⟩ : ∃ k, n = k + 1 := ⟨n - 1, by omega⟩
    have i1 := law_worth_ok a k hN.1 (by omega) (by omega)
    have i2 := law_worth_ok b k hN.2 (by omega) (by omega)
    rw [m_law_worth_go]; unfold b_law_worth b_law_worth_1 b_law_worth_2 b_law_worth_3; kd_p
    unfold Tr.d; kd_p
    rw [show gEq (.str s.str) (.str "number") = .ok (.bl false) from by cases s <;> rfl]; kd_p
    rw [show gEq (.str s.str) (.str "name") = .ok (.bl false) from by cases s <;> rfl]; kd_p
    rw [i1]; kd_p
    rw [i2]; kd_p
    rw [show worth val (.op s a b) = (match worth val a, worth val b with
      | some u, some v => byS s u v
      | _, _ => none) from by rw [worth]]
    cases ea : worth val a with
    | none => unfold b_law_worth_4 opt; kd_p
    | some u => cases eb : worth val b with
      | none => unfold b_law_worth_4 opt fr; kd_p
      | some w =>
        have ha := worth_sz E hN.1 ea
        have hb := worth_sz E hN.2 eb
        have bn : (41 * a.many - 1) + (41 * b.many - 1) + 1 <= 9000 := by omega
        have z2 := (two_sz ha hb s).2
        have nz := two_nz ha hb s
        have x1 := mul_ok ha.p hb.q (by omega) (by omega)
        have x2 := mul_ok hb.p ha.q (by omega) (by omega)
        have x3 := mul_ok ha.q hb.q (by omega) (by omega)
        have x4 := mul_ok ha.p hb.p (by omega) (by omega)
        have x5 := mul_ok ha.q hb.p (by omega) (by omega)
        unfold b_law_worth_4 opt fr; kd_p
        cases s with
        | over =>
          rw [show gEq (.str Sg.over.str) (.str "/") = .ok (.bl true) from rfl]; kd_p
          simp only [ix20, ix21]; kd_p
          by_cases h0 : w.1 = 0
          · rw [xah h0]; kd_p
            simp only [byS, h0, if_true]
          · rw [xal h0]; kd_p
            unfold b_law_worth_5 b_law_worth_6 b_law_worth_7 b_law_worth_8; kd_p
            rw [show gEq (.str Sg.over.str) (.str "+") = .ok (.bl false) from rfl]; kd_p
            rw [show gEq (.str Sg.over.str) (.str "-") = .ok (.bl false) from rfl]; kd_p
            rw [show gEq (.str Sg.over.str) (.str "*") = .ok (.bl false) from rfl]; kd_p
            simp only [ix20, ix21]; kd_p
            rw [x1, x5]; kd_p
            simp only [byS, h0, if_false]
            show fin (retK (m_law_low_v1 [.int (two .over u w).1, .int (two .over u w).2])) = _
            rw [law_low_ok z2 (nz fun _ => h0) bn]; rfl
        | plus =>
          rw [show gEq (.str Sg.plus.str) (.str "/") = .ok (.bl false) from rfl]; kd_p
          unfold b_law_worth_5; kd_p
          rw [show gEq (.str Sg.plus.str) (.str "+") = .ok (.bl true) from rfl]; kd_p
          simp only [ix20, ix21]; kd_p
          rw [x1, x2, x3]; kd_p
          show fin (seqK (retK (m_law_low_v1 [.int (two .plus u w).1, .int (two .plus u w).2])) _) = _
          rw [law_low_ok z2 (nz nofun) bn] ;rfl
        | minus =>
          rw [show gEq (.str Sg.minus.str) (.str "/") = .ok (.bl false) from rfl]; kd_p
          unfold b_law_worth_5 b_law_worth_6; kd_p
          rw [show gEq (.str Sg.minus.str) (.str "+") = .ok (.bl false) from rfl]; kd_p
          rw [show gEq (.str Sg.minus.str) (.str "-") = .ok (.bl true) from rfl]; kd_p
          simp only [ix20, ix21]; kd_p
          rw [x1, x2, x3]; kd_p
          show fin (seqK (retK (m_law_low_v1 [.int (two .minus u w).1, .int (two .minus u w).2])) _) = _
          rw [law_low_ok z2 (nz nofun) bn] ;rfl
        | times =>
          rw [show gEq (.str Sg.times.str) (.str "/") = .ok (.bl false) from rfl]; kd_p
          unfold b_law_worth_5 b_law_worth_6 b_law_worth_7; kd_p
          rw [show gEq (.str Sg.times.str) (.str "+") = .ok (.bl false) from rfl]; kd_p
          rw [show gEq (.str Sg.times.str) (.str "-") = .ok (.bl false) from rfl]; kd_p
          rw [show gEq (.str Sg.times.str) (.str "*") = .ok (.bl true) from rfl]; kd_p
          simp only [ix20, ix21]; kd_p
          rw [x4, x3]; kd_p
          show fin (seqK (retK (m_law_low_v1 [.int (two .times u w).1, .int (two .times u w).2])) _) = _
          rw [law_low_ok z2 (nz nofun) bn] ;rfl
end
end LmWc
open L2 DL Mir
namespace LmWd
open Mth LmP LmA LmY LmWa LmWb LmWc TxtA
def Tr.size : Tr -> Nat
  | .nm _ => 1 | .nb _ => 1 | .op _ a b => 1 + Tr.size a + Tr.size b
theorem size_le : ∀ t : Tr, Tr.size t + 1 = 2 * t.many
  | .nm _ => rfl | .nb _ => rfl
  | .op _ a b => by have := size_le a; have := size_le b; show 1 + Tr.size a + Tr.size b + 1 = 2 * (a.many + b.many); omega
def pre : Tr -> List D
  | .nm x => [Tr.d (.nm x)] | .nb i => [Tr.d (.nb i)] | .op s a b => Tr.d (.op s a b) :: (pre b ++ pre a)
def post : Tr -> List D
  | .nm x => [Tr.d (.nm x)] | .nb i => [Tr.d (.nb i)] | .op s a b => post a ++ post b ++ [Tr.d (.op s a b)]
theorem pre_rev : ∀ t : Tr, (pre t).reverse = post t
  | .nm _ => rfl | .nb _ => rfl
  | .op s a b => by
    show (Tr.d (.op s a b) :: (pre b ++ pre a)).reverse = post a ++ post b ++ [Tr.d (.op s a b)]
    rw [xbp, List.reverse_append, pre_rev a, pre_rev b]
theorem pop_ok {i j : Nat} {Z : DSt} {xs : List D} {d : D} (h : lstAt Z i = .ok (xs ++ [d])) : sPop i j Z = .ok (.nx ((Z.set i (some (.lst xs))).set j (some d))) := by
  show (lstAt Z i).bind _ = _
  rw [h]
  show (match (xs ++ [d])[(xs ++ [d]).length - 1]? with
    | some d' => R.ok (Out.nx ((Z.set i (some (.lst (xs ++ [d]).dropLast))).set j (some d')))
    | none => .bad) = _
  have e : (xs ++ [d])[(xs ++ [d]).length - 1]? = some d := by simp
  rw [e]
  simp
def sizes (ws : List Tr) : Nat := (ws.map Tr.size).sum
theorem sizes_snoc (ws : List Tr) (t : Tr) : sizes (ws ++ [t]) = sizes ws + Tr.size t := by unfold sizes; simp
theorem pos_size : ∀ t : Tr, 0 < Tr.size t := fun t => by have := size_le t; have := t.pos; omega
theorem parts_loop (e : D) : ∀ (n : Nat) (ws : List Tr) (ps : List D) (z : Option D), sizes ws = n -> ps.length + n <= 100000 ->
    ∃ z', sWhile b_parts_of_2c b_parts_of_2w [some e, some (.lst ps), some (.lst (ws.map Tr.d)), z] = .ok (.nx [some e, some (.lst (ps ++ ws.reverse.flatMap pre)), some (.lst []), z']) := by
  intro n
  induction n using Nat.strongRecOn with
  | _ n ih =>
    intro ws ps z hn hl
    rcases xb9 ws with rfl | ⟨ws', t, rfl⟩
    · refine ⟨z, ?_⟩
      rw [sWhile_f (by unfold b_parts_of_2c; kd_p; rfl)]
      simp
    · rw [xcb] at *
      rw [sizes_snoc] at hn
      have hp := pos_size t
      have hc : b_parts_of_2c [some e, some (.lst ps), some (.lst ((ws' ++ [t]).map Tr.d)), z] = .ok true := by
        unfold b_parts_of_2c; kd_p
        rw [xah (by simp)]
      have pop : sPop 2 3 [some e, some (.lst ps), some (.lst ((ws' ++ [t]).map Tr.d)), z] = .ok (.nx [some e, some (.lst ps), some (.lst (ws'.map Tr.d)), some t.d]) := pop_ok (xs := ws'.map Tr.d) (d := t.d) (by rw [xa9]; rfl)
      have app : ∀ g, seqK (sApp [2, 1] 1 (eVar 3) [some e, some (.lst ps), some (.lst (ws'.map Tr.d)), some t.d]) g = g [some e, some (.lst (ps ++ [t.d])), some (.lst (ws'.map Tr.d)), some t.d] := fun g => by
        rw [sApp_def, show lstAt [some e, some (.lst ps), some (.lst (ws'.map Tr.d)), some t.d] 1 = .ok ps from rfl, show eVar 3 (mask [2, 1] [some e, some (.lst ps), some (.lst (ws'.map Tr.d)), some t.d]) = .ok t.d from rfl, appK_ok _ _ _ _ (by omega)]
        rfl
      have leaf : ∀ c : Str, gIn (.str c) k_SIGNS = .ok (.bl false) -> (∃ y, t.d = .tup [.str c, y]) -> pre t = [t.d] -> ∃ z', sWhile b_parts_of_2c b_parts_of_2w [some e, some (.lst ps), some (.lst ((ws' ++ [t]).map Tr.d)), z] = .ok (.nx [some e, some (.lst (ps ++ (ws' ++ [t]).reverse.flatMap pre)), some (.lst []), z']) := by
        intro c hg ⟨y, hy⟩ hpre
        obtain ⟨z', hz⟩ := ih (sizes ws') (by omega) ws' (ps ++ [t.d]) (some t.d) rfl (by rw [xat]; show ps.length + 1 + _ <= _; omega)
        refine ⟨z', ?_⟩
        rw [sWhile_t hc (Z' := [some e, some (.lst (ps ++ [t.d])), some (.lst (ws'.map Tr.d)), some t.d]) ?_, hz]
        · rw [List.reverse_append, List.flatMap_append, show [t].reverse.flatMap pre = [t.d] by simp [hpre], List.append_assoc]
        · unfold b_parts_of_2w b_parts_of_2w_1 b_parts_of_2w_2
          rw [sSeq_def, pop, seqK_nx, sSeq_def, app]; kd_p
          rw [hy, ix20]; kd_p
          rw [hg]; kd_p
      cases t with
      | nm x => exact leaf "name" rfl ⟨_, rfl⟩ rfl
      | nb i => exact leaf "number" rfl ⟨_, rfl⟩ rfl
      | op s a b =>
        have hsz : Tr.size (.op s a b) = 1 + Tr.size a + Tr.size b := rfl
        have hab : sizes (ws' ++ [a] ++ [b]) = sizes ws' + Tr.size a + Tr.size b := by rw [sizes_snoc, sizes_snoc]
        have hlen : ws'.length <= sizes ws' := by
          unfold sizes
          clear pop app leaf hc hab hn hl ih
          induction ws' with
          | nil => simp
          | cons w ws ih => have := pos_size w; simp only [xba, List.sum_cons, xaw]; omega
        obtain ⟨z', hz⟩ := ih (sizes (ws' ++ [a] ++ [b])) (by omega) (ws' ++ [a] ++ [b]) (ps ++ [Tr.d (.op s a b)]) (some (Tr.d (.op s a b))) rfl (by rw [xat]; show ps.length + 1 + _ <= _; omega)
        refine ⟨z', ?_⟩
        rw [sWhile_t hc (Z' := [some e, some (.lst (ps ++ [Tr.d (.op s a b)])), some (.lst ((ws' ++ [a] ++ [b]).map Tr.d)), some (Tr.d (.op s a b))]) ?_, hz]
        · simp [pre, List.append_assoc]
        · unfold b_parts_of_2w b_parts_of_2w_1 b_parts_of_2w_2
          rw [sSeq_def, pop, seqK_nx, sSeq_def, app]; kd_p
          rw [show Tr.d (.op s a b) = .tup [.str s.str, a.d, b.d] from rfl]; kd_p
          rw [show gIn (.str s.str) k_SIGNS = .ok (.bl true) from by cases s <;> rfl]; kd_p
          rw [sExtU_def, show lstAt [some e, some (.lst (ps ++ [.tup [.str s.str, a.d, b.d]])), some (.lst (ws'.map Tr.d)), some (.tup [.str s.str, a.d, b.d])] 2 = .ok (ws'.map Tr.d) from rfl,
            show eSl (eVar 3) (oSome (eC (.int 1))) oNone (mask [2, 1] [some e, some (.lst (ps ++ [.tup [.str s.str, a.d, b.d]])), some (.lst (ws'.map Tr.d)), some (.tup [.str s.str, a.d, b.d])]) = .ok (.tup [a.d, b.d]) from rfl,
            extUK_ok _ _ _ _ (by simp only [xar, xaw, xbs]; omega)]
          simp
theorem parts_ok (t : Tr) (h : t.many <= 200) : m_parts_of [t.d] = .ok (.lst (post t)) := by
  have hs := size_le t
  rw [m_parts_of_go]; unfold b_parts_of b_parts_of_1 b_parts_of_2 b_parts_of_3 b_parts_of_4; kd_p
  obtain ⟨z', hz⟩ := parts_loop t.d (sizes [t]) [t] [] none rfl (by show 0 + (Tr.size t + 0) <= _; omega)
  rw [show [some t.d, some (D.lst []), some (D.lst [t.d]), none] = [some t.d, some (.lst []), some (.lst ([t].map Tr.d)), none] from rfl, hz]; kd_p
  rw [<- pre_rev]
  simp only [xbp, List.reverse_nil, List.nil_append, List.flatMap_cons, List.flatMap_nil, xbm]
  rfl
end LmWd
open L2 DL Mir
namespace LmWe
open Mth LmP LmA LmY LmWa LmWb LmWc LmWd TxtA
section
variable {ks : List Key} {ds : List D} {val : Str -> Option (Int × Int)} (E : En ks ds val) (e : D)
include E
theorem app_ok {S : List D} {z3 z4 z5 : Option D} {f : DSt -> R D} {d : D} (hS : S.length <= 1000000) (h : f [some e, some (.dct ks ds), none, z3, z4, z5] = .ok d) :
    sApp [2] 2 f [some e, some (.dct ks ds), some (.lst S), z3, z4, z5] = .ok (.nx [some e, some (.dct ks ds), some (.lst (S ++ [d])), z3, z4, z5]) := by
  rw [sApp_def, show lstAt [some e, some (.dct ks ds), some (.lst S), z3, z4, z5] 2 = .ok S from rfl, show mask [2] [some e, some (.dct ks ds), some (.lst S), z3, z4, z5] = [some e, some (.dct ks ds), none, z3, z4, z5] from rfl, h, appK_ok _ _ _ _ hS]
  rfl
theorem app_err {S : List D} {z3 z4 z5 : Option D} {f : DSt -> R D} {x : D} (h : f [some e, some (.dct ks ds), none, z3, z4, z5] = .err x) :
    sApp [2] 2 f [some e, some (.dct ks ds), some (.lst S), z3, z4, z5] = .err x := by
  rw [sApp_def, show lstAt [some e, some (.dct ks ds), some (.lst S), z3, z4, z5] 2 = .ok S from rfl, show mask [2] [some e, some (.dct ks ds), some (.lst S), z3, z4, z5] = [some e, some (.dct ks ds), none, z3, z4, z5] from rfl, h]
  rfl
theorem run : ∀ (t : Tr) (S rest : List D) (z3 z4 z5 : Option D), Nums t -> t.many <= 200 -> S.length + t.many <= 100000 ->
    (∀ v, worth val t = some v -> ∃ z3' z4' z5', forL [3] gpOne b_value_1f (post t ++ rest) [some e, some (.dct ks ds), some (.lst S), z3, z4, z5] = forL [3] gpOne b_value_1f rest [some e, some (.dct ks ds), some (.lst (S ++ [fr v])), z3', z4', z5']) /\
    (worth val t = none -> forL [3] gpOne b_value_1f (post t ++ rest) [some e, some (.dct ks ds), some (.lst S), z3, z4, z5] = .err (.exc "NoValue" []))
  | .nm x, S, rest, z3, z4, z5, _, _, hS => by
    have go : forL [3] gpOne b_value_1f (post (.nm x) ++ rest) [some e, some (.dct ks ds), some (.lst S), z3, z4, z5] = turnK (b_value_1f [some e, some (.dct ks ds), some (.lst S), some (Tr.d (.nm x)), z4, z5]) (forL [3] gpOne b_value_1f rest) := forL_one 3 b_value_1f (Tr.d (.nm x)) rest _
    have hb : b_value_1f [some e, some (.dct ks ds), some (.lst S), some (Tr.d (.nm x)), z4, z5] = ifK (.ok (val x).isSome) (sApp [2] 2 (eOp gIxD (eVar 1) (eOp gIx (eVar 3) (eC (.int 1))))) (sRaise1 "NoValue") [some e, some (.dct ks ds), some (.lst S), some (Tr.d (.nm x)), z4, z5] := by
      unfold b_value_1f; kd_p
      unfold Tr.d; simp only [ix20, ix21]; kd_p
      rw [show gIn (.str "name") k_SIGNS = .ok (.bl false) from rfl]; kd_p
      simp only [ix20, ix21]; kd_p
      rw [show gEq (.str "name") (.str "number") = .ok (.bl false) from rfl]; kd_p
      simp only [ix20, ix21]; kd_p
      rw [show gInK (.str x) (.dct ks ds) = .ok (.bl (valD ks ds (.inr x)).isSome) from rfl, E.here x, xbu]; kd_p
    rw [go, hb]
    refine ⟨fun v h => ?_, fun h => ?_⟩
    · have h : val x = some v := h
      rw [h, show (some v).isSome = true from rfl, ifK_t]
      refine ⟨some (Tr.d (.nm x)), z4, z5, ?_⟩
      rw [app_ok E e (d := fr v) (by have := hS; omega) ?_, turnK_nx]
      show gIxD (.dct ks ds) (.str x) = _
      unfold gIxD
      have := E.here x
      rw [h] at this
      simp only [this, Option.map_some]
    · have h : val x = none := h
      rw [h, show (none : Option (Int × Int)).isSome = false from rfl, ifK_f, sRaise1_def, turnK_err]
  | .nb i, S, rest, z3, z4, z5, _, _, hS => by
    have go : forL [3] gpOne b_value_1f (post (.nb i) ++ rest) [some e, some (.dct ks ds), some (.lst S), z3, z4, z5] = turnK (b_value_1f [some e, some (.dct ks ds), some (.lst S), some (Tr.d (.nb i)), z4, z5]) (forL [3] gpOne b_value_1f rest) := forL_one 3 b_value_1f (Tr.d (.nb i)) rest _
    have hb : b_value_1f [some e, some (.dct ks ds), some (.lst S), some (Tr.d (.nb i)), z4, z5] = sApp [2] 2 (eTup (aCons (eOp gIx (eVar 3) (eC (.int 1))) (aCons (eC (.int 1)) aNil))) [some e, some (.dct ks ds), some (.lst S), some (Tr.d (.nb i)), z4, z5] := by
      have h1 : eTest (eOp gIn (eOp gIx (eVar 3) (eC (.int 0))) (eC k_SIGNS)) [some e, some (.dct ks ds), some (.lst S), some (Tr.d (.nb i)), z4, z5] = .ok false := rfl
      have h2 : eTest (eOp gEq (eOp gIx (eVar 3) (eC (.int 0))) (eC (.str "number"))) [some e, some (.dct ks ds), some (.lst S), some (Tr.d (.nb i)), z4, z5] = .ok true := rfl
      unfold b_value_1f
      rw [sIf_def, h1, ifK_f, sIf_def, h2, ifK_t]
    rw [go, hb]
    refine ⟨fun v h => ?_, fun h => ?_⟩
    · cases h
      refine ⟨some (Tr.d (.nb i)), z4, z5, ?_⟩
      rw [app_ok E e (d := fr (i, 1)) (by have := hS; omega) rfl, turnK_nx]
    · cases h
  | .op s a b, S, rest, z3, z4, z5, hN, h2, hS => by
    have pa := a.pos
    have pb := b.pos
    have hm : (Tr.op s a b).many = a.many + b.many := rfl
    have hpost : post (.op s a b) ++ rest = post a ++ (post b ++ (Tr.d (.op s a b) :: rest)) := by
      show post a ++ post b ++ [Tr.d (.op s a b)] ++ rest = _
      simp [List.append_assoc]
    obtain ⟨a1, a2⟩ := run a S (post b ++ (Tr.d (.op s a b) :: rest)) z3 z4 z5 hN.1 (by omega) (by omega)
    rw [hpost, worth_op]
    cases ea : worth val a with
    | none => exact ⟨fun v h => (by cases h), fun _ => a2 ea⟩
    | some u =>
      obtain ⟨y3, y4, y5, ga⟩ := a1 u ea
      obtain ⟨b1, b2⟩ := run b (S ++ [fr u]) (Tr.d (.op s a b) :: rest) y3 y4 y5 hN.2 (by omega) (by rw [xat]; show S.length + 1 + _ <= _; omega)
      rw [ga]
      cases eb : worth val b with
      | none => exact ⟨fun v h => (by cases h), fun _ => b2 eb⟩
      | some w =>
        obtain ⟨x3, x4, x5, gb⟩ := b1 w eb
        rw [gb, forL_one]
        have hr := reckoned_ok (worth_sz E hN.1 ea) (worth_sz E hN.2 eb) (by omega) s
        have p1 : sPop 2 4 [some e, some (.dct ks ds), some (.lst (S ++ [fr u] ++ [fr w])), some (Tr.d (.op s a b)), x4, x5] = .ok (.nx [some e, some (.dct ks ds), some (.lst (S ++ [fr u])), some (Tr.d (.op s a b)), some (fr w), x5]) := pop_ok (xs := S ++ [fr u]) (d := fr w) rfl
        have p2 : sPop 2 5 [some e, some (.dct ks ds), some (.lst (S ++ [fr u])), some (Tr.d (.op s a b)), some (fr w), x5] = .ok (.nx [some e, some (.dct ks ds), some (.lst S), some (Tr.d (.op s a b)), some (fr w), some (fr u)]) := pop_ok (xs := S) (d := fr u) rfl
        have hb : b_value_1f (List.set [some e, some (.dct ks ds), some (.lst (S ++ [fr u] ++ [fr w])), x3, x4, x5] 3 (some (Tr.d (.op s a b)))) = sApp [2] 2 (eCall m_reckoned (aCons (eOp gIx (eVar 3) (eC (.int 0))) (aCons (eVar 5) (aCons (eVar 4) aNil)))) [some e, some (.dct ks ds), some (.lst S), some (Tr.d (.op s a b)), some (fr w), some (fr u)] := by
          have h1 : eTest (eOp gIn (eOp gIx (eVar 3) (eC (.int 0))) (eC k_SIGNS)) [some e, some (.dct ks ds), some (.lst (S ++ [fr u] ++ [fr w])), some (Tr.d (.op s a b)), x4, x5] = .ok true := by cases s <;> rfl
          show b_value_1f [some e, some (.dct ks ds), some (.lst (S ++ [fr u] ++ [fr w])), some (Tr.d (.op s a b)), x4, x5] = _
          unfold b_value_1f
          rw [sIf_def, h1, ifK_t]
          unfold b_value_1ft b_value_1ft_1 b_value_1ft_2
          rw [sSeq_def, p1, seqK_nx, sSeq_def, p2, seqK_nx]
        have hf : eCall m_reckoned (aCons (eOp gIx (eVar 3) (eC (.int 0))) (aCons (eVar 5) (aCons (eVar 4) aNil))) [some e, some (.dct ks ds), none, some (Tr.d (.op s a b)), some (fr w), some (fr u)] = resV (byS s u w) := hr
        rw [hb]
        refine ⟨fun v h => ?_, fun h => ?_⟩
        · have h : byS s u w = some v := h
          rw [h] at hf
          exact ⟨_, _, _, by rw [app_ok E e (by omega) hf, turnK_nx]⟩
        · have h : byS s u w = none := h
          rw [h] at hf
          rw [app_err E e hf, turnK_err]
end
theorem value_ok {ks : List Key} {ds : List D} {val : Str -> Option (Int × Int)} (E : En ks ds val) {t : Tr} (hN : Nums t) (h : t.many <= 200) : m_value [t.d, .dct ks ds] = resV (worth val t) := by
  obtain ⟨h1, h2⟩ := run E t.d t [] [] none none none hN h (by show 0 + _ <= _; omega)
  rw [xbm] at h1 h2
  rw [m_value_go]; unfold b_value b_value_1 b_value_2; kd_p
  rw [parts_ok t h]; kd_p
  cases e : worth val t with
  | none => rw [h2 e]; rfl
  | some v =>
    obtain ⟨z3, z4, z5, h3⟩ := h1 v e
    rw [h3, forL_nil]; kd_p
    rfl
end LmWe
open L2 DL Mir
namespace LmWf
open Mth LmP LmA LmY LmWa LmWb LmWc TxtA
theorem dig (ns : List Int) (hb : ∀ n ∈ ns, 0 <= n /\ n < 1000000) (j : Nat) (h : j < ns.length) : ∃ d : Int, gIx (.lst (ns.map .int)) (.int (j : Int)) = .ok (.int d) /\ 0 <= d /\ d < 1000000 :=
  ⟨ns[j], gIx_nat (by rw [xa2, xa6 h]; rfl), (hb _ (xbq h)).1, (hb _ (xbq h)).2⟩
theorem fraction_drawn (c k : Int) : ∃ v, m_law_fraction_v1 [.int c, .int k] = .ok (fr v) /\ Fr 40 v := by
  obtain ⟨ns, e, hl, hb⟩ := digits_ok c 4 (by decide)
  have e : m_law_digits [.int c, .int 4] = .ok (.lst (ns.map .int)) := e
  obtain ⟨d0, g0, a0, b0⟩ := dig ns hb 0 (by omega)
  obtain ⟨d1, g1, a1, b1⟩ := dig ns hb 1 (by omega)
  obtain ⟨d2, g2, a2, b2⟩ := dig ns hb 2 (by omega)
  obtain ⟨d3, g3, a3, b3⟩ := dig ns hb 3 (by omega)
  have g0 : gIx (.lst (ns.map .int)) (.int 0) = .ok (.int d0) := g0
  have g1 : gIx (.lst (ns.map .int)) (.int 1) = .ok (.int d1) := g1
  have g2 : gIx (.lst (ns.map .int)) (.int 2) = .ok (.int d2) := g2
  have g3 : gIx (.lst (ns.map .int)) (.int 3) = .ok (.int d3) := g3
  rw [m_law_fraction_v1_go]; unfold b_law_fraction_v1 b_law_fraction_v1_1; kd_p
  rw [e]; kst_p2
  have fin' : ∀ p q : Int, p.natAbs <= 1000000000000 -> 0 < q -> q <= 1000001 -> ∃ v, m_law_low_v1 [.int p, .int q] = .ok (fr v) /\ Fr 40 v := fun p q hp h0 hq => by
    have bp : B 40 p := B.of (k := 1000000000000) hp
    have bq : B 40 q := B.of (k := 1000001) (by omega)
    obtain ⟨z1, z2, z3⟩ := low_sz bp bq (by omega)
    exact ⟨_, law_low_ok bq (by omega) (by decide), z1, z2, z3⟩
  by_cases h : c % 2 = 0
  · rw [xah h]; kd_p
    rw [g0, g1, g2]; kst_p2
    obtain ⟨v, ev, hv⟩ := fin' (d0 * 10 ^ 6 + d1 - 5 * 10 ^ 11) (1 + d2) (by omega) (by omega) (by omega)
    rw [ev]; kd_p
    exact ⟨v, rfl, hv⟩
  · rw [xal h]; kd_p
    unfold b_law_fraction_v1_2; kd_p
    rw [g0, g1, g2, g3]; kst_p2
    have m1 := em_pos (i := d1) (j := 4) (by decide)
    have m3 := em_pos (i := d3) (j := 2) (by decide)
    have m0 := em_pos (i := d0) (j := 61) (by decide)
    have m2 := em_pos (i := d2) (j := 12) (by decide)
    obtain ⟨p, ep, hp⟩ : ∃ p : Int, gIx (.lst [.int 0, .int 1, .int (-1), .int (d0 % 61 - 30)]) (.int (d1 % 4)) = .ok (.int p) /\ p.natAbs <= 1000000000000 := by
      have : d1 % 4 = 0 \/ d1 % 4 = 1 \/ d1 % 4 = 2 \/ d1 % 4 = 3 := by omega
      rcases this with h | h | h | h <;> rw [h]
      · exact ⟨0, rfl, by decide⟩
      · exact ⟨1, rfl, by decide⟩
      · exact ⟨-1, rfl, by decide⟩
      · exact ⟨d0 % 61 - 30, rfl, by omega⟩
    obtain ⟨q, eq, hq, hq'⟩ : ∃ q : Int, gIx (.lst [.int 1, .int (1 + d2 % 12)]) (.int (d3 % 2)) = .ok (.int q) /\ 0 < q /\ q <= 1000001 := by
      have : d3 % 2 = 0 \/ d3 % 2 = 1 := by omega
      rcases this with h | h <;> rw [h]
      · exact ⟨1, rfl, by decide, by decide⟩
      · exact ⟨1 + d2 % 12, rfl, by omega, by omega⟩
    rw [ep, eq]; kd_p
    obtain ⟨v, ev, hv⟩ := fin' p q hp hq hq'
    rw [ev]; kd_p
    exact ⟨v, rfl, hv⟩
structure Pn (x : Str) : Prop where
  ex : ∃ l : List Nat, x = ofL l /\ l.length <= 8 /\ ∀ c ∈ l, c ≠ 40 /\ c ≠ 41
def Good : Tr -> Prop
  | .nm x => Pn x
  | .nb i => 0 <= i /\ i < 10000000000
  | .op _ a b => Good a /\ Good b
theorem Good.nums : ∀ {t : Tr}, Good t -> Nums t
  | .nm _, _ => trivial
  | .nb _, h => h
  | .op _ _ _, h => ⟨Good.nums h.1, Good.nums h.2⟩
theorem leaf_ok (dg : List Int) (hl : dg.length = 6) (hb : ∀ n ∈ dg, 0 <= n /\ n < 1000000) (ns : List Str) (hn : ns.length = 5) (hp : ∀ x ∈ ns, Pn x) : ∃ t : Tr, m_law_leaf [.lst (dg.map .int), .lst (ns.map .str)] = .ok t.d /\ Good t /\ t.many = 1 := by
  obtain ⟨d2, g2, a2, b2⟩ := dig dg hb 2 (by omega)
  obtain ⟨d3, g3, a3, b3⟩ := dig dg hb 3 (by omega)
  obtain ⟨d4, g4, a4, b4⟩ := dig dg hb 4 (by omega)
  obtain ⟨d5, g5, a5, b5⟩ := dig dg hb 5 (by omega)
  have g2 : gIx (.lst (dg.map .int)) (.int 2) = .ok (.int d2) := g2
  have g3 : gIx (.lst (dg.map .int)) (.int 3) = .ok (.int d3) := g3
  have g4 : gIx (.lst (dg.map .int)) (.int 4) = .ok (.int d4) := g4
  have g5 : gIx (.lst (dg.map .int)) (.int 5) = .ok (.int d5) := g5
  rw [m_law_leaf_go]; unfold b_law_leaf; kd_p
  rw [g2]; kst_p2
  by_cases h : 0 < d2 % 3
  · rw [xah h]; kd_p
    rw [g3]; kd_p
    rw [gMod_pos _ _ (by rw [xar, hn]; decide)]; kd_p
    have m := em_pos (i := d3) (j := ((ns.map D.str).length : Int)) (by rw [xar, hn]; decide)
    rw [xar, hn] at m ⊢
    obtain ⟨j, hj⟩ : ∃ j : Nat, d3 % ((5 : Nat) : Int) = (j : Int) := ⟨(d3 % ((5 : Nat) : Int)).toNat, by omega⟩
    have hj5 : j < ns.length := by omega
    rw [hj, gIx_nat (d := .str ns[j]) (by rw [xa2, xa6 hj5]; rfl)]; kd_p
    exact ⟨.nm ns[j], rfl, hp _ (xbq hj5), rfl⟩
  · rw [xal h]; kd_p
    unfold b_law_leaf_1; kd_p
    rw [g3, g4, g5]; kst_p2
    have m3 := em_pos (i := d3) (j := 10) (by decide)
    have m4 := em_pos (i := d4) (j := 1000) (by decide)
    obtain ⟨p, ep, hp1, hp2⟩ : ∃ p : Int, gIx (.lst [.int (d3 % 10), .int (d3 % 10), .int d3, .int (d3 * 1000 + d4 % 1000)]) (.int (d5 % 4)) = .ok (.int p) /\ 0 <= p /\ p < 10000000000 := by
      have : d5 % 4 = 0 \/ d5 % 4 = 1 \/ d5 % 4 = 2 \/ d5 % 4 = 3 := by omega
      rcases this with h | h | h | h <;> rw [h]
      · exact ⟨_, rfl, by omega, by omega⟩
      · exact ⟨_, rfl, by omega, by omega⟩
      · exact ⟨_, rfl, by omega, by omega⟩
      · exact ⟨_, rfl, by omega, by omega⟩
    rw [ep]; kd_p
    exact ⟨.nb p, rfl, ⟨hp1, hp2⟩, rfl⟩
end LmWf
open L2 DL Mir
namespace LmWg
open Mth LmP LmA LmY LmWa LmWb LmWc LmWf TxtA
def abc : Str := "abcdefghijklmnopqrstuvwxyz"
theorem abc_at (r : Int) (h0 : 0 <= r) (h1 : r < 26) : gIxS (.str abc) (.int r) = .ok (.str (ofL [97 + r.toNat])) := by
  obtain ⟨j, rfl⟩ : ∃ j : Nat, r = (j : Int) := ⟨r.toNat, by omega⟩
  have hj : j < 26 := by omega
  have hc : abc.cps = ((List.range 26).map (97 + ·)).toArray := by rfl
  show (bif decide (0 <= (j : Int)) && Nat.blt (j : Int).natAbs 1073741824 then (match abc.cps[(j : Int).toNat]? with
    | some c => R.ok (D.str (sign c))
    | none => .bad) else .bad) = _
  rw [xah h0, show Nat.blt (j : Int).natAbs 1073741824 = true from by rw [Nat.blt_eq]; omega, hc, Int.toNat_natCast]
  rw [List.getElem?_toArray, xa2, xcd hj]
  rfl
theorem ofL_app (a b : List Nat) : (ofL a : Str) ++ ofL b = ofL (a ++ b) := by
  show (⟨(ofL a).cps ++ (ofL b).cps⟩ : Str) = _
  unfold ofL
  simp
theorem add_ok {a b : List Nat} (h : a.length + b.length <= 1000000) : gAdd (.str (ofL a)) (.str (ofL b)) = .ok (.str (ofL (a ++ b))) := by
  show (bif le24 ((ofL a).length + (ofL b).length) then R.ok (D.str (ofL a ++ ofL b)) else .bad) = _
  rw [show le24 ((ofL a).length + (ofL b).length) = true from xah (by show a.toArray.size + b.toArray.size <= _; rw [xag, xag]; exact xa1 h (by decide)), ofL_app]; rfl
theorem ofL_inj {a b : List Nat} (h : ofL a = ofL b) : a = b := by
  have := congrArg (fun z : Str => z.cps.toList) h
  simpa [ofL] using this
theorem words_ok (c : Int) : ∃ ns : List Str, m_law_words [.int c, .int 5] = .ok (.lst (ns.map .str)) /\ ns.length = 5 /\ ns.Nodup /\ ∀ x ∈ ns, Pn x := by
  obtain ⟨ns, e, hl, hb⟩ := digits_ok c 12 (by decide)
  have e : m_law_digits [.int c, .int 12] = .ok (.lst (ns.map .int)) := e
  obtain ⟨d8, g8, a8, b8⟩ := dig ns hb 8 (by omega)
  obtain ⟨d9, g9, a9, b9⟩ := dig ns hb 9 (by omega)
  obtain ⟨d10, g10, a10, b10⟩ := dig ns hb 10 (by omega)
  obtain ⟨d11, g11, a11, b11⟩ := dig ns hb 11 (by omega)
  have g8 : gIx (.lst (ns.map .int)) (.int 8) = .ok (.int d8) := g8
  have g9 : gIx (.lst (ns.map .int)) (.int 9) = .ok (.int d9) := g9
  have g10 : gIx (.lst (ns.map .int)) (.int 10) = .ok (.int d10) := g10
  have g11 : gIx (.lst (ns.map .int)) (.int 11) = .ok (.int d11) := g11
  rw [m_law_words_go]; unfold b_law_words b_law_words_1 b_law_words_2 b_law_words_3; kd_p
  rw [e]; kd_p
  rw [g10]; kst_p2
  have m10 := em_pos (i := d10) (j := 8) (by decide)
  rw [show ("abcdefghijklmnopqrstuvwxyz" : Str) = abc from rfl, show (D.str "") = .str (ofL []) from rfl]
  have turn : ∀ (j : Nat) (d : D) (Z : DSt), (rngD 0 (d10 % 8).toNat)[j]? = some d -> (∃ (l : List Nat) (z : Option D), Z = [some (.int c), some (.int 5), some (.str abc), some (.lst (ns.map .int)), some (.str (ofL l)), z] /\ l.length = j /\ ∀ c ∈ l, c ≠ 40 /\ c ≠ 41) ->
      ∃ Z', (b_law_words_3f (Z.set 5 (some d)) = .ok (.nx Z') \/ b_law_words_3f (Z.set 5 (some d)) = .ok (.ct Z')) /\ ∃ (l : List Nat) (z : Option D), Z' = [some (.int c), some (.int 5), some (.str abc), some (.lst (ns.map .int)), some (.str (ofL l)), z] /\ l.length = j + 1 /\ ∀ c ∈ l, c ≠ 40 /\ c ≠ 41 := by
    rintro j d Z hd ⟨l, z, rfl, hl, hc⟩
    have hj : j < (d10 % 8).toNat := by
      have := (xab.mp hd).1
      simpa [rngD] using this
    obtain rfl : d = .int (j : Int) := by
      unfold rngD at hd
      rw [xa2, xcd hj] at hd
      simpa using hd.symm
    unfold b_law_words_3f; kd_p
    rw [g11]
    rw [show lstK (.ok [D.int 1, .int 26, .int 676, .int 17576, .int 5, .int 9, .int 77]) = .ok [D.int 1, .int 26, .int 676, .int 17576, .int 5, .int 9, .int 77] from rfl]; kd_p
    obtain ⟨q, hq, hq0, hq1⟩ : ∃ q : Int, gIx (.lst [.int 1, .int 26, .int 676, .int 17576, .int 5, .int 9, .int 77]) (.int (j : Int)) = .ok (.int q) /\ 0 < q /\ q <= 20000 := by
      have : j = 0 \/ j = 1 \/ j = 2 \/ j = 3 \/ j = 4 \/ j = 5 \/ j = 6 := by omega
      rcases this with rfl | rfl | rfl | rfl | rfl | rfl | rfl
      · exact ⟨1, rfl, by decide, by decide⟩
      · exact ⟨26, rfl, by decide, by decide⟩
      · exact ⟨676, rfl, by decide, by decide⟩
      · exact ⟨17576, rfl, by decide, by decide⟩
      · exact ⟨5, rfl, by decide, by decide⟩
      · exact ⟨9, rfl, by decide, by decide⟩
      · exact ⟨77, rfl, by decide, by decide⟩
    rw [hq]; kd_p
    rw [gFdiv_pos _ _ (divB_le (by omega) (by omega) (by omega)) hq0]; kd_p
    rw [gMod_pos _ _ (by decide)]; kd_p
    have m := em_pos (i := d11 / q) (j := 26) (by decide)
    rw [abc_at _ m.1 m.2]; kd_p
    rw [add_ok (by simp; omega)]; kd_p
    refine ⟨_, .inl rfl, l ++ [97 + (d11 / q % 26).toNat], _, rfl, by simp [hl], fun x hx => ?_⟩
    rcases xbh.mp hx with h | h
    · exact hc x h
    · rw [xbl.mp h]; omega
  obtain ⟨Z', e2, l, z, rfl, hl2, hc⟩ := forL_nth (i := 5) (fb := b_law_words_3f) _ _ turn [some (.int c), some (.int 5), some (.str abc), some (.lst (ns.map .int)), some (.str (ofL [])), none] ⟨[], none, rfl, rfl, by simp⟩
  have hl7 : l.length <= 7 := by
    have : (rngD 0 (d10 % 8).toNat).length = (d10 % 8).toNat := by simp [rngD]
    omega
  rw [e2]; kd_p
  unfold b_law_words_4; kd_p
  rw [g8]; kst_p2
  by_cases h : d8 % 4 = 1
  · rw [xah h]; kd_p
    rw [Lk42.eSl_to _ _ _ [D.str "end", .str "x", .str "times", .str "rule", .str "ends", .str "xx"] 5 rfl rfl]; kd_p
    refine ⟨["end", "x", "times", "rule", "ends"], rfl, rfl, by decide, fun x hx => ?_⟩
    simp only [xaz, xbf, or_false] at hx
    rcases hx with rfl | rfl | rfl | rfl | rfl
    · exact ⟨[101, 110, 100], rfl, by decide, by decide⟩
    · exact ⟨[120], rfl, by decide, by decide⟩
    · exact ⟨[116, 105, 109, 101, 115], rfl, by decide, by decide⟩
    · exact ⟨[114, 117, 108, 101], rfl, by decide, by decide⟩
    · exact ⟨[101, 110, 100, 115], rfl, by decide, by decide⟩
  · rw [xal h]; kd_p
    unfold b_law_words_5; kst_p2
    have nm : ∀ k : Int, opK gAdd (opK gIxS (.ok (.str abc)) (opK gMod (opK gAdd (.ok (.int d9)) (.ok (.int k))) (.ok (.int 26)))) (.ok (.str (ofL l))) = .ok (.str (ofL ((97 + ((d9 + k) % 26).toNat) :: l))) := fun k => by
      have m := em_pos (i := d9 + k) (j := 26) (by decide)
      rw [opK_ok, gAdd_ii, opK_ok, gMod_pos _ _ (by decide), opK_ok, abc_at _ m.1 m.2, opK_ok, add_ok (by simp; omega)]; rfl
    rw [show rngD 0 5 = [D.int 0, .int 1, .int 2, .int 3, .int 4] from rfl]
    rw [lc_map (g := fun d => match d with | .int k => .str (ofL ((97 + ((d9 + k) % 26).toNat) :: l)) | _ => .non) (by decide) (fun d hd => ?_)]
    · kd_p
      refine ⟨[0, 1, 2, 3, 4].map fun k : Int => ofL ((97 + ((d9 + k) % 26).toNat) :: l), rfl, rfl, ?_, fun x hx => ?_⟩
      · have ne : ∀ i j : Int, 0 <= i -> i < 5 -> 0 <= j -> j < 5 -> i ≠ j -> ofL ((97 + ((d9 + i) % 26).toNat) :: l) ≠ ofL ((97 + ((d9 + j) % 26).toNat) :: l) := fun i j h1 h2 h3 h4 h5 h6 => by
          have := ofL_inj h6
          injection this with h7 _
          omega
        simp only [xba, List.map_nil, xbz, xaz, xbf, or_false, not_or, not_false_eq_true, List.nodup_nil, and_true]
        refine ⟨⟨?_, ?_, ?_, ?_⟩, ⟨?_, ?_, ?_⟩, ⟨?_, ?_⟩, ?_⟩ <;> exact ne _ _ (by decide) (by decide) (by decide) (by decide) (by decide)
      · obtain ⟨k, hk, rfl⟩ := xb3.mp hx
        refine ⟨_, rfl, by simp; omega, fun y hy => ?_⟩
        rcases xaz.mp hy with rfl | hy
        · omega
        · exact hc y hy
    · simp only [xaz, xbf, or_false] at hd
      rcases hd with rfl | rfl | rfl | rfl | rfl <;> (kd_p; rw [g9]; exact nm _)
end LmWg
open L2 DL Mir
namespace LmWh
open Mth LmP LmA LmY LmWa LmWb LmWc LmWd LmWf LmWg TxtA
def manyS (ts : List Tr) : Nat := (ts.map Tr.many).sum
theorem manyS_snoc (ts : List Tr) (t : Tr) : manyS (ts ++ [t]) = manyS ts + t.many := by unfold manyS; simp
theorem len_many : ∀ ts : List Tr, ts.length <= manyS ts
  | [] => xbw _
  | t :: ts => by have := len_many ts; have := t.pos; unfold manyS at *; simp only [xba, List.sum_cons, xaw]; omega
theorem sg1 (r : Int) (h0 : 0 <= r) (h1 : r < 4) : ∃ s : Sg, gIxS (.str "+-*/") (.int r) = .ok (.str s.str) := by
  have : r = 0 \/ r = 1 \/ r = 2 \/ r = 3 := by omega
  rcases this with rfl | rfl | rfl | rfl
  · exact ⟨.plus, rfl⟩
  · exact ⟨.minus, rfl⟩
  · exact ⟨.times, rfl⟩
  · exact ⟨.over, rfl⟩
theorem sg2 (r : Int) (h0 : 0 <= r) (h1 : r < 4) : ∃ s : Sg, gIxS (.str "-+/*") (.int r) = .ok (.str s.str) := by
  have : r = 0 \/ r = 1 \/ r = 2 \/ r = 3 := by omega
  rcases this with rfl | rfl | rfl | rfl
  · exact ⟨.minus, rfl⟩
  · exact ⟨.plus, rfl⟩
  · exact ⟨.over, rfl⟩
  · exact ⟨.times, rfl⟩
section
variable {a b z3 z4 : Option D} {xs : List D} {d x d1 : D} {f1 : DSt -> R D}
theorem appPop_ok (h : f1 [a, b, none, z3, z4, some x] = .ok d1) (hl : xs.length <= 1000000) :
    sAppPop [2] 2 2 f1 (eVar 5) [a, b, some (.lst (xs ++ [d])), z3, z4, some x] = .ok (.nx [a, b, some (.lst (xs ++ [.tup [d1, d, x]])), z3, z4, some x]) := by
  unfold sAppPop
  rw [show lstAt [a, b, some (.lst (xs ++ [d])), z3, z4, some x] 2 = .ok (xs ++ [d]) from rfl, show mask [2] [a, b, some (.lst (xs ++ [d])), z3, z4, some x] = [a, b, none, z3, z4, some x] from rfl, h]
  show (match (xs ++ [d])[(xs ++ [d]).length - 1]? with
    | some e => R.bind (.ok x) fun d2 => R.bind (.ok (xs ++ [d]).dropLast) fun ys => bif most ys.length then R.ok (Out.nx [a, b, some (.lst (ys ++ [D.tup [d1, e, d2]])), z3, z4, some x]) else .bad
    | none => .bad) = _
  have e : (xs ++ [d])[(xs ++ [d]).length - 1]? = some d := by simp
  rw [e, List.dropLast_concat]
  show (bif most xs.length then R.ok (Out.nx [a, b, some (.lst (xs ++ [.tup [d1, d, x]])), z3, z4, some x]) else .bad) = _
  rw [most_of hl]; rfl
theorem appPopP_ok (h : f1 [a, b, some (.lst (xs ++ [d])), z3, z4, some x] = .ok d1) (hi : imm d1 = true) (hl : xs.length <= 1000000) :
    sAppPopP [2] 2 2 f1 (eVar 5) [a, b, some (.lst (xs ++ [d])), z3, z4, some x] = .ok (.nx [a, b, some (.lst (xs ++ [.tup [d1, d, x]])), z3, z4, some x]) := by
  unfold sAppPopP
  rw [show lstAt [a, b, some (.lst (xs ++ [d])), z3, z4, some x] 2 = .ok (xs ++ [d]) from rfl, h]
  show (bif imm d1 then (match (xs ++ [d])[(xs ++ [d]).length - 1]? with
    | some e => R.bind (.ok x) fun d2 => R.bind (.ok (xs ++ [d]).dropLast) fun ys => bif most ys.length then R.ok (Out.nx [a, b, some (.lst (ys ++ [D.tup [d1, e, d2]])), z3, z4, some x]) else .bad
    | none => .bad) else .bad) = _
  have e : (xs ++ [d])[(xs ++ [d]).length - 1]? = some d := by simp
  rw [hi, e, List.dropLast_concat]
  show (bif most xs.length then R.ok (Out.nx [a, b, some (.lst (xs ++ [.tup [d1, d, x]])), z3, z4, some x]) else .bad) = _
  rw [most_of hl]; rfl
end
theorem snoc2 {α : Type} (ts : List α) (h : 1 < ts.length) : ∃ us a b, ts = us ++ [a] ++ [b] := by
  rcases xb9 ts with rfl | ⟨l, b, rfl⟩
  · simp at h
  · rw [xcb] at *
    rcases xb9 l with rfl | ⟨us, a, rfl⟩
    · simp at h
    · exact ⟨us, a, b, by rw [xcb]⟩
section
variable (C : D) (ns : List Str) (hn : ns.length = 5) (hp : ∀ x ∈ ns, Pn x)
theorem join_rest (z3 z4 : Option D) : ∀ (n : Nat) (ts : List Tr) (z5 : Option D), ts.length = n -> 1 <= n -> n <= 1000 -> (∀ t ∈ ts, Good t) -> ∃ (t : Tr) (z : Option D), sWhile b_law_tree_2c b_law_tree_2w [some C, some (.lst (ns.map .str)), some (.lst (ts.map Tr.d)), z3, z4, z5] = .ok (.nx [some C, some (.lst (ns.map .str)), some (.lst [t.d]), z3, z4, z]) /\ Good t /\ t.many = manyS ts := by
  intro n
  induction n with
  | zero => intro ts z5 h1 h2; omega
  | succ n ih =>
    intro ts z5 h1 h2 h3 hg
    by_cases hn1 : n = 0
    · subst hn1
      match ts, h1 with
      | [t], _ =>
        refine ⟨t, z5, ?_, hg t (by simp), by unfold manyS; simp⟩
        rw [sWhile_f (by unfold b_law_tree_2c; kd_p; rfl)]; rfl
    · obtain ⟨us, a, b, rfl⟩ := snoc2 ts (by omega)
      have hlu : us.length + 2 = n + 1 := by simp at h1; omega
      have m := em_pos (i := (((us ++ [a]).map Tr.d).length : Int)) (j := 4) (by decide)
      obtain ⟨s, hs⟩ := sg2 _ m.1 m.2
      obtain ⟨t, z, e1, e2, e3⟩ := ih (us ++ [.op s a b]) (some b.d) (by simp; omega) (by omega) (by omega) (fun t ht => by
        rcases xbh.mp ht with h | h
        · exact hg t (by simp [h])
        · rw [xbl.mp h]; exact ⟨hg a (by simp), hg b (by simp)⟩)
      refine ⟨t, z, ?_, e2, by rw [e3, manyS_snoc, manyS_snoc, manyS_snoc]; show manyS us + (a.many + b.many) = _; omega⟩
      rw [sWhile_t (Z' := [some C, some (.lst (ns.map .str)), some (.lst ((us ++ [Tr.op s a b]).map Tr.d)), z3, z4, some b.d]) ?_ ?_, e1]
      · unfold b_law_tree_2c; kd_p
        rw [xah (by simp; omega)]
      · unfold b_law_tree_2w b_law_tree_2w_1
        rw [sSeq_def, pop_ok (xs := (us ++ [a]).map Tr.d) (d := b.d) (by rw [xa9 (l₂ := [b])]; rfl), seqK_nx]
        show sAppPopP [2] 2 2 _ (eVar 5) [some C, some (.lst (ns.map .str)), some (.lst ((us ++ [a]).map Tr.d)), z3, z4, some b.d] = _
        rw [xa9] at m hs ⊢
        rw [show [a].map Tr.d = [a.d] from rfl] at *
        rw [appPopP_ok (d1 := .str s.str) ?_ rfl (by simp; omega)]
        · rw [xa9]; rfl
        · kd_p
          rw [gMod_pos _ _ (by decide)]; kd_p
          exact hs
include hn hp in
theorem tree_ok (cs : List Int) (h1 : cs ≠ []) (h2 : cs.length <= 1000) : ∃ t : Tr, m_law_tree [.lst (cs.map .int), .lst (ns.map .str)] = .ok t.d /\ Good t /\ t.many <= cs.length := by
  rw [m_law_tree_go]; unfold b_law_tree b_law_tree_1 b_law_tree_2 b_law_tree_3; kd_p
  have turn : ∀ (j : Nat) (d : D) (Z : DSt), (cs.map D.int)[j]? = some d -> (∃ (ts : List Tr) (z3 z4 z5 : Option D), Z = [some (.lst (cs.map .int)), some (.lst (ns.map .str)), some (.lst (ts.map Tr.d)), z3, z4, z5] /\ (0 < j -> ts ≠ []) /\ manyS ts <= j /\ ∀ t ∈ ts, Good t) ->
      ∃ Z', (b_law_tree_1f (Z.set 3 (some d)) = .ok (.nx Z') \/ b_law_tree_1f (Z.set 3 (some d)) = .ok (.ct Z')) /\ ∃ (ts : List Tr) (z3 z4 z5 : Option D), Z' = [some (.lst (cs.map .int)), some (.lst (ns.map .str)), some (.lst (ts.map Tr.d)), z3, z4, z5] /\ (0 < j + 1 -> ts ≠ []) /\ manyS ts <= j + 1 /\ ∀ t ∈ ts, Good t := by
    rintro j d Z hd ⟨ts, z3, z4, z5, rfl, h0, hm, hg⟩
    have hj : j < cs.length := by
      have := (xab.mp hd).1
      simpa using this
    have hlt := len_many ts
    obtain ⟨c, rfl⟩ : ∃ c, d = .int c := by
      rw [xa2, xa6 hj] at hd
      exact ⟨_, (xa0 hd).symm⟩
    obtain ⟨dg, e, hl, hb⟩ := digits_ok c 6 (by decide)
    have e : m_law_digits [.int c, .int 6] = .ok (.lst (dg.map .int)) := e
    obtain ⟨d0, g0, a0, b0⟩ := dig dg hb 0 (by omega)
    obtain ⟨d1, g1, a1, b1⟩ := dig dg hb 1 (by omega)
    have g0 : gIx (.lst (dg.map .int)) (.int 0) = .ok (.int d0) := g0
    have g1 : gIx (.lst (dg.map .int)) (.int 1) = .ok (.int d1) := g1
    have set4 : ∀ g, seqK (sSet [2] 4 (eCall m_law_digits (aCons (eVar 3) (aCons (eC (.int 6)) aNil))) [some (.lst (cs.map .int)), some (.lst (ns.map .str)), some (.lst (ts.map Tr.d)), some (.int c), z4, z5]) g = g [some (.lst (cs.map .int)), some (.lst (ns.map .str)), some (.lst (ts.map Tr.d)), some (.int c), some (.lst (dg.map .int)), z5] := fun g => by
      rw [sSet_def, show eCall m_law_digits (aCons (eVar 3) (aCons (eC (.int 6)) aNil)) (mask [2] [some (.lst (cs.map .int)), some (.lst (ns.map .str)), some (.lst (ts.map Tr.d)), some (.int c), z4, z5]) = .ok (.lst (dg.map .int)) from e, setK_ok]; rfl
    show ∃ Z', (b_law_tree_1f [some (.lst (cs.map .int)), some (.lst (ns.map .str)), some (.lst (ts.map Tr.d)), some (.int c), z4, z5] = .ok (.nx Z') \/ b_law_tree_1f [some (.lst (cs.map .int)), some (.lst (ns.map .str)), some (.lst (ts.map Tr.d)), some (.int c), z4, z5] = .ok (.ct Z')) /\ _
    unfold b_law_tree_1f
    rw [sSeq_def, set4]
    have push : ∃ Z', (sApp [2] 2 (eCall m_law_leaf (aCons (eVar 4) (aCons (eVar 1) aNil))) [some (.lst (cs.map .int)), some (.lst (ns.map .str)), some (.lst (ts.map Tr.d)), some (.int c), some (.lst (dg.map .int)), z5] = .ok (.nx Z') \/ sApp [2] 2 (eCall m_law_leaf (aCons (eVar 4) (aCons (eVar 1) aNil))) [some (.lst (cs.map .int)), some (.lst (ns.map .str)), some (.lst (ts.map Tr.d)), some (.int c), some (.lst (dg.map .int)), z5] = .ok (.ct Z')) /\
        ∃ (ts : List Tr) (z3 z4 z5 : Option D), Z' = [some (.lst (cs.map .int)), some (.lst (ns.map .str)), some (.lst (ts.map Tr.d)), z3, z4, z5] /\ (0 < j + 1 -> ts ≠ []) /\ manyS ts <= j + 1 /\ ∀ t ∈ ts, Good t := by
      obtain ⟨t, et, gt, mt⟩ := leaf_ok dg hl hb ns hn hp
      refine ⟨_, .inl ?_, ts ++ [t], some (.int c), some (.lst (dg.map .int)), z5, rfl, by simp, by rw [manyS_snoc, mt]; omega, fun u hu => ?_⟩
      · rw [sApp_def, show lstAt [some (.lst (cs.map .int)), some (.lst (ns.map .str)), some (.lst (ts.map Tr.d)), some (.int c), some (.lst (dg.map .int)), z5] 2 = .ok (ts.map Tr.d) from rfl,
          show eCall m_law_leaf (aCons (eVar 4) (aCons (eVar 1) aNil)) (mask [2] [some (.lst (cs.map .int)), some (.lst (ns.map .str)), some (.lst (ts.map Tr.d)), some (.int c), some (.lst (dg.map .int)), z5]) = .ok t.d from et, appK_ok _ _ _ _ (by simp; omega), xa9]; rfl
      · rcases xbh.mp hu with h | h
        · exact hg u h
        · rw [xbl.mp h]; exact gt
    unfold b_law_tree_1f_1; kd_p
    by_cases hlen : 1 < ts.length
    · rw [xah (by simp; omega)]; kd_p
      rw [g0]; kst_p2
      by_cases he : d0 % 2 = 0
      · rw [xah he]; kd_p
        obtain ⟨us, a, b, rfl⟩ := snoc2 ts hlen
        have m := em_pos (i := d1) (j := 4) (by decide)
        obtain ⟨s, hs⟩ := sg1 _ m.1 m.2
        refine ⟨_, .inl ?_, us ++ [.op s a b], some (.int c), some (.lst (dg.map .int)), some b.d, rfl, by simp, ?_, fun u hu => ?_⟩
        · unfold b_law_tree_1f_1t b_law_tree_1f_1t_1
          rw [sSeq_def, pop_ok (xs := us.map Tr.d ++ [a.d]) (d := b.d) (by rw [xa9, xa9]; rfl), seqK_nx]
          show sAppPop [2] 2 2 _ (eVar 5) [some (.lst (cs.map .int)), some (.lst (ns.map .str)), some (.lst (us.map Tr.d ++ [a.d])), some (.int c), some (.lst (dg.map .int)), some b.d] = _
          rw [appPop_ok (d1 := .str s.str) ?_ (by simp only [xat, xar, xaw, xbs] at hlt ⊢; omega)]
          · rw [xa9]; rfl
          · kd_p
            rw [g1]; kst_p2
            exact hs
        · rw [manyS_snoc]
          rw [manyS_snoc, manyS_snoc] at hm
          show manyS us + (a.many + b.many) <= _
          omega
        · rcases xbh.mp hu with h | h
          · exact hg u (by simp [h])
          · rw [xbl.mp h]; exact ⟨hg a (by simp), hg b (by simp)⟩
      · rw [xal he]; kd_p
        exact push
    · rw [xal (by simp; omega)]; kd_p
      exact push
  obtain ⟨Z', e, ts, z3, z4, z5, rfl, hne, hm, hg⟩ := forL_nth (i := 3) (fb := b_law_tree_1f) _ _ turn [some (.lst (cs.map .int)), some (.lst (ns.map .str)), some (.lst []), none, none, none] ⟨[], none, none, none, rfl, by simp, by simp [manyS], by simp⟩
  rw [xar] at hne hm
  rw [e]; kd_p
  have hc : 0 < cs.length := xcf.mpr h1
  obtain ⟨t, z, e1, e2, e3⟩ := join_rest (.lst (cs.map .int)) ns z3 z4 ts.length ts z5 rfl (xcf.mpr (hne hc)) (by have := len_many ts; omega) hg
  rw [e1]; kd_p
  exact ⟨t, rfl, e2, by omega⟩
end
end LmWh
open L2 DL Mir
namespace LmWi
open Mth LmP LmA LmY LmWa LmWb LmWc LmWd LmWf LmWg LmWh TxtA
theorem deep_ok (l : List Nat) : ∃ d : Int, m_law_deep [.str (ofL l)] = .ok (.int d) /\ ((∀ c ∈ l, c ≠ 40 /\ c ≠ 41) -> d = 0) := by
  rw [m_law_deep_go]; unfold b_law_deep b_law_deep_1 b_law_deep_2 b_law_deep_3; kd_p
  rw [show forK [3] gpOne b_law_deep_2f (iStr (eVar 0) [some (.str (ofL l)), some (.int 0), some (.int 0), none]) [some (.str (ofL l)), some (.int 0), some (.int 0), none] = forL [3] gpOne b_law_deep_2f (signsD (ofL l)) [some (.str (ofL l)), some (.int 0), some (.int 0), none] from rfl]
  have hs : signsD (ofL l) = l.map fun c => .str (sign c) := by unfold signsD ofL; simp
  obtain ⟨Z', e, d, m, z, rfl, h⟩ := forL_inv (i := 3) (fb := b_law_deep_2f) (fun Z => ∃ (d m : Int) (z : Option D), Z = [some (.str (ofL l)), some (.int d), some (.int m), z] /\ ((∀ c ∈ l, c ≠ 40 /\ c ≠ 41) -> d = 0 /\ m = 0)) (signsD (ofL l)) (by
    rintro x hx Z ⟨d, m, z, rfl, h⟩
    rw [hs] at hx
    obtain ⟨c, hc, rfl⟩ := xb3.mp hx
    show ∃ Z', (b_law_deep_2f [some (.str (ofL l)), some (.int d), some (.int m), some (.str (sign c))] = .ok (.nx Z') \/ b_law_deep_2f [some (.str (ofL l)), some (.int d), some (.int m), some (.str (sign c))] = .ok (.ct Z')) /\ _
    unfold b_law_deep_2f b_law_deep_2f_1; kd_p
    rw [gEq_of (show cmp2 (.str (sign c)) (.str "(") = true from rfl), gEq_of (show cmp2 (.str (sign c)) (.str ")") = true from rfl)]; kd_p
    refine ⟨_, .inl rfl, _, _, _, rfl, fun hh => ?_⟩
    obtain ⟨h1, h2⟩ := h hh
    have q : ∀ (k : Nat) (y : Str), y = ofL [k] -> c ≠ k -> eqD (.str (sign c)) (.str y) = false := fun k y hy hk => by
      subst hy
      unfold eqD
      show decide (sign c = ofL [k]) = false
      refine xal fun hz => hk ?_
      have := LmWg.ofL_inj (a := [c]) (b := [k]) hz
      injection this
    rw [q 40 "(" rfl (hh c hc).1, q 41 ")" rfl (hh c hc).2, h1, h2]
    decide) [some (.str (ofL l)), some (.int 0), some (.int 0), none] ⟨0, 0, none, rfl, fun _ => ⟨rfl, rfl⟩⟩
  rw [e]; kd_p
  exact ⟨m, rfl, fun hh => (h hh).2⟩
theorem part_ok : ∀ (t : Tr) (n : Nat) (k : Int), Good t -> t.many <= n -> t.many <= 1000 -> ∃ l : List Nat, m_law_part_at n [t.d, .int k] = .ok (.str (ofL l)) /\ l.length + 5 <= 15 * t.many /\ (t.many = 1 -> ∀ c ∈ l, c ≠ 40 /\ c ≠ 41)
  | .nm x, n, k, hg, hn, _ => by
    obtain ⟨j, rfl⟩ : ∃ j, n = j + 1 := ⟨n - 1, by have : 1 <= n := hn; omega⟩
    obtain ⟨l, rfl, h1, h2⟩ := hg.ex
    rw [m_law_part_go]; unfold b_law_part; kd_p
    unfold Tr.d; simp only [ix20, ix21]; kd_p
    rw [show gEq (.str "name") (.str "name") = .ok (.bl true) from rfl]; kd_p
    simp only [ix20, ix21]; kd_p
    exact ⟨l, rfl, by show l.length + 5 <= 15 * 1; omega, fun _ => h2⟩
  | .nb i, n, k, hg, hn, _ => by
    obtain ⟨j, rfl⟩ : ∃ j, n = j + 1 := ⟨n - 1, by have : 1 <= n := hn; omega⟩
    obtain ⟨h1, h2⟩ := hg
    obtain ⟨m, rfl⟩ : ∃ m : Nat, i = (m : Int) := ⟨i.toNat, by omega⟩
    rw [m_law_part_go]; unfold b_law_part b_law_part_1; kd_p
    unfold Tr.d; simp only [ix20, ix21]; kd_p
    rw [show gEq (.str "number") (.str "name") = .ok (.bl false) from rfl]; kd_p
    simp only [ix20, ix21]; kd_p
    rw [show gEq (.str "number") (.str "number") = .ok (.bl true) from rfl]; kd_p
    simp only [ix20, ix21]; kd_p
    have hm : m < 10 ^ 10 := by omega
    rw [str_ok (xaf hm (by decide))]; kd_p
    refine ⟨digs m, rfl, ?_, fun _ c hc => ?_⟩
    · have := digs_lenK (by decide) hm
      show (digs m).length + 5 <= 15 * 1
      omega
    · have := digs_all m c hc
      obtain ⟨q1, q2⟩ : 48 <= c /\ c <= 57 := this
      omega
  | .op s a b, n, k, hg, hn, h2 => by
    have pa := a.pos
    have pb := b.pos
    have hm : (Tr.op s a b).many = a.many + b.many := rfl
    obtain ⟨j, rfl⟩ : ∃ j, n = j + 1 := ⟨n - 1, by omega⟩
    rw [m_law_part_go]; unfold b_law_part b_law_part_1 b_law_part_2; kd_p
    unfold Tr.d; kd_p
    rw [show gEq (.str s.str) (.str "name") = .ok (.bl false) from by cases s <;> rfl]; kd_p
    rw [show gEq (.str s.str) (.str "number") = .ok (.bl false) from by cases s <;> rfl]; kd_p
    obtain ⟨bb, hbb⟩ : ∃ bb, gIn (.str s.str) (.str "*/") = .ok (.bl bb) := ⟨_, rfl⟩
    rw [hbb]; kd_p
    generalize (1 + if bb = true then (1 : Int) else 0) = cl
    obtain ⟨la, ea, l1, _⟩ := part_ok a j cl hg.1 (by omega) (by omega)
    obtain ⟨lb, eb, l2, _⟩ := part_ok b j (cl + 1) hg.2 (by omega) (by omega)
    obtain ⟨ls, es, l3⟩ : ∃ ls, s.str = ofL ls /\ ls.length = 1 := by
      cases s
      · exact ⟨[43], rfl, rfl⟩
      · exact ⟨[45], rfl, rfl⟩
      · exact ⟨[42], rfl, rfl⟩
      · exact ⟨[47], rfl, rfl⟩
    have hj : eJoin (eC (.str " ")) (vLst (eLst (aCons (eCall (m_law_part_at j) (aCons (eOp gIx (eVar 0) (eC (.int 1))) (aCons (eVar 2) aNil))) (aCons (eOp gIx (eVar 0) (eC (.int 0))) (aCons (eCall (m_law_part_at j) (aCons (eOp gIx (eVar 0) (eC (.int 2))) (aCons (eOp gAdd (eVar 2) (eC (.int 1))) aNil))) aNil))))) [some (.tup [.str s.str, a.d, b.d]), some (.int k), some (.int cl), none] = .ok (.str (ofL (TxtA.flat [32] [la, ls, lb]))) := by
      show ((vLst (eLst (aCons (eCall (m_law_part_at j) (aCons (eOp gIx (eVar 0) (eC (.int 1))) (aCons (eVar 2) aNil))) (aCons (eOp gIx (eVar 0) (eC (.int 0))) (aCons (eCall (m_law_part_at j) (aCons (eOp gIx (eVar 0) (eC (.int 2))) (aCons (eOp gAdd (eVar 2) (eC (.int 1))) aNil))) aNil))))) [some (.tup [.str s.str, a.d, b.d]), some (.int k), some (.int cl), none]).bind (fun x => joinD (.str " ") x) = _
      kd_p
      rw [ea, eb]; kd_p
      rw [es]
      show joinD (.str (ofL [32])) (.lst (([la, ls, lb].map ofL).map D.str)) = _
      refine join_ok (B := 15000) (fun r hr => ?_) (by show 3 * 15000 + 3 * 1 <= 10000000; decide)
      simp only [xaz, xbf, or_false] at hr
      rcases hr with rfl | rfl | rfl <;> omega
    have hfl : (TxtA.flat [32] [la, ls, lb]).length = la.length + lb.length + 3 := by
      simp only [TxtA.flat, xat, xaw, xbs, l3]; omega
    generalize TxtA.flat [32] [la, ls, lb] = L at hj hfl
    unfold b_law_part_3
    rw [sSeq_def, sSet0_def]
    rw [hj]; kd_p
    unfold b_law_part_4 b_law_part_5; kd_p
    by_cases hc : cl < k
    · rw [xah hc]; kd_p
      rw [show (D.str "(") = .str (ofL [40]) from rfl, add_ok (by simp; omega)]; kd_p
      rw [show (D.str ")") = .str (ofL [41]) from rfl, add_ok (by simp; omega)]; kd_p
      exact ⟨_, rfl, by simp only [xat, xaw, xbs]; omega, fun h => by omega⟩
    · rw [xal hc]; kd_p
      exact ⟨_, rfl, by omega, fun h => by omega⟩
section
variable (ns : List Str) (hn : ns.length = 5) (hp : ∀ x ∈ ns, Pn x)
include hn hp
theorem shallow_loop : ∀ (n : Nat) (cs : List Int) (t : Tr), cs.length = n -> 1 <= n -> n <= 64 -> Good t -> t.many <= n -> ∃ (cs' : List Int) (t' : Tr), sWhile b_law_shallow_1c b_law_shallow_1w [some (.lst (cs.map .int)), some (.lst (ns.map .str)), some t.d] = .ok (.nx [some (.lst (cs'.map .int)), some (.lst (ns.map .str)), some t'.d]) /\ Good t' /\ t'.many <= n := by
  intro n
  induction n using Nat.strongRecOn with
  | _ n ih =>
    intro cs t h1 h2 h3 hg hm
    obtain ⟨l, el, l1, l2⟩ := part_ok t 64 0 hg (by omega) (by omega)
    have el : m_law_part [t.d, .int 0] = .ok (.str (ofL l)) := el
    obtain ⟨d, ed, hd⟩ := deep_ok l
    have hc : b_law_shallow_1c [some (.lst (cs.map .int)), some (.lst (ns.map .str)), some t.d] = .ok (decide (8 < d)) := by
      unfold b_law_shallow_1c; kd_p
      rw [el]; kd_p
      rw [ed]; kd_p
    by_cases h8 : 8 < d
    · rw [xah h8] at hc
      have h2' : 2 <= n := by
        rcases Nat.lt_or_ge n 2 with h | h
        · have := hd (l2 (by have := t.pos; omega)); omega
        · exact h
      have ht : (cs.take (n / 2)).length = n / 2 := by rw [xbj]; omega
      obtain ⟨t1, e1, g1, m1⟩ := tree_ok ns hn hp (cs.take (n / 2)) (fun hz => by rw [hz] at ht; simp at ht; omega) (by omega)
      obtain ⟨cs', t', e2, g2, m2⟩ := ih (n / 2) (by omega) (cs.take (n / 2)) t1 ht (by omega) (by omega) g1 (by omega)
      refine ⟨cs', t', ?_, g2, by omega⟩
      rw [sWhile_t hc (Z' := [some (.lst ((cs.take (n / 2)).map .int)), some (.lst (ns.map .str)), some t1.d]) ?_, e2]
      unfold b_law_shallow_1w b_law_shallow_1w_1
      have hsl : eSl (eVar 0) oNone (oSome (eOp gFdiv (eBlt gLen (aCons (eVar 0) aNil)) (eC (.int 2)))) [some (.lst (cs.map .int)), some (.lst (ns.map .str)), some t.d] = .ok (.lst ((cs.take (n / 2)).map .int)) := by
        rw [Lk42.eSl_to _ _ _ (cs.map D.int) (n / 2) rfl ?_, List.map_take]
        kd_p
        rw [gFdiv_pos _ _ (by decide +kernel) (by decide), xar, h1]; rfl
      rw [sSeq_def, sSet0_def, hsl]; kd_p
      rw [e1]; kd_p
    · rw [xal h8] at hc
      exact ⟨cs, t, sWhile_f hc, hg, hm⟩
theorem shallow_ok (cs : List Int) (h1 : cs ≠ []) (h2 : cs.length <= 64) : ∃ t : Tr, m_law_shallow [.lst (cs.map .int), .lst (ns.map .str)] = .ok t.d /\ Good t /\ t.many <= 64 := by
  obtain ⟨t, e, g, m⟩ := tree_ok ns hn hp cs h1 (by omega)
  obtain ⟨cs', t', e2, g2, m2⟩ := shallow_loop ns hn hp cs.length cs t rfl (xcf.mpr h1) h2 g m
  rw [m_law_shallow_go]; unfold b_law_shallow b_law_shallow_1 b_law_shallow_2; kd_p
  rw [e]; kd_p
  rw [e2]; kd_p
  exact ⟨t', rfl, g2, by omega⟩
end
end LmWi
open L2 DL Mir
namespace Lk58
open Mth LmP LmA LmY LmWa LmWb LmWc LmWd LmWe LmWf LmWg LmWh LmWi TxtA
open LmC (cell law_cell_ok)
theorem alone_ok : m_law_alone [.exc "NoValue" []] = .ok (.bl true) := by
  rw [m_law_alone_go]; unfold b_law_alone b_law_alone_1 b_law_alone_2 b_law_alone_3 b_law_alone_4 b_law_alone_5; kd_p
  simp only [isi_exc (show subX "NoValue" "NoPlace" = some false by decide +kernel), isi_exc (show subX "NoValue" "Same" = some false by decide +kernel), isi_exc (show subX "NoValue" "NoFloor" = some false by decide +kernel), isi_exc (show subX "NoValue" "Endless" = some false by decide +kernel), isi_exc (show subX "NoValue" "NoDeed" = some false by decide +kernel), isi_exc (show subX "NoValue" "NoText" = some false by decide +kernel), isi_exc (show subX "NoValue" "NoName" = some false by decide +kernel), isi_exc (show subX "NoValue" "TooMany" = some false by decide +kernel), isi_exc (show subX "NoValue" "NoChange" = some false by decide +kernel), isi_exc (show subX "NoValue" "NoFrame" = some false by decide +kernel), isi_exc (show subX "NoValue" "NoValue" = some true by decide +kernel), isi_exc (show subX "NoValue" "Unlike" = some false by decide +kernel), isi_exc (show subX "NoValue" "NoRatio" = some false by decide +kernel), isi_exc (show subX "NoValue" "NoBow" = some false by decide +kernel), isi_exc (show subX "NoValue" "NoRow" = some false by decide +kernel), isi_exc (show subX "NoValue" "ChalkError" = some true by decide +kernel)]
  kd_p
  rfl
abbrev Tab := List (Str × (Int × Int))
def keys (T : Tab) : List Key := T.map fun p => .inr p.1
def vals (T : Tab) : List D := T.map fun p => fr p.2
def tab (T : Tab) : D := .dct (keys T) (vals T)
def get (T : Tab) (x : Str) : Option (Int × Int) := (T.find? fun p => decide (p.1 = x)).map (·.2)
theorem get_ok : ∀ (T : Tab) (x : Str), valD (keys T) (vals T) (.inr x) = (get T x).map fr
  | [], _ => rfl
  | (y, v) :: T, x => by
    show (if (Sum.inr y : Key) = .inr x then some (fr v) else valD (keys T) (vals T) (.inr x)) = _
    unfold get
    rw [xbo]
    by_cases h : y = x
    · rw [xav (by rw [h])]; simp [h]
    · rw [xao (fun e => h (Sum.inr.inj e)), get_ok T x]
      simp [h, get]
theorem drop_ok : ∀ (T : Tab) (x : Str), dropD (keys T) (vals T) (.inr x) = (keys (T.filter fun p => decide (p.1 ≠ x)), vals (T.filter fun p => decide (p.1 ≠ x)))
  | [], _ => rfl
  | (y, v) :: T, x => by
    show (if (Sum.inr y : Key) = .inr x then dropD (keys T) (vals T) (.inr x) else (.inr y :: (dropD (keys T) (vals T) (.inr x)).1, fr v :: (dropD (keys T) (vals T) (.inr x)).2)) = _
    rw [drop_ok T x, xb7]
    by_cases h : y = x
    · rw [xav (by rw [h]), xao (by simp [h])]
    · rw [xao (fun e => h (Sum.inr.inj e)), xav (by simp [h])]; rfl
def Frs (T : Tab) : Prop := ∀ p ∈ T, Fr 40 p.2
theorem en {T : Tab} (h : Frs T) : En (keys T) (vals T) (get T) := ⟨get_ok T, fun x v e => by
  unfold get at e
  obtain ⟨p, hp, rfl⟩ := Option.map_eq_some_iff.mp e
  exact h p (List.mem_of_find?_eq_some hp)⟩
theorem get_none {T : Tab} {x : Str} (h : x ∉ T.map (·.1)) : get T x = none := by
  unfold get
  rw [Option.map_eq_none_iff, List.find?_eq_none]
  intro p hp e
  exact h (xb3.mpr ⟨p, hp, by simpa using e⟩)
theorem get_some {T : Tab} {x : Str} (h : x ∈ T.map (·.1)) : (get T x).isSome = true := by
  unfold get
  rw [xbu, List.find?_isSome]
  obtain ⟨p, hp, e⟩ := xb3.mp h
  exact ⟨p, hp, by simpa using e⟩
section
variable (S : List Int) (xs : List Str) (h5 : xs.length = 5) (hnd : xs.Nodup)
noncomputable abbrev body : DSt -> R DSt := kPut 2 (eOp gIx (eVar 1) (eVar 3)) (eCall m_law_fraction_v1 (aCons (eCall m_law_cell (aCons (eVar 0) (aCons (eOp gAdd (eC (.int 41)) (eVar 3)) aNil))) (aCons (eVar 3) aNil)))
abbrev st (T : Tab) (z : Option D) : DSt := [some (.lst (S.map .int)), some (.lst (xs.map .str)), some (tab T), z, none, none, none, none, none]
include h5 hnd
theorem fill : ∀ (m j : Nat) (T : Tab) (z : Option D), j + m = 5 -> T.map (·.1) = xs.take j -> Frs T -> ∃ (T' : Tab) (z' : Option D), kForL 3 body ((List.range' j m).map fun (i : Nat) => D.int (i : Int)) (st S xs T z) = .ok (st S xs T' z') /\ T'.map (·.1) = xs /\ Frs T' := by
  intro m
  induction m with
  | zero =>
    intro j T z hj hT hF
    exact ⟨T, z, rfl, by rw [hT, List.take_of_length_le (by omega)], hF⟩
  | succ m ih =>
    intro j T z hj hT hF
    have hjl : j < xs.length := by omega
    obtain ⟨v, ev, hv⟩ := fraction_drawn (cell S (41 + j)) (j : Int)
    have hx : xs[j] ∉ T.map (·.1) := by
      rw [hT]
      intro h
      obtain ⟨i, hi, e⟩ := List.mem_iff_getElem.mp h
      rw [List.getElem_take] at e
      have hij : i < j := by rw [xbj] at hi; omega
      have := (List.getElem_inj hnd).mp e
      omega
    have hT' : (T ++ [(xs[j], v)]).map (·.1) = xs.take (j + 1) := by
      rw [xa9, hT, List.take_succ_eq_append_getElem hjl]; rfl
    obtain ⟨T', z', e1, e2, e3⟩ := ih (j + 1) (T ++ [(xs[j], v)]) (some (.int (j : Int))) (by omega) hT' (fun p hp => by
      rcases xbh.mp hp with h | h
      · exact hF p h
      · rw [xbl.mp h]; exact hv)
    refine ⟨T', z', ?_, e2, e3⟩
    rw [List.range'_succ, xba]
    show (body (st S xs T (some (.int (j : Int))))).bind (kForL 3 body ((List.range' (j + 1) m).map fun (i : Nat) => D.int (i : Int))) = _
    have hc : m_law_cell [.lst (S.map .int), .int (41 + (j : Int))] = .ok (.int (cell S (41 + j))) := by
      have := law_cell_ok S (41 + j)
      rw [show (((41 + j : Nat)) : Int) = 41 + (j : Int) by omega] at this
      exact this
    have hb : body (st S xs T (some (.int (j : Int)))) = .ok (st S xs (T ++ [(xs[j], v)]) (some (.int (j : Int)))) := by
      show ((eCall m_law_fraction_v1 (aCons (eCall m_law_cell (aCons (eVar 0) (aCons (eOp gAdd (eC (.int 41)) (eVar 3)) aNil))) (aCons (eVar 3) aNil))) [some (.lst (S.map .int)), some (.lst (xs.map .str)), none, some (.int (j : Int)), none, none, none, none, none]).bind _ = _
      kd_p
      rw [hc]; kd_p
      rw [ev]
      show (gIx (.lst (xs.map .str)) (.int (j : Int))).bind _ = _
      rw [gIx_nat (d := .str xs[j]) (by rw [xa2, xa6 hjl]; rfl)]
      show (bif (valD (keys T) (vals T) (.inr xs[j])).isNone && most (keys T).length then R.ok _ else .bad) = _
      have hl : (keys T).length <= 1000000 := by
        have := congrArg List.length hT
        unfold keys
        rw [xar, xbj] at *
        omega
      rw [get_ok, get_none hx, most_of hl]
      show (R.ok [some (.lst (S.map .int)), some (.lst (xs.map .str)), some (.dct (keys T ++ [.inr xs[j]]) (vals T ++ [fr v])), some (.int (j : Int)), none, none, none, none, none] : R DSt) = _
      unfold st tab keys vals
      rw [xa9, xa9]; rfl
    rw [hb]
    exact e1
end
theorem refused_ok {T : Tab} (hF : Frs T) {t : Tr} (hg : Good t) (hm : t.many <= 64) (h : worth (get T) t = none) : m_law_refused_v15 [t.d, tab T] = .ok (.bl true) := by
  have hv := value_ok (en hF) hg.nums (by omega)
  rw [h] at hv
  have hv : m_value [t.d, tab T] = .err (.exc "NoValue" []) := hv
  rw [m_law_refused_v15_go]; unfold b_law_refused_v15 b_law_refused_v15_1 b_law_refused_v15_2; kd_p
  rw [hv]; kd_p
  rw [tryK_err _ _ _ _ _ _ (show subX "NoValue" "ChalkError" = some true by decide +kernel)]; kd_p
  rw [isi_exc (show subX "NoValue" "NoValue" = some true by decide +kernel)]; kd_p
  rw [alone_ok]; kd_p
theorem dat_vals : ∀ T : Tab, (vals T).all (datN 9) = true /\ eqDs (vals T) (vals T) = true
  | [] => ⟨rfl, by unfold vals eqDs; rfl⟩
  | (y, v) :: T => by
    obtain ⟨h1, h2⟩ := dat_vals T
    refine ⟨?_, ?_⟩
    · show (datN 9 (fr v) && (vals T).all (datN 9)) = true
      rw [h1]; rfl
    · show eqDs (fr v :: vals T) (fr v :: vals T) = true
      unfold eqDs
      rw [h2, eqD_refl 9 (fr v) rfl]; rfl
theorem ne_ok (T : Tab) : gNeD (tab T) (tab T) = .ok (.bl false) := by
  obtain ⟨h1, h2⟩ := dat_vals T
  show (bif decide (keys T = keys T) && (vals T).all (datN 9) && (vals T).all (datN 9) && eqDs (vals T) (vals T) then R.ok (D.bl false) else .bad) = _
  rw [h1, h2, xah rfl]; rfl
theorem gNe_fr (v : Int × Int) : gNe (fr v) (fr v) = .ok (.bl false) := by
  rw [gNe_of (show cmp2 (fr v) (fr v) = true from rfl), eqD_refl 9 (fr v) rfl]; rfl
section
variable (S : List Int) (hS : S.length <= 63) (xs : List Str) (h5 : xs.length = 5) (hp : ∀ x ∈ xs, Pn x) (T : Tab) (hF : Frs T)
include hS h5 hp hF
theorem turn_ok (k : Nat) (z3 z5 z6 z7 z8 : Option D) : ∃ y5 y6 y7 y8 : Option D, b_law_v44_1kf [some (.lst (S.map .int)), some (.lst (xs.map .str)), some (tab T), z3, some (.int (k : Int)), z5, z6, z7, z8] = .ok (.nx [some (.lst (S.map .int)), some (.lst (xs.map .str)), some (tab T), z3, some (.int (k : Int)), y5, y6, y7, y8]) := by
  unfold b_law_v44_1kf; kd_p
  rw [LmX.eSl_mid _ _ _ _ (S.map D.int) 1 k rfl rfl rfl]
  obtain ⟨cs, ec, hc⟩ : ∃ cs : List Int, ((S.map D.int).drop (min 1 (S.map D.int).length)).take (min k (S.map D.int).length - min 1 (S.map D.int).length) = cs.map D.int /\ cs.length <= 62 := by
    refine ⟨(S.drop (min 1 (S.map D.int).length)).take (min k (S.map D.int).length - min 1 (S.map D.int).length), by rw [List.map_take, List.map_drop], ?_⟩
    rw [xbj, List.length_drop, xar]
    omega
  rw [ec]; kd_p
  rw [show gAdd (.lst (cs.map D.int)) (.lst [.int 1]) = .ok (.lst ((cs ++ [1]).map .int)) from by
    show (bif le24 ((cs.map D.int).length + 1) then R.ok (D.lst (cs.map D.int ++ [.int 1])) else .bad) = _
    rw [show le24 ((cs.map D.int).length + 1) = true from xah (by rw [xar]; exact xa1 (show cs.length + 1 <= 63 by omega) (by decide)), xa9]; rfl]; kd_p
  obtain ⟨t, et, hg, hm⟩ := shallow_ok xs h5 hp (cs ++ [1]) (by simp) (by simp; omega)
  rw [et]; kd_p
  unfold b_law_v44_1kf_1; kd_p
  have ew : m_law_worth [t.d, tab T] = .ok (opt (worth (get T) t)) := law_worth_ok (en hF) t 64 hg.nums hm (by omega)
  have hv : m_value [t.d, tab T] = resV (worth (get T) t) := value_ok (en hF) hg.nums (by omega)
  rw [ew]; kd_p
  unfold b_law_v44_1kf_2; kd_p
  rw [show gCopyD [tab T] = .ok (tab T) from rfl]; kd_p
  unfold b_law_v44_1kf_3 b_law_v44_1kf_4
  cases e : worth (get T) t with
  | none =>
    rw [show opt none = .non from rfl]; kd_p
    rw [refused_ok hF hg hm e]; kd_p
    rw [ne_ok]; kd_p
    exact ⟨_, _, _, _, rfl⟩
  | some v =>
    rw [e] at hv
    have hv : m_value [t.d, tab T] = .ok (fr v) := hv
    rw [show opt (some v) = fr v from rfl, show fr v = .tup [.int v.1, .int v.2] from rfl] at *
    kd_p
    unfold b_law_v44_1kf_3e b_law_v44_1kf_3e_1 b_law_v44_1kf_3e_2; kd_p
    rw [hv]; kd_p
    rw [show gNe (.tup [.int v.1, .int v.2]) (.tup [.int v.1, .int v.2]) = .ok (.bl false) from gNe_fr v]; kd_p
    simp only [ix20, ix21]; kd_p
    rw [law_whole_i]; kd_p
    simp only [ix20, ix21]; kd_p
    rw [law_whole_i]; kd_p
    rw [ne_ok]; kd_p
    exact ⟨_, _, _, _, rfl⟩
end
theorem law_ok (ns : List Int) (h : ns.length <= 63) : m_law_v44 [.lst (ns.map .int)] = .ok (.bl true) := by
  obtain ⟨xs, ex, h5, hnd, hp⟩ := words_ok (cell ns 0)
  obtain ⟨dg, ed, hl, hb⟩ := digits_ok (cell ns 0) 12 (by decide)
  have ed : m_law_digits [.int (cell ns 0), .int 12] = .ok (.lst (dg.map .int)) := ed
  obtain ⟨d8, g8, a8, b8⟩ := dig dg hb 8 (by omega)
  obtain ⟨d7, g7, a7, b7⟩ := dig dg hb 7 (by omega)
  have g8 : gIx (.lst (dg.map .int)) (.int 8) = .ok (.int d8) := g8
  have g7 : gIx (.lst (dg.map .int)) (.int 7) = .ok (.int d7) := g7
  have c0 : m_law_cell [.lst (ns.map .int), .int 0] = .ok (.int (cell ns 0)) := law_cell_ok ns 0
  rw [m_law_v44_go]; unfold b_law_v44; kd_p
  rw [c0]; kd_p
  rw [ex]; kd_p
  obtain ⟨T, z, e1, e2, e3⟩ := fill ns xs h5 hnd 5 0 [] none rfl rfl (fun p hp => by simp at hp)
  have e1 : kForL 3 body [.int 0, .int 1, .int 2, .int 3, .int 4] (st ns xs [] none) = .ok (st ns xs T z) := e1
  have hk : ∃ T', kIf (eM 2 (eTest (eOp gEq (eOp gMod (eOp gIx (eCall m_law_digits (aCons (eCall m_law_cell (aCons (eVar 0) (aCons (eC (.int 0)) aNil))) (aCons (eC (.int 12)) aNil))) (eC (.int 8))) (eC (.int 4))) (eC (.int 1))))) (kPop 2 (eOp gIx (eVar 1) (eOp gMod (eOp gIx (eCall m_law_digits (aCons (eCall m_law_cell (aCons (eVar 0) (aCons (eC (.int 0)) aNil))) (aCons (eC (.int 12)) aNil))) (eC (.int 7))) (eC (.int 5))))) kNext (st ns xs T z) = .ok (st ns xs T' z) /\ Frs T' := by
    have ht : eM 2 (eTest (eOp gEq (eOp gMod (eOp gIx (eCall m_law_digits (aCons (eCall m_law_cell (aCons (eVar 0) (aCons (eC (.int 0)) aNil))) (aCons (eC (.int 12)) aNil))) (eC (.int 8))) (eC (.int 4))) (eC (.int 1)))) (st ns xs T z) = .ok (decide (d8 % 4 = 1)) := by
      show eTest (eOp gEq (eOp gMod (eOp gIx (eCall m_law_digits (aCons (eCall m_law_cell (aCons (eVar 0) (aCons (eC (.int 0)) aNil))) (aCons (eC (.int 12)) aNil))) (eC (.int 8))) (eC (.int 4))) (eC (.int 1))) [some (.lst (ns.map .int)), some (.lst (xs.map .str)), none, z, none, none, none, none, none] = _
      kd_p
      rw [c0]; kd_p
      rw [ed]; kd_p
      rw [g8]; kst_p2
    unfold kIf
    rw [ht]
    by_cases h8 : d8 % 4 = 1
    · rw [xah h8]
      have m := em_pos (i := d7) (j := 5) (by decide)
      obtain ⟨j, hj⟩ : ∃ j : Nat, d7 % 5 = (j : Int) := ⟨(d7 % 5).toNat, by omega⟩
      have hjl : j < xs.length := by omega
      refine ⟨T.filter fun p => decide (p.1 ≠ xs[j]), ?_, fun p hp => e3 p (List.mem_filter.mp hp).1⟩
      have hf : eOp gIx (eVar 1) (eOp gMod (eOp gIx (eCall m_law_digits (aCons (eCall m_law_cell (aCons (eVar 0) (aCons (eC (.int 0)) aNil))) (aCons (eC (.int 12)) aNil))) (eC (.int 7))) (eC (.int 5))) [some (.lst (ns.map .int)), some (.lst (xs.map .str)), none, z, none, none, none, none, none] = .ok (.str xs[j]) := by
        kd_p
        rw [c0]; kd_p
        rw [ed]; kd_p
        rw [g7]; kst_p2
        rw [hj]
        exact gIx_nat (by rw [xa2, xa6 hjl]; rfl)
      show kPop 2 _ (st ns xs T z) = _
      unfold kPop
      rw [show mask [2] (st ns xs T z) = [some (.lst (ns.map .int)), some (.lst (xs.map .str)), none, z, none, none, none, none, none] from rfl, hf]
      show (bif (valD (keys T) (vals T) (.inr xs[j])).isSome then (R.ok [some (.lst (ns.map .int)), some (.lst (xs.map .str)), some (.dct (dropD (keys T) (vals T) (.inr xs[j])).1 (dropD (keys T) (vals T) (.inr xs[j])).2), z, none, none, none, none, none] : R DSt) else .bad) = _
      rw [get_ok, xbu, get_some (by rw [e2]; exact xbq hjl), drop_ok]; rfl
    · rw [xal h8]
      exact ⟨T, rfl, e3⟩
  obtain ⟨T', ek, hF⟩ := hk
  unfold b_law_v44_1
  show fin (kThen (kFor 2 3 (iArgs rng1 (aCons (eC (.int 5)) aNil)) body) _ (st ns xs [] none)) = _
  unfold kThen
  rw [show kFor 2 3 (iArgs rng1 (aCons (eC (.int 5)) aNil)) body (st ns xs [] none) = kForL 3 body [.int 0, .int 1, .int 2, .int 3, .int 4] (st ns xs [] none) from rfl, e1]
  rw [R.ok_bind, ek, R.ok_bind]
  unfold b_law_v44_1k b_law_v44_1k_1
  obtain ⟨Z', e, z3, z4, z5, z6, z7, z8, rfl⟩ := forL_inv (i := 4) (fb := b_law_v44_1kf) (fun Z => ∃ z3 z4 z5 z6 z7 z8 : Option D, Z = [some (.lst (ns.map .int)), some (.lst (xs.map .str)), some (tab T'), z3, z4, z5, z6, z7, z8]) [.int 4, .int 12, .int 31, .int 60] (by
    rintro d hd Z ⟨z3, z4, z5, z6, z7, z8, rfl⟩
    obtain ⟨k, rfl⟩ : ∃ k : Nat, d = .int (k : Int) := by
      simp only [xaz, xbf, or_false] at hd
      rcases hd with rfl | rfl | rfl | rfl
      · exact ⟨4, rfl⟩
      · exact ⟨12, rfl⟩
      · exact ⟨31, rfl⟩
      · exact ⟨60, rfl⟩
    obtain ⟨y5, y6, y7, y8, e⟩ := turn_ok ns h xs h5 hp T' hF k z3 z5 z6 z7 z8
    exact ⟨_, .inl e, z3, some (.int (k : Int)), y5, y6, y7, y8, rfl⟩) (st ns xs T' z) ⟨z, none, none, none, none, none, rfl⟩
  rw [sSeq_def, show sFor [] [4] gpOne (iSeq (vLst (eLst (aCons (eC (.int 4)) (aCons (eC (.int 12)) (aCons (eC (.int 31)) (aCons (eC (.int 60)) aNil))))))) b_law_v44_1kf (st ns xs T' z) = forL [4] gpOne b_law_v44_1kf [.int 4, .int 12, .int 31, .int 60] (st ns xs T' z) from rfl, e]; kd_p
end Lk58
end
section
namespace Kx
open L2 DL Mir
local macro_rules | `(tactic| walk_at "C") => `(tactic| first | assumption | exact XC.lc (by assumption) _ _ _ _ _ _ | exact XC.nox (by assumption))
local macro_rules | `(tactic| walk_at "H") => `(tactic| first | assumption | exact XC.calm (by walk_at "C") | rfl)
local macro_rules | `(tactic| walk_at "F") => `(tactic| first | exact cf_lt | exact cf_le | exact cf_gt | exact cf_ge | exact cf_is | exact cf_isn | exact cf_eq (by walk_at "C") | exact cf_ne (by walk_at "C") | exact cf_in (by walk_at "C") | exact cf_nin (by walk_at "C") | exact cf_inK (by walk_at "C") | exact cf_neD (by walk_at "C"))
local macro_rules | `(tactic| walk_at "E") => `(tactic| first | ((with_reducible refine @de_var _ _ _ _ _ ?_ ?_ ?_ ?_); rfl; (first | exact Or.inl rfl | exact Or.inr (Or.inl rfl) | exact Or.inr (Or.inr rfl)); decide; decide) | ((with_reducible refine @da_cons _ _ _ _ _ _ ?_ ?_ ?_); walk_at "E"; walk_at "E"; rfl) | ((with_reducible refine @de_int _ _ _ _ _)) | ((with_reducible refine @da_nil _ _)) | ((with_reducible refine @de_ix _ _ _ _ _ _ _ ?_ ?_ ?_); walk_at "E"; walk_at "E"; (intro _ _ ; rfl)) | ((with_reducible refine @de_call _ _ _ _ _ _ _ _ _ _ (by walk_at "C") ?_ ?_ ?_ ?_ ?_ ?_); walk_at "H"; walk_at "E"; rfl; decide; rfl; rfl) | ((with_reducible refine @de_add _ _ _ _ _ _ _ ?_ ?_); walk_at "E"; walk_at "E") | ((with_reducible refine @de_mul _ _ _ _ _ _ _ ?_ ?_); walk_at "E"; walk_at "E") | ((with_reducible refine @de_str _ _ _ _ _)) | ((with_reducible refine @de_mod _ _ _ _ _ _ _ ?_ ?_); walk_at "E"; walk_at "E") | ((with_reducible refine @dt_cmp1 _ _ _ _ _ _ _ _ _ ?_ ?_ ?_ ?_); walk_at "F"; walk_at "E"; walk_at "E"; (first | exact nobehind _ (by decide) (by decide) | rfl)) | ((with_reducible refine @de_intc _ _ _ _ _ _ _ ?_ ?_ ?_ ?_ ?_); walk_at "H"; walk_at "E"; rfl; rfl; rfl) | ((with_reducible refine @de_isi _ _ _ _ _ _ _ ?_ ?_ ?_ ?_ ?_); walk_at "H"; walk_at "E"; rfl; rfl; rfl) | ((with_reducible refine @de_cls _ _ _ _ _ (by assumption) ?_ ?_); rfl; decide) | ((with_reducible refine @df_lst _ _ _ _ _ ?_); walk_at "E") | ((with_reducible refine @de_fdiv _ _ _ _ _ _ _ ?_ ?_); walk_at "E"; walk_at "E") | ((with_reducible refine @DF.val _ _ _ _ ?_); walk_at "E") | ((with_reducible refine @de_len _ _ _ _ _ _ _ ?_ ?_ ?_ ?_ ?_); walk_at "H"; walk_at "E"; rfl; rfl; rfl) | ((with_reducible refine @de_sub _ _ _ _ _ _ _ ?_ ?_); walk_at "E"; walk_at "E") | ((with_reducible refine @de_tup _ _ _ _ _ _ ?_); walk_at "E") | ((with_reducible refine @de_pow _ _ _ _ _ _ _ ?_ ?_); walk_at "E"; walk_at "E") | ((with_reducible refine @do_some _ _ _ _ ?_); walk_at "E") | ((with_reducible refine @de_bl _ _ _ _ _)) | ((with_reducible refine @di_range1 _ _ _ _ _ _ _ ?_ ?_ ?_ ?_); walk_at "H"; walk_at "E"; rfl; rfl) | ((with_reducible refine @de_ixS _ _ _ _ _ _ _ ?_ ?_ ?_); walk_at "E"; walk_at "E"; (intro _ _ ; rfl)) | ((with_reducible refine @de_sl _ _ _ _ _ _ _ _ _ _ ?_ ?_ ?_); walk_at "E"; walk_at "E"; walk_at "E") | ((with_reducible refine @de_abs _ _ _ _ _ _ _ ?_ ?_ ?_ ?_ ?_); walk_at "H"; walk_at "E"; rfl; rfl; rfl) | ((with_reducible refine @de_cmp1 _ _ _ _ _ _ _ _ _ ?_ ?_ ?_ ?_); walk_at "F"; walk_at "E"; walk_at "E"; (first | exact nobehind _ (by decide) (by decide) | rfl)) | ((with_reducible refine @do_none _ _)) | ((with_reducible refine @di_seq _ _ _ _ _ ?_); walk_at "E") | ((with_reducible refine @dw_or1 _ _ _ _ _ ?_); walk_at "E") | ((with_reducible refine @dt_not _ _ _ _ _ ?_); walk_at "E") | ((with_reducible refine @de_neg _ _ _ _ _ ?_); walk_at "E") | ((with_reducible refine @dw_and1 _ _ _ _ _ ?_); walk_at "E") | ((with_reducible refine @DW.dt _ _ _ _ ?_); walk_at "E") | ((with_reducible refine @de_non _ _ _ _)) | ((with_reducible refine @de_k _ _ _ _ _ ?_ ?_ ?_); walk_at "H"; rfl; decide) | ((with_reducible refine @dw_or _ _ _ _ _ _ _ _ ?_ ?_); walk_at "E"; walk_at "E") | ((with_reducible refine @di_text _ _ _ _ _ ?_); walk_at "E") | ((with_reducible refine @de_max _ _ _ _ _ _ _ ?_ ?_ ?_ ?_ ?_ ?_); walk_at "H"; walk_at "H"; walk_at "E"; rfl; rfl; rfl) | ((with_reducible refine @de_strc _ _ _ _ _ _ _ ?_ ?_ ?_ ?_ ?_); walk_at "H"; walk_at "E"; rfl; rfl; rfl) | ((with_reducible refine @de_join _ _ _ _ _ _ _ _ ?_ ?_ ?_ ?_ ?_ ?_ ?_); walk_at "E"; walk_at "E"; rfl; rfl; rfl; rfl; rfl) | ((with_reducible refine @de_getD _ _ _ _ _ _ _ (by walk_at "C") ?_ ?_ _ _ ?_ ?_ ?_ ?_); walk_at "E"; walk_at "E"; rfl; rfl; rfl; rfl) | ((with_reducible refine @dw_and _ _ _ _ _ _ _ _ ?_ ?_); walk_at "E"; walk_at "E") | ((with_reducible refine @de_ixD _ _ _ _ _ _ _ _ (by walk_at "C") ?_ ?_ ?_); walk_at "E"; walk_at "E"; (intro _ _ ; rfl)) | ((with_reducible refine @de_and _ _ _ _ _ _ _ _ ?_ ?_); walk_at "E"; walk_at "E") | ((with_reducible refine @de_copyD _ _ _ _ _ _ ?_ ?_ ?_ ?_ ?_); walk_at "H"; walk_at "E"; rfl; rfl; rfl) | ((with_reducible refine @dt_val _ _ _ _ ?_ ?_); walk_at "E"; (intro _ ; rfl)) | ((with_reducible refine @de_one _ _ _ _ _ _ ?_); walk_at "E") | ((refine @de_int _ _ _ _ _)) | ((refine @de_str _ _ _ _ _)) | ((refine @dt_cmp1 _ _ _ _ _ _ _ _ _ ?_ ?_ ?_ ?_); walk_at "F"; walk_at "E"; walk_at "E"; (first | exact nobehind _ (by decide) (by decide) | rfl)) | ((refine @de_cls _ _ _ _ _ (by assumption) ?_ ?_); rfl; decide) | ((refine @dw_or1 _ _ _ _ _ ?_); walk_at "E") | ((refine @dt_not _ _ _ _ _ ?_); walk_at "E") | ((refine @dw_and1 _ _ _ _ _ ?_); walk_at "E") | ((refine @DW.dt _ _ _ _ ?_); walk_at "E") | ((refine @dw_or _ _ _ _ _ _ _ _ ?_ ?_); walk_at "E"; walk_at "E") | ((refine @dw_and _ _ _ _ _ _ _ _ ?_ ?_); walk_at "E"; walk_at "E") | ((refine @dt_val _ _ _ _ ?_ ?_); walk_at "E"; (intro _ ; rfl)))
local macro_rules | `(tactic| walk_at "GS") => `(tactic| first | exact @pgs_nil _ | ((refine @pgs_cons _ _ _ _ _ ?_ ?_ ?_); ((refine @pg_name _ _ _ _ ?_ ?_ ?_ ?_); assumption; rfl; (first | exact Or.inl rfl | exact Or.inr rfl); (first | exact .inl rfl | exact .inr rfl | assumption)); walk_at "GS"; rfl))
local macro_rules | `(tactic| walk_at "G") => `(tactic| first | ((with_reducible refine @dg_name _ _ _ _ ?_ ?_ ?_ ?_); assumption; rfl; (first | exact Or.inl rfl | exact Or.inr rfl); (first | exact .inl rfl | exact .inr rfl | assumption)) | ((with_reducible refine @dg_seq _ _ _ _ _ _ ?_ ?_ ?_ ?_ ?_); walk_at "H"; walk_at "GS"; rfl; rfl; rfl))
local macro_rules | `(tactic| kst_p) => `(tactic| exact @ds_set0 _ _ _ _ _ _ _ _ _ (by assumption) (by walk_at "E") (by rfl) (by first | exact Or.inl rfl | exact Or.inr rfl) (by rfl) (by first | exact .inl rfl | exact .inr rfl | assumption))
local macro_rules | `(tactic| walk_at "s3") => `(tactic| exact @ds_ret _ _ _ _ _ _ _ _ (by walk_at "E"))
local macro_rules | `(tactic| walk_at "s5") => `(tactic| exact @ds_new _ _ _ _ _ _ _ _ _ _ _ (by assumption) (by walk_at "E") (by rfl) (by rfl) (by first | exact Or.inl rfl | exact Or.inr rfl) (by rfl) (by first | exact .inl rfl | exact .inr rfl | assumption))
local macro_rules | `(tactic| walk_at "s1") => `(tactic| exact @ds_set _ _ _ _ _ _ _ _ _ _ (by assumption) (by walk_at "E") (by rfl) (by rfl) (by first | exact Or.inl rfl | exact Or.inr rfl) (by rfl) (by first | exact .inl rfl | exact .inr rfl | assumption))
local macro_rules | `(tactic| walk_at "s7") => `(tactic| exact @ds_app _ _ _ _ _ _ _ _ _ _ _ _ (by walk_at "E") (by rfl) (by rfl) (by first | exact Or.inl rfl | exact Or.inr (Or.inl rfl) | exact Or.inr (Or.inr rfl)) (by decide) (by decide) (by rfl) (by rfl) (by rfl) (by rfl) (by rfl) (by rfl))
local macro_rules | `(tactic| walk_at "sU") => `(tactic| exact @ds_extU _ _ _ _ _ _ _ _ _ _ _ _ (by walk_at "E") (by rfl) (by rfl) (by first | exact Or.inl rfl | exact Or.inr (Or.inl rfl) | exact Or.inr (Or.inr rfl)) (by decide) (by decide) (by rfl) (by rfl) (by rfl) (by rfl) (by rfl) (by rfl))
local macro_rules | `(tactic| kd_p1) => `(tactic| exact (@dss_one _ _ _ _ _ _ _ (by walk_at "s3")))
local macro_rules | `(tactic| kcj_m) => `(tactic| exact (@ds_if _ _ _ _ _ _ _ _ _ _ _ _ (by walk_at "E") (by kd_p1) (@dss_nil _ _ _ _)))
set_option maxHeartbeats 4000000
variable {P : Program} {w : World} {K : xFg} {mg : Str -> Option Value} {base : Heap} {f : Addr} {fd : FuncData} {k : Nat}
local macro_rules | `(tactic| kst_p1) => `(tactic| exact ⟨rfl, rfl, rfl, by decide +kernel, rfl, by decide +kernel, by decide +kernel⟩)
local macro_rules | `(tactic| walk_at "b0") => `(tactic| exact fun _ _ _ _ _ _ => us0 (rfl))
local macro_rules | `(tactic| walk_at "b1") => `(tactic| exact fun _ _ _ _ _ _ => us1 (fun _ => rfl))
local macro_rules | `(tactic| kpf_c) => `(tactic| exact fun _ _ _ _ _ _ => us2 (fun _ _ => rfl))
local macro_rules | `(tactic| walk_at "b3") => `(tactic| exact fun _ _ _ _ _ _ => us3 (fun _ _ _ => rfl))
local macro_rules | `(tactic| walk_at "b4") => `(tactic| exact fun _ _ _ _ _ _ => us4 (fun _ _ _ _ => rfl))
local macro_rules | `(tactic| walk_at "b5") => `(tactic| exact fun _ _ _ _ _ _ => us5 (fun _ _ _ _ _ => rfl))
def top (i : Nat) : Stmt := PySem.Challenge.pw_chalkline_k58_values.main.body.getD i (.Pass ⟨0, 0, 0, 0⟩)
theorem ok__law_mixed (F : FA K mg "_law_mixed" (top 28) ["_law_cell_here", "_law_k"] f fd) : FnAt P w K mg base (k + 1) "_law_mixed" m_law_mixed := F.ok (own' := []) (N := ["_law_cell_here", "_law_k", "_law_number"]) (by kst_p1) rfl rfl fun _ _ _ _ _ _ C L nd => (@dss_cons _ _ _ _ _ _ _ _ _ _ (by kst_p) (@dss_cons _ _ _ _ _ _ _ _ _ _ (by kst_p) (@dss_cons _ _ _ _ _ _ _ _ _ _ (by kst_p) (by kd_p1))))
theorem ok__law_digits (F : FA K mg "_law_digits" (top 29) ["_law_cell_here", "_law_many"] f fd) (q1 : mg "range" = none) (q0 : FnAt P w K mg base k "_law_mixed" m_law_mixed) : FnAt P w K mg base (k + 1) "_law_digits" m_law_digits := F.ok (own' := []) (N := ["_law_cell_here", "_law_many", "_law_found", "_law_number", "_law_k"]) (by kst_p1) rfl rfl fun _ _ _ _ _ _ C L nd => (@dss_cons _ _ _ _ _ _ _ _ _ _ (by walk_at "s5") (@dss_cons _ _ _ _ _ _ _ _ _ _ (by walk_at "s1") (@dss_cons _ _ _ _ _ _ _ _ _ _ (@ds_for _ _ _ _ _ _ _ _ _ _ _ _ L C.calm (by walk_at "E") (by walk_at "G") (@dss_one _ _ _ _ _ _ _ (@ds_if _ _ _ _ _ _ _ _ _ _ _ _ (@DW.dt _ _ _ _ (@dw_and _ _ _ _ _ _ _ _ (by walk_at "E") (@dw_and1 _ _ _ _ _ (@dt_cmp1 _ _ _ _ _ _ _ _ _ (@cf_gt _) (by walk_at "E") (@de_int _ _ _ _ _) (by first | exact nobehind _ (by decide) (by decide) | rfl))))) (@dss_cons _ _ _ _ _ _ _ _ _ _ (by walk_at "s7") (@dss_one _ _ _ _ _ _ _ (by walk_at "s1"))) (@dss_one _ _ _ _ _ _ _ (by walk_at "s7")))) (by rfl) (by intro _ ; rfl)) (@dss_rel _ _ _ _ _ _ _ _ 2 (by rfl) (by rfl) (by kd_p1)))))
theorem ok__law_words (F : FA K mg "_law_words" (top 31) ["_law_cell_here", "_law_many"] f fd) (q1 : mg "range" = none) (q0 : FnAt P w K mg base k "_law_digits" m_law_digits) : FnAt P w K mg base (k + 1) "_law_words" m_law_words := F.ok (own' := []) (N := ["_law_cell_here", "_law_many", "_law_letters", "_law_digits_here", "_law_tail", "_law_j"]) (by kst_p1) rfl rfl fun _ _ _ _ _ _ C L nd => (@dss_cons _ _ _ _ _ _ _ _ _ _ (by kst_p) (@dss_cons _ _ _ _ _ _ _ _ _ _ (by kst_p) (@dss_cons _ _ _ _ _ _ _ _ _ _ (by kst_p) (@dss_cons _ _ _ _ _ _ _ _ _ _ (@ds_for _ _ _ _ _ _ _ _ _ _ _ _ L C.calm (by walk_at "E") (by walk_at "G") (@dss_one _ _ _ _ _ _ _ (by kst_p)) (by rfl) (by intro _ ; rfl)) (@dss_cons _ _ _ _ _ _ _ _ _ _ (by kcj_m) (@dss_one _ _ _ _ _ _ _ (@ds_ret _ _ _ _ _ _ _ _ (@DF.val _ _ _ _ (@df_lc _ _ _ _ _ _ _ _ _ _ _ _ _ _ _ C.calm (LC.of (k := 1) (NY := ["_law_k", "_law_cell_here", "_law_many", "_law_letters", "_law_digits_here", "_law_tail", "_law_j"]) (N := ["_law_cell_here", "_law_many", "_law_letters", "_law_digits_here", "_law_tail", "_law_j"]) (sc0 := (defScope (top 31))) rfl rfl (by decide +kernel)) rfl (by walk_at "E") (fun _ _ _ _ nd2 => ⟨(by walk_at "G"), (@dts_nil _ _), (by walk_at "E")⟩) (by intro _ ; rfl))))))))))
theorem ok__law_cell (F : FA K mg "_law_cell" (top 26) ["_law_script", "_law_k"] f fd) (q0 : mg "len" = none) : FnAt P w K mg base (k + 1) "_law_cell" m_law_cell := F.ok (own' := []) (N := ["_law_script", "_law_k"]) (by kst_p1) rfl rfl fun _ _ _ _ _ _ C L nd => (@dss_cons _ _ _ _ _ _ _ _ _ _ (@ds_if _ _ _ _ _ _ _ _ _ _ _ _ (@dt_cmp1 _ _ _ _ _ _ _ _ _ (@cf_lt _) (by walk_at "E") (by walk_at "E") (by first | exact nobehind _ (by decide) (by decide) | rfl)) (by kd_p1) (@dss_nil _ _ _ _)) (by kd_p1))
theorem ok__law_divisor (F : FA K mg "_law_divisor" (top 30) ["_law_one", "_law_other"] f fd) (q0 : mg "abs" = none) : FnAt P w K mg base (k + 1) "_law_divisor" m_law_divisor := F.ok (own' := []) (N := ["_law_one", "_law_other"]) (by kst_p1) rfl rfl fun _ _ _ _ _ _ C L nd => (@dss_cons _ _ _ _ _ _ _ _ _ _ (by kst_p) (@dss_cons _ _ _ _ _ _ _ _ _ _ (by kst_p) (@dss_cons _ _ _ _ _ _ _ _ _ _ (@ds_while _ _ _ _ _ _ _ _ _ L (@dt_cmp1 _ _ _ _ _ _ _ _ _ (@cf_gt _) (by walk_at "E") (@de_int _ _ _ _ _) (by first | exact nobehind _ (by decide) (by decide) | rfl)) (@dss_one _ _ _ _ _ _ _ (@ds_par _ _ _ _ _ 0 1 _ _ _ _ _ _ _ _ _ _ _ C.calm nd (by walk_at "E") (by decide) (by rfl) (by rfl) (by rfl) (by rfl) (by rfl) (by rfl) (by rfl)))) (by kd_p1))))
theorem ok__law_low (F : FA K mg "_law_low" (top 37) ["_law_top", "_law_bottom"] f fd) (q0 : FnAt P w K mg base k "_law_divisor" m_law_divisor) : FnAt P w K mg base (k + 1) "_law_low" m_law_low_v1 := F.ok (own' := []) (N := ["_law_top", "_law_bottom", "_law_share"]) (by kst_p1) rfl rfl fun _ _ _ _ _ _ C L nd => (@dss_cons _ _ _ _ _ _ _ _ _ _ (by kst_p) (@dss_cons _ _ _ _ _ _ _ _ _ _ (@ds_if _ _ _ _ _ _ _ _ _ _ _ _ (@dt_cmp1 _ _ _ _ _ _ _ _ _ (@cf_lt _) (by walk_at "E") (@de_int _ _ _ _ _) (by first | exact nobehind _ (by decide) (by decide) | rfl)) (@dss_one _ _ _ _ _ _ _ (by kst_p)) (@dss_nil _ _ _ _)) (by kd_p1)))
theorem ok__law_fraction (F : FA K mg "_law_fraction" (top 39) ["_law_cell_here", "_law_k"] f fd) (q0 : FnAt P w K mg base k "_law_digits" m_law_digits) (q1 : FnAt P w K mg base k "_law_low" m_law_low_v1) : FnAt P w K mg base (k + 1) "_law_fraction" m_law_fraction_v1 := F.ok (own' := []) (N := ["_law_cell_here", "_law_k", "_law_digits_here"]) (by kst_p1) rfl rfl fun _ _ _ _ _ _ C L nd => (@dss_cons _ _ _ _ _ _ _ _ _ _ (by kst_p) (@dss_cons _ _ _ _ _ _ _ _ _ _ (by kcj_m) (by kd_p1)))
theorem ok__law_leaf (F : FA K mg "_law_leaf" (top 32) ["_law_digits_here", "_law_names"] f fd) (q0 : mg "len" = none) : FnAt P w K mg base (k + 1) "_law_leaf" m_law_leaf := F.ok (own' := []) (N := ["_law_digits_here", "_law_names"]) (by kst_p1) rfl rfl fun _ _ _ _ _ _ C L nd => (@dss_cons _ _ _ _ _ _ _ _ _ _ (@ds_if _ _ _ _ _ _ _ _ _ _ _ _ (@dt_cmp1 _ _ _ _ _ _ _ _ _ (@cf_gt _) (by walk_at "E") (@de_int _ _ _ _ _) (by first | exact nobehind _ (by decide) (by decide) | rfl)) (by kd_p1) (@dss_nil _ _ _ _)) (by kd_p1))
theorem ok__law_tree (F : FA K mg "_law_tree" (top 33) ["_law_cells", "_law_names"] f fd) (q2 : mg "len" = none) (q0 : FnAt P w K mg base k "_law_digits" m_law_digits) (q1 : FnAt P w K mg base k "_law_leaf" m_law_leaf) : FnAt P w K mg base (k + 1) "_law_tree" m_law_tree := F.ok (own' := []) (N := ["_law_cells", "_law_names", "_law_stack", "_law_cell_here", "_law_digits_here", "_law_other"]) (by kst_p1) rfl rfl fun _ _ _ _ _ _ C L nd => (@dss_cons _ _ _ _ _ _ _ _ _ _ (by walk_at "s5") (@dss_cons _ _ _ _ _ _ _ _ _ _ (@ds_for _ _ _ _ _ _ _ _ _ _ _ _ L C.calm (by walk_at "E") (by walk_at "G") (@dss_cons _ _ _ _ _ _ _ _ _ _ (by walk_at "s1") (@dss_one _ _ _ _ _ _ _ (@ds_if _ _ _ _ _ _ _ _ _ _ _ _ (@DW.dt _ _ _ _ (@dw_and _ _ _ _ _ _ _ _ (@dt_cmp1 _ _ _ _ _ _ _ _ _ (@cf_gt _) (by walk_at "E") (@de_int _ _ _ _ _) (by first | exact nobehind _ (by decide) (by decide) | rfl)) (by walk_at "E"))) (@dss_cons _ _ _ _ _ _ _ _ _ _ (@ds_pop _ _ _ _ _ _ _ _ _ 2 5 _ _ nd (by rfl) (by rfl) (by rfl) (by rfl) (by first | exact Or.inl rfl | exact Or.inr (Or.inl rfl) | exact Or.inr (Or.inr rfl)) (by decide) (by decide) (by first | exact Or.inl rfl | exact Or.inr rfl) (by rfl) (by rfl) (by rfl) (by first | exact .inl rfl | exact .inr rfl | assumption)) (@dss_one _ _ _ _ _ _ _ (@ds_appPop _ _ _ _ _ _ _ _ _ _ _ _ _ 2 2 _ _ _ _ _ _ (by walk_at "E") (by walk_at "E") (by rfl) (by rfl) (by rfl) (by rfl) (by first | exact Or.inl rfl | exact Or.inr (Or.inl rfl) | exact Or.inr (Or.inr rfl)) (by decide) (by decide) (by first | exact Or.inl rfl | exact Or.inr (Or.inl rfl) | exact Or.inr (Or.inr rfl)) (by decide) (by decide) (by rfl) (by rfl) (by rfl) (by rfl) (by rfl) (by rfl) (by rfl) (by rfl) (by rfl) (by rfl) (by rfl)))) (@dss_one _ _ _ _ _ _ _ (by walk_at "s7"))))) (by rfl) (by intro _ ; rfl)) (@dss_cons _ _ _ _ _ _ _ _ _ _ (@ds_while _ _ _ _ _ _ _ _ _ L (@dt_cmp1 _ _ _ _ _ _ _ _ _ (@cf_gt _) (by walk_at "E") (@de_int _ _ _ _ _) (by first | exact nobehind _ (by decide) (by decide) | rfl)) (@dss_cons _ _ _ _ _ _ _ _ _ _ (@ds_pop _ _ _ _ _ _ _ _ _ 2 5 _ _ nd (by rfl) (by rfl) (by rfl) (by rfl) (by first | exact Or.inl rfl | exact Or.inr (Or.inl rfl) | exact Or.inr (Or.inr rfl)) (by decide) (by decide) (by first | exact Or.inl rfl | exact Or.inr rfl) (by rfl) (by rfl) (by rfl) (by first | exact .inl rfl | exact .inr rfl | assumption)) (@dss_one _ _ _ _ _ _ _ (@ds_appPopP _ _ _ _ _ _ _ _ _ _ _ _ _ 2 2 _ _ _ _ _ _ (by walk_at "E") (by walk_at "E") (by rfl) (by rfl) (by rfl) (by rfl) (by first | exact Or.inl rfl | exact Or.inr (Or.inl rfl) | exact Or.inr (Or.inr rfl)) (by decide) (by decide) (by first | exact Or.inl rfl | exact Or.inr (Or.inl rfl) | exact Or.inr (Or.inr rfl)) (by decide) (by decide) (by rfl) (by rfl) (by rfl) (by rfl) (by rfl) (by rfl) (by rfl) (by rfl) (by rfl) (by rfl) (by rfl))))) (@dss_rel _ _ _ _ _ _ _ _ 2 (by rfl) (by rfl) (by kd_p1)))))
theorem ok__law_deep (F : FA K mg "_law_deep" (top 35) ["_law_text"] f fd) (q0 : mg "int" = none) (q1 : mg "max" = none) : FnAt P w K mg base (k + 1) "_law_deep" m_law_deep := F.ok (own' := []) (N := ["_law_text", "_law_deep_here", "_law_most", "_law_sign"]) (by kst_p1) rfl rfl fun _ _ _ _ _ _ C L nd => (@dss_cons _ _ _ _ _ _ _ _ _ _ (by kst_p) (@dss_cons _ _ _ _ _ _ _ _ _ _ (by kst_p) (@dss_cons _ _ _ _ _ _ _ _ _ _ (@ds_for _ _ _ _ _ _ _ _ _ _ _ _ L C.calm (by walk_at "E") (by walk_at "G") (@dss_cons _ _ _ _ _ _ _ _ _ _ (by kst_p) (@dss_one _ _ _ _ _ _ _ (by kst_p))) (by rfl) (by intro _ ; rfl)) (by kd_p1))))
theorem ok__law_part (F : FA K mg "_law_part" (top 34) ["_law_tree_here", "_law_least"] f fd) (q0 : mg "str" = none) (q1 : mg "int" = none) : FnAt P w K mg base (k + 1 + 64) "_law_part" m_law_part := show FnAt P w K mg base (k + 1 + 64) "_law_part" (recM (fun m => fnM 2 4 (b_law_part m)) 64) from F.deep (own' := []) (N := ["_law_tree_here", "_law_least", "_law_close", "_law_text"]) (by kst_p1) rfl rfl (fun j m F__law_part _ _ _ _ _ _ C L nd => (@dss_cons _ _ _ _ _ _ _ _ _ _ (by kcj_m) (@dss_cons _ _ _ _ _ _ _ _ _ _ (by kcj_m) (@dss_cons _ _ _ _ _ _ _ _ _ _ (by kst_p) (@dss_cons _ _ _ _ _ _ _ _ _ _ (by kst_p) (@dss_cons _ _ _ _ _ _ _ _ _ _ (@ds_if _ _ _ _ _ _ _ _ _ _ _ _ (@dt_cmp1 _ _ _ _ _ _ _ _ _ (@cf_lt _) (by walk_at "E") (by walk_at "E") (by first | exact nobehind _ (by decide) (by decide) | rfl)) (by kd_p1) (@dss_nil _ _ _ _)) (by kd_p1))))))) 64
theorem ok__law_shallow (F : FA K mg "_law_shallow" (top 36) ["_law_cells", "_law_names"] f fd) (q3 : mg "len" = none) (q0 : FnAt P w K mg base k "_law_tree" m_law_tree) (q1 : FnAt P w K mg base k "_law_deep" m_law_deep) (q2 : FnAt P w K mg base k "_law_part" m_law_part) : FnAt P w K mg base (k + 1) "_law_shallow" m_law_shallow := F.ok (own' := []) (N := ["_law_cells", "_law_names", "_law_tree_here"]) (by kst_p1) rfl rfl fun _ _ _ _ _ _ C L nd => (@dss_cons _ _ _ _ _ _ _ _ _ _ (by kst_p) (@dss_cons _ _ _ _ _ _ _ _ _ _ (@ds_while _ _ _ _ _ _ _ _ _ L (@dt_cmp1 _ _ _ _ _ _ _ _ _ (@cf_gt _) (by walk_at "E") (@de_int _ _ _ _ _) (by first | exact nobehind _ (by decide) (by decide) | rfl)) (@dss_cons _ _ _ _ _ _ _ _ _ _ (by kst_p) (@dss_one _ _ _ _ _ _ _ (by kst_p)))) (by kd_p1)))
theorem ok__law_worth (F : FA K mg "_law_worth" (top 38) ["_law_tree_here", "_law_values"] f fd) (q0 : FnAt P w K mg base k "_law_low" m_law_low_v1) : FnAt P w K mg base (k + 1 + 64) "_law_worth" m_law_worth := show FnAt P w K mg base (k + 1 + 64) "_law_worth" (recM (fun m => fnM 2 4 (b_law_worth m)) 64) from F.deep (own' := []) (N := ["_law_tree_here", "_law_values", "_law_one", "_law_other"]) (by kst_p1) rfl rfl (fun j m F__law_worth _ _ _ _ _ _ C L nd => have q0 := FnAt.mono q0 (show k <= k + 1 + j by omega); (@dss_cons _ _ _ _ _ _ _ _ _ _ (by kcj_m) (@dss_cons _ _ _ _ _ _ _ _ _ _ (by kcj_m) (@dss_cons _ _ _ _ _ _ _ _ _ _ (by kst_p) (@dss_cons _ _ _ _ _ _ _ _ _ _ (by kst_p) (@dss_cons _ _ _ _ _ _ _ _ _ _ (@ds_if _ _ _ _ _ _ _ _ _ _ _ _ (@DW.dt _ _ _ _ (@dw_or _ _ _ _ _ _ _ _ (@dt_cmp1 _ _ _ _ _ _ _ _ _ (@cf_is _) (by walk_at "E") (@de_non _ _ _ _) (by first | exact nobehind _ (by decide) (by decide) | rfl)) (@dw_or _ _ _ _ _ _ _ _ (@dt_cmp1 _ _ _ _ _ _ _ _ _ (@cf_is _) (by walk_at "E") (@de_non _ _ _ _) (by first | exact nobehind _ (by decide) (by decide) | rfl)) (by walk_at "E")))) (by kd_p1) (@dss_nil _ _ _ _)) (@dss_cons _ _ _ _ _ _ _ _ _ _ (by kcj_m) (@dss_cons _ _ _ _ _ _ _ _ _ _ (by kcj_m) (@dss_cons _ _ _ _ _ _ _ _ _ _ (by kcj_m) (by kd_p1)))))))))) 64
theorem ok_parts_of (F : FA K mg "parts_of" (top 21) ["expression"] f fd) (q1 : mg "len" = none) (q0 : ∃ u v, mg "SIGNS" = some u /\ RelV v u /\ ∀ G, Rep K mg G k_SIGNS v) : FnAt P w K mg base (k + 1) "parts_of" m_parts_of := F.ok (own' := []) (N := ["expression", "parts", "waiting", "part"]) (by kst_p1) rfl rfl fun _ _ _ _ _ _ C L nd => (@dss_cons _ _ _ _ _ _ _ _ _ _ (by walk_at "s5") (@dss_cons _ _ _ _ _ _ _ _ _ _ (by walk_at "s5") (@dss_cons _ _ _ _ _ _ _ _ _ _ (@ds_while _ _ _ _ _ _ _ _ _ L (@dt_cmp1 _ _ _ _ _ _ _ _ _ (@cf_gt _) (by walk_at "E") (@de_int _ _ _ _ _) (by first | exact nobehind _ (by decide) (by decide) | rfl)) (@dss_cons _ _ _ _ _ _ _ _ _ _ (@ds_pop _ _ _ _ _ _ _ _ _ 2 3 _ _ nd (by rfl) (by rfl) (by rfl) (by rfl) (by first | exact Or.inl rfl | exact Or.inr (Or.inl rfl) | exact Or.inr (Or.inr rfl)) (by decide) (by decide) (by first | exact Or.inl rfl | exact Or.inr rfl) (by rfl) (by rfl) (by rfl) (by first | exact .inl rfl | exact .inr rfl | assumption)) (@dss_cons _ _ _ _ _ _ _ _ _ _ (by walk_at "s7") (@dss_one _ _ _ _ _ _ _ (@ds_if _ _ _ _ _ _ _ _ _ _ _ _ (by walk_at "E") (@dss_one _ _ _ _ _ _ _ (by walk_at "sU")) (@dss_nil _ _ _ _)))))) (@dss_rel _ _ _ _ _ _ _ _ 2 (by rfl) (by rfl) (@dss_cons _ _ _ _ _ _ _ _ _ _ (@ds_rev _ _ _ _ _ _ _ 1 _ _ (by rfl) (by rfl) (by first | exact Or.inl rfl | exact Or.inr (Or.inl rfl) | exact Or.inr (Or.inr rfl)) (by decide) (by decide) (by rfl) (by rfl) (by rfl)) (@dss_rel _ _ _ _ _ _ _ _ 1 (by rfl) (by rfl) (by kd_p1)))))))
theorem ok_divisor (F : FA K mg "divisor" (top 18) ["one", "other"] f fd) (q0 : mg "abs" = none) : FnAt P w K mg base (k + 1) "divisor" m_divisor := F.ok (own' := []) (N := ["one", "other", "rest"]) (by kst_p1) rfl rfl fun _ _ _ _ _ _ C L nd => (@dss_cons _ _ _ _ _ _ _ _ _ _ (by kst_p) (@dss_cons _ _ _ _ _ _ _ _ _ _ (by kst_p) (@dss_cons _ _ _ _ _ _ _ _ _ _ (@ds_while _ _ _ _ _ _ _ _ _ L (by walk_at "E") (@dss_cons _ _ _ _ _ _ _ _ _ _ (by kst_p) (@dss_cons _ _ _ _ _ _ _ _ _ _ (by kst_p) (@dss_one _ _ _ _ _ _ _ (by kst_p))))) (by kd_p1))))
theorem ok_fraction (F : FA K mg "fraction" (top 24) ["top", "bottom"] f fd) (q0 : FnAt P w K mg base k "divisor" m_divisor) : FnAt P w K mg base (k + 1) "fraction" m_fraction := F.ok (own' := []) (N := ["top", "bottom", "part"]) (by kst_p1) rfl rfl fun _ _ _ _ _ _ C L nd => (@dss_cons _ _ _ _ _ _ _ _ _ _ (by kst_p) (@dss_cons _ _ _ _ _ _ _ _ _ _ (@ds_if _ _ _ _ _ _ _ _ _ _ _ _ (@dt_cmp1 _ _ _ _ _ _ _ _ _ (@cf_lt _) (by walk_at "E") (@de_int _ _ _ _ _) (by first | exact nobehind _ (by decide) (by decide) | rfl)) (@dss_one _ _ _ _ _ _ _ (by kst_p)) (@dss_nil _ _ _ _)) (by kd_p1)))
theorem ok_reckoned (F : FA K mg "reckoned" (top 23) ["sign", "one", "other"] f fd) {q1 : Addr} (q2 : mg "NoValue" = some (.ref q1)) (q3 : PySem.W.excIn K q1 [.type "ValueError", .type "Exception", .type "BaseException", .type "object"] "ValueError.__new__" = true) (q4 : XcOk K mg "NoValue" q1) (q0 : FnAt P w K mg base k "fraction" m_fraction) : FnAt P w K mg base (k + 1) "reckoned" m_reckoned := F.ok (own' := []) (N := ["sign", "one", "other"]) (by kst_p1) rfl rfl fun _ _ _ _ _ _ C L nd => (@dss_cons _ _ _ _ _ _ _ _ _ _ (by kcj_m) (@dss_cons _ _ _ _ _ _ _ _ _ _ (by kcj_m) (@dss_cons _ _ _ _ _ _ _ _ _ _ (by kcj_m) (@dss_cons _ _ _ _ _ _ _ _ _ _ (@ds_if _ _ _ _ _ _ _ _ _ _ _ _ (by walk_at "E") (@dss_one _ _ _ _ _ _ _ (@ds_raise1 _ _ _ _ _ _ _ _ _ _ _ _ _ _ _ _ _ _ _ _ _ _ _ _ _ _ q3 q4 (by rfl) (by decide))) (@dss_nil _ _ _ _)) (by kd_p1)))))
theorem ok_value (F : FA K mg "value" (top 22) ["expression", "values"] f fd) {q3 : Addr} (q4 : mg "NoValue" = some (.ref q3)) (q5 : PySem.W.excIn K q3 [.type "ValueError", .type "Exception", .type "BaseException", .type "object"] "ValueError.__new__" = true) (q6 : XcOk K mg "NoValue" q3) (q0 : ∃ u v, mg "SIGNS" = some u /\ RelV v u /\ ∀ G, Rep K mg G k_SIGNS v) (q1 : FnAt P w K mg base k "parts_of" m_parts_of) (q2 : FnAt P w K mg base k "reckoned" m_reckoned) : FnAt P w K mg base (k + 1) "value" m_value := F.ok (own' := []) (N := ["expression", "values", "done", "part", "other", "one"]) (by kst_p1) rfl rfl fun _ _ _ _ _ _ C L nd => (@dss_cons _ _ _ _ _ _ _ _ _ _ (by walk_at "s5") (@dss_cons _ _ _ _ _ _ _ _ _ _ (@ds_for _ _ _ _ _ _ _ _ _ _ _ _ L C.calm (by walk_at "E") (by walk_at "G") (@dss_one _ _ _ _ _ _ _ (@ds_if _ _ _ _ _ _ _ _ _ _ _ _ (by walk_at "E") (@dss_cons _ _ _ _ _ _ _ _ _ _ (@ds_pop _ _ _ _ _ _ _ _ _ 2 4 _ _ nd (by rfl) (by rfl) (by rfl) (by rfl) (by first | exact Or.inl rfl | exact Or.inr (Or.inl rfl) | exact Or.inr (Or.inr rfl)) (by decide) (by decide) (by first | exact Or.inl rfl | exact Or.inr rfl) (by rfl) (by rfl) (by rfl) (by first | exact .inl rfl | exact .inr rfl | assumption)) (@dss_cons _ _ _ _ _ _ _ _ _ _ (@ds_pop _ _ _ _ _ _ _ _ _ 2 5 _ _ nd (by rfl) (by rfl) (by rfl) (by rfl) (by first | exact Or.inl rfl | exact Or.inr (Or.inl rfl) | exact Or.inr (Or.inr rfl)) (by decide) (by decide) (by first | exact Or.inl rfl | exact Or.inr rfl) (by rfl) (by rfl) (by rfl) (by first | exact .inl rfl | exact .inr rfl | assumption)) (@dss_one _ _ _ _ _ _ _ (by walk_at "s7")))) (@dss_one _ _ _ _ _ _ _ (@ds_if _ _ _ _ _ _ _ _ _ _ _ _ (by walk_at "E") (@dss_one _ _ _ _ _ _ _ (by walk_at "s7")) (@dss_one _ _ _ _ _ _ _ (@ds_if _ _ _ _ _ _ _ _ _ _ _ _ (by walk_at "E") (@dss_one _ _ _ _ _ _ _ (by walk_at "s7")) (@dss_one _ _ _ _ _ _ _ (@ds_raise1 _ _ _ _ _ _ _ _ _ _ _ _ _ _ _ _ _ _ _ _ _ _ _ _ _ _ q5 q6 (by rfl) (by decide))))))))) (by rfl) (by intro _ ; rfl)) (@dss_rel _ _ _ _ _ _ _ _ 2 (by rfl) (by rfl) (by kd_p1))))
theorem ok__law_alone (F : FA K mg "_law_alone" (top 40) ["_law_error"] f fd) {q6 : Addr} (q7 : mg "NoPlace" = some (.ref q6)) {q32 : Addr} (q33 : mg "Same" = some (.ref q32)) {q8 : Addr} (q9 : mg "NoFloor" = some (.ref q8)) {q10 : Addr} (q11 : mg "Endless" = some (.ref q10)) {q20 : Addr} (q21 : mg "NoDeed" = some (.ref q20)) {q22 : Addr} (q23 : mg "NoText" = some (.ref q22)) {q24 : Addr} (q25 : mg "NoName" = some (.ref q24)) {q12 : Addr} (q13 : mg "TooMany" = some (.ref q12)) {q4 : Addr} (q5 : mg "NoChange" = some (.ref q4)) {q14 : Addr} (q15 : mg "NoFrame" = some (.ref q14)) {q16 : Addr} (q17 : mg "NoValue" = some (.ref q16)) {q26 : Addr} (q27 : mg "Unlike" = some (.ref q26)) {q18 : Addr} (q19 : mg "NoRatio" = some (.ref q18)) {q28 : Addr} (q29 : mg "NoBow" = some (.ref q28)) {q30 : Addr} (q31 : mg "NoRow" = some (.ref q30)) {q0 : Addr} (q1 : mg "ChalkError" = some (.ref q0)) (q34 : mg "int" = none) (q2 : mg "isinstance" = none) (q3 : mg "ValueError" = none) : FnAt P w K mg base (k + 1) "_law_alone" m_law_alone := F.ok (own' := []) (N := ["_law_error", "_law_many"]) (by kst_p1) rfl rfl fun _ _ _ _ _ _ C L nd => (@dss_cons _ _ _ _ _ _ _ _ _ _ (by kst_p) (@dss_cons _ _ _ _ _ _ _ _ _ _ (by kst_p) (@dss_cons _ _ _ _ _ _ _ _ _ _ (by kst_p) (@dss_cons _ _ _ _ _ _ _ _ _ _ (by kst_p) (@dss_cons _ _ _ _ _ _ _ _ _ _ (by kst_p) (@dss_one _ _ _ _ _ _ _ (@ds_ret _ _ _ _ _ _ _ _ (@de_and _ _ _ _ _ _ _ _ (by walk_at "E") (@de_and _ _ _ _ _ _ _ _ (by walk_at "E") (@de_one _ _ _ _ _ _ (@de_isi _ _ _ _ _ _ _ q2 (@da_cons _ _ _ _ _ _ (by walk_at "E") (@da_cons _ _ _ _ _ _ (@de_ty _ _ _ _ _ q3 bt_ValueError (by rfl) (by decide) (by decide)) (@da_nil _ _) (by rfl)) (by rfl)) (by rfl) (by rfl) (by rfl))))))))))))
theorem ok__law_refused (F : FA K mg "_law_refused" (top 41) ["_law_tree_here", "_law_values"] f fd) {q0 : Addr} (q1 : mg "ChalkError" = some (.ref q0)) {q4 : Addr} (q5 : mg "NoValue" = some (.ref q4)) (q2 : mg "isinstance" = none) (q6 : FnAt P w K mg base k "value" m_value) (q3 : FnAt P w K mg base k "_law_alone" m_law_alone) : FnAt P w K mg base (k + 1) "_law_refused" m_law_refused_v15 := F.ok (own' := []) (N := ["_law_tree_here", "_law_values", "_law_kept", "_law_error"]) (by kst_p1) rfl rfl fun _ _ _ _ _ _ C L nd => (@dss_cons _ _ _ _ _ _ _ _ _ _ (by kst_p) (@dss_cons _ _ _ _ _ _ _ _ _ _ (@ds_try _ _ _ _ 3 _ _ _ _ _ _ _ _ _ rfl rfl nd q1 (@dsxs_one _ _ _ (@dsx_call _ _ _ _ _ _ _ _ _ _ C.room q6 (by walk_at "E") (by rfl) (by decide) (by rfl) (by rfl) (by rfl))) (fun _ => (@dss_one _ _ _ _ _ _ _ (by kst_p))) (by rfl) (by rfl) (by rfl) (by decide)) (@dss_one _ _ _ _ _ _ _ (@ds_ret _ _ _ _ _ _ _ _ (@de_and _ _ _ _ _ _ _ _ (@de_cmp1 _ _ _ _ _ _ _ _ _ (@cf_isn _) (by walk_at "E") (@de_non _ _ _ _) (by first | exact nobehind _ (by decide) (by decide) | rfl)) (by walk_at "E"))))))
theorem ok__law_whole (F : FA K mg "_law_whole" (top 27) ["_law_found"] f fd) (q0 : mg "isinstance" = none) (q2 : mg "int" = none) (q1 : mg "bool" = none) : FnAt P w K mg base (k + 1) "_law_whole" m_law_whole := F.ok (own' := []) (N := ["_law_found"]) (by kst_p1) rfl rfl fun _ _ _ _ _ _ C L nd => (@dss_one _ _ _ _ _ _ _ (@ds_ret _ _ _ _ _ _ _ _ (@de_and _ _ _ _ _ _ _ _ (@de_isi _ _ _ _ _ _ _ q0 (@da_cons _ _ _ _ _ _ (by walk_at "E") (@da_cons _ _ _ _ _ _ (@de_ty _ _ _ _ _ q2 bt_int (by rfl) (by decide) (by decide)) (@da_nil _ _) (by rfl)) (by rfl)) (by rfl) (by rfl) (by rfl)) (@de_one _ _ _ _ _ _ (@de_not _ _ _ _ _ (@de_isi _ _ _ _ _ _ _ q0 (@da_cons _ _ _ _ _ _ (by walk_at "E") (@da_cons _ _ _ _ _ _ (@de_ty _ _ _ _ _ q1 bt_bool (by rfl) (by decide) (by decide)) (@da_nil _ _) (by rfl)) (by rfl)) (by rfl) (by rfl) (by rfl)))))))
abbrev s_law : Stmt := top 42
theorem sc_law : FnScope ["_law_script", "_law_names", "_law_values", "_law_k", "_law_many", "_law_tree_here", "_law_due", "_law_handed", "_law_found"] ["_law_script"] (defScope s_law) := by kst_p1
theorem ok_law (F : Fun K "law" "law" s_law f fd) (q9 : mg "range" = none) (q12 : mg "dict" = none) (q4 : mg "isinstance" = none) (q10 : mg "tuple" = none) (q13 : mg "len" = none) (q5 : FnAt P w K mg base k "_law_words" m_law_words) (q8 : FnAt P w K mg base k "_law_cell" m_law_cell) (q0 : FnAt P w K mg base k "_law_fraction" m_law_fraction_v1) (q3 : FnAt P w K mg base k "_law_digits" m_law_digits) (q1 : FnAt P w K mg base k "_law_shallow" m_law_shallow) (q6 : FnAt P w K mg base k "_law_worth" m_law_worth) (q2 : FnAt P w K mg base k "_law_refused" m_law_refused_v15) (q11 : FnAt P w K mg base k "value" m_value) (q7 : FnAt P w K mg base k "_law_whole" m_law_whole) : FnOk P w K mg base (CXe P w) (k + 1) f fd ["_law_script"] (spD K mg m_law_v44) := by
  refine fnOk_mk (own' := []) F sc_law rfl rfl fun X E hX C L => ?_
  obtain ⟨cdv, A, outer, s, H, rfl⟩ := hX
  have nd := sc_law.nd
  exact (@dss_cons _ _ _ _ _ _ _ _ _ _ (by kst_p) (@dss_dictK _ _ _ _ _ _ _ 2 _ _ _ nd (@dko_cons _ _ _ _ _ _ _ _ _ (@dk_for _ _ _ _ _ _ 3 _ _ _ _ L C.calm (by walk_at "E") (by walk_at "G") (@dks_one _ _ _ _ _ (@dk_put _ _ _ _ _ 2 _ _ _ _ _ _ C (by walk_at "E") (by walk_at "E") (by rfl) (by first | exact Or.inl rfl | exact Or.inr (Or.inl rfl) | exact Or.inr (Or.inr rfl)) (by decide) (by decide) (by rfl))) (by rfl) (by intro _ ; rfl)) (@dko_cons _ _ _ _ _ _ _ _ _ (@dk_if _ _ _ _ _ _ _ _ _ _ (by walk_at "E") (@dks_one _ _ _ _ _ (@dk_pop _ _ _ _ _ 2 _ _ _ _ (by walk_at "E") (by rfl) (by first | exact Or.inl rfl | exact Or.inr (Or.inl rfl) | exact Or.inr (Or.inr rfl)) (by decide) (by decide) (by rfl) (by rfl) (by rfl) (by rfl) (by rfl))) (@dks_nil _ _ _)) (@dko_end _ _ _ _ _ _ _ (@dss_cons _ _ _ _ _ _ _ _ _ _ (@ds_for _ _ _ _ _ _ _ _ _ _ _ _ L C.calm (by walk_at "E") (by walk_at "G") (@dss_cons _ _ _ _ _ _ _ _ _ _ (by kst_p) (@dss_cons _ _ _ _ _ _ _ _ _ _ (by kst_p) (@dss_cons _ _ _ _ _ _ _ _ _ _ (by kst_p) (@dss_cons _ _ _ _ _ _ _ _ _ _ (@ds_if _ _ _ _ _ _ _ _ _ _ _ _ (@dt_cmp1 _ _ _ _ _ _ _ _ _ (@cf_is _) (by walk_at "E") (@de_non _ _ _ _) (by first | exact nobehind _ (by decide) (by decide) | rfl)) (@dss_one _ _ _ _ _ _ _ (by kcj_m)) (@dss_cons _ _ _ _ _ _ _ _ _ _ (by kst_p) (@dss_cons _ _ _ _ _ _ _ _ _ _ (@ds_if _ _ _ _ _ _ _ _ _ _ _ _ (@DW.dt _ _ _ _ (@dw_or _ _ _ _ _ _ _ _ (@dt_not _ _ _ _ _ (@dt_val _ _ _ _ (@de_isi _ _ _ _ _ _ _ q4 (@da_cons _ _ _ _ _ _ (by walk_at "E") (@da_cons _ _ _ _ _ _ (@de_ty _ _ _ _ _ q10 bt_tuple (by rfl) (by decide) (by decide)) (@da_nil _ _) (by rfl)) (by rfl)) (by rfl) (by rfl) (by rfl)) (by intro _ ; rfl))) (by walk_at "E"))) (by kd_p1) (@dss_nil _ _ _ _)) (@dss_one _ _ _ _ _ _ _ (by kcj_m))))) (@dss_one _ _ _ _ _ _ _ (by kcj_m)))))) (by rfl) (by intro _ ; rfl)) (by kd_p1))))) (by rfl) (by first | exact Or.inl rfl | exact Or.inr rfl) (by rfl) (by first | exact .inl rfl | exact .inr rfl | assumption)))
set_option maxHeartbeats 4000000 in
theorem all_mk {l : PySem.W.OpenLaw} {w : World} {K : xFg} {h : Heap} {mg : Str -> Option Value} {fa f21 : Addr} (X : K.In h) (G : h.Ns mainGlobals mg) (hfa : mg "law" = some (.ref fa))
    {od21 an21 : Option Addr} {sl21 : Array (Option Value)} {oc21 kV21 dc21 pm21 cd21 ct21 : Value}
    {C_ChalkError C_NoPlace C_Same C_NoFloor C_Endless C_NoDeed C_NoText C_NoName C_TooMany C_NoChange C_NoFrame C_Unlike C_NoRatio C_NoBow C_NoRow : Addr}
    (d0 : FD K "_law_mixed" (top 28))
    (d1 : FD K "_law_digits" (top 29))
    (d2 : FD K "_law_words" (top 31))
    (d3 : FD K "_law_cell" (top 26))
    (d4 : FD K "_law_divisor" (top 30))
    (d5 : FD K "_law_low" (top 37))
    (d6 : FD K "_law_fraction" (top 39))
    (d7 : FD K "_law_leaf" (top 32))
    (d8 : FD K "_law_tree" (top 33))
    (d9 : FD K "_law_deep" (top 35))
    (d10 : FD K "_law_part" (top 34))
    (d11 : FD K "_law_shallow" (top 36))
    (d12 : FD K "_law_worth" (top 38))
    (d13 : FD K "parts_of" (top 21))
    (d14 : FD K "divisor" (top 18))
    (d15 : FD K "fraction" (top 24))
    (d16 : FD K "reckoned" (top 23))
    (d17 : FD K "value" (top 22))
    (d18 : FD K "_law_alone" (top 40))
    (d19 : FD K "_law_refused" (top 41))
    (d20 : FD K "_law_whole" (top 27))
    (a21 : PySem.W.nsIn K mainGlobals "law" = some (some (.ref f21))) (l21 : K.lookup f21 = some ⟨oc21, od21, .func (PySem.W.fnOf "law" "law" (defArgs s_law) (defBody s_law) (defScope s_law) .none kV21 dc21 pm21 an21 cd21 ct21), sl21⟩) (c21 : PySem.W.codeIn K cd21 "law" = true) (k21 : PySem.W.keepIn K (.ref f21) = true)
    (xd_NoValue : XD K "NoValue")
    (z_range : PySem.W.nsIn K mainGlobals "range" = some none)
    (z_len : PySem.W.nsIn K mainGlobals "len" = some none)
    (z_abs : PySem.W.nsIn K mainGlobals "abs" = some none)
    (z_int : PySem.W.nsIn K mainGlobals "int" = some none)
    (z_max : PySem.W.nsIn K mainGlobals "max" = some none)
    (z_str : PySem.W.nsIn K mainGlobals "str" = some none)
    (z_isinstance : PySem.W.nsIn K mainGlobals "isinstance" = some none)
    (z_ValueError : PySem.W.nsIn K mainGlobals "ValueError" = some none)
    (z_bool : PySem.W.nsIn K mainGlobals "bool" = some none)
    (z_dict : PySem.W.nsIn K mainGlobals "dict" = some none)
    (z_tuple : PySem.W.nsIn K mainGlobals "tuple" = some none)
    (e_ChalkError : PySem.W.nsIn K mainGlobals "ChalkError" = some (some (.ref C_ChalkError)))
    (e_NoPlace : PySem.W.nsIn K mainGlobals "NoPlace" = some (some (.ref C_NoPlace)))
    (e_Same : PySem.W.nsIn K mainGlobals "Same" = some (some (.ref C_Same)))
    (e_NoFloor : PySem.W.nsIn K mainGlobals "NoFloor" = some (some (.ref C_NoFloor)))
    (e_Endless : PySem.W.nsIn K mainGlobals "Endless" = some (some (.ref C_Endless)))
    (e_NoDeed : PySem.W.nsIn K mainGlobals "NoDeed" = some (some (.ref C_NoDeed)))
    (e_NoText : PySem.W.nsIn K mainGlobals "NoText" = some (some (.ref C_NoText)))
    (e_NoName : PySem.W.nsIn K mainGlobals "NoName" = some (some (.ref C_NoName)))
    (e_TooMany : PySem.W.nsIn K mainGlobals "TooMany" = some (some (.ref C_TooMany)))
    (e_NoChange : PySem.W.nsIn K mainGlobals "NoChange" = some (some (.ref C_NoChange)))
    (e_NoFrame : PySem.W.nsIn K mainGlobals "NoFrame" = some (some (.ref C_NoFrame)))
    (e_Unlike : PySem.W.nsIn K mainGlobals "Unlike" = some (some (.ref C_Unlike)))
    (e_NoRatio : PySem.W.nsIn K mainGlobals "NoRatio" = some (some (.ref C_NoRatio)))
    (e_NoBow : PySem.W.nsIn K mainGlobals "NoBow" = some (some (.ref C_NoBow)))
    (e_NoRow : PySem.W.nsIn K mainGlobals "NoRow" = some (some (.ref C_NoRow)))
    {a_SIGNS : Addr} {t0_SIGNS t1_SIGNS t2_SIGNS t3_SIGNS : Tok} {n_SIGNS : Nat} {sl_SIGNS : Array (Option Value)} (q_SIGNS : PySem.W.nsIn K mainGlobals "SIGNS" = some (some (.ref a_SIGNS))) (lq_SIGNS : K.lookup a_SIGNS = some ⟨.type "tuple", none, .seq #[.str "+" t0_SIGNS, .str "-" t1_SIGNS, .str "*" t2_SIGNS, .str "/" t3_SIGNS] n_SIGNS, sl_SIGNS⟩)
    (hlaw : ∀ ns : List Int, ns.length <= 63 -> m_law_v44 [.lst (ns.map .int)] = .ok (.bl true))
    : ∃ fd : FuncData, (∀ (s : Shared) (v : Value), BindsTo s fd ⟨[v], []⟩ [("_law_script", v)]) /\ ∀ base : Heap, K.In base -> base.Ns mainGlobals mg -> FnOk l.prog w K mg base (CXe l.prog w) 68 fa fd ["_law_script"] (spLaw K) := by
  have e := hfa.symm.trans (xax X G a21)
  cases e
  obtain ⟨f0, v0, F0⟩ := d0.go X G ["_law_cell_here", "_law_k"] (by kpf_c)
  obtain ⟨f1, v1, F1⟩ := d1.go X G ["_law_cell_here", "_law_many"] (by kpf_c)
  obtain ⟨f2, v2, F2⟩ := d2.go X G ["_law_cell_here", "_law_many"] (by kpf_c)
  obtain ⟨f3, v3, F3⟩ := d3.go X G ["_law_script", "_law_k"] (by kpf_c)
  obtain ⟨f4, v4, F4⟩ := d4.go X G ["_law_one", "_law_other"] (by kpf_c)
  obtain ⟨f5, v5, F5⟩ := d5.go X G ["_law_top", "_law_bottom"] (by kpf_c)
  obtain ⟨f6, v6, F6⟩ := d6.go X G ["_law_cell_here", "_law_k"] (by kpf_c)
  obtain ⟨f7, v7, F7⟩ := d7.go X G ["_law_digits_here", "_law_names"] (by kpf_c)
  obtain ⟨f8, v8, F8⟩ := d8.go X G ["_law_cells", "_law_names"] (by kpf_c)
  obtain ⟨f9, v9, F9⟩ := d9.go X G ["_law_text"] (by walk_at "b1")
  obtain ⟨f10, v10, F10⟩ := d10.go X G ["_law_tree_here", "_law_least"] (by kpf_c)
  obtain ⟨f11, v11, F11⟩ := d11.go X G ["_law_cells", "_law_names"] (by kpf_c)
  obtain ⟨f12, v12, F12⟩ := d12.go X G ["_law_tree_here", "_law_values"] (by kpf_c)
  obtain ⟨f13, v13, F13⟩ := d13.go X G ["expression"] (by walk_at "b1")
  obtain ⟨f14, v14, F14⟩ := d14.go X G ["one", "other"] (by kpf_c)
  obtain ⟨f15, v15, F15⟩ := d15.go X G ["top", "bottom"] (by kpf_c)
  obtain ⟨f16, v16, F16⟩ := d16.go X G ["sign", "one", "other"] (by walk_at "b3")
  obtain ⟨f17, v17, F17⟩ := d17.go X G ["expression", "values"] (by kpf_c)
  obtain ⟨f18, v18, F18⟩ := d18.go X G ["_law_error"] (by walk_at "b1")
  obtain ⟨f19, v19, F19⟩ := d19.go X G ["_law_tree_here", "_law_values"] (by kpf_c)
  obtain ⟨f20, v20, F20⟩ := d20.go X G ["_law_found"] (by walk_at "b1")
  have F21 := fun_mk (st := s_law) l21 c21 k21
  have m21 := xax X G a21
  obtain ⟨C_NoValue, c_NoValue, y_NoValue, x_NoValue⟩ := xd_NoValue.go X G
  have n_range := xa7 X G z_range
  have n_len := xa7 X G z_len
  have n_abs := xa7 X G z_abs
  have n_int := xa7 X G z_int
  have n_max := xa7 X G z_max
  have n_str := xa7 X G z_str
  have n_isinstance := xa7 X G z_isinstance
  have n_ValueError := xa7 X G z_ValueError
  have n_bool := xa7 X G z_bool
  have n_dict := xa7 X G z_dict
  have n_tuple := xa7 X G z_tuple
  have c_ChalkError := xax X G e_ChalkError
  have c_NoPlace := xax X G e_NoPlace
  have c_Same := xax X G e_Same
  have c_NoFloor := xax X G e_NoFloor
  have c_Endless := xax X G e_Endless
  have c_NoDeed := xax X G e_NoDeed
  have c_NoText := xax X G e_NoText
  have c_NoName := xax X G e_NoName
  have c_TooMany := xax X G e_TooMany
  have c_NoChange := xax X G e_NoChange
  have c_NoFrame := xax X G e_NoFrame
  have c_Unlike := xax X G e_Unlike
  have c_NoRatio := xax X G e_NoRatio
  have c_NoBow := xax X G e_NoBow
  have c_NoRow := xax X G e_NoRow
  refine ⟨PySem.W.fnOf "law" "law" (defArgs s_law) (defBody s_law) (defScope s_law) .none kV21 dc21 pm21 an21 cd21 ct21, fun s v => .of_eq rfl, fun base _ _ => ?_⟩
  have k_SIGNS_is : ∃ u v, mg "SIGNS" = some u /\ RelV v u /\ ∀ G, Rep K mg G k_SIGNS v := ⟨_, .ref a_SIGNS, xax X G q_SIGNS, rfl, fun _ => rep_ktup (l := [("+", t0_SIGNS), ("-", t1_SIGNS), ("*", t2_SIGNS), ("/", t3_SIGNS)]) lq_SIGNS rfl (show 4 <= 100 by decide)⟩
  have G0 : FnAt l.prog w K mg base 1 "_law_mixed" m_law_mixed := ok__law_mixed (k := 0) F0
  have G1 := ok__law_digits (k := 1) F1 n_range G0
  have G2 := ok__law_words (k := 2) F2 n_range G1
  have G3 : FnAt l.prog w K mg base 1 "_law_cell" m_law_cell := ok__law_cell (k := 0) F3 n_len
  have G4 : FnAt l.prog w K mg base 1 "_law_divisor" m_law_divisor := ok__law_divisor (k := 0) F4 n_abs
  have G5 := ok__law_low (k := 1) F5 G4
  have G6 := ok__law_fraction (k := 2) F6 G1 G5
  have G7 : FnAt l.prog w K mg base 1 "_law_leaf" m_law_leaf := ok__law_leaf (k := 0) F7 n_len
  have G8 := ok__law_tree (k := 2) F8 n_len G1 (G7.mono (by decide : 1 <= 2))
  have G9 : FnAt l.prog w K mg base 1 "_law_deep" m_law_deep := ok__law_deep (k := 0) F9 n_int n_max
  have G10 : FnAt l.prog w K mg base 65 "_law_part" m_law_part := ok__law_part (k := 0) F10 n_str n_int
  have G11 := ok__law_shallow (k := 65) F11 n_len (G8.mono (by decide : 3 <= 65)) (G9.mono (by decide : 1 <= 65)) G10
  have G12 := ok__law_worth (k := 2) F12 G5
  have G13 : FnAt l.prog w K mg base 1 "parts_of" m_parts_of := ok_parts_of (k := 0) F13 n_len k_SIGNS_is
  have G14 : FnAt l.prog w K mg base 1 "divisor" m_divisor := ok_divisor (k := 0) F14 n_abs
  have G15 := ok_fraction (k := 1) F15 G14
  have G16 := ok_reckoned (k := 2) F16 c_NoValue y_NoValue x_NoValue G15
  have G17 := ok_value (k := 3) F17 c_NoValue y_NoValue x_NoValue k_SIGNS_is (G13.mono (by decide : 1 <= 3)) G16
  have G18 : FnAt l.prog w K mg base 1 "_law_alone" m_law_alone := ok__law_alone (k := 0) F18 c_NoPlace c_Same c_NoFloor c_Endless c_NoDeed c_NoText c_NoName c_TooMany c_NoChange c_NoFrame c_NoValue c_Unlike c_NoRatio c_NoBow c_NoRow c_ChalkError n_int n_isinstance n_ValueError
  have G19 := ok__law_refused (k := 4) F19 c_ChalkError c_NoValue n_isinstance G17 (G18.mono (by decide : 1 <= 4))
  have G20 : FnAt l.prog w K mg base 1 "_law_whole" m_law_whole := ok__law_whole (k := 0) F20 n_isinstance n_int n_bool
  exact law_of (ok_law (P := l.prog) (w := w) (base := base) (k := 67) F21 n_range n_dict n_isinstance n_tuple n_len (G2.mono (by decide : 3 <= 67)) (G3.mono (by decide : 1 <= 67)) (G6.mono (by decide : 3 <= 67)) (G1.mono (by decide : 2 <= 67)) (G11.mono (by decide : 66 <= 67)) G12 (G19.mono (by decide : 5 <= 67)) (G17.mono (by decide : 4 <= 67)) (G20.mono (by decide : 1 <= 67))) hlaw
end Kx
structure PySem.W.Fast:Prop where
 (tw10046959328191842774 tw1008077356454834781 tw10114140719313610663 tw10115539556469337109 tw10139612908611952344 tw10159012971407782659 tw1028556663221243159 tw10335439764611865650 tw10581623339546902147 tw10771733370273051348 tw10783858969329918521 tw10785340350364580938 tw10818542278377026663 tw1084191213358685980 tw10936693276896310067 tw11016227306092012989 tw11160688203354545241 tw11191666017134736816 tw11192691594335605209 tw1126021364229060886 tw11275136160504035065 tw11300712517147170072 tw11429356725900803281 tw11527801957824208039 tw11572657391437604300 tw11756017407532135229 tw11758090795771982073 tw11845418883352900214 tw11927934497453626110 tw11976911824351385084 tw12046522616995022919 tw12143143662784629446 tw12224822610933956742 tw12251953242215108283 tw12252399562122806007 tw12292567917086963140 tw12357657777855292206 tw12444129007750153090 tw12476890130032631910 tw12668961496480879109
  tw1267746851869114546 tw12712093338128380274 tw12837545237414035457 tw12874297607515796739 tw1300639843667808894 tw13212371904321970296 tw13320822296148333708 tw13413774424335182868 tw13428763349089551259 tw13602276638136321085 tw13653594920431115833 tw13708170103031605369 tw13783264654456581199 tw13807170802992546944 tw13808694700629310591 tw1404021016034893486 tw14048358809351099272 tw14073074914844234724 tw14153654171518048339 tw14180416051547875259 tw14375600545128855170 tw14484980032619128582 tw14578528841491885783 tw14752329875023341990 tw14800184285765146539 tw14878957450884164062 tw15005667069113005000 tw15016338460716792623 tw15172692973953824445 tw15184874186998584742 tw1518635592699334628 tw15234575772426538406 tw15253311838783545230 tw1529818750342824715 tw15409655535837649895 tw15451064267246327409 tw15604291494525922142 tw15630658148281325698 tw15659169262841032769 tw15687934975464972744
  tw15903942542975393359 tw15943073845142753926 tw15949193693549377531 tw15961670414435945914 tw15973606912299329466 tw16121682785055000638 tw16173280160343061033 tw16218422359459964302 tw16271002001889912443 tw16273469010224039217 tw16284129898238844379 tw16546190933126545293 tw16750565689108626638 tw16755701928649084294 tw16829682929676415238 tw16832295712623047720 tw16897538596512746304 tw17036485647096794459 tw17075811098295261077 tw17121694135580061761 tw17291981326123988358 tw17344649993211189670 tw17353674681644415214 tw17359845151761765425 tw17424413340171921521 tw17443167065506480918 tw1767797653317008414 tw17713400015010993198 tw17719941066076742924 tw17746898397271325801 tw17789326497189807192 tw18045970378723147378 tw18061389817764486607 tw18124036885209002193 tw18137580738131764606 tw18156382548754296572 tw18168993243099638520 tw18219624498193082593 tw18247936053508170668 tw18298515556325647166
  tw18333475863393127222 tw1927990121871414989 tw1937643980984664098 tw2039192487878945278 tw2137207788196385266 tw2163831228926741920 tw2255713279687030452 tw227785543637372518 tw2283184953937635696 tw2381273469486229564 tw2477402368452347061 tw2525336096864951013 tw255444951655040703 tw2569535274190993217 tw2683922471351666507 tw3048815370293236807 tw3134058059438072719 tw3186437957512263399 tw3194285437768502536 tw3212013090348988385 tw3320380211270264285 tw3379239594193629565 tw3405879041963524411 tw3487785006212469540 tw3691834942850563475 tw3732635047283568530 tw3741843705696703898 tw3750157310055861956 tw3865915435681571873 tw3940689194414224984 tw4002875424225128355 tw401310458686212232 tw4027289783058717910 tw4093282533781143238 tw4119399260876167006 tw4168386665954233599 tw4179600954158412468 tw4251327880026303625 tw4297333749440257038 tw4379822155154944718
  tw4417316833884087538 tw4450325031121770456 tw4508936107425137213 tw4518783154200889142 tw4573041774880409059 tw4579160755570721719 tw4594349987620373393 tw4748477434064797272 tw4803231625677972312 tw4880385043301643928 tw4941175128767586118 tw50160887821261473 tw5120015320407581181 tw5181589589891922469 tw5225825108277728328 tw5545603919591713579 tw5564478360545635479 tw5634335303014097385 tw5655563502531639818 tw5766828606800910544 tw58535651872940884 tw5853611220936150642 tw5887522385051546275 tw5896550527634303031 tw5942160253744393458 tw6043636714693195757 tw6081632882292700425 tw6095675361598137476 tw6150889300986338269 tw6174967739032287301 tw617545842611100399 tw62758882437937059 tw6430735603805232605 tw6444640356209361875 tw6447071636311480687 tw653170553605704074 tw6574723463131519823 tw657825703140718953 tw6597946820977845171 tw6608305942802992668
  tw6668043626668247710 tw6690838043635648375 tw6800444880150586709 tw6838008870986268504 tw7031734861498723998 tw7240268661383712924 tw7245344799041807898 tw7319051665273830424 tw7338586372351652420 tw7371244730008634036 tw7436545336402333507 tw7596358536912844571 tw765104314920133003 tw7692648095443434539 tw7701648390450379440 tw7744351491670179099 tw7756856412845150210 tw7764314714883199399 tw7778535036829755756 tw7899685824030875291 tw7968496018439127062 tw8147188896966903299 tw8179819193876863099 tw8187866729955476082 tw8313828974099376012 tw8388092584828719978 tw8410241859443097446 tw8554858956384919403 tw8555943155255303470 tw8674012277464788657 tw8814058142746548460 tw8834974134852424996 tw8860986774349260184 tw8865070521862607073 tw8913194534499243497 tw9004620416169098446 tw9014868188197970387 tw9216041033038797748 tw9305462258849911144 tw932552053452468456
  tw9500582816087515706 tw9530606269908918648 tw9550934307313833051 tw9596999451645975133 tw9723368673572925639 tw9733774277465179693 tw9776638349091037543 tw9812867492941174502 tw9841691747584549191 tw9942921663031520360:True)
open PySem.W PyProof.Rows
local macro_rules | `(tactic| walk_at "FD") => `(tactic| (refine' DL.FD.mk' ?a ?l ?c ?k; (case a => k_is); (case l => k_is); (case c => k_is); (case k => k_is)))
local macro_rules | `(tactic| walk_at "NR") => `(tactic| first | (refine' DL.NR.ff ?h ?a ?t; (case h => decide); (case a => k_is); (case t => kit_is)) | (refine' DL.NR.tt ?h ?a ?t ?u; (case h => decide); (case a => k_is); (case t => kit_is); (case u => kts_exm)) | (refine' DL.NR.no ?a; (case a => k_is)))
local macro_rules | `(tactic| walk_at "XD") => `(tactic| (refine' DL.XD.mk' ?e ?y ?g ?i ?b ?o ?a ?s ?t ?v ?r0 ?r1 ?r2 ?r3 ?r4 ?r5 ?r6 ?r7 ?r8 ?r9 ?r10 ?r11 ?r12 ?r13 ?r14 ?r15; (case e => k_is); (case y => k_exc); (case g | i | b | o | a | s | t => k_is); (case v => kit_is); (case r0 | r1 | r2 | r3 | r4 | r5 | r6 | r7 | r8 | r9 | r10 | r11 | r12 | r13 | r14 | r15 => walk_at "NR")))
set_option maxRecDepth 100000 in
set_option maxHeartbeats 0 in
theorem PySem.Challenge.cw_chalkline_k58_values_holds : PySem.Challenge.rw_chalkline_k58_values.Holds := by
  w_on; o_law; k_head; (case hw => w_witness2)
  k_fill
  refine DL.walkD (l := PySem.Challenge.rw_chalkline_k58_values) 68 ⟨rfl, by decide, by decide⟩ rfl rfl (fun w h Y => PySem.W.kIn_of Y) ?F
  case F =>
    intro w mg fa h KX G hmg
    refine' Kx.all_mk KX G hmg ?d0 ?d1 ?d2 ?d3 ?d4 ?d5 ?d6 ?d7 ?d8 ?d9 ?d10 ?d11 ?d12 ?d13 ?d14 ?d15 ?d16 ?d17 ?d18 ?d19 ?d20 ?a21 ?l21 ?c21 ?k21 ?xd_NoValue ?z_range ?z_len ?z_abs ?z_int ?z_max ?z_str ?z_isinstance ?z_ValueError ?z_bool ?z_dict ?z_tuple ?e_ChalkError ?e_NoPlace ?e_Same ?e_NoFloor ?e_Endless ?e_NoDeed ?e_NoText ?e_NoName ?e_TooMany ?e_NoChange ?e_NoFrame ?e_Unlike ?e_NoRatio ?e_NoBow ?e_NoRow ?q_SIGNS ?lq_SIGNS ?hlaw
    (case d0 | d1 | d2 | d3 | d4 | d5 | d6 | d7 | d8 | d9 | d10 | d11 | d12 | d13 | d14 | d15 | d16 | d17 | d18 | d19 | d20 => walk_at "FD")
    (case a21 | l21 | c21 | k21 => k_is)
    (case xd_NoValue => walk_at "XD")
    (case z_range | z_len | z_abs | z_int | z_max | z_str | z_isinstance | z_ValueError | z_bool | z_dict | z_tuple | e_ChalkError | e_NoPlace | e_Same | e_NoFloor | e_Endless | e_NoDeed | e_NoText | e_NoName | e_TooMany | e_NoChange | e_NoFrame | e_Unlike | e_NoRatio | e_NoBow | e_NoRow | q_SIGNS | lq_SIGNS => k_is)
    (case hlaw => exact Lk58.law_ok)
end