import PyProof.Rows.All
import Wide.All
import OpenK.AllK
import Wide.FinOn
import HandS.ForMost
import HandS.TupAny
import HandS.Conv
import HandS.TupMul
import HandS.Strs
import HandS.Lambda
import HandS.TryOnly
import HandS.Style
import HandS.EndTab
import KE.KNestM
import HandS.IsInst
import HandS.SortInts
import HandS.Iter
import KE.GoesEnum
import KE.GoesNew
import HandS.SetFor
import HandS.ExcInit
import HandS.ExcOwn
import HandS.ExcField
import HandS.ExcIs
import HandS.Exc
import KE.KExcIs
import KE.SortKeyHeap
import HandS.SortKw
import HandS.Dict
import HandS.Small
import HandS.Deep
import KE.KIndexOf
import HandS.Zip
import KE.DatumOrd
import KE.KRevSl
import HandS.TryMany
import HandS.ExcBuiltin
import PyProof.ExcFactsAll.ValueError
import PyProof.ExcBaseAll.ValueError
import KE.KLam
import HandS.Wide
import PySem.Challenge.RW_piecetrees_k20_firm_lots_by_parts_turned
set_option Elab.async false
set_option linter.all false
set_option maxRecDepth 100000
set_option maxHeartbeats 4000000
/-! Dm0: tuples that are known to have no dict of their own: the making of tuples told so, and the method index. -/
namespace Dm
open PySem PySem.Spec PyProof.Rows L2 HT
/-- the object of a tuple without a dict -/
def TN (ob : Obj) : Prop := ob.dict = none ∧ ob.cls = .type "tuple"
def TupAt (F : Hp) (a : Addr) (xs : List V) : Prop := ∃ ob, F a = some (.frz ob (.tup xs)) ∧ TN ob
theorem TupAt.sq {K : PySem.W.Frag} {H : Hp} {a : Addr} {xs : List V} (h : TupAt H a xs) : SqT K H a xs := by
  obtain ⟨ob, h, _⟩ := h; exact .inl (.inr ⟨ob, h⟩)
theorem TupAt.new {H : Hp} {p : Addr} {ob : Obj} {xs : List V} (h : TN ob) : TupAt (upd H p (.frz ob (.tup xs))) p xs := ⟨ob, upd_same, h⟩
section
variable {X : Cx} {e : Expr} {es : List Expr} {te : TE} {t : TA} {pos : Pos}
def tTupS (t : TA) : TE := fun σ H Q => t σ H fun xs H1 => xs.length ≤ sizeLine ∧ ∀ p ob, H1 p = none → TN ob → Q (.ref p) (upd H1 p (.frz ob (.tup xs)))
theorem pe_tupS {x1} (h : PA X es t) : PE X (.Tuple es x1 pos) (tTupS t) := by
  refine ⟨fun pins s σ H Q I hq => ?_⟩
  refine wpAny_Tuple_spliced (thn (h.run pos pins s σ H _ I hq) fun us s1 ⟨xs, H1, I1, r, z, q⟩ => ⟨by rw [← r.length]; exact z, ?_⟩)
  have hf : H1 s1.heap.objs.size = none := I1.hok.fresh (Nat.le_refl _)
  refine ⟨.ref s1.heap.objs.size, upd H1 s1.heap.objs.size (.frz { cls := .type "tuple", data := .seq us.toArray } (.tup xs)), I1.laid (t' := s1.toks) (fun b u e => Heap.get?_push_of_some _ e) (Nat.le_refl _) ?_, rfl, q _ _ hf ⟨rfl, rfl⟩⟩
  · exact ⟨Heap.get?_push_size _ rfl, z, us, r, ⟨_, Heap.get?_push_size _ rfl, rfl, _, rfl⟩⟩
theorem call_tuple_ofS : CallR X (.type "tuple") (fun xs H Q => ∃ p ys, xs = [.ref p] ∧ ((SqL X.K H p ys ∧ ∀ l ob, H l = none → TN ob → Q (.ref l) (upd H l (.frz ob (.tup ys)))) ∨ (SqT X.K H p ys ∧ Q (.ref p) H))) := by
  intro pins s σ H xs us Q I r h
  obtain ⟨p, ys, rfl, h⟩ := h
  obtain ⟨u, rfl, rx⟩ := vals1 r
  cases rx
  rcases h with ⟨hq, q⟩ | ⟨hq, q⟩
  · obtain ⟨its, r', pl, hz⟩ := I.list hq
    have hlen := r'.length
    refine call_tuple_list pl.isList (fun h' kp => ?_) (by simp only [List.size_toArray] <;> omega)
    have I1 : Inv X pins σ H { s with heap := h' } := I.kept (t' := s.toks) kp
    have I2 : Inv X pins σ (upd H h'.objs.size (.frz { cls := .type "tuple", data := .seq its.toArray } (.tup ys))) { s with heap := h'.push { cls := .type "tuple", data := .seq its.toArray } } :=
      I1.laid (t' := s.toks) (fun b o e => Heap.get?_push_of_some _ e) (Nat.le_refl _) (show ObjOk X.prog X.w _ _ _ (.frz _ (.tup ys)) from ⟨Heap.get?_push_size _ rfl, hz, its, r', IsTup.new _ _⟩)
    exact ⟨.ref h'.objs.size, _, I2, rfl, q _ _ (I1.hok.fresh (Nat.le_refl _)) ⟨rfl, rfl⟩⟩
  · obtain ⟨its, r', pl, hz⟩ := I.tuple hq
    exact call_tuple_same pl ⟨.ref p, H, I, rfl, q⟩
def rCatS (K : PySem.W.Frag) : R2 := fun x y H Q => ∃ a b xs ys, x = .ref a ∧ y = .ref b ∧ SqT K H a xs ∧ SqT K H b ys ∧ xs.length + ys.length ≤ sizeLine ∧
  (xs = [] → Q (.ref b) H) ∧ (xs ≠ [] → ys = [] → Q (.ref a) H) ∧ (xs ≠ [] → ys ≠ [] → ∀ p ob, H p = none → TN ob → Q (.ref p) (upd H p (.frz ob (.tup (xs ++ ys)))))
theorem op_catS : OpR X (binaryOp .Add) (rCatS X.K) := by
  intro pins s σ H x y v u Q I rx ry h
  obtain ⟨a, b, xs, ys, rfl, rfl, ha, hb, hz, q0, q1, q2⟩ := h
  by_cases hx : xs = []
  · subst hx
    exact op_catA pins s σ H _ _ v u Q I rx ry ⟨a, b, [], ys, rfl, rfl, ha, hb, hz, q0, fun z => absurd rfl z, fun z => absurd rfl z⟩
  · cases rx
    cases ry
    obtain ⟨its, r1, p1, _⟩ := I.tuple ha
    obtain ⟨its2, r2, p2, _⟩ := I.tuple hb
    refine HT.cat_tup p1 p2 (fun z => hx (r1.nil_iff.mp z)) (fun z => ⟨.ref a, H, I, rfl, q1 hx (r2.nil_iff.mp z)⟩) (fun z => ?_) (by rw [← r1.length, ← r2.length]; exact hz)
    refine ⟨.ref s.heap.objs.size, _, I.laid (t' := s.toks) (o := .frz { cls := .type "tuple", data := .seq (its ++ its2).toArray } (.tup (xs ++ ys))) (fun b ob q => Heap.get?_push_of_some _ q) (Nat.le_refl _) ?_, rfl, q2 hx (fun w => z (r2.nil_iff.mpr w)) _ _ (I.hok.fresh (Nat.le_refl _)) ⟨rfl, rfl⟩⟩
    · exact ⟨Heap.get?_push_size _ rfl, by rw [List.length_append]; exact hz, _, r1.append r2, IsTup.new _ _⟩
def rSlS (K : PySem.W.Frag) : V → Option Int → Option Int → Hp → VK → Prop := fun x lo hi H Q => ∃ a xs, x = .ref a ∧ SqT K H a xs ∧
  (HT.sIx xs.length 0 lo = 0 ∧ HT.sIx xs.length xs.length hi = xs.length → Q (.ref a) H) ∧ (¬ (HT.sIx xs.length 0 lo = 0 ∧ HT.sIx xs.length xs.length hi = xs.length) → ∀ p ob, H p = none → TN ob → Q (.ref p) (upd H p (.frz ob (.tup (cutV xs lo hi)))))
theorem sl_tupS : SlR X (rSlS X.K) := by
  intro pins s σ H x v vl vu lo hi sl Q I rx hs pl pu h
  obtain ⟨a, xs, rfl, hx, q1, q2⟩ := h
  by_cases hw : HT.sIx xs.length 0 lo = 0 ∧ HT.sIx xs.length xs.length hi = xs.length
  · exact sl_tupA pins s σ H _ v vl vu lo hi sl Q I rx hs pl pu ⟨a, xs, rfl, hx, q1, fun z => absurd hw z⟩
  · cases rx
    obtain ⟨its, r, ht, hz⟩ := I.tuple hx
    have hlen : its.toArray.size = xs.length := by rw [List.size_toArray]; exact r.length.symm
    refine ⟨"tuple", _, PyProof.Rows.slot_tuple_getitem.lookup, ht.typeIs, ?_⟩
    refine HT.getItem_tuple_cut ht hs pl pu (by rw [hlen]; exact hw) ?_ (by rw [hlen]; exact hz)
    rw [hlen]
    refine ⟨.ref s.heap.objs.size, _, I.laid (t' := s.toks) (o := .frz { cls := .type "tuple", data := .seq ((its.drop (HT.sIx xs.length 0 lo)).take (HT.sIx xs.length xs.length hi - HT.sIx xs.length 0 lo)).toArray } (.tup (cutV xs lo hi))) (fun b ob q => Heap.get?_push_of_some _ q) (Nat.le_refl _) ?_, rfl, q2 hw _ _ (I.hok.fresh (Nat.le_refl _)) ⟨rfl, rfl⟩⟩
    · exact ⟨Heap.get?_push_size _ rfl, Nat.le_trans (cutV_length xs lo hi) hz, _, (r.drop (HT.sIx xs.length 0 lo)).take (HT.sIx xs.length xs.length hi - HT.sIx xs.length 0 lo), IsTup.new _ _⟩
def tTupRgS (te : L2.St → Hp → (Int → Int → Hp → Prop) → Prop) : TE := fun σ H Q => te σ H fun a b H1 => RgOk a b ∧ ∀ q ob, H1 q = none → TN ob → Q (.ref q) (upd H1 q (.frz ob (.tup (rgV a b))))
theorem pe_tupRgS {te : L2.St → Hp → (Int → Int → Hp → Prop) → Prop} {p pos : Pos} (hc : X.calm = true) (hg : Gl X "tuple") (hm : X.mg "tuple" = none) (he : PRg X e te) (na : starEach [e] X.env = (false, eval e X.env) :: starEach [] X.env := by rfl) : PE X (.Call (.Name "tuple" p) [e] [] pos) (tTupRgS te) := by
  refine ⟨fun pins s σ H Q I h => ?_⟩
  refine Call_ (ld_blt I hg hm boot_tuple (PyProof.Rows.callWith_type1 (args_cons (thn (he pins s σ H _ I h) fun x s1 ⟨r, a, b, t, u, v, H1, ex, hr, I1, ok, q⟩ => args_nil ?_) na) na))
  subst ex
  obtain ⟨b1, b2, b3, b4, b5⟩ := ok
  refine call_tuple_range (n := (b - a).toNat) (I1.ok.hd hc) hr (small_one b1 b2 b3 b4) (rangeSize_nat a b) b5 fun h' tk acc hk hi => ?_
  have I2 : Inv X pins σ H1 { s1 with heap := h', toks := tk } := I1.kept hk
  refine ⟨.ref h'.objs.size, upd H1 h'.objs.size (.frz { cls := .type "tuple", data := .seq acc } (.tup (rgV a b))), I2.laid (t' := tk) (fun c o e => Heap.get?_push_of_some _ e) (Nat.le_refl _) (show ObjOk X.prog X.w _ _ _ (.frz _ (.tup (rgV a b))) from ⟨Heap.get?_push_size _ rfl, ?_, acc.toList, vals_rg hi, ?_⟩), rfl, q _ _ (I2.hok.fresh (Nat.le_refl _)) ⟨rfl, rfl⟩⟩
  · rw [rgV_length, sizeLine_eq]; omega
  · rw [Array.toArray_toList]; exact IsTup.new _ _
/-- the receiver of a method: a tuple without a dict -/
theorem tyN_is {pins : List (Addr × Obj)} {σ : L2.St} {H : Hp} {s : Shared} {p : Addr} {xs : List V} {v : Value} (I : Inv X pins σ H s) (r : RelV (.ref p) v) (ty : TupAt H p xs) :
    s.TypeIs v "tuple" ∧ ∀ a, v = .ref a → ∃ ob, s.heap.get? a = some ob ∧ ob.dict = none := by
  cases r
  obtain ⟨ob, h, hd, hc⟩ := ty
  have g := (I.hok _ _ h).1
  refine ⟨⟨ob, g, hc⟩, fun a e => ?_⟩
  cases e
  exact ⟨ob, g, hd⟩
def tBMT (r : V → List V → Hp → VK → Prop) (to : TE) (t : TA) : TE := fun σ H Q => to σ H fun x H1 => (∃ p xs, x = .ref p ∧ TupAt H1 p xs) ∧ t σ H1 fun xs H2 => r x xs H2 Q
theorem pe_bmT {r : V → List V → Hp → VK → Prop} {o : Expr} {to : TE} {name : Str} {id : String} {apos cpos : Pos} (pa : PlainAttrs "tuple") (slot : Slot "tuple" name id) (hty : typeOf (.builtin id) = pure (.type "method_descriptor")) (hm : MtR X id r) (ho : PE X o to) (ha : PA X (e :: es) t)
    (hbase : attributeBase o name X.env (eval o X.env) = eval o X.env := by rfl)
    (hfew : ((backTo cpos (starEach (e :: es) X.env)).all (fun x => !x.1) && (backToKw cpos (keywordEach [] X.env)).all (fun x => x.1.isSome)
      && decide ((e :: es).length + ([] : List Keyword).length + (if ([] : List Keyword).isEmpty then 0 else 1) < 30)) = true := by rfl)
    (hline : (apos.endLine == cpos.line) = true := by rfl) (hs : starEach (e :: es) X.env = (false, eval e X.env) :: starEach es X.env := by rfl) (hplain : (backTo cpos (starEach es X.env)).any (·.1) = false := by rfl) :
    PE X (.Call (.Attribute o name apos) (e :: es) [] cpos) (tBMT r to t) := by
  refine ⟨fun pins s σ H Q I h => ?_⟩
  refine wpAny_Call_method_late hbase hfew hline rfl (thn (ho.run pins s σ H _ I h) fun v s1 ⟨x, H1, I1, r1, ⟨p, xs, ex, ty⟩, q1⟩ => ?_)
  subst ex
  obtain ⟨h1, h2⟩ := tyN_is I1 r1 ty
  refine ⟨"tuple", id, pa, slot, hty, h1, h2, ?_⟩
  have hA := ha.run cpos pins s1 σ H1 _ I1 q1
  rw [hs] at hA ⊢
  refine Calls.callWith_builtin (by show (false || (backTo cpos (starEach es X.env)).any (·.1)) = false; rw [hplain] <;> rfl) (Calls.evalArgs_plain ?_)
  exact thn hA fun us s2 ⟨ys, H2, I2, r2, q2⟩ => hm pins s2 σ H2 (.ref p) ys v us Q I2 r1 r2 q2
/-- t.index(x), flat items -/
def rIndexT (K : PySem.W.Frag) : V → List V → Hp → VK → Prop := fun x xs H Q => ∃ (a : Addr) (ys : List V) (y : V) (j : Nat) (z : V), x = V.ref a ∧ xs = [y] ∧ SqT K H a ys ∧ flatV y = true ∧ ys.all flatV = true ∧ ys[j]? = some z ∧ eqV z y = true ∧
  (∀ (m : Nat) (z' : V), m < j → ys[m]? = some z' → eqV z' y = false) ∧ Q (.int (j : Nat)) H
theorem mt_indexT : MtR X "tuple.index" (rIndexT X.K) := by
  intro pins s σ H x xs v us Q I rx rxs h
  obtain ⟨a, ys, y, j, z, rfl, rfl, hs, fy, fys, hz, hzj, hno, q⟩ := h
  cases rx
  cases rxs with
  | cons ry rt =>
    rename_i uy ut
    cases rt
    obtain ⟨its, rv, pl, hlen⟩ := I.tuple hs
    obtain ⟨⟨cls, dd, dt, sl⟩, ho, hc, n, hd⟩ := pl
    simp only at hc hd
    subst hc hd
    obtain ⟨u, hu, ru⟩ := rv.get hz
    obtain ⟨hjl, hje⟩ := List.getElem?_eq_some_iff.mp hu
    have hvl := rv.length
    have hj : j < its.toArray.size := by simpa using hjl
    refine call_meets PySem.F.slot_tuple_index ⟨_, ho, rfl⟩ PySem.F.entry_tuple_index (PySem.F.args_tuple_index_2 _ _)
      (TI.tuple_indexAt a its.toArray n dd sl uy (eqU y) j hj ?_ ?_) ⟨ho, fun u' hu' => mem_eqAt ry fy rv fys u' (by simpa using hu'), ?_⟩
    · have e1 : its.toArray[j] = u := by simpa using hje
      rw [e1, eqU_of ru (flat_at fys hz)]
      exact hzj
    · intro m hm hmj
      have hml : m < its.length := by simpa using hm
      have hmy : m < ys.length := by omega
      have hy' : ys[m]? = some ys[m] := List.getElem?_eq_getElem hmy
      obtain ⟨u2, hu2, ru2⟩ := rv.get hy'
      obtain ⟨_, hme⟩ := List.getElem?_eq_some_iff.mp hu2
      have e1 : its.toArray[m] = u2 := by simpa using hme
      rw [e1, eqU_of ru2 (flat_at fys hy')]
      exact hno m _ hmj hy'
    · exact ⟨.int (j : Nat), H, I.tok _, ⟨_, rfl⟩, q⟩
end
end Dm
namespace Dm
open PySem PySem.Spec PyProof.Rows L2 HT
section
variable {X : Cx}
def rRepS (K : PySem.W.Frag) : R2 := fun x y H Q => ∃ l k xs, x = .ref l ∧ y = .int k ∧ SqT K H l xs ∧ xs ≠ [] ∧ 2 ≤ k ∧ k ≤ 1000 ∧ xs.length ≤ 1000 ∧ ∀ p ob, H p = none → TN ob → Q (.ref p) (upd H p (.frz ob (.tup (List.replicate k.toNat xs).flatten)))
theorem op_repS : OpR X (binaryOp .Mult) (rRepS X.K) := by
  intro pins s σ H x y v u Q I rx ry h
  obtain ⟨l, k, xs, rfl, rfl, hT, hne, h1, h2, hz, q⟩ := h
  cases rx
  obtain ⟨t, rfl⟩ := ry
  obtain ⟨its, r, ⟨⟨cls, dd, data, sl⟩, ho, hc, n, hd⟩, hs⟩ := I.tuple hT
  simp only at hc hd
  subst hc hd
  have hle : its.length = xs.length := r.length.symm
  have hn : its ≠ [] := fun e => hne (by
    rw [e] at hle
    exact List.eq_nil_of_length_eq_zero hle.symm)
  have hi : its.toArray.isEmpty = false := by
    cases its with
    | nil => exact absurd rfl hn
    | cons a b => rfl
  have hsz0 : its.toArray.size = xs.length := by rw [List.size_toArray, hle]
  have hm : ((its.toArray.size : Nat) : Int) * k ≤ 1000000 := by
    rw [hsz0]
    have a1 : ((xs.length : Nat) : Int) * k ≤ 1000 * k := Int.mul_le_mul_of_nonneg_right (by omega) (by omega)
    omega
  have flen : (List.replicate k.toNat its).flatten.length ≤ sizeLine := by
    rw [PyProof.Rows.lm_len_rep_flat, hle, sizeLine_eq]
    have a1 : k.toNat * xs.length ≤ 1000 * 1000 := Nat.mul_le_mul (by omega) hz
    omega
  have c0 : (decide (k < -(2 ^ 63)) || decide (k ≥ 2 ^ 63)) = false := by
    rw [decide_eq_false (by omega), decide_eq_false (by omega)] <;> rfl
  have c1 : (its.toArray.isEmpty || k == 1) = false := by
    rw [hi, Bool.false_or]
    exact beq_eq_false_iff_ne.mpr (by omega)
  have c2 : (decide (k ≤ 0) || its.toArray.isEmpty) = false := by
    rw [hi, Bool.or_false]
    exact decide_eq_false (by omega)
  have c4 : Builtin.Tuple.tupleTooMany (((its.toArray.size : Nat) : Int) * k) = false := by
    unfold Builtin.Tuple.tupleTooMany
    rw [sizeLine_eq]
    exact decide_eq_false (by omega)
  refine wpAny_binaryOp_repeat_ref (T := "tuple") (U := "int") (by decide) ⟨_, ho, rfl⟩ (fun s' => typeIs_int s' k t) noFill_tuple_mul F.fills_int_mul F.slot_int_rmul repeat_tuple F.slot_int_index.lookup
    (call_meets F.slot_int_rmul (typeIs_int s k t) F.entry_int_rmul (F.args_int_rmul_2 _ _) (int_rmul_tuple k t l its.toArray n dd sl)
      ⟨ho, rfl, ⟨_, ho, rfl⟩, call_meets F.slot_tuple_mul ⟨_, ho, rfl⟩ F.entry_tuple_mul (F.args_tuple_mul_2 _ _) (tuple_mulW l its.toArray n dd sl k t c0 c1 c2 (by omega) c4 (by rw [size_rep, List.size_toArray]; exact flen)) ⟨ho, ?_⟩⟩)
  rw [size_rep]
  refine ⟨.ref s.heap.objs.size, _, I.laid (t' := s.toks) (o := .frz { cls := .type "tuple", data := .seq (List.replicate k.toNat its).flatten.toArray } (.tup (List.replicate k.toNat xs).flatten)) (fun b ob q => Heap.get?_push_of_some _ q) (Nat.le_refl _) ?_, rfl, q _ _ (I.hok.fresh (Nat.le_refl _)) ⟨rfl, rfl⟩⟩
  exact ⟨Heap.get?_push_size _ rfl, by rw [PyProof.Rows.lm_len_rep_flat, sizeLine_eq]; have a1 : k.toNat * xs.length ≤ 1000 * 1000 := Nat.mul_le_mul (by omega) hz; omega, _, r.rep k.toNat, IsTup.new _ _⟩
end
end Dm

set_option Elab.async false
set_option linter.all false
set_option maxRecDepth 100000
set_option maxHeartbeats 2000000
/-! Dm: typed data over the hand layer. Part A: data, assertions, state. -/
namespace Dm
open PySem L2

abbrev D := PyData
abbrev Fr := PySem.W.Frag

/-! ### data that stand still -/
mutual
inductive Has (F : Hp) : V → D → Prop
  | non : Has F .non .none
  | bl (b : Bool) : Has F (.bl b) (.bool b)
  | int (i : Int) : Has F (.int i) (.int i)
  | str (x : Str) : Has F (.str x) (.str x)
  | lst {a : Addr} {xs : List V} {ds : List D} : F a = some (.lst xs) → HasAll F xs ds → Has F (.ref a) (.list ds)
  | tup {a : Addr} {xs : List V} {ds : List D} : TupAt F a xs → HasAll F xs ds → Has F (.ref a) (.tuple ds)
  | dct {a : Addr} {kvs : List (Key × V)} {ds : List (D × D)} : F a = some (.dK kvs) → HasKv F kvs ds → Has F (.ref a) (.dict ds)
  | prs {a : Addr} {x y : V} {ds : List (D × D)} : F a = some (.tup [x, y]) → HasPr F x y ds → Has F (.ref a) (.dict ds)
inductive HasAll (F : Hp) : List V → List D → Prop
  | nil : HasAll F [] []
  | cons {v : V} {vs : List V} {d : D} {ds : List D} : Has F v d → HasAll F vs ds → HasAll F (v :: vs) (d :: ds)
inductive HasKv (F : Hp) : List (Key × V) → List (D × D) → Prop
  | nil : HasKv F [] []
  | cons {k : Key} {v : V} {kvs : List (Key × V)} {d e : D} {ds : List (D × D)} : Has F (kV k) d → Has F v e → HasKv F kvs ds → HasKv F ((k, v) :: kvs) ((d, e) :: ds)
inductive HasPr (F : Hp) : V → V → List (D × D) → Prop
  | mk {x y : V} {d e : D} : Has F x d → Has F y e → HasPr F x y [(.none, .none), (d, e)]
end

def Ex (H H' : Hp) : Prop := ∀ a o, H a = some o → H' a = some o
theorem TupAt.mono {F F' : Hp} (e : Ex F F') {a : Addr} {xs : List V} (h : TupAt F a xs) : TupAt F' a xs := by
  obtain ⟨ob, h, n⟩ := h; exact ⟨ob, e _ _ h, n⟩
theorem Ex.refl (H : Hp) : Ex H H := fun _ _ h => h
theorem Ex.trans {H H1 H2 : Hp} (a : Ex H H1) (b : Ex H1 H2) : Ex H H2 := fun x o h => b x o (a x o h)
theorem Ex.new {H : Hp} {p : Addr} {o : HO} (h : H p = none) : Ex H (upd H p o) := fun a u e => by
  rw [upd_ne (ne_of_none e h)]; exact e

mutual
theorem Has.mono {F F' : Hp} (e : Ex F F') : ∀ {d : D} {v : V}, Has F v d → Has F' v d
  | .none, _, h => by cases h; exact .non
  | .bool b, _, h => by cases h; exact .bl b
  | .int i, _, h => by cases h; exact .int i
  | .str x, _, h => by cases h; exact .str x
  | .list ds, _, h => by
    cases h with
    | lst a b => exact .lst (e _ _ a) (HasAll.mono e b)
  | .tuple ds, _, h => by
    cases h with
    | tup a b => exact .tup (TupAt.mono e a) (HasAll.mono e b)
  | .dict ds, _, h => by
    cases h with
    | dct a b => exact .dct (e _ _ a) (HasKv.mono e b)
    | prs a b => exact .prs (e _ _ a) (HasPr.mono e b)
theorem HasAll.mono {F F' : Hp} (e : Ex F F') : ∀ {ds : List D} {vs : List V}, HasAll F vs ds → HasAll F' vs ds
  | [], _, h => by cases h; exact .nil
  | d :: ds, _, h => by
    cases h with
    | cons a b => exact .cons (Has.mono e a) (HasAll.mono e b)
theorem HasKv.mono {F F' : Hp} (e : Ex F F') : ∀ {ds : List (D × D)} {vs : List (Key × V)}, HasKv F vs ds → HasKv F' vs ds
  | [], _, h => by cases h; exact .nil
  | (d, d') :: ds, _, h => by
    cases h with
    | cons a b c => exact .cons (Has.mono e a) (Has.mono e b) (HasKv.mono e c)
theorem HasPr.mono {F F' : Hp} (e : Ex F F') : ∀ {ds : List (D × D)} {x y : V}, HasPr F x y ds → HasPr F' x y ds
  | [], _, _, h => by cases h
  | [_], _, _, h => by cases h
  | [_, (d, d')], _, _, h => by
    cases h with
    | mk a b => exact .mk (Has.mono e a) (Has.mono e b)
  | _ :: _ :: _ :: _, _, _, h => by cases h
end
theorem HasAll.length {F : Hp} : ∀ {vs : List V} {ds : List D}, HasAll F vs ds → vs.length = ds.length
  | _, [], h => by cases h; rfl
  | _, d :: ds, h => by
    cases h with
    | cons a b => rw [List.length_cons, List.length_cons, b.length]
theorem HasAll.get {F : Hp} : ∀ {vs : List V} {ds : List D} {i : Nat} {d : D}, HasAll F vs ds → ds[i]? = some d → ∃ v, vs[i]? = some v ∧ Has F v d
  | _, [], i, d, h, e => by simp at e
  | _, x :: ds, 0, d, h, e => by
    cases h with
    | cons a b =>
      have e' : x = d := by simpa using e
      exact ⟨_, rfl, e' ▸ a⟩
  | _, x :: ds, i + 1, d, h, e => by
    cases h with
    | cons a b => exact b.get (i := i) (by simpa using e)
theorem HasAll.getV {F : Hp} : ∀ {vs : List V} {ds : List D} {i : Nat} {v : V}, HasAll F vs ds → vs[i]? = some v → ∃ d, ds[i]? = some d ∧ Has F v d
  | _, [], i, v, h, e => by cases h; simp at e
  | _, x :: ds, 0, v, h, e => by
    cases h with
    | cons a b =>
      simp at e; subst e
      exact ⟨_, rfl, a⟩
  | _, x :: ds, i + 1, v, h, e => by
    cases h with
    | cons a b => exact b.getV (i := i) (by simpa using e)
theorem HasAll.append {F : Hp} : ∀ {vs us : List V} {ds es : List D}, HasAll F vs ds → HasAll F us es → HasAll F (vs ++ us) (ds ++ es)
  | _, _, [], _, h, g => by cases h; exact g
  | _, _, d :: ds, _, h, g => by
    cases h with
    | cons a b => exact .cons a (b.append g)
theorem HasAll.set {F : Hp} {v : V} {d : D} (r : Has F v d) : ∀ {vs : List V} {ds : List D} (i : Nat), HasAll F vs ds → HasAll F (vs.set i v) (ds.set i d)
  | _, [], i, h => by cases h; exact .nil
  | _, x :: ds, 0, h => by
    cases h with
    | cons a b => exact .cons r b
  | _, x :: ds, i + 1, h => by
    cases h with
    | cons a b => exact .cons a (b.set r i)
theorem HasAll.take {F : Hp} : ∀ {vs : List V} {ds : List D} (n : Nat), HasAll F vs ds → HasAll F (vs.take n) (ds.take n)
  | _, _, 0, _ => .nil
  | _, [], n + 1, h => by cases h; exact .nil
  | _, x :: ds, n + 1, h => by
    cases h with
    | cons a b => exact .cons a (b.take n)
theorem HasAll.drop {F : Hp} : ∀ {vs : List V} {ds : List D} (n : Nat), HasAll F vs ds → HasAll F (vs.drop n) (ds.drop n)
  | _, _, 0, h => h
  | _, [], n + 1, h => by cases h; exact .nil
  | _, x :: ds, n + 1, h => by
    cases h with
    | cons a b => exact b.drop n
theorem HasAll.rep {F : Hp} {vs : List V} {ds : List D} (h : HasAll F vs ds) : ∀ k : Nat, HasAll F (List.replicate k vs).flatten (List.replicate k ds).flatten
  | 0 => .nil
  | k + 1 => by
    rw [List.replicate_succ, List.replicate_succ, List.flatten_cons, List.flatten_cons]
    exact h.append (h.rep k)
theorem HasAll.eraseIdx {F : Hp} : ∀ {vs : List V} {ds : List D} (i : Nat), HasAll F vs ds → HasAll F (vs.eraseIdx i) (ds.eraseIdx i)
  | _, [], i, h => by cases h; exact .nil
  | _, x :: ds, 0, h => by
    cases h with
    | cons a b => exact b
  | _, x :: ds, i + 1, h => by
    cases h with
    | cons a b => exact .cons a (b.eraseIdx i)
theorem HasAll.dropLast {F : Hp} {vs : List V} {ds : List D} (h : HasAll F vs ds) : HasAll F vs.dropLast ds.dropLast := by
  rw [List.dropLast_eq_take, List.dropLast_eq_take, ← h.length]; exact h.take _
theorem HasAll.reverse {F : Hp} : ∀ {vs : List V} {ds : List D}, HasAll F vs ds → HasAll F vs.reverse ds.reverse
  | _, [], h => by cases h; exact .nil
  | _, x :: ds, h => by
    cases h with
    | cons a b =>
      rw [List.reverse_cons, List.reverse_cons]
      exact b.reverse.append (.cons a .nil)
theorem HasAll.ints {F : Hp} : ∀ (ns : List Int), HasAll F (ns.map V.int) (ns.map PyData.int)
  | [] => .nil
  | n :: ns => .cons (.int n) (HasAll.ints ns)
theorem HasAll.ofInts {F : Hp} : ∀ {vs : List V} {ns : List Int}, HasAll F vs (ns.map PyData.int) → vs = ns.map V.int
  | _, [], h => by cases h; rfl
  | _, n :: ns, h => by
    cases h with
    | cons a b => cases a; rw [b.ofInts]; rfl
theorem HasAll.ofBools {F : Hp} : ∀ {vs : List V} {ns : List Bool}, HasAll F vs (ns.map PyData.bool) → vs = ns.map V.bl
  | _, [], h => by cases h; rfl
  | _, n :: ns, h => by
    cases h with
    | cons a b => cases a; rw [b.ofBools]; rfl

/-! ### typed data -/
class Enc (α : Type) where
  enc : α → D

abbrev enc {α : Type} [Enc α] (a : α) : D := Enc.enc a
/-- a tuple of items of one kind -/
structure Tup (α : Type) where
  l : List α
/-- a written tuple of two, of three .. -/
structure P2 (α β : Type) where
  a : α
  b : β
structure P3 (α β γ : Type) where
  a : α
  b : β
  c : γ
structure P4 (α β γ δ : Type) where
  a : α
  b : β
  c : γ
  d : δ
/-- a pair that a walk makes for its names -/
structure Pq (α β : Type) where
  a : α
  b : β
/-- a written list of items of unlike kinds -/
structure L2' (α β : Type) where
  a : α
  b : β
instance : Enc Int := ⟨PyData.int⟩
instance : Enc Bool := ⟨PyData.bool⟩
instance : Enc Str := ⟨PyData.str⟩
instance : Enc Unit := ⟨fun _ => PyData.none⟩
instance : Enc PyData := ⟨fun d => d⟩
instance {α : Type} [Enc α] : Enc (List α) := ⟨fun l => PyData.list (l.map Enc.enc)⟩
instance {α : Type} [Enc α] : Enc (Tup α) := ⟨fun l => PyData.tuple (l.l.map Enc.enc)⟩
instance {α β : Type} [Enc α] [Enc β] : Enc (P2 α β) := ⟨fun p => PyData.tuple [Enc.enc p.a, Enc.enc p.b]⟩
instance {α β : Type} [Enc α] [Enc β] : Enc (Pq α β) := ⟨fun p => PyData.dict [(.none, .none), (Enc.enc p.a, Enc.enc p.b)]⟩
instance {α β γ : Type} [Enc α] [Enc β] [Enc γ] : Enc (P3 α β γ) := ⟨fun p => PyData.tuple [Enc.enc p.a, Enc.enc p.b, Enc.enc p.c]⟩
instance {α β γ δ : Type} [Enc α] [Enc β] [Enc γ] [Enc δ] : Enc (P4 α β γ δ) := ⟨fun p => PyData.tuple [Enc.enc p.a, Enc.enc p.b, Enc.enc p.c, Enc.enc p.d]⟩
instance {α : Type} [Enc α] : Enc (Option α) := ⟨fun o => match o with | none => PyData.none | some a => Enc.enc a⟩

/-! ### assertions of one slot -/
abbrev Set' := Addr → Prop
abbrev Asrt := Hp → Hp → V → Set' → Prop
structure Good (A : Asrt) : Prop where
  own : ∀ {F H v S}, A F H v S → ∀ q, S q → F q = none ∧ H q ≠ none
  frame : ∀ {F H F' H' v S}, A F H v S → Ex F F' → (∀ q, S q → F' q = none ∧ H' q = H q) → A F' H' v S
def fro {α : Type} [Enc α] (a : α) : Asrt := fun F _ v S => (∀ q, ¬ S q) ∧ Has F v (enc a)
def raw (v0 : V) : Asrt := fun _ _ v S => (∀ q, ¬ S q) ∧ v = v0
def own {α : Type} [Enc α] (as : List α) : Asrt := fun F H v S => ∃ l vs, v = .ref l ∧ (∀ q, S q ↔ q = l) ∧ F l = none ∧ H l = some (.lst vs) ∧ HasAll F vs (as.map Enc.enc)
/-- rows: each a list of its own -/
inductive Rws {α : Type} [Enc α] (F H : Hp) : List Addr → List (List α) → Prop
  | nil : Rws F H [] []
  | cons {q : Addr} {vs : List V} {as : List α} {ps : List Addr} {ass : List (List α)} : F q = none → H q = some (.lst vs) → HasAll F vs (as.map Enc.enc) → Rws F H ps ass → Rws F H (q :: ps) (as :: ass)
def own2 {α : Type} [Enc α] (ass : List (List α)) : Asrt := fun F H v S => ∃ l ps, v = .ref l ∧ (∀ q, S q ↔ q ∈ l :: ps) ∧ (l :: ps).Nodup ∧ F l = none ∧ H l = some (.lst (ps.map V.ref)) ∧ Rws F H ps ass

section
variable {α : Type} [Enc α] {F H F' H' : Hp}
theorem Rws.length : ∀ {ps : List Addr} {ass : List (List α)}, Rws F H ps ass → ps.length = ass.length
  | _, _, .nil => rfl
  | _, _, .cons _ _ _ r => by rw [List.length_cons, List.length_cons, r.length]
theorem Rws.at : ∀ {ps : List Addr} {ass : List (List α)} {i : Nat} {as : List α}, Rws F H ps ass → ass[i]? = some as → ∃ q vs, ps[i]? = some q ∧ F q = none ∧ H q = some (.lst vs) ∧ HasAll F vs (as.map Enc.enc)
  | _, _, i, _, .nil, e => by simp at e
  | _, _, 0, _, .cons (q := q) (vs := vs) a b c r, e => by
    simp at e; subst e
    exact ⟨q, vs, rfl, a, b, c⟩
  | _, _, i + 1, _, .cons _ _ _ r, e => r.at (i := i) (by simpa using e)
theorem Rws.mem : ∀ {ps : List Addr} {ass : List (List α)} {q : Addr}, Rws F H ps ass → q ∈ ps → F q = none ∧ ∃ vs, H q = some (.lst vs)
  | _, _, _, .nil, h => by cases h
  | _, _, x, .cons (q := q) (vs := vs) a b c r, h => by
    rcases List.mem_cons.mp h with e | h
    · rw [e]; exact ⟨a, vs, b⟩
    · exact r.mem h
theorem Rws.frame : ∀ {ps : List Addr} {ass : List (List α)}, Rws F H ps ass → Ex F F' → (∀ q, q ∈ ps → F' q = none ∧ H' q = H q) → Rws F' H' ps ass
  | _, _, .nil, _, _ => .nil
  | _, _, .cons a b c r, e, k => .cons (k _ List.mem_cons_self).1 ((k _ List.mem_cons_self).2.trans b) (c.mono e) (r.frame e fun q h => k q (List.mem_cons_of_mem _ h))
theorem good_fro (a : α) : Good (fro a) := ⟨fun h q s => (h.1 q s).elim, fun h e _ => ⟨h.1, h.2.mono e⟩⟩
theorem good_raw (v0 : V) : Good (raw v0) := ⟨fun h q s => (h.1 q s).elim, fun h _ _ => h⟩
theorem good_own (as : List α) : Good (own as) := ⟨fun ⟨l, vs, _, s, f, h, _⟩ q m => by
    have e := (s q).mp m
    subst e
    exact ⟨f, by rw [h]; simp⟩,
  fun ⟨l, vs, e, s, f, h, a⟩ x k => ⟨l, vs, e, s, (k l ((s l).mpr rfl)).1, (k l ((s l).mpr rfl)).2.trans h, a.mono x⟩⟩
theorem good_own2 (ass : List (List α)) : Good (own2 ass) := ⟨fun ⟨l, ps, _, s, nd, f, h, r⟩ q m => by
    rcases List.mem_cons.mp ((s q).mp m) with e | m
    · subst e
      exact ⟨f, by rw [h]; simp⟩
    · obtain ⟨a, vs, b⟩ := r.mem m
      exact ⟨a, by rw [b]; simp⟩,
  fun ⟨l, ps, e, s, nd, f, h, r⟩ x k => ⟨l, ps, e, s, nd, (k l ((s l).mpr List.mem_cons_self)).1, (k l ((s l).mpr List.mem_cons_self)).2.trans h, r.frame x fun q m => k q ((s q).mpr (List.mem_cons_of_mem _ m))⟩⟩
end

/-! ### the tables of code that lambdas are kept in: their addresses, the names of what they hold -/
class TabC where
  tb : List (Addr × Str)
instance (priority := 10) : TabC := ⟨[]⟩
section
variable [TabC]
def isTab (q : Addr) : Prop := ∃ t ∈ TabC.tb, q = t.1
def TabOk (F H : Hp) : Prop := ∀ t ∈ TabC.tb, F t.1 = none ∧ ∃ ps : Array Value, H t.1 = some (.tbl ps) ∧ TriplesOk ps.toList ∧ ∀ (pos : Pos) (cv : Value), codeAmong pos ps.toList = some cv → ∃ c, cv = .ref c ∧ F c = some (LamX.CodeO c t.2)
theorem TabOk.there {F H : Hp} (k : TabOk F H) {q : Addr} (h : isTab q) : F q = none ∧ ∃ ps, H q = some (.tbl ps) := by
  obtain ⟨t, ht, rfl⟩ := h
  obtain ⟨a, ps, b, _⟩ := k t ht
  exact ⟨a, ps, b⟩
theorem TabOk.frame {F H F' H' : Hp} (k : TabOk F H) (e : Ex F F') (h : ∀ q, isTab q → F' q = none ∧ H' q = H q) : TabOk F' H' := fun t ht => by
  obtain ⟨a, ps, b, c, d⟩ := k t ht
  have z := h t.1 ⟨t, ht, rfl⟩
  refine ⟨z.1, ps, z.2.trans b, c, fun pos cv hc => ?_⟩
  obtain ⟨c1, e1, e2⟩ := d pos cv hc
  exact ⟨c1, e1, e _ _ e2⟩
/-! ### the pool that draws come from -/
abbrev Pl := Option (Addr × Addr)
def isPool (pl : Pl) (q : Addr) : Prop := (∃ p f, pl = some (p, f) ∧ (q = p ∨ q = f)) ∨ isTab q
structure PoolAt (p f : Addr) (F H : Hp) : Prop where
  ne : p ≠ f
  np : F p = none
  nf : F f = none
  st : ∃ (far : List Int) (wh tn : Int), H p = some (.lst [.ref f, .int wh, .int tn]) ∧ H f = some (.lst (far.map V.int)) ∧ far.length ≤ 64
theorem PoolAt.seen {p f : Addr} {F H : Hp} (k : PoolAt p f F H) {q : Addr} (h : q = p ∨ q = f) : ∀ ps, H q ≠ some (.tbl ps) := fun ps z => by
  obtain ⟨_, _, _, far, wh, tn, hp, hf, _⟩ := k
  rcases h with rfl | rfl
  · rw [hp] at z; cases z
  · rw [hf] at z; cases z
theorem PoolAt.frame {p f : Addr} {F H F' H' : Hp} (k : PoolAt p f F H) (e : Ex F F') (h : ∀ q, q = p ∨ q = f → F' q = none ∧ H' q = H q) : PoolAt p f F' H' := by
  obtain ⟨ne, np, nf, far, wh, tn, hp, hf, z⟩ := k
  have a := h p (.inl rfl)
  have b := h f (.inr rfl)
  exact ⟨ne, a.1, b.1, far, wh, tn, a.2.trans hp, b.2.trans hf, z⟩
structure PoolOk (pl : Pl) (F H : Hp) : Prop where
  at_ : ∀ p f, pl = some (p, f) → PoolAt p f F H
  tab : TabOk F H
theorem PoolOk.there {pl : Pl} {F H : Hp} (k : PoolOk pl F H) {q : Addr} (h : isPool pl q) : F q = none ∧ H q ≠ none := by
  rcases h with ⟨p, f, e, h⟩ | h
  rotate_left
  · obtain ⟨a, ps, b⟩ := k.tab.there h
    exact ⟨a, by rw [b]; simp⟩
  obtain ⟨_, np, nf, far, wh, tn, hp, hf, _⟩ := k.at_ p f e
  rcases h with rfl | rfl
  · exact ⟨np, by rw [hp]; simp⟩
  · exact ⟨nf, by rw [hf]; simp⟩
theorem PoolOk.frame {pl : Pl} {F H F' H' : Hp} (k : PoolOk pl F H) (e : Ex F F') (h : ∀ q, isPool pl q → F' q = none ∧ H' q = H q) : PoolOk pl F' H' := ⟨fun p f x => by
  obtain ⟨ne, np, nf, far, wh, tn, hp, hf, z⟩ := k.at_ p f x
  have a := h p (.inl ⟨p, f, x, .inl rfl⟩)
  have b := h f (.inl ⟨p, f, x, .inr rfl⟩)
  exact ⟨ne, a.1, b.1, far, wh, tn, a.2.trans hp, b.2.trans hf, z⟩, k.tab.frame e fun q m => h q (.inr m)⟩
theorem PoolOk.none {F H : Hp} (t : TabOk F H) : PoolOk Option.none F H := ⟨fun _ _ e => (by cases e), t⟩

/-! ### the state -/
abbrev Env := List (Option Asrt)
abbrev Foot := Nat → Addr → Prop
structure At (pl : Pl) (G : Env) (F H : Hp) (s : St) (fp : Foot) : Prop where
  ex : Ex F H
  len : G.length = s.length
  sl : ∀ i A, G[i]? = some (some A) → Good A ∧ ∃ v, s[i]? = some (some v) ∧ A F H v (fp i)
  dis : ∀ i j q, fp i q → fp j q → i = j
  out : ∀ i q, fp i q → ∃ A, G[i]? = some (some A)
  pool : PoolOk pl F H
  pdis : ∀ i q, fp i q → ¬ isPool pl q
/-- from one state to a later one: what stood still stands, what was not owned is as it was, what is owned now was owned or is new -/
structure Go (pl : Pl) (F H : Hp) (fp : Foot) (F' H' : Hp) (fp' : Foot) : Prop where
  exF : Ex F F'
  keep : ∀ q, H q ≠ none → (∀ i, ¬ fp i q) → ¬ isPool pl q → H' q = H q ∧ (F q = none → F' q = none)
  foot : ∀ i q, fp' i q → (∃ j, fp j q) ∨ H q = none
  grow : ∀ q, H q ≠ none → H' q ≠ none
theorem Go.refl {pl : Pl} {F H : Hp} {fp : Foot} : Go pl F H fp F H fp := ⟨Ex.refl _, fun _ _ _ _ => ⟨rfl, fun h => h⟩, fun i q h => .inl ⟨i, h⟩, fun _ h => h⟩
theorem Go.trans {pl : Pl} {F H F1 H1 F2 H2 : Hp} {fp fp1 fp2 : Foot} (a : Go pl F H fp F1 H1 fp1) (b : Go pl F1 H1 fp1 F2 H2 fp2) : Go pl F H fp F2 H2 fp2 where
  exF := a.exF.trans b.exF
  keep := fun q h n p => by
    obtain ⟨e1, f1⟩ := a.keep q h n p
    have h1 : H1 q ≠ none := by rw [e1]; exact h
    have n1 : ∀ i, ¬ fp1 i q := fun i m => (a.foot i q m).elim (fun ⟨j, mj⟩ => n j mj) (fun z => h z)
    obtain ⟨e2, f2⟩ := b.keep q h1 n1 p
    exact ⟨e2.trans e1, fun z => f2 (f1 z)⟩
  foot := fun i q m => (b.foot i q m).elim (fun ⟨j, mj⟩ => a.foot j q mj) fun z => .inr (by
    by_cases h : H q = none
    · exact h
    · exact absurd z (a.grow q h))
  grow := fun q h => b.grow q (a.grow q h)

/-- an evaluation that only makes new things -/
structure New (F H F' H' : Hp) : Prop where
  exF : Ex F F'
  exH : Ex H H'
  ex : Ex F' H'
  src : ∀ q, F' q ≠ none → F q ≠ none ∨ H q = none
theorem New.refl {F H : Hp} (e : Ex F H) : New F H F H := ⟨Ex.refl _, Ex.refl _, e, fun _ h => .inl h⟩
theorem New.keepN {F H F' H' : Hp} (n : New F H F' H') {q : Addr} (h : H q ≠ none) (f : F q = none) : F' q = none := by
  by_cases z : F' q = none
  · exact z
  · rcases n.src q z with a | a
    · exact absurd f a
    · exact absurd a h
theorem New.same {F H F' H' : Hp} (n : New F H F' H') {q : Addr} (h : H q ≠ none) : H' q = H q := by
  cases e : H q with
  | none => exact absurd e h
  | some o => exact n.exH q o e
theorem New.trans {F H F1 H1 F2 H2 : Hp} (a : New F H F1 H1) (b : New F1 H1 F2 H2) : New F H F2 H2 := ⟨a.exF.trans b.exF, a.exH.trans b.exH, b.ex, fun q z => by
  rcases b.src q z with h | h
  · exact a.src q h
  · right
    by_cases y : H q = none
    · exact y
    · rw [a.same y] at h; exact absurd h y⟩
/-- a new thing that stands still; a new thing that is owned -/
theorem New.fro {F H : Hp} {p : Addr} {o : HO} (e : Ex F H) (h : H p = none) : New F H (upd F p o) (upd H p o) := by
  have hf : F p = none := by
    cases z : F p with
    | none => rfl
    | some u => rw [e p u z] at h; cases h
  refine ⟨Ex.new hf, Ex.new h, fun a u z => ?_, fun q z => ?_⟩
  · by_cases x : a = p
    · subst x; rw [upd_same] at z ⊢; exact z
    · rw [upd_ne x] at z ⊢; exact e a u z
  · by_cases x : q = p
    · subst x; exact .inr h
    · rw [upd_ne x] at z; exact .inl z
theorem New.own {F H : Hp} {p : Addr} {o : HO} (e : Ex F H) (h : H p = none) : New F H F (upd H p o) := ⟨Ex.refl _, Ex.new h, e.trans (Ex.new h), fun _ z => .inl z⟩
theorem At.new {pl : Pl} {G : Env} {F H F' H' : Hp} {s : St} {fp : Foot} (a : At pl G F H s fp) (n : New F H F' H') : At pl G F' H' s fp where
  ex := n.ex
  len := a.len
  sl := fun i A e => by
    obtain ⟨g, v, hv, hA⟩ := a.sl i A e
    exact ⟨g, v, hv, g.frame hA n.exF fun q m => ⟨n.keepN (g.own hA q m).2 (g.own hA q m).1, n.same (g.own hA q m).2⟩⟩
  dis := a.dis
  out := a.out
  pool := a.pool.frame n.exF fun q m => ⟨n.keepN (a.pool.there m).2 (a.pool.there m).1, n.same (a.pool.there m).2⟩
  pdis := a.pdis
theorem Go.new {pl : Pl} {F H F' H' : Hp} {fp : Foot} (n : New F H F' H') : Go pl F H fp F' H' fp := ⟨n.exF, fun q h _ _ => ⟨n.same h, fun f => n.keepN h f⟩, fun i q m => .inl ⟨i, m⟩, fun q h => by rw [n.same h]; exact h⟩
end
end Dm

set_option Elab.async false
set_option linter.all false
set_option maxRecDepth 100000
set_option maxHeartbeats 2000000
/-! Dm: part B: what expressions are worth. -/
namespace Dm
open PySem L2
variable [TabC]

abbrev W (α : Type) := (α → Prop) → Prop
theorem PE.wk {X : Cx} {e : Expr} {t t' : TE} (h : PE X e t) (k : ∀ s H Q, t' s H Q → t s H Q) : PE X e t' := ⟨fun pins s σ H Q I w => h.run pins s σ H Q I (k σ H Q w)⟩
theorem PT.wk {X : Cx} {e : Expr} {t t' : TT} (h : PT X e t) (k : ∀ s H Q, t' s H Q → t s H Q) : PT X e t' := ⟨fun pins s σ H Q I w => h.run pins s σ H Q I (k σ H Q w)⟩
theorem PW.wk {X : Cx} {e : Expr} {t t' : TT} (h : PW X e t) (k : ∀ s H Q, t' s H Q → t s H Q) : PW X e t' := ⟨fun wh pins s σ H Q I w => h.run wh pins s σ H Q I (k σ H Q w)⟩
theorem PA.wk {X : Cx} {e : List Expr} {t t' : TA} (h : PA X e t) (k : ∀ s H Q, t' s H Q → t s H Q) : PA X e t' := ⟨fun pos pins s σ H Q I w => h.run pos pins s σ H Q I (k σ H Q w)⟩
theorem PTs.wk {X : Cx} {e : List Expr} {t t' : TT} (h : PTs X e t) (k : ∀ s H Q, t' s H Q → t s H Q) : PTs X e t' := ⟨fun pins s σ H Q I w => h.run pins s σ H Q I (k σ H Q w)⟩

/-- what is wanted behind an evaluation that began at F, H, fp -/
abbrev Wish {α : Type} (pl : Pl) (G : Env) (B : α → Asrt) (s : St) (F H : Hp) (fp : Foot) (P : α → Prop) (Q : VK) : Prop :=
  ∀ a v F' H' fp' S, P a → At pl G F' H' s fp' → Go pl F H fp F' H' fp' → B a F' H' v S → (∀ q, S q → H q = none ∧ (∀ i, ¬ fp' i q) ∧ ¬ isPool pl q) → Q v H'
def tX {α : Type} (pl : Pl) (G : Env) (B : α → Asrt) (w : W α) : TE := fun s H Q => ∃ F fp, At pl G F H s fp ∧ ∃ P : α → Prop, w P ∧ Wish pl G B s F H fp P Q
def tT (pl : Pl) (G : Env) (w : W Bool) : TT := fun s H Q => ∃ F fp, At pl G F H s fp ∧ ∃ P : Bool → Prop, w P ∧ ∀ b F' H' fp', P b → At pl G F' H' s fp' → Go pl F H fp F' H' fp' → Q b H'
/-- written arguments, as data -/
def tA (pl : Pl) (G : Env) (w : W (List D)) : TA := fun s H Q => ∃ F fp, At pl G F H s fp ∧ ∃ P : List D → Prop, w P ∧ ∀ ds vs F' H' fp', P ds → At pl G F' H' s fp' → Go pl F H fp F' H' fp' → HasAll F' vs ds → Q vs H'
abbrev DX {α : Type} (X : Cx) (pl : Pl) (G : Env) (e : Expr) (B : α → Asrt) (w : W α) : Prop := PE X e (tX pl G B w)
abbrev DE {α : Type} [Enc α] (X : Cx) (pl : Pl) (G : Env) (e : Expr) (w : W α) : Prop := PE X e (tX pl G (fun a : α => fro a) w)
abbrev DT (X : Cx) (pl : Pl) (G : Env) (e : Expr) (w : W Bool) : Prop := PT X e (tT pl G w)
abbrev DW (X : Cx) (pl : Pl) (G : Env) (e : Expr) (w : W Bool) : Prop := PW X e (tT pl G w)
abbrev DA (X : Cx) (pl : Pl) (G : Env) (es : List Expr) (w : W (List D)) : Prop := PA X es (tA pl G w)

section
variable {X : Cx} {pl : Pl} {G : Env} {s : St} {F H F1 H1 F' H' : Hp} {fp fp1 : Foot} {Q : VK}
theorem At.nofp (a : At pl G F H s fp) {q : Addr} (h : H q = none) : ∀ i, ¬ fp i q := fun i m => by
  obtain ⟨A, e⟩ := a.out i q m
  obtain ⟨g, v, _, hA⟩ := a.sl i A e
  exact (g.own hA q m).2 h
theorem At.nopl (a : At pl G F H s fp) {q : Addr} (h : H q = none) : ¬ isPool pl q := fun m => (a.pool.there m).2 h
theorem Go.back (g : Go pl F H fp F' H' fp1) {q : Addr} (h : H' q = none) : H q = none := by
  by_cases z : H q = none
  · exact z
  · exact absurd h (g.grow q z)
/-- the end of an evaluation: the last step makes new things alone -/
theorem Wish.fin {α : Type} {B : α → Asrt} {P : α → Prop} (K : Wish pl G B s F H fp P Q) (a1 : At pl G F1 H1 s fp1) (g : Go pl F H fp F1 H1 fp1) {a : α} {v : V} {S : Set'} (p : P a) (n : New F1 H1 F' H') (b : B a F' H' v S) (hS : ∀ q, S q → H1 q = none) : Q v H' :=
  K a v F' H' fp1 S p (a1.new n) (g.trans (.new n)) b fun q m => ⟨g.back (hS q m), a1.nofp (hS q m), a1.nopl (hS q m)⟩
theorem Wish.fro {α : Type} [Enc α] {P : α → Prop} (K : Wish pl G (fun a : α => fro a) s F H fp P Q) (a1 : At pl G F1 H1 s fp1) (g : Go pl F H fp F1 H1 fp1) {a : α} {v : V} (p : P a) (n : New F1 H1 F' H') (b : Has F' v (enc a)) : Q v H' :=
  K.fin (S := fun _ => False) a1 g p n ⟨fun _ h => h, b⟩ (fun _ h => h.elim)
/-- .. nothing new -/
theorem Wish.pure {α : Type} [Enc α] {P : α → Prop} (K : Wish pl G (fun a : α => Dm.fro a) s F H fp P Q) (a1 : At pl G F1 H1 s fp1) (g : Go pl F H fp F1 H1 fp1) {a : α} {v : V} (p : P a) (b : Has F1 v (enc a)) : Q v H1 :=
  K.fro a1 g p (New.refl a1.ex) b

/-! ### names, constants -/
variable {α β γ : Type} [Enc α] [Enc β] [Enc γ]
theorem de_var (i : Nat) {a : α} {x : Str} {pos : Pos} (h : G[i]? = some (some (fro a)) := by rfl) (hN : X.N[i]? = some x := by rfl) (hv : Vis X.env.scope x := by first | exact Or.inl rfl | exact Or.inr (Or.inl rfl) | exact Or.inr (Or.inr rfl)) (hd : (x == ("__debug__" : Str)) = false := by decide)
    (hcd : (x == ("__classdict__" : Str)) = false := by decide) : DE X pl G (.Name x pos) (fun P => P a) := PE.wk (pe_var hN hv hd hcd) fun s H Q ⟨F, fp, at_, P, w, K⟩ => by
  obtain ⟨g, v, hv, hA⟩ := at_.sl i _ h
  exact ⟨v, hv, K.pure at_ .refl w hA.2⟩
theorem de_c {a : α} {v : V} {e : Expr} (h : PE X e (tC v)) (hv : ∀ F, Has F v (enc a)) : DE X pl G e (fun P => P a) := PE.wk h fun s H Q ⟨F, fp, at_, P, w, K⟩ => K.pure at_ .refl w (hv F)
theorem de_int {i : Int} {j pos} : DE X pl G (.Constant (.int i) j pos) (fun P => P i) := de_c pe_int fun F => .int i
theorem de_bool {b : Bool} {j pos} : DE X pl G (.Constant (.bool b) j pos) (fun P => P b) := de_c pe_bl fun F => .bl b
theorem de_str {x : Str} {j pos} : DE X pl G (.Constant (.str x) j pos) (fun P => P x) := de_c pe_str fun F => .str x
theorem de_none {j pos} : DE X pl G (.Constant .none j pos) (fun P => P ()) := de_c pe_non fun F => .non
theorem de_glob {i : Int} {x : Str} {t : Tok} {pos : Pos} (hg : Gl X x) (hm : X.mg x = some (.int i t)) (hd : (x == ("__debug__" : Str)) = false := by decide) : DE X pl G (.Name x pos) (fun P => P i) := de_c (pe_glob (v := .int i) hg hm ⟨t, rfl⟩ hd) fun F => .int i
/-- as data of any kind -/
theorem de_enc {e : Expr} {w : W α} (h : DE X pl G e w) : DE X pl G e (fun P => w fun a => P (enc a)) := PE.wk h fun s H Q ⟨F, fp, at_, P, w, K⟩ =>
  ⟨F, fp, at_, _, w, fun a v F' H' fp' S p a1 g b hS => K (enc a) v F' H' fp' S p a1 g b hS⟩
theorem dx_map {B : α → Asrt} {B' : β → Asrt} {e : Expr} {w : W α} (f : α → β) (h : DX X pl G e B w) (hB : ∀ a F H v S, B a F H v S → B' (f a) F H v S) : DX X pl G e B' (fun P => w fun a => P (f a)) := PE.wk h fun s H Q ⟨F, fp, at_, P, w, K⟩ =>
  ⟨F, fp, at_, _, w, fun a v F' H' fp' S p a1 g b hS => K (f a) v F' H' fp' S p a1 g (hB _ _ _ _ _ b) hS⟩
theorem de_some {e : Expr} {w : W α} (h : DE X pl G e w) : DE X pl G e (fun P => w fun a => P (some a)) := dx_map (B' := fun o : Option α => fro o) some h fun a F H v S b => b
theorem de_noneO {j pos} : DE X pl G (.Constant .none j pos) (fun P => P (none : Option α)) := de_c pe_non fun F => .non

/-! ### operations by values -/
def VR1 (r : V → Hp → VK → Prop) (op : α → W γ) (B : γ → Asrt) : Prop := ∀ (F H : Hp) (x : V) (a : α) (Q : VK) (P : γ → Prop), Ex F H → Has F x (enc a) → op a P →
  (∀ c z F' H' S, P c → New F H F' H' → B c F' H' z S → (∀ q, S q → H q = none) → Q z H') → r x H Q
def VR2 {γ : Type} (r : R2) (op : α → β → W γ) (B : γ → Asrt) : Prop := ∀ (F H : Hp) (x y : V) (a : α) (b : β) (Q : VK) (P : γ → Prop), Ex F H → Has F x (enc a) → Has F y (enc b) → op a b P →
  (∀ c z F' H' S, P c → New F H F' H' → B c F' H' z S → (∀ q, S q → H q = none) → Q z H') → r x y H Q
theorem tOp_go {γ : Type} {r : R2} {op : α → β → W γ} {B : γ → Asrt} {wa : W α} {wb : W β} (hr : VR2 r op B) (s : St) (H : Hp) (Q : VK) (h : tX pl G B (fun P => wa fun x => wb fun y => op x y P) s H Q) : tOp r (tX pl G (fun a : α => fro a) wa) (tX pl G (fun b : β => fro b) wb) s H Q := by
  obtain ⟨F, fp, at_, P, w, K⟩ := h
  refine ⟨F, fp, at_, _, w, fun a x F1 H1 fp1 S1 w1 a1 g1 b1 _ => ⟨F1, fp1, a1, _, w1, fun b y F2 H2 fp2 S2 w2 a2 g2 b2 _ => ?_⟩⟩
  refine hr F2 H2 x y a b Q P a2.ex (b1.2.mono g2.exF) b2.2 w2 fun c z F' H' S p n hb hS => ?_
  exact Wish.fin K a2 (g1.trans g2) p n hb hS
theorem dx_op2 {γ : Type} {f : Operator} {e e' : Expr} {r : R2} {op : α → β → W γ} {B : γ → Asrt} {wa : W α} {wb : W β} {pos : Pos} (ho : OpR X (binaryOp f) r) (hr : VR2 r op B) (ha : DE X pl G e wa) (hb : DE X pl G e' wb) :
    DX X pl G (.BinOp e f e' pos) B (fun P => wa fun x => wb fun y => op x y P) := PE.wk (pe_op ho ha hb) (tOp_go hr)
theorem de_cmp {f : CmpOp} {e e' : Expr} {r : R2} {op : α → β → W Bool} {wa : W α} {wb : W β} {pos : Pos} (ho : OpR X (compareOp f) r) (hr : VR2 r op fun b : Bool => fro b) (ha : DE X pl G e wa) (hb : DE X pl G e' wb) (hm : behindInMarks f e' = false := by first | exact nomark _ | rfl) :
    DE X pl G (.Compare e [f] [e'] pos) (fun P => wa fun x => wb fun y => op x y P) := PE.wk (pe_cmpR ho ha hb hm) (tOp_go hr)
theorem tTest_go {te : TE} {w : W Bool} (k : ∀ s H Q, tX pl G (fun b : Bool => fro b) w s H Q → te s H Q) (s : St) (H : Hp) (Q : Bool → Hp → Prop) (h : tT pl G w s H Q) : tTest te s H Q := by
  obtain ⟨F, fp, at_, P, w, K⟩ := h
  refine k s H _ ⟨F, fp, at_, P, w, fun b v F' H' fp' S p a1 g b1 _ => ?_⟩
  cases b1.2
  exact ⟨b, rfl, K b F' H' fp' p a1 g⟩
theorem dt_cmp {f : CmpOp} {e e' : Expr} {r : R2} {op : α → β → W Bool} {wa : W α} {wb : W β} {pos : Pos} (ho : OpR X (compareOp f) r) (hr : VR2 r op fun b : Bool => fro b) (ha : DE X pl G e wa) (hb : DE X pl G e' wb) (hm : behindInMarks f e' = false := by first | exact nomark _ | rfl) :
    DT X pl G (.Compare e [f] [e'] pos) (fun P => wa fun x => wb fun y => op x y P) := PT.wk (pt_cmpR ho ha hb hm) (tTest_go (tOp_go hr))
theorem dt_val {e : Expr} {w : W Bool} (h : DE X pl G e w) (he : ∀ whole, isTrue e X.env whole = (do let v ← whole; standAt e.pos; holding [v] (truthy v)) := by intro _; rfl) : DT X pl G e w := PT.wk (pt_val h he) (tTest_go fun _ _ _ z => z)
theorem dt_not {e : Expr} {w : W Bool} {pos : Pos} (h : DT X pl G e w) : DT X pl G (.UnaryOp .Not e pos) (fun P => w fun b => P (!b)) := PT.wk (pt_not h) fun s H Q ⟨F, fp, at_, P, w, K⟩ =>
  ⟨F, fp, at_, _, w, fun b F' H' fp' p a1 g => K (!b) F' H' fp' p a1 g⟩
/-- two ways -/
def wIf (b : Bool) (p q : Prop) : Prop := (b = true → p) ∧ (b = false → q)
theorem dw_and1 {e : Expr} {w : W Bool} {pos : Pos} (h : DT X pl G e w) : DW X pl G (.BoolOp .And [e] pos) w := pw_and1 h
theorem dw_or1 {e : Expr} {w : W Bool} {pos : Pos} (h : DT X pl G e w) : DW X pl G (.BoolOp .Or [e] pos) w := pw_or1 h
theorem dw_and {a b : Expr} {rest : List Expr} {w u : W Bool} {pos : Pos} (h : DT X pl G a w) (k : DW X pl G (.BoolOp .And (b :: rest) pos) u) : DW X pl G (.BoolOp .And (a :: b :: rest) pos) (fun P => w fun x => wIf x (u P) (P false)) := PW.wk (pw_and h k) fun s H Q ⟨F, fp, at_, P, w, K⟩ => by
  refine ⟨F, fp, at_, _, w, fun b F' H' fp' p a1 g => ?_⟩
  cases b with
  | true => exact ⟨F', fp', a1, P, p.1 rfl, fun b F2 H2 fp2 p2 a2 g2 => K b F2 H2 fp2 p2 a2 (g.trans g2)⟩
  | false => exact K false F' H' fp' (p.2 rfl) a1 g
theorem dw_or {a b : Expr} {rest : List Expr} {w u : W Bool} {pos : Pos} (h : DT X pl G a w) (k : DW X pl G (.BoolOp .Or (b :: rest) pos) u) : DW X pl G (.BoolOp .Or (a :: b :: rest) pos) (fun P => w fun x => wIf x (P true) (u P)) := PW.wk (pw_or h k) fun s H Q ⟨F, fp, at_, P, w, K⟩ => by
  refine ⟨F, fp, at_, _, w, fun b F' H' fp' p a1 g => ?_⟩
  cases b with
  | true => exact K true F' H' fp' (p.1 rfl) a1 g
  | false => exact ⟨F', fp', a1, P, p.2 rfl, fun b F2 H2 fp2 p2 a2 g2 => K b F2 H2 fp2 p2 a2 (g.trans g2)⟩
theorem dt_w {e : Expr} {w : W Bool} (h : DW X pl G e w) : DT X pl G e w := PW.pt h
/-- and, or, not as values -/
theorem de_one {op} {e : Expr} {w : W Bool} {pos : Pos} (h : DE X pl G e w) : DE X pl G (.BoolOp op [e] pos) w := pe_one h
theorem de_and {a b : Expr} {rest : List Expr} {w u : W Bool} {pos : Pos} (h : DE X pl G a w) (k : DE X pl G (.BoolOp .And (b :: rest) pos) u) : DE X pl G (.BoolOp .And (a :: b :: rest) pos) (fun P => w fun x => wIf x (u P) (P false)) := PE.wk (pe_and h k) fun s H Q ⟨F, fp, at_, P, w, K⟩ => by
  refine ⟨F, fp, at_, _, w, fun b v F' H' fp' S p a1 g b1 _ => ?_⟩
  cases b1.2
  refine ⟨b, rfl, ?_⟩
  cases b with
  | true => exact ⟨F', fp', a1, P, p.1 rfl, fun c z F2 H2 fp2 S2 p2 a2 g2 b2 hS => K c z F2 H2 fp2 S2 p2 a2 (g.trans g2) b2 fun q m => (b2.1 q m).elim⟩
  | false => exact Wish.pure K a1 g (p.2 rfl) (.bl false)
theorem de_or {a b : Expr} {rest : List Expr} {w u : W Bool} {pos : Pos} (h : DE X pl G a w) (k : DE X pl G (.BoolOp .Or (b :: rest) pos) u) : DE X pl G (.BoolOp .Or (a :: b :: rest) pos) (fun P => w fun x => wIf x (P true) (u P)) := PE.wk (pe_or h k) fun s H Q ⟨F, fp, at_, P, w, K⟩ => by
  refine ⟨F, fp, at_, _, w, fun b v F' H' fp' S p a1 g b1 _ => ?_⟩
  cases b1.2
  refine ⟨b, rfl, ?_⟩
  cases b with
  | true => exact Wish.pure K a1 g (p.1 rfl) (.bl true)
  | false => exact ⟨F', fp', a1, P, p.2 rfl, fun c z F2 H2 fp2 S2 p2 a2 g2 b2 hS => K c z F2 H2 fp2 S2 p2 a2 (g.trans g2) b2 fun q m => (b2.1 q m).elim⟩
theorem de_not {e : Expr} {w : W Bool} {pos : Pos} (h : DE X pl G e w) : DE X pl G (.UnaryOp .Not e pos) (fun P => w fun b => P (!b)) := PE.wk (pe_not h) fun s H Q ⟨F, fp, at_, P, w, K⟩ =>
  ⟨F, fp, at_, _, w, fun b v F' H' fp' S p a1 g b1 _ => by
    cases b1.2
    exact ⟨b, rfl, Wish.pure K a1 g p (.bl (!b))⟩⟩
theorem dx_if {δ : Type} {B : δ → Asrt} {c a b : Expr} {wc : W Bool} {wa wb : W δ} {pos : Pos} (hc : DT X pl G c wc) (ha : DX X pl G a B wa) (hb : DX X pl G b B wb) : DX X pl G (.IfExp c a b pos) B (fun P => wc fun x => wIf x (wa P) (wb P)) := PE.wk (pe_ifExp hc ha hb) fun s H Q ⟨F, fp, at_, P, w, K⟩ => by
  refine ⟨F, fp, at_, _, w, fun b F' H' fp' p a1 g => ?_⟩
  have go : ∀ w' : W δ, w' P → tX pl G B w' s H' Q := fun w' hw => ⟨F', fp', a1, P, hw, fun c z F2 H2 fp2 S2 p2 a2 g2 b2 hS => K c z F2 H2 fp2 S2 p2 a2 (g.trans g2) b2 fun q m => ⟨g.back (hS q m).1, (hS q m).2⟩⟩
  cases b with
  | true => exact go wa (p.1 rfl)
  | false => exact go wb (p.2 rfl)

/-! ### whole numbers -/
theorem vr_II {f : Int → Int → Int} : VR2 (rI0 fun i j => .int (f i j)) (fun a b (P : Int → Prop) => P (f a b)) (fun a : Int => fro a) := fun F H x y a b Q P e hx hy p K => by
  cases hx; cases hy
  exact ⟨a, b, rfl, rfl, K _ _ F H (fun _ => False) p (New.refl e) ⟨fun _ h => h, .int _⟩ fun _ h => h.elim⟩
theorem vr_IB {f : Int → Int → Bool} : VR2 (rI0 fun i j => .bl (f i j)) (fun a b (P : Bool → Prop) => P (f a b)) (fun a : Bool => fro a) := fun F H x y a b Q P e hx hy p K => by
  cases hx; cases hy
  exact ⟨a, b, rfl, rfl, K _ _ F H (fun _ => False) p (New.refl e) ⟨fun _ h => h, .bl _⟩ fun _ h => h.elim⟩
theorem vr_IC {C : Int → Int → Prop} {f : Int → Int → Int} : VR2 (rI C fun i j => .int (f i j)) (fun a b (P : Int → Prop) => C a b ∧ P (f a b)) (fun a : Int => fro a) := fun F H x y a b Q P e hx hy p K => by
  cases hx; cases hy
  exact ⟨a, b, rfl, rfl, p.1, K _ _ F H (fun _ => False) p.2 (New.refl e) ⟨fun _ h => h, .int _⟩ fun _ h => h.elim⟩
section
variable {e e' : Expr} {wa wb : W Int} {pos : Pos}
theorem de_add (ha : DE X pl G e wa) (hb : DE X pl G e' wb) : DE X pl G (.BinOp e .Add e' pos) (fun P => wa fun x => wb fun y => P (x + y)) := dx_op2 op_add vr_II ha hb
theorem de_sub (ha : DE X pl G e wa) (hb : DE X pl G e' wb) : DE X pl G (.BinOp e .Sub e' pos) (fun P => wa fun x => wb fun y => P (x - y)) := dx_op2 op_sub vr_II ha hb
theorem de_mul (ha : DE X pl G e wa) (hb : DE X pl G e' wb) : DE X pl G (.BinOp e .Mult e' pos) (fun P => wa fun x => wb fun y => CMul x y ∧ P (x * y)) := dx_op2 op_mul vr_IC ha hb
theorem de_fdiv (ha : DE X pl G e wa) (hb : DE X pl G e' wb) : DE X pl G (.BinOp e .FloorDiv e' pos) (fun P => wa fun x => wb fun y => CDivN x y ∧ P (x.fdiv y)) := dx_op2 op_fdivN vr_IC ha hb
theorem de_mod (ha : DE X pl G e wa) (hb : DE X pl G e' wb) : DE X pl G (.BinOp e .Mod e' pos) (fun P => wa fun x => wb fun y => y ≠ 0 ∧ P (x.fmod y)) := dx_op2 op_modN vr_IC ha hb
theorem de_shl (ha : DE X pl G e wa) (hb : DE X pl G e' wb) : DE X pl G (.BinOp e .LShift e' pos) (fun P => wa fun x => wb fun y => CPow x y ∧ P (x * 2 ^ y.toNat)) := dx_op2 op_shl vr_IC ha hb
theorem de_shr (ha : DE X pl G e wa) (hb : DE X pl G e' wb) : DE X pl G (.BinOp e .RShift e' pos) (fun P => wa fun x => wb fun y => 0 ≤ y ∧ P (x / 2 ^ y.toNat)) := dx_op2 op_shr vr_IC ha hb
theorem de_band (ha : DE X pl G e wa) (hb : DE X pl G e' wb) : DE X pl G (.BinOp e .BitAnd e' pos) (fun P => wa fun x => wb fun y => P (Builtin.bitAnd x y)) := dx_op2 op_and vr_II ha hb
theorem de_pow (ha : DE X pl G e wa) (hb : DE X pl G e' wb) : DE X pl G (.BinOp e .Pow e' pos) (fun P => wa fun x => wb fun y => CPow x y ∧ P (x ^ y.toNat)) := dx_op2 op_pow vr_IC ha hb
theorem de_neg (ha : DE X pl G e wa) : DE X pl G (.UnaryOp .USub e pos) (fun P => wa fun x => P (-x)) := PE.wk (pe_un un_neg ha) fun s H Q ⟨F, fp, at_, P, w, K⟩ =>
  ⟨F, fp, at_, _, w, fun a v F' H' fp' S p a1 g b1 _ => by
    cases b1.2
    exact ⟨a, rfl, Wish.pure K a1 g p (.int _)⟩⟩
theorem de_lt (ha : DE X pl G e wa) (hb : DE X pl G e' wb) : DE X pl G (.Compare e [.Lt] [e'] pos) (fun P => wa fun x => wb fun y => P (decide (x < y))) := de_cmp op_lt vr_IB ha hb
theorem de_le (ha : DE X pl G e wa) (hb : DE X pl G e' wb) : DE X pl G (.Compare e [.LtE] [e'] pos) (fun P => wa fun x => wb fun y => P (decide (x ≤ y))) := de_cmp op_le vr_IB ha hb
theorem de_gt (ha : DE X pl G e wa) (hb : DE X pl G e' wb) : DE X pl G (.Compare e [.Gt] [e'] pos) (fun P => wa fun x => wb fun y => P (decide (y < x))) := de_cmp op_gt vr_IB ha hb
theorem de_ge (ha : DE X pl G e wa) (hb : DE X pl G e' wb) : DE X pl G (.Compare e [.GtE] [e'] pos) (fun P => wa fun x => wb fun y => P (decide (y ≤ x))) := de_cmp op_ge vr_IB ha hb
end
/-- a <= b <= c -/
theorem de_chain {e e1 e2 : Expr} {wa wb wc : W Int} {pos : Pos} {f f' : CmpOp} {g g' : Int → Int → Bool} (ho : OpR X (compareOp f) (rI0 fun i j => .bl (g i j))) (ho' : OpR X (compareOp f') (rI0 fun i j => .bl (g' i j))) (ha : DE X pl G e wa) (hb : DE X pl G e1 wb) (hc : DE X pl G e2 wc)
    (hm : lastMarks [f, f'] [e1, e2] = false := by with_unfolding_all rfl) : DE X pl G (.Compare e [f, f'] [e1, e2] pos) (fun P => wa fun x => wb fun y => wIf (g x y) (wc fun z => P (g' y z)) (P false)) := PE.wk (pe_chain ho ho' ha hb hc hm) fun s H Q ⟨F, fp, at_, P, w, K⟩ => by
  refine ⟨F, fp, at_, _, w, fun a x F1 H1 fp1 S1 w1 a1 g1 b1 _ => ⟨F1, fp1, a1, _, w1, fun b y F2 H2 fp2 S2 w2 a2 g2 b2 _ => ?_⟩⟩
  cases b1.2; cases b2.2
  refine ⟨a, b, rfl, rfl, g a b, rfl, ?_⟩
  cases hg : g a b with
  | true =>
    rw [hg] at w2
    refine (if_pos rfl).mpr ?_
    refine ⟨F2, fp2, a2, _, w2.1 rfl, fun c z F3 H3 fp3 S3 w3 a3 g3 b3 _ => ?_⟩
    cases b3.2
    exact ⟨b, c, rfl, rfl, Wish.pure K a3 ((g1.trans g2).trans g3) w3 (.bl _)⟩
  | false =>
    rw [hg] at w2
    refine (if_neg Bool.false_ne_true).mpr ?_
    exact Wish.pure K a2 (g1.trans g2) (w2.2 rfl) (.bl false)
theorem dt_de {e : Expr} {w : W Bool} (h : DE X pl G e w) (he : ∀ whole, isTrue e X.env whole = (do let v ← whole; standAt e.pos; holding [v] (truthy v)) := by intro _; rfl) : DT X pl G e w := dt_val h he
end
end Dm

set_option Elab.async false
set_option linter.all false
set_option maxRecDepth 100000
set_option maxHeartbeats 2000000
/-! Dm: part C: lists and tuples. -/
namespace Dm
open PySem L2
variable [TabC]

section
variable {X : Cx} {pl : Pl} {G : Env} {s : St} {F H F1 H1 F' H' : Hp} {fp fp1 : Foot} {Q : VK}
variable {α β γ : Type} [Enc α] [Enc β] [Enc γ]

/-! ### written arguments -/
theorem da_nil : DA X pl G [] (fun P => P []) := PA.wk pa_nil fun s H Q ⟨F, fp, at_, P, w, K⟩ => K [] [] F H fp w at_ .refl .nil
theorem da_cons {e : Expr} {es : List Expr} {w : W α} {wr : W (List D)} (h : DE X pl G e w) (hr : DA X pl G es wr) (hs : starEach (e :: es) X.env = (false, eval e X.env) :: starEach es X.env := by rfl) : DA X pl G (e :: es) (fun P => w fun a => wr fun ds => P (enc a :: ds)) :=
  PA.wk (pa_cons h hr hs) fun s H Q ⟨F, fp, at_, P, w, K⟩ => ⟨F, fp, at_, _, w, fun a v F1 H1 fp1 S1 w1 a1 g1 b1 _ => ⟨F1, fp1, a1, _, w1, fun ds vs F2 H2 fp2 w2 a2 g2 b2 => K (enc a :: ds) (v :: vs) F2 H2 fp2 w2 a2 (g1.trans g2) (.cons (b1.2.mono g2.exF) b2)⟩⟩
/-- items of one kind, n of them -/
def tAh (pl : Pl) (G : Env) (n : Nat) (w : W (List α)) : TA := fun s H Q => ∃ F fp, At pl G F H s fp ∧ ∃ P : List α → Prop, w P ∧ ∀ as vs F' H' fp', P as → as.length = n → At pl G F' H' s fp' → Go pl F H fp F' H' fp' → HasAll F' vs (as.map Enc.enc) → Q vs H'
abbrev DAh (X : Cx) (pl : Pl) (G : Env) (es : List Expr) (n : Nat) (w : W (List α)) : Prop := PA X es (tAh pl G n w)
theorem dh_nil : DAh (α := α) X pl G [] 0 (fun P => P []) := PA.wk pa_nil fun s H Q ⟨F, fp, at_, P, w, K⟩ => K [] [] F H fp w rfl at_ .refl .nil
theorem dh_cons {e : Expr} {es : List Expr} {n : Nat} {w : W α} {wr : W (List α)} (h : DE X pl G e w) (hr : DAh X pl G es n wr) (hs : starEach (e :: es) X.env = (false, eval e X.env) :: starEach es X.env := by rfl) : DAh X pl G (e :: es) (n + 1) (fun P => w fun a => wr fun ds => P (a :: ds)) :=
  PA.wk (pa_cons h hr hs) fun s H Q ⟨F, fp, at_, P, w, K⟩ => ⟨F, fp, at_, _, w, fun a v F1 H1 fp1 S1 w1 a1 g1 b1 _ => ⟨F1, fp1, a1, _, w1, fun ds vs F2 H2 fp2 w2 ln a2 g2 b2 => K (a :: ds) (v :: vs) F2 H2 fp2 w2 (by rw [List.length_cons, ln]) a2 (g1.trans g2) (.cons (b1.2.mono g2.exF) b2)⟩⟩

theorem lineOf {n : Nat} (h : n ≤ 100000) : n ≤ sizeLine := Nat.le_trans h (by decide)
theorem lineLt {n : Nat} (h : n < 100000) : n < sizeLine := Nat.lt_of_lt_of_le h (by decide)
/-- what is owned, made to stand still -/
theorem At.frz (a : At pl G F H s fp) {S : Set'} (hf : ∀ q, S q → F q = none ∧ H q ≠ none) (h1 : ∀ q, S q → (∀ i, ¬ fp i q) ∧ ¬ isPool pl q) : ∃ F', Ex F F' ∧ At pl G F' H s fp ∧ (∀ q, S q → F' q = H q) ∧ (∀ q, ¬ S q → F' q = F q) := by
  classical
  refine ⟨fun q => if S q then H q else F q, ?_, ?_, fun q h => if_pos h, fun q h => if_neg h⟩
  · intro q o e
    by_cases z : S q
    · rw [(hf q z).1] at e; cases e
    · exact (if_neg z).trans e
  · have ee : Ex F (fun q => if S q then H q else F q) := fun q o e => by
      by_cases z : S q
      · rw [(hf q z).1] at e; cases e
      · exact (if_neg z).trans e
    refine ⟨fun q o e => ?_, a.len, fun i A e => ?_, a.dis, a.out, a.pool.frame ee fun q m => ⟨?_, rfl⟩, a.pdis⟩
    · by_cases z : S q
      · have e' : H q = some o := (if_pos z).symm.trans e
        exact e'
      · have e' : F q = some o := (if_neg z).symm.trans e
        exact a.ex q o e'
    · obtain ⟨g, v, hv, hA⟩ := a.sl i A e
      exact ⟨g, v, hv, g.frame hA ee fun q m => ⟨(if_neg fun z => (h1 q z).1 i m).trans (g.own hA q m).1, rfl⟩⟩
    · exact (if_neg fun z => (h1 q z).2 m).trans (a.pool.there m).1
/-- an assertion of what is owned that may be made to stand still -/
def Frz (B : α → Asrt) : Prop := ∀ (a : α) (F H : Hp) (v : V) (S : Set'), B a F H v S → Ex F H → (∀ q, S q → F q = none ∧ H q ≠ none) ∧ ∀ F', Ex F F' → (∀ q, S q → F' q = H q) → Has F' v (enc a)
theorem frz_fro : Frz (fun a : α => fro a) := fun a F H v S b _ => ⟨fun q m => (b.1 q m).elim, fun F' e _ => b.2.mono e⟩
theorem frz_own : Frz (fun a : List α => own a) := fun a F H v S b e => ⟨(good_own a).own b, fun F' e' k => by
  obtain ⟨l, vs, rfl, hs, hF, hH, ha⟩ := b
  exact .lst ((k l ((hs l).mpr rfl)).trans hH) (ha.mono e')⟩
theorem Rws.frz {F' : Hp} (e : Ex F F') : ∀ {ps : List Addr} {ass : List (List α)}, Rws F H ps ass → (∀ q, q ∈ ps → F' q = H q) → HasAll F' (ps.map V.ref) (ass.map Enc.enc)
  | _, _, .nil, _ => .nil
  | _, _, .cons a b c r, k => .cons (.lst ((k _ List.mem_cons_self).trans b) (c.mono e)) (r.frz e fun q h => k q (List.mem_cons_of_mem _ h))
theorem frz_own2 : Frz (fun a : List (List α) => own2 a) := fun a F H v S b e => ⟨(good_own2 a).own b, fun F' e' k => by
  obtain ⟨l, ps, rfl, hs, nd, hF, hH, hr⟩ := b
  exact .lst ((k l ((hs l).mpr List.mem_cons_self)).trans hH) (hr.frz e' fun q m => k q ((hs q).mpr (List.mem_cons_of_mem _ m)))⟩
theorem Wish.frz {B : α → Asrt} {P : α → Prop} (fz : Frz B) (K : Wish pl G (fun a : α => Dm.fro a) s F H fp P Q) : Wish pl G B s F H fp P Q := fun a v F1 H1 fp1 S p a1 g b hS => by
  obtain ⟨z1, z2⟩ := fz a F1 H1 v S b a1.ex
  obtain ⟨F2, e, a2, k1, k2⟩ := a1.frz z1 fun q m => (hS q m).2
  refine K a v F2 H1 fp1 (fun _ => False) p a2 ⟨g.exF.trans e, fun q h n m => ?_, g.foot, g.grow⟩ ⟨fun _ h => h, z2 F2 e k1⟩ fun _ h => h.elim
  have ns : ¬ S q := fun m => h (hS q m).1
  exact ⟨(g.keep q h n m).1, fun f => (k2 q ns).trans ((g.keep q h n m).2 f)⟩
theorem de_frz {B : α → Asrt} {e : Expr} {w : W α} (fz : Frz B) (h : DX X pl G e B w) : DE X pl G e w := PE.wk h fun s H Q ⟨F, fp, at_, P, w, K⟩ => ⟨F, fp, at_, P, w, K.frz fz⟩
theorem de_of (h : DX X pl G e (fun a : List α => own a) w) : DE X pl G e w := de_frz frz_own h
theorem de_of2 (h : DX X pl G e (fun a : List (List α) => own2 a) w) : DE X pl G e w := de_frz frz_own2 h

/-! ### displays -/
theorem own_new {p : Addr} {vs : List V} {as : List α} (h : F p = none) (hv : HasAll F vs (as.map Enc.enc)) : own as F (upd H p (.lst vs)) (.ref p) (fun q => q = p) := ⟨p, vs, rfl, fun _ => Iff.rfl, h, upd_same, hv⟩
theorem At.fnone (a : At pl G F H s fp) {p : Addr} (h : H p = none) : F p = none := by
  cases z : F p with
  | none => rfl
  | some u => rw [a.ex p u z] at h; cases h
theorem Ex.fnone (e : Ex F H) {p : Addr} (h : H p = none) : F p = none := by
  cases z : F p with
  | none => rfl
  | some u => rw [e p u z] at h; cases h
theorem dx_lst {es : List Expr} {n : Nat} {pos : Pos} {w : W (List α)} (h : DAh X pl G es n w) (hn : n ≤ 100000 := by decide) : DX X pl G (.List es pos) (fun a : List α => own a) w := PE.wk (pe_lst h) fun s H Q ⟨F, fp, at_, P, w, K⟩ =>
  ⟨F, fp, at_, P, w, fun as vs F' H' fp' p ln a1 g b => ⟨by rw [b.length, List.length_map, ln]; exact lineOf hn, fun q hq =>
    K.fin (S := fun x => x = q) a1 g p (New.own a1.ex hq) (own_new (a1.fnone hq) b) fun x e => by rw [e]; exact hq⟩⟩
theorem de_tup {es : List Expr} {n k : Nat} {pos : Pos} {w : W (List α)} (h : DAh X pl G es n w) (hn : n ≤ 100000 := by decide) : DE X pl G (.Tuple es k pos) (fun P => w fun as => P (Tup.mk as)) := PE.wk (pe_tupS h) fun s H Q ⟨F, fp, at_, P, w, K⟩ =>
  ⟨F, fp, at_, _, w, fun as vs F' H' fp' p ln a1 g b => ⟨by rw [b.length, List.length_map, ln]; exact lineOf hn, fun q ob hq hn =>
K.fro a1 g p (New.fro a1.ex hq) (.tup (TupAt.new hn) (b.mono (Ex.new (a1.fnone hq))))⟩⟩
/-- a written tuple of unlike kinds -/
theorem de_tupD {es : List Expr} {k : Nat} {pos : Pos} {δ : Type} [Enc δ] {w : W (List D)} {w' : W δ} (h : DA X pl G es w) (hw : ∀ P : δ → Prop, w' P → w fun ds => ds.length ≤ 100000 ∧ ∃ a : δ, enc a = .tuple ds ∧ P a) : DE X pl G (.Tuple es k pos) w' := PE.wk (pe_tupS h) fun s H Q ⟨F, fp, at_, P, w, K⟩ =>
  ⟨F, fp, at_, _, hw P w, fun ds vs F' H' fp' ⟨ln, a, ea, p⟩ a1 g b => ⟨by rw [b.length]; exact lineOf ln, fun q ob hq hn =>
    K.fro a1 g p (New.fro a1.ex hq) (by rw [ea]; exact .tup (TupAt.new hn) (b.mono (Ex.new (a1.fnone hq))))⟩⟩
theorem de_lstD {es : List Expr} {pos : Pos} {δ : Type} [Enc δ] {w : W (List D)} {w' : W δ} (h : DA X pl G es w) (hw : ∀ P : δ → Prop, w' P → w fun ds => ds.length ≤ 100000 ∧ ∃ a : δ, enc a = .list ds ∧ P a) : DE X pl G (.List es pos) w' := PE.wk (pe_lst h) fun s H Q ⟨F, fp, at_, P, w, K⟩ =>
  ⟨F, fp, at_, _, hw P w, fun ds vs F' H' fp' ⟨ln, a, ea, p⟩ a1 g b => ⟨by rw [b.length]; exact lineOf ln, fun q hq =>
    K.fro a1 g p (New.fro a1.ex hq) (by rw [ea]; exact .lst upd_same (b.mono (Ex.new (a1.fnone hq))))⟩⟩
end
/-- every w that occurs hands on along implications -/
def Mono {α : Type} (w : W α) : Prop := ∀ P P' : α → Prop, (∀ a, P a → P' a) → w P → w P'
section
variable {X : Cx} {pl : Pl} {G : Env} {s : St} {F H F1 H1 F' H' : Hp} {fp fp1 : Foot} {Q : VK}
variable {α β γ δ : Type} [Enc α] [Enc β] [Enc γ] [Enc δ]
/-- two, three, four unlike parts, one after another, then a new tuple -/
theorem de_t2 {e e1 : Expr} {k : Nat} {pos : Pos} {wa : W α} {wb : W β} (ha : DE X pl G e wa) (hb : DE X pl G e1 wb) (h1 : starEach [e, e1] X.env = (false, eval e X.env) :: starEach [e1] X.env := by rfl) (h2 : starEach [e1] X.env = (false, eval e1 X.env) :: starEach [] X.env := by rfl) :
    DE X pl G (.Tuple [e, e1] k pos) (fun P => wa fun a => wb fun b => P (P2.mk a b)) := PE.wk (pe_tupS (pa_cons ha (pa_cons hb pa_nil h2) h1)) fun s H Q ⟨F, fp, at_, P, w, K⟩ =>
  ⟨F, fp, at_, _, w, fun a v F1 H1 fp1 S1 w1 a1 g1 b1 _ => ⟨F1, fp1, a1, _, w1, fun b u F2 H2 fp2 S2 w2 a2 g2 b2 _ => ⟨lineOf (by decide : 2 ≤ 100000), fun q ob hq hn =>
K.fro a2 (g1.trans g2) w2 (New.fro a2.ex hq) (.tup (TupAt.new hn) (HasAll.mono (Ex.new (a2.fnone hq)) (.cons (b1.2.mono g2.exF) (.cons b2.2 .nil))))⟩⟩⟩
theorem de_t3 {e e1 e2 : Expr} {k : Nat} {pos : Pos} {wa : W α} {wb : W β} {wc : W γ} (ha : DE X pl G e wa) (hb : DE X pl G e1 wb) (hc : DE X pl G e2 wc) (h1 : starEach [e, e1, e2] X.env = (false, eval e X.env) :: starEach [e1, e2] X.env := by rfl) (h2 : starEach [e1, e2] X.env = (false, eval e1 X.env) :: starEach [e2] X.env := by rfl) (h3 : starEach [e2] X.env = (false, eval e2 X.env) :: starEach [] X.env := by rfl) :
    DE X pl G (.Tuple [e, e1, e2] k pos) (fun P => wa fun a => wb fun b => wc fun c => P (P3.mk a b c)) := PE.wk (pe_tupS (pa_cons ha (pa_cons hb (pa_cons hc pa_nil h3) h2) h1)) fun s H Q ⟨F, fp, at_, P, w, K⟩ =>
  ⟨F, fp, at_, _, w, fun a v F1 H1 fp1 S1 w1 a1 g1 b1 _ => ⟨F1, fp1, a1, _, w1, fun b u F2 H2 fp2 S2 w2 a2 g2 b2 _ => ⟨F2, fp2, a2, _, w2, fun c x F3 H3 fp3 S3 w3 a3 g3 b3 _ => ⟨lineOf (by decide : 3 ≤ 100000), fun q ob hq hn =>
K.fro a3 ((g1.trans g2).trans g3) w3 (New.fro a3.ex hq) (.tup (TupAt.new hn) (HasAll.mono (Ex.new (a3.fnone hq)) (.cons (b1.2.mono (g2.exF.trans g3.exF)) (.cons (b2.2.mono g3.exF) (.cons b3.2 .nil)))))⟩⟩⟩⟩

/-! ### items -/
def wIdx {α : Type} (as : List α) (i : Int) (P : α → Prop) : Prop := ∃ a, atI as i = some a ∧ P a
theorem atI_has {vs : List V} {as : List α} {i : Int} {a : α} (h : HasAll F vs (as.map Enc.enc)) (e : atI as i = some a) : ∃ v, atI vs i = some v ∧ Has F v (enc a) := by
  have ln := h.length
  rw [List.length_map] at ln
  unfold atI at e ⊢
  rw [ln]
  cases z : ixN as.length i with
  | none => rw [z] at e; cases e
  | some j =>
    rw [z] at e
    have e' : as[j]? = some a := e
    have e2 : (as.map Enc.enc)[j]? = some (enc a) := by rw [List.getElem?_map, e']; rfl
    obtain ⟨v, h1, h2⟩ := h.get e2
    exact ⟨v, h1, h2⟩
theorem vr_ixL {K : Fr} : VR2 (rIxL K) (fun (as : List α) (i : Int) (P : α → Prop) => wIdx as i P) (fun a : α => fro a) := fun F H x y as i Q P e hx hy p Kk => by
  cases hy
  cases hx with
  | lst h1 h2 =>
    obtain ⟨a, ea, p⟩ := p
    obtain ⟨v, e1, e2⟩ := atI_has h2 ea
    exact ⟨_, _, _, v, rfl, rfl, SqL.of (e _ _ h1), e1, Kk _ _ F H (fun _ => False) p (New.refl e) ⟨fun _ h => h, e2⟩ fun _ h => h.elim⟩
theorem vr_ixT {K : Fr} : VR2 (rIxT K) (fun (as : Tup α) (i : Int) (P : α → Prop) => wIdx as.l i P) (fun a : α => fro a) := fun F H x y as i Q P e hx hy p Kk => by
  cases hy
  cases hx with
  | tup h1 h2 =>
    obtain ⟨a, ea, p⟩ := p
    obtain ⟨v, e1, e2⟩ := atI_has h2 ea
    exact ⟨_, _, _, v, rfl, rfl, TupAt.sq (TupAt.mono e h1), e1, Kk _ _ F H (fun _ => False) p (New.refl e) ⟨fun _ h => h, e2⟩ fun _ h => h.elim⟩
theorem de_ixL {e e' : Expr} {w : W (List α)} {wi : W Int} {pos : Pos} (ha : DE X pl G e w) (hb : DE X pl G e' wi) (hs : PlainIx e' := by exact fun _ _ => rfl) : DE X pl G (.Subscript e e' pos) (fun P => w fun as => wi fun i => wIdx as i P) := PE.wk (pe_ix ix_list ha hb hs) (tOp_go vr_ixL)
theorem de_ixT {e e' : Expr} {w : W (Tup α)} {wi : W Int} {pos : Pos} (ha : DE X pl G e w) (hb : DE X pl G e' wi) (hs : PlainIx e' := by exact fun _ _ => rfl) : DE X pl G (.Subscript e e' pos) (fun P => w fun as => wi fun i => wIdx as.l i P) := PE.wk (pe_ix ix_tup ha hb hs) (tOp_go vr_ixT)
/-- the written places of a pair, a triple -/
theorem de_fst {e : Expr} {w : W (P2 α β)} {pos pos' : Pos} {j : Nat} (ha : DE X pl G e w) : DE X pl G (.Subscript e (.Constant (.int 0) j pos') pos) (fun P => w fun p => P p.a) := PE.wk (pe_ix ix_tup ha pe_int (fun _ _ => rfl)) fun s H Q ⟨F, fp, at_, P, w, K⟩ =>
  ⟨F, fp, at_, _, w, fun a v F1 H1 fp1 S1 w1 a1 g1 b1 _ => by
    obtain ⟨_, b1⟩ := b1
    cases b1 with
    | tup h1 h2 => cases h2 with
      | cons x y => exact ⟨_, _, _, _, rfl, rfl, TupAt.sq (TupAt.mono a1.ex h1), atI_nat (j := 0) rfl, K.pure a1 g1 w1 x⟩⟩
theorem de_snd {e : Expr} {w : W (P2 α β)} {pos pos' : Pos} {j : Nat} (ha : DE X pl G e w) : DE X pl G (.Subscript e (.Constant (.int 1) j pos') pos) (fun P => w fun p => P p.b) := PE.wk (pe_ix ix_tup ha pe_int (fun _ _ => rfl)) fun s H Q ⟨F, fp, at_, P, w, K⟩ =>
  ⟨F, fp, at_, _, w, fun a v F1 H1 fp1 S1 w1 a1 g1 b1 _ => by
    obtain ⟨_, b1⟩ := b1
    cases b1 with
    | tup h1 h2 => cases h2 with
      | cons x y => cases y with
        | cons y z => cases z with
          | nil => exact ⟨_, _, _, _, rfl, rfl, TupAt.sq (TupAt.mono a1.ex h1), atI_nat (j := 1) rfl, K.pure a1 g1 w1 y⟩⟩
/-- an owned list's item; an owned row's item -/
theorem de_ixO (i : Nat) {as : List α} {x : Str} {e' : Expr} {wi : W Int} {pos pos' : Pos} (hb : DE X pl G e' wi) (h : G[i]? = some (some (own as)) := by rfl) (hN : X.N[i]? = some x := by rfl) (hv : Vis X.env.scope x := by first | exact Or.inl rfl | exact Or.inr (Or.inl rfl) | exact Or.inr (Or.inr rfl)) (hd : (x == ("__debug__" : Str)) = false := by decide)
    (hcd : (x == ("__classdict__" : Str)) = false := by decide) (hs : PlainIx e' := by exact fun _ _ => rfl) : DE X pl G (.Subscript (.Name x pos') e' pos) (fun P => wi fun j => wIdx as j P) := PE.wk (pe_ix ix_list (pe_var hN hv hd hcd) hb hs) fun s H Q ⟨F, fp, at_, P, w, K⟩ => by
  obtain ⟨_, v, hv, _⟩ := at_.sl i _ h
  refine ⟨v, hv, F, fp, at_, _, w, fun j u F1 H1 fp1 S1 ⟨a, ea, p⟩ a1 g1 b1 _ => ?_⟩
  cases b1.2
  obtain ⟨_, v', hv', l, vs, rfl, _, _, hl, ha⟩ := a1.sl i _ h
  rw [hv] at hv'; cases hv'
  obtain ⟨z, e1, e2⟩ := atI_has ha ea
  exact ⟨l, vs, j, z, rfl, rfl, SqL.of hl, e1, K.pure a1 g1 p e2⟩
/-! ### what is worth something and leaves all as it is -/
def tQ (pl : Pl) (G : Env) (w : W α) : TE := fun s H Q => ∃ F fp, At pl G F H s fp ∧ ∃ P : α → Prop, w P ∧ ∀ a v, P a → Has F v (enc a) → Q v H
abbrev DQ (X : Cx) (pl : Pl) (G : Env) (e : Expr) (w : W α) : Prop := PE X e (tQ pl G w)
theorem de_q {e : Expr} {w : W α} (h : DQ X pl G e w) : DE X pl G e w := PE.wk h fun s H Q ⟨F, fp, at_, P, w, K⟩ => ⟨F, fp, at_, P, w, fun a v p b => K.pure at_ .refl p b⟩
theorem dq_var (i : Nat) {a : α} {x : Str} {pos : Pos} (h : G[i]? = some (some (fro a)) := by rfl) (hN : X.N[i]? = some x := by rfl) (hv : Vis X.env.scope x := by first | exact Or.inl rfl | exact Or.inr (Or.inl rfl) | exact Or.inr (Or.inr rfl)) (hd : (x == ("__debug__" : Str)) = false := by decide)
    (hcd : (x == ("__classdict__" : Str)) = false := by decide) : DQ X pl G (.Name x pos) (fun P => P a) := PE.wk (pe_var hN hv hd hcd) fun s H Q ⟨F, fp, at_, P, w, K⟩ => by
  obtain ⟨g, v, hv, hA⟩ := at_.sl i _ h
  exact ⟨v, hv, K a v w hA.2⟩
theorem dq_int {i : Int} {j pos} : DQ X pl G (.Constant (.int i) j pos) (fun P => P i) := PE.wk pe_int fun s H Q ⟨F, fp, at_, P, w, K⟩ => K i _ w (.int i)
theorem dq_II {f : Operator} {g : Int → Int → Int} {e e' : Expr} {wa wb : W Int} {pos : Pos} (ho : OpR X (binaryOp f) (rI0 fun i j => .int (g i j))) (ha : DQ X pl G e wa) (hb : DQ X pl G e' wb) : DQ X pl G (.BinOp e f e' pos) (fun P => wa fun x => wb fun y => P (g x y)) := PE.wk (pe_op ho ha hb) fun s H Q ⟨F, fp, at_, P, w, K⟩ =>
  ⟨F, fp, at_, _, w, fun a v p b => ⟨F, fp, at_, _, p, fun a' v' p' b' => by
    cases b; cases b'
    exact ⟨a, a', rfl, rfl, K _ _ p' (.int _)⟩⟩⟩
theorem dq_add {e e' : Expr} {wa wb : W Int} {pos : Pos} (ha : DQ X pl G e wa) (hb : DQ X pl G e' wb) : DQ X pl G (.BinOp e .Add e' pos) (fun P => wa fun x => wb fun y => P (x + y)) := dq_II op_add ha hb
theorem dq_sub {e e' : Expr} {wa wb : W Int} {pos : Pos} (ha : DQ X pl G e wa) (hb : DQ X pl G e' wb) : DQ X pl G (.BinOp e .Sub e' pos) (fun P => wa fun x => wb fun y => P (x - y)) := dq_II op_sub ha hb
theorem dq_ixL {e e' : Expr} {w : W (List α)} {wi : W Int} {pos : Pos} (ha : DQ X pl G e w) (hb : DQ X pl G e' wi) (hs : PlainIx e' := by exact fun _ _ => rfl) : DQ X pl G (.Subscript e e' pos) (fun P => w fun as => wi fun i => wIdx as i P) := PE.wk (pe_ix ix_list ha hb hs) fun s H Q ⟨F, fp, at_, P, w, K⟩ =>
  ⟨F, fp, at_, _, w, fun as v p b => ⟨F, fp, at_, _, p, fun i u ⟨a, ea, p2⟩ b2 => by
    cases b2
    cases b with
    | lst h1 h2 =>
      obtain ⟨z, e1, e2⟩ := atI_has h2 ea
      exact ⟨_, _, _, z, rfl, rfl, SqL.of (at_.ex _ _ h1), e1, K a z p2 e2⟩⟩⟩
theorem dq_ixT {e e' : Expr} {w : W (Tup α)} {wi : W Int} {pos : Pos} (ha : DQ X pl G e w) (hb : DQ X pl G e' wi) (hs : PlainIx e' := by exact fun _ _ => rfl) : DQ X pl G (.Subscript e e' pos) (fun P => w fun as => wi fun i => wIdx as.l i P) := PE.wk (pe_ix ix_tup ha hb hs) fun s H Q ⟨F, fp, at_, P, w, K⟩ =>
  ⟨F, fp, at_, _, w, fun as v p b => ⟨F, fp, at_, _, p, fun i u ⟨a, ea, p2⟩ b2 => by
    cases b2
    cases b with
    | tup h1 h2 =>
      obtain ⟨z, e1, e2⟩ := atI_has h2 ea
      exact ⟨_, _, _, z, rfl, rfl, TupAt.sq (TupAt.mono at_.ex h1), e1, K a z p2 e2⟩⟩⟩
theorem atI_ix {as : List α} {j : Int} {a : α} (h : atI as j = some a) : ∃ n, ixN as.length j = some n ∧ as[n]? = some a := by
  unfold atI at h
  cases z : ixN as.length j with
  | none => rw [z] at h; cases h
  | some n => rw [z] at h; exact ⟨n, rfl, h⟩
theorem Rws.atI {ps : List Addr} {ass : List (List α)} {j : Int} {as : List α} (r : Rws F H ps ass) (h : L2.atI ass j = some as) : ∃ q vs n, L2.atI (ps.map V.ref) j = some (.ref q) ∧ ixN ass.length j = some n ∧ ps[n]? = some q ∧ ass[n]? = some as ∧ F q = none ∧ H q = some (.lst vs) ∧ HasAll F vs (as.map Enc.enc) := by
  obtain ⟨n, hn, hn2⟩ := atI_ix h
  obtain ⟨q, vs, hq, fq, hq2, ha⟩ := r.at hn2
  refine ⟨q, vs, n, ?_, hn, hq, hn2, fq, hq2, ha⟩
  unfold L2.atI
  rw [List.length_map, r.length, hn]
  show (ps.map V.ref)[n]? = _
  rw [List.getElem?_map, hq]; rfl
theorem dq_ixO (i : Nat) {as : List α} {x : Str} {e' : Expr} {wi : W Int} {pos pos' : Pos} (hb : DQ X pl G e' wi) (h : G[i]? = some (some (own as)) := by rfl) (hN : X.N[i]? = some x := by rfl) (hv : Vis X.env.scope x := by first | exact Or.inl rfl | exact Or.inr (Or.inl rfl) | exact Or.inr (Or.inr rfl)) (hd : (x == ("__debug__" : Str)) = false := by decide)
    (hcd : (x == ("__classdict__" : Str)) = false := by decide) (hs : PlainIx e' := by exact fun _ _ => rfl) : DQ X pl G (.Subscript (.Name x pos') e' pos) (fun P => wi fun j => wIdx as j P) := PE.wk (pe_ix ix_list (pe_var hN hv hd hcd) hb hs) fun s H Q ⟨F, fp, at_, P, w, K⟩ => by
  obtain ⟨_, v, hv, l, vs, rfl, _, _, hl, ha⟩ := at_.sl i _ h
  refine ⟨.ref l, hv, F, fp, at_, _, w, fun j u ⟨a, ea, p⟩ b1 => ?_⟩
  cases b1
  obtain ⟨z, e1, e2⟩ := atI_has ha ea
  exact ⟨l, vs, j, z, rfl, rfl, SqL.of hl, e1, K a z p e2⟩
theorem dq_ixOO (i : Nat) {ass : List (List α)} {x : Str} {e' e2 : Expr} {wi wj : W Int} {pos pos' pos2 : Pos} (hb : DQ X pl G e' wi) (hc : DQ X pl G e2 wj) (h : G[i]? = some (some (own2 ass)) := by rfl) (hN : X.N[i]? = some x := by rfl) (hv : Vis X.env.scope x := by first | exact Or.inl rfl | exact Or.inr (Or.inl rfl) | exact Or.inr (Or.inr rfl)) (hd : (x == ("__debug__" : Str)) = false := by decide)
    (hcd : (x == ("__classdict__" : Str)) = false := by decide) (hs : PlainIx e' := by exact fun _ _ => rfl) (hs2 : PlainIx e2 := by exact fun _ _ => rfl) : DQ X pl G (.Subscript (.Subscript (.Name x pos') e' pos) e2 pos2) (fun P => wi fun j => wIdx ass j fun as => wj fun k => wIdx as k P) := PE.wk (pe_ix ix_list (pe_ix ix_list (pe_var hN hv hd hcd) hb hs) hc hs2) fun s H Q ⟨F, fp, at_, P, w, K⟩ => by
  obtain ⟨_, v, hv, l, ps, rfl, hS, nd, hF, hl, hr⟩ := at_.sl i _ h
  refine ⟨.ref l, hv, F, fp, at_, _, w, fun j u ⟨as, eas, p⟩ b1 => ?_⟩
  cases b1
  obtain ⟨q, vs, n, at1, _, _, _, fq, hq2, ha⟩ := hr.atI eas
  refine ⟨l, _, j, .ref q, rfl, rfl, SqL.of hl, at1, F, fp, at_, _, p, fun k u2 ⟨a, ea, p2⟩ b2 => ?_⟩
  cases b2
  obtain ⟨z, e1, e2⟩ := atI_has ha ea
  exact ⟨q, vs, k, z, rfl, rfl, SqL.of hq2, e1, K a z p2 e2⟩

/-! ### lengths -/
theorem de_lenV {e : Expr} {r : List V → Hp → VK → Prop} {w : W α} {f : α → Int} {p pos : Pos} (hc : CallR X (.builtin "len") r) (hm : X.mg "len" = none) (h : DE X pl G e w) (hr : ∀ F H x a (Q : VK), Ex F H → Has F x (enc a) → Q (.int (f a)) H → r [x] H Q) (hg : Gl X "len" := by rfl)
    (he : starEach [e] X.env = (false, eval e X.env) :: starEach [] X.env := by rfl) (hpl : (backTo pos (starEach [] X.env)).any (·.1) = false := by rfl) : DE X pl G (.Call (.Name "len" p) [e] [] pos) (fun P => w fun a => P (f a)) := PE.wk (pe_callB hc hg hm PySem.boot_len (pa_cons h pa_nil he) (by decide) (by decide) he hpl) fun s H Q ⟨F, fp, at_, P, w, K⟩ =>
  ⟨F, fp, at_, _, w, fun a v F1 H1 fp1 S1 w1 a1 g1 b1 _ => hr F1 H1 v a Q a1.ex b1.2 (K.pure a1 g1 w1 (.int _))⟩
theorem de_lenL {e : Expr} {w : W (List α)} {p pos : Pos} (hm : X.mg "len" = none) (h : DE X pl G e w) (hg : Gl X "len" := by rfl)
    (he : starEach [e] X.env = (false, eval e X.env) :: starEach [] X.env := by rfl) (hpl : (backTo pos (starEach [] X.env)).any (·.1) = false := by rfl) : DE X pl G (.Call (.Name "len" p) [e] [] pos) (fun P => w fun a => P (a.length : Int)) := de_lenV call_len_seq hm h (fun F H x a Q e b q => by
  cases b with
  | lst h1 h2 =>
    refine ⟨_, _, rfl, .inl (SqL.of (e _ _ h1)), ?_⟩
    rw [h2.length, List.length_map]; exact q) hg he hpl
theorem de_lenT {e : Expr} {w : W (Tup α)} {p pos : Pos} (hm : X.mg "len" = none) (h : DE X pl G e w) (hg : Gl X "len" := by rfl)
    (he : starEach [e] X.env = (false, eval e X.env) :: starEach [] X.env := by rfl) (hpl : (backTo pos (starEach [] X.env)).any (·.1) = false := by rfl) : DE X pl G (.Call (.Name "len" p) [e] [] pos) (fun P => w fun a => P (a.l.length : Int)) := de_lenV call_len_seq hm h (fun F H x a Q e b q => by
  cases b with
  | tup h1 h2 =>
    refine ⟨_, _, rfl, .inr (TupAt.sq (TupAt.mono e h1)), ?_⟩
    rw [h2.length, List.length_map]; exact q) hg he hpl
theorem de_lenO (i : Nat) {as : List α} {x : Str} {p pos pos' : Pos} (hm : X.mg "len" = none) (h : G[i]? = some (some (own as)) := by rfl) (hN : X.N[i]? = some x := by rfl) (hv : Vis X.env.scope x := by first | exact Or.inl rfl | exact Or.inr (Or.inl rfl) | exact Or.inr (Or.inr rfl)) (hd : (x == ("__debug__" : Str)) = false := by decide)
    (hcd : (x == ("__classdict__" : Str)) = false := by decide) (hg : Gl X "len" := by rfl)
    (he : starEach [.Name x pos'] X.env = (false, eval (.Name x pos') X.env) :: starEach [] X.env := by rfl) (hpl : (backTo pos (starEach [] X.env)).any (·.1) = false := by rfl) : DE X pl G (.Call (.Name "len" p) [.Name x pos'] [] pos) (fun P => P (as.length : Int)) := PE.wk (pe_callB call_len_seq hg hm PySem.boot_len (pa_cons (pe_var hN hv hd hcd) pa_nil he) (by decide) (by decide) he hpl) fun s H Q ⟨F, fp, at_, P, w, K⟩ => by
  obtain ⟨_, v, hv, l, vs, rfl, _, _, hl, ha⟩ := at_.sl i _ h
  refine ⟨_, hv, l, vs, rfl, .inl (SqL.of hl), ?_⟩
  have e := ha.length
  rw [List.length_map] at e
  rw [e]
  exact K.pure at_ .refl w (.int _)
theorem de_lenOO (i : Nat) {ass : List (List α)} {x : Str} {p pos pos' : Pos} (hm : X.mg "len" = none) (h : G[i]? = some (some (own2 ass)) := by rfl) (hN : X.N[i]? = some x := by rfl) (hv : Vis X.env.scope x := by first | exact Or.inl rfl | exact Or.inr (Or.inl rfl) | exact Or.inr (Or.inr rfl)) (hd : (x == ("__debug__" : Str)) = false := by decide)
    (hcd : (x == ("__classdict__" : Str)) = false := by decide) (hg : Gl X "len" := by rfl)
    (he : starEach [.Name x pos'] X.env = (false, eval (.Name x pos') X.env) :: starEach [] X.env := by rfl) (hpl : (backTo pos (starEach [] X.env)).any (·.1) = false := by rfl) : DE X pl G (.Call (.Name "len" p) [.Name x pos'] [] pos) (fun P => P (ass.length : Int)) := PE.wk (pe_callB call_len_seq hg hm PySem.boot_len (pa_cons (pe_var hN hv hd hcd) pa_nil he) (by decide) (by decide) he hpl) fun s H Q ⟨F, fp, at_, P, w, K⟩ => by
  obtain ⟨_, v, hv, l, ps, rfl, _, _, _, hl, hr⟩ := at_.sl i _ h
  refine ⟨_, hv, l, _, rfl, .inl (SqL.of hl), ?_⟩
  rw [List.length_map, hr.length]
  exact K.pure at_ .refl w (.int _)

/-! ### list(..), tuple(..), +, *, slices -/
theorem dx_list {e : Expr} {w : W δ} {f : δ → List α} {p pos : Pos} (hm : X.mg "list" = none) (h : DE X pl G e w) (hf : ∀ F x (a : δ), Has F x (enc a) → ∃ q vs, x = .ref q ∧ (F q = some (.lst vs) ∨ TupAt F q vs) ∧ HasAll F vs ((f a).map Enc.enc)) (hg : Gl X "list" := by rfl)
    (he : starEach [e] X.env = (false, eval e X.env) :: starEach [] X.env := by rfl) (hpl : (backTo pos (starEach [] X.env)).any (·.1) = false := by rfl) : DX X pl G (.Call (.Name "list" p) [e] [] pos) (fun a : List α => own a) (fun P => w fun a => P (f a)) := PE.wk (pe_callTy call_list_of hg hm PyProof.Rows.boot_list (pa_cons h pa_nil he) (by decide) (by decide) he hpl) fun s H Q ⟨F, fp, at_, P, w, K⟩ =>
  ⟨F, fp, at_, _, w, fun a v F1 H1 fp1 S1 w1 a1 g1 b1 _ => by
    obtain ⟨q, vs, rfl, hq, hv⟩ := hf F1 v a b1.2
    refine ⟨q, vs, rfl, ?_, fun l hl => K.fin (S := fun x => x = l) a1 g1 w1 (New.own a1.ex hl) (own_new (a1.fnone hl) hv) fun x e => by rw [e]; exact hl⟩
    rcases hq with z | z
    · exact .inl (SqL.of (a1.ex _ _ z))
    · exact .inr (TupAt.sq (TupAt.mono a1.ex z))⟩
theorem seqL {F : Hp} {x : V} (a : List α) (h : Has F x (enc a)) : ∃ q vs, x = .ref q ∧ (F q = some (.lst vs) ∨ TupAt F q vs) ∧ HasAll F vs (a.map Enc.enc) := by
  cases h with
  | lst h1 h2 => exact ⟨_, _, rfl, .inl h1, h2⟩
theorem seqT {F : Hp} {x : V} (a : Tup α) (h : Has F x (enc a)) : ∃ q vs, x = .ref q ∧ (F q = some (.lst vs) ∨ TupAt F q vs) ∧ HasAll F vs (a.l.map Enc.enc) := by
  cases h with
  | tup h1 h2 => exact ⟨_, _, rfl, .inr h1, h2⟩
theorem dx_listL {e : Expr} {w : W (List α)} {p pos : Pos} (hm : X.mg "list" = none) (h : DE X pl G e w) (hg : Gl X "list" := by rfl)
    (he : starEach [e] X.env = (false, eval e X.env) :: starEach [] X.env := by rfl) (hpl : (backTo pos (starEach [] X.env)).any (·.1) = false := by rfl) : DX X pl G (.Call (.Name "list" p) [e] [] pos) (fun a : List α => own a) w := dx_list (f := fun a => a) hm h (fun F x a b => seqL a b) hg he hpl
theorem dx_listT {e : Expr} {w : W (Tup α)} {p pos : Pos} (hm : X.mg "list" = none) (h : DE X pl G e w) (hg : Gl X "list" := by rfl)
    (he : starEach [e] X.env = (false, eval e X.env) :: starEach [] X.env := by rfl) (hpl : (backTo pos (starEach [] X.env)).any (·.1) = false := by rfl) : DX X pl G (.Call (.Name "list" p) [e] [] pos) (fun a : List α => own a) (fun P => w fun a => P a.l) := dx_list (f := fun a => a.l) hm h (fun F x a b => seqT a b) hg he hpl
/-- tuple(a list) -/
theorem de_tupleL {e : Expr} {w : W (List α)} {p pos : Pos} (hm : X.mg "tuple" = none) (h : DE X pl G e w) (hg : Gl X "tuple" := by rfl)
    (he : starEach [e] X.env = (false, eval e X.env) :: starEach [] X.env := by rfl) (hpl : (backTo pos (starEach [] X.env)).any (·.1) = false := by rfl) : DE X pl G (.Call (.Name "tuple" p) [e] [] pos) (fun P => w fun a => P (Tup.mk a)) := PE.wk (pe_callTy call_tuple_ofS hg hm PyProof.Rows.boot_tuple (pa_cons h pa_nil he) (by decide) (by decide) he hpl) fun s H Q ⟨F, fp, at_, P, w, K⟩ =>
  ⟨F, fp, at_, _, w, fun a v F1 H1 fp1 S1 w1 a1 g1 b1 _ => by
    obtain ⟨_, b1⟩ := b1
    cases b1 with
    | lst h1 h2 => exact ⟨_, _, rfl, .inl ⟨SqL.of (a1.ex _ _ h1), fun l ob hl hn =>
K.fro a1 g1 w1 (New.fro a1.ex hl) (.tup (TupAt.new hn) (h2.mono (Ex.new (a1.fnone hl))))⟩⟩⟩
theorem de_tupleT {e : Expr} {w : W (Tup α)} {p pos : Pos} (hm : X.mg "tuple" = none) (h : DE X pl G e w) (hg : Gl X "tuple" := by rfl)
    (he : starEach [e] X.env = (false, eval e X.env) :: starEach [] X.env := by rfl) (hpl : (backTo pos (starEach [] X.env)).any (·.1) = false := by rfl) : DE X pl G (.Call (.Name "tuple" p) [e] [] pos) w := PE.wk (pe_callTy call_tuple_ofS hg hm PyProof.Rows.boot_tuple (pa_cons h pa_nil he) (by decide) (by decide) he hpl) fun s H Q ⟨F, fp, at_, P, w, K⟩ =>
  ⟨F, fp, at_, _, w, fun a v F1 H1 fp1 S1 w1 a1 g1 b1 _ => by
    obtain ⟨_, b1⟩ := b1
    cases b1 with
    | tup h1 h2 => exact ⟨_, _, rfl, .inr ⟨TupAt.sq (TupAt.mono a1.ex h1), K.pure a1 g1 w1 (.tup h1 h2)⟩⟩⟩
theorem vr_cat : VR2 rCat (fun (a b : List α) (P : List α → Prop) => a.length + b.length ≤ 100000 ∧ P (a ++ b)) (fun a : List α => own a) := fun F H x y a b Q P e hx hy p Kk => by
  cases hx with
  | lst h1 h2 => cases hy with
    | lst h3 h4 =>
      have l2 := h2.length
      have l4 := h4.length
      rw [List.length_map] at l2 l4
      refine ⟨_, _, _, _, rfl, rfl, e _ _ h1, e _ _ h3, lineOf (by rw [l2, l4]; exact p.1), fun q hq => Kk _ _ F _ (fun z => z = q) p.2 (New.own e hq) ?_ fun z hz => by rw [hz]; exact hq⟩
      refine own_new (e.fnone hq) ?_
      rw [List.map_append]
      exact h2.append h4
theorem dx_cat {e e' : Expr} {wa wb : W (List α)} {pos : Pos} (ha : DE X pl G e wa) (hb : DE X pl G e' wb) : DX X pl G (.BinOp e .Add e' pos) (fun a : List α => own a) (fun P => wa fun a => wb fun b => a.length + b.length ≤ 100000 ∧ P (a ++ b)) := dx_op2 op_cat vr_cat ha hb
theorem vr_catT {K : Fr} : VR2 (rCatS K) (fun (a b : Tup α) (P : Tup α → Prop) => a.l.length + b.l.length ≤ 100000 ∧ P (Tup.mk (a.l ++ b.l))) (fun a : Tup α => fro a) := fun F H x y a b Q P e hx hy p Kk => by
  obtain ⟨a⟩ := a
  obtain ⟨b⟩ := b
  cases hx with
  | tup h1 h2 => cases hy with
    | tup h3 h4 =>
      have l2 := h2.length
      have l4 := h4.length
      rw [List.length_map] at l2 l4
      refine ⟨_, _, _, _, rfl, rfl, TupAt.sq (TupAt.mono e h1), TupAt.sq (TupAt.mono e h3), lineOf (by rw [l2, l4]; exact p.1), fun z => ?_, fun _ z => ?_, fun _ _ q ob hq hn => ?_⟩
      · have : a = [] := List.eq_nil_of_length_eq_zero (by have := congrArg List.length z; rw [l2] at this; exact this)
        subst this
        exact Kk _ _ F H (fun _ => False) p.2 (New.refl e) ⟨fun _ h => h, .tup h3 h4⟩ fun _ h => h.elim
      · have : b = [] := List.eq_nil_of_length_eq_zero (by have := congrArg List.length z; rw [l4] at this; exact this)
        subst this
        refine Kk _ _ F H (fun _ => False) p.2 (New.refl e) ⟨fun _ h => h, ?_⟩ fun _ h => h.elim
        rw [List.append_nil]
        exact .tup h1 h2
      · refine Kk _ _ _ _ (fun _ => False) p.2 (New.fro e hq) ⟨fun _ h => h, .tup (TupAt.new hn) ?_⟩ fun _ h => h.elim
        show HasAll _ _ ((a ++ b).map Enc.enc)
        rw [List.map_append]
        exact (h2.append h4).mono (Ex.new (e.fnone hq))
theorem de_catT {e e' : Expr} {wa wb : W (Tup α)} {pos : Pos} (ha : DE X pl G e wa) (hb : DE X pl G e' wb) : DE X pl G (.BinOp e .Add e' pos) (fun P => wa fun a => wb fun b => a.l.length + b.l.length ≤ 100000 ∧ P (Tup.mk (a.l ++ b.l))) := dx_op2 op_catS vr_catT ha hb
/-- a list so many times -/
def reps (a : List α) (k : Int) : List α := (List.replicate k.toNat a).flatten
theorem map_reps (a : List α) (k : Int) : (reps a k).map (Enc.enc) = (List.replicate k.toNat (a.map Enc.enc)).flatten := by
  unfold reps
  rw [List.map_flatten, List.map_replicate]
theorem vr_rep : VR2 rRep (fun (a : List α) (k : Int) (P : List α → Prop) => (-100000 ≤ k ∧ k ≤ 100000 ∧ a.length * k.toNat ≤ 100000) ∧ P (reps a k)) (fun a : List α => own a) := fun F H x y a k Q P e hx hy p Kk => by
  cases hy
  cases hx with
  | lst h1 h2 =>
    have l2 := h2.length
    rw [List.length_map] at l2
    refine ⟨_, _, _, rfl, rfl, e _ _ h1, by omega, by omega, lineOf (by rw [l2]; exact p.1.2.2), fun q hq => Kk _ _ F _ (fun z => z = q) p.2 (New.own e hq) ?_ fun z hz => by rw [hz]; exact hq⟩
    refine own_new (e.fnone hq) ?_
    rw [map_reps]
    exact h2.rep _
theorem dx_rep {e e' : Expr} {wa : W (List α)} {wb : W Int} {pos : Pos} (ha : DE X pl G e wa) (hb : DE X pl G e' wb) : DX X pl G (.BinOp e .Mult e' pos) (fun a : List α => own a) (fun P => wa fun a => wb fun k => (-100000 ≤ k ∧ k ≤ 100000 ∧ a.length * k.toNat ≤ 100000) ∧ P (reps a k)) := dx_op2 op_rep vr_rep ha hb
/-- slices -/
def cutA (as : List α) (lo hi : Option Int) : List α := (as.drop (HT.sIx as.length 0 lo)).take (HT.sIx as.length as.length hi - HT.sIx as.length 0 lo)
theorem cut_has {vs : List V} {as : List α} (h : HasAll F vs (as.map Enc.enc)) (lo hi : Option Int) : HasAll F (cutV vs lo hi) ((cutA as lo hi).map Enc.enc) := by
  have e := h.length
  rw [List.length_map] at e
  unfold cutV cutA
  rw [e, List.map_take, List.map_drop]
  exact (h.drop _).take _
def tPo (pl : Pl) (G : Env) (w : W (Option Int)) : TO := fun s H Q => ∃ F fp, At pl G F H s fp ∧ ∃ P : Option Int → Prop, w P ∧ ∀ o F' H' fp', P o → At pl G F' H' s fp' → Go pl F H fp F' H' fp' → Q o H'
abbrev DO (X : Cx) (pl : Pl) (G : Env) (e : Option Expr) (w : W (Option Int)) : Prop := PO X e (tPo pl G w)
theorem PO.wk {X : Cx} {e : Option Expr} {t t' : TO} (h : PO X e t) (k : ∀ s H Q, t' s H Q → t s H Q) : PO X e t' := ⟨fun pins s σ H Q I w => h.run pins s σ H Q I (k σ H Q w)⟩
theorem do_none : DO X pl G none (fun P => P none) := PO.wk po_none fun s H Q ⟨F, fp, at_, P, w, K⟩ => K none F H fp w at_ .refl
theorem do_some {e : Expr} {w : W Int} (h : DE X pl G e w) : DO X pl G (some e) (fun P => w fun i => P (some i)) := PO.wk (po_some h) fun s H Q ⟨F, fp, at_, P, w, K⟩ =>
  ⟨F, fp, at_, _, w, fun i v F1 H1 fp1 S1 w1 a1 g1 b1 _ => by
    cases b1.2
    exact ⟨i, rfl, K _ F1 H1 fp1 w1 a1 g1⟩⟩
theorem dx_slL {e : Expr} {lo hi : Option Expr} {w : W (List α)} {wl wh : W (Option Int)} {pos p2 : Pos} (h : DE X pl G e w) (hl : DO X pl G lo wl) (hh : DO X pl G hi wh) : DX X pl G (.Subscript e (.Slice lo hi none p2) pos) (fun a : List α => own a) (fun P => w fun a => wl fun i => wh fun j => P (cutA a i j)) := PE.wk (pe_slice sl_list h hl hh) fun s H Q ⟨F, fp, at_, P, w, K⟩ =>
  ⟨F, fp, at_, _, w, fun a v F1 H1 fp1 S1 w1 a1 g1 b1 _ => ⟨F1, fp1, a1, _, w1, fun i F2 H2 fp2 w2 a2 g2 => ⟨F2, fp2, a2, _, w2, fun j F3 H3 fp3 w3 a3 g3 => by
    obtain ⟨_, b1⟩ := b1
    cases b1 with
    | lst h1 h2 => exact ⟨_, _, rfl, SqL.of (a3.ex _ _ (g3.exF _ _ (g2.exF _ _ h1))), fun q hq => K.fin (S := fun x => x = q) a3 ((g1.trans g2).trans g3) w3 (New.own a3.ex hq) (own_new (a3.fnone hq) (cut_has ((h2.mono g2.exF).mono g3.exF) i j)) fun x e => by rw [e]; exact hq⟩⟩⟩⟩
theorem de_slT {e : Expr} {lo hi : Option Expr} {w : W (Tup α)} {wl wh : W (Option Int)} {pos p2 : Pos} (h : DE X pl G e w) (hl : DO X pl G lo wl) (hh : DO X pl G hi wh) : DE X pl G (.Subscript e (.Slice lo hi none p2) pos) (fun P => w fun a => wl fun i => wh fun j => P (Tup.mk (cutA a.l i j))) := PE.wk (pe_slice sl_tupS h hl hh) fun s H Q ⟨F, fp, at_, P, w, K⟩ =>
  ⟨F, fp, at_, _, w, fun a v F1 H1 fp1 S1 w1 a1 g1 b1 _ => ⟨F1, fp1, a1, _, w1, fun i F2 H2 fp2 w2 a2 g2 => ⟨F2, fp2, a2, _, w2, fun j F3 H3 fp3 w3 a3 g3 => by
    obtain ⟨_, b1⟩ := b1
    obtain ⟨a⟩ := a
    cases b1 with
    | tup h1 h2 =>
      have e1 := TupAt.mono g3.exF (TupAt.mono g2.exF h1)
      have e2 := ((h2.mono g2.exF).mono g3.exF)
      have ln := h2.length
      rw [List.length_map] at ln
      refine ⟨_, _, rfl, TupAt.sq (TupAt.mono a3.ex e1), fun z => ?_, fun _ q ob hq hn => K.fro a3 ((g1.trans g2).trans g3) w3 (New.fro a3.ex hq) (.tup (TupAt.new hn) ((cut_has e2 i j).mono (Ex.new (a3.fnone hq))))⟩
      have ec : cutA a i j = a := by
        unfold cutA
        rw [ln] at z
        rw [z.1, z.2]
        simp
      have w3' : P (Tup.mk (cutA a i j)) := w3
      rw [ec] at w3'
      exact K.pure a3 ((g1.trans g2).trans g3) w3' (.tup e1 e2)⟩⟩⟩
end
end Dm

set_option Elab.async false
set_option linter.all false
set_option maxRecDepth 100000
set_option maxHeartbeats 2000000
/-! Dm: part D: targets, what is walked, comprehensions. -/
namespace Dm
open PySem L2
variable [TabC]

/-! ### environments: less known, one slot set, slots forgotten -/
structure Sub (G G' : Env) : Prop where
  len : G.length = G'.length
  get : ∀ {i : Nat} {A : Asrt}, G'[i]? = some (some A) → G[i]? = some (some A)
theorem Sub.refl (G : Env) : Sub G G := ⟨rfl, fun e => e⟩
theorem Sub.trans {G G1 G2 : Env} (a : Sub G G1) (b : Sub G1 G2) : Sub G G2 := ⟨a.len.trans b.len, fun e => a.get (b.get e)⟩
theorem Sub.nil : Sub [] [] := Sub.refl []
theorem Sub.keep {A : Option Asrt} {G G' : Env} (h : Sub G G') : Sub (A :: G) (A :: G') := ⟨by rw [List.length_cons, List.length_cons, h.len], fun {i} {B} e => by
  cases i with
  | zero => exact e
  | succ i => exact h.get (i := i) e⟩
theorem Sub.drop {A : Option Asrt} {G G' : Env} (h : Sub G G') : Sub (A :: G) (none :: G') := ⟨by rw [List.length_cons, List.length_cons, h.len], fun {i} {B} e => by
  cases i with
  | zero => simp at e
  | succ i => exact h.get (i := i) e⟩
theorem Sub.off {G : Env} {i : Nat} {x : Option Asrt} (h : G[i]? = some none) : Sub (G.set i x) G := ⟨List.length_set, fun {j} {A} e => by
  by_cases hj : j = i
  · subst hj; rw [h] at e; cases e
  · rw [List.getElem?_set_ne (Ne.symm hj)]; exact e⟩
theorem Sub.off2 {G : Env} {i j : Nat} {x y : Option Asrt} (h : G[i]? = some none) (h2 : G[j]? = some none) : Sub ((G.set i x).set j y) G := ⟨by rw [List.length_set, List.length_set], fun {k} {A} e => by
  by_cases hj : k = j
  · subst hj; rw [h2] at e; cases e
  · rw [List.getElem?_set_ne (Ne.symm hj)]
    exact (Sub.off h).get e⟩
section
variable {pl : Pl} {G G' : Env} {s : St} {F H F1 H1 F' H' : Hp} {fp fp1 : Foot}
theorem Go.less (h : ∀ i q, fp1 i q → fp i q) : Go pl F H fp F H fp1 := ⟨Ex.refl _, fun _ _ _ _ => ⟨rfl, fun h => h⟩, fun i q m => .inl ⟨i, h i q m⟩, fun _ h => h⟩
theorem At.sub (a : At pl G F H s fp) (h : Sub G G') : ∃ fp', At pl G' F H s fp' ∧ ∀ i q, fp' i q → fp i q := by
  refine ⟨fun i q => fp i q ∧ ∃ A, G'[i]? = some (some A), ⟨a.ex, h.len.symm.trans a.len, fun i A e => ?_, fun i j q x y => a.dis i j q x.1 y.1, fun i q x => x.2, a.pool, fun i q x => a.pdis i q x.1⟩, fun i q x => x.1⟩
  obtain ⟨g, v, hv, hA⟩ := a.sl i A (h.get e)
  refine ⟨g, v, hv, ?_⟩
  have e2 : (fun q => fp i q ∧ ∃ A, G'[i]? = some (some A)) = fp i := by
    funext q
    exact propext ⟨fun x => x.1, fun x => ⟨x, A, e⟩⟩
  rw [e2]; exact hA
/-- a slot takes a value; what is owned by it is its own -/
theorem At.set (a : At pl G F H s fp) {i : Nat} {A : Asrt} {v : V} {S : Set'} (hi : i < G.length) (g : Good A) (hA : A F H v S) (hS : ∀ q, S q → (∀ j, ¬ fp j q) ∧ ¬ isPool pl q) : At pl (G.set i (some A)) F H (s.set i (some v)) (fun j q => if j = i then S q else fp j q) where
  ex := a.ex
  len := by rw [List.length_set, List.length_set, a.len]
  sl := fun j B e => by
    by_cases hj : j = i
    · subst hj
      rw [List.getElem?_set_self hi] at e
      cases e
      refine ⟨g, v, List.getElem?_set_self (by rw [← a.len]; exact hi), ?_⟩
      have e2 : (fun q => if j = j then S q else fp j q) = S := by funext q; exact if_pos rfl
      rw [e2]; exact hA
    · rw [List.getElem?_set_ne (Ne.symm hj)] at e
      obtain ⟨g', v', hv, hB⟩ := a.sl j B e
      refine ⟨g', v', by rw [List.getElem?_set_ne (Ne.symm hj)]; exact hv, ?_⟩
      have e2 : (fun q => if j = i then S q else fp j q) = fp j := by funext q; exact if_neg hj
      rw [e2]; exact hB
  dis := fun j k q x y => by
    by_cases hj : j = i
    · by_cases hk : k = i
      · rw [hj, hk]
      · rw [if_pos hj] at x; rw [if_neg hk] at y
        exact ((hS q x).1 k y).elim
    · rw [if_neg hj] at x
      by_cases hk : k = i
      · rw [if_pos hk] at y
        exact ((hS q y).1 j x).elim
      · rw [if_neg hk] at y
        exact a.dis j k q x y
  out := fun j q x => by
    by_cases hj : j = i
    · subst hj
      exact ⟨A, List.getElem?_set_self hi⟩
    · rw [if_neg hj] at x
      rw [List.getElem?_set_ne (Ne.symm hj)]
      exact a.out j q x
  pool := a.pool
  pdis := fun j q x => by
    by_cases hj : j = i
    · rw [if_pos hj] at x; exact (hS q x).2
    · rw [if_neg hj] at x; exact a.pdis j q x
theorem At.setF {α : Type} [Enc α] (a : At pl G F H s fp) {i : Nat} {x : α} {v : V} (hi : i < G.length) (hA : Has F v (enc x)) : ∃ fp', At pl (G.set i (some (fro x))) F H (s.set i (some v)) fp' ∧ ∀ j q, fp' j q → fp j q :=
  ⟨_, a.set hi (good_fro x) (S := fun _ => False) ⟨fun _ h => h, hA⟩ (fun _ h => h.elim), fun j q m => by
    by_cases hj : j = i
    · rw [if_pos hj] at m; exact m.elim
    · rw [if_neg hj] at m; exact m⟩
def wipeE (G : Env) : List Nat → Env
  | [] => G
  | v :: vs => (wipeE G vs).set v none
theorem wipeE_len (G : Env) : ∀ vs : List Nat, (wipeE G vs).length = G.length
  | [] => rfl
  | v :: vs => by unfold wipeE; rw [List.length_set, wipeE_len G vs]
theorem wipeE_some {i : Nat} {A : Asrt} : ∀ {vs : List Nat}, (wipeE G vs)[i]? = some (some A) → G[i]? = some (some A) ∧ i ∉ vs
  | [], h => ⟨h, by simp⟩
  | v :: vs, h => by
    unfold wipeE at h
    by_cases hi : v = i
    · subst hi
      by_cases hv : v < (wipeE G vs).length
      · rw [List.getElem?_set_self hv] at h; cases h
      · rw [List.getElem?_eq_none (by simpa using hv)] at h; cases h
    · rw [List.getElem?_set_ne hi] at h
      obtain ⟨h1, h2⟩ := wipeE_some h
      exact ⟨h1, by simp only [List.mem_cons, not_or]; exact ⟨fun e => hi e.symm, h2⟩⟩
theorem wipeE_out {i : Nat} : ∀ {vs : List Nat}, i ∉ vs → (wipeE G vs)[i]? = G[i]?
  | [], _ => rfl
  | v :: vs, h => by
    unfold wipeE
    rw [List.getElem?_set_ne (fun e => h (by rw [e]; exact List.mem_cons_self)), wipeE_out fun m => h (List.mem_cons_of_mem _ m)]
theorem wipe_out' {i : Nat} : ∀ {vs : List Nat}, i ∉ vs → (wipe s vs)[i]? = s[i]?
  | [], _ => rfl
  | v :: vs, h => by
    unfold wipe
    rw [List.getElem?_set_ne (fun e => h (by rw [e]; exact List.mem_cons_self)), wipe_out' fun m => h (List.mem_cons_of_mem _ m)]
theorem wipe_set {i : Nat} {x : Option V} : ∀ {vs : List Nat}, i ∈ vs → wipe (s.set i x) vs = wipe s vs
  | [], h => by cases h
  | v :: vs, h => by
    unfold wipe
    by_cases hv : i ∈ vs
    · rw [wipe_set hv]
    · have e : i = v := by
        rcases List.mem_cons.mp h with e | e
        · exact e
        · exact absurd e hv
      subst e
      have key : ∀ (us : List Nat) (t : St), i ∉ us → wipe (t.set i x) us = (wipe t us).set i x := by
        intro us
        induction us with
        | nil => intro t _; rfl
        | cons u us ih =>
          intro t hu
          unfold wipe
          rw [ih t fun m => hu (List.mem_cons_of_mem _ m), List.set_comm]
          exact fun e => hu (by rw [← e]; exact List.mem_cons_self)
      rw [key vs s hv, List.set_set]
theorem wipe_wipe : ∀ (vs us : List Nat), (∀ v, v ∈ us → v ∈ vs) → wipe (wipe s us) vs = wipe s vs
  | vs, [], _ => rfl
  | vs, u :: us, h => by
    show wipe ((wipe s us).set u none) vs = _
    rw [wipe_set (h u List.mem_cons_self)]
    exact wipe_wipe vs us fun v m => h v (List.mem_cons_of_mem _ m)
/-- inside a comprehension: its own names forgotten -/
theorem At.inC (a : At pl G F H s fp) (vs : List Nat) : At pl (wipeE G vs) F H (wipe s vs) (fun i q => fp i q ∧ i ∉ vs) where
  ex := a.ex
  len := by rw [wipeE_len, wipe_length, a.len]
  sl := fun i A e => by
    obtain ⟨e1, n⟩ := wipeE_some e
    obtain ⟨g, v, hv, hA⟩ := a.sl i A e1
    refine ⟨g, v, by rw [wipe_out' n]; exact hv, ?_⟩
    have e2 : (fun q => fp i q ∧ i ∉ vs) = fp i := by
      funext q
      exact propext ⟨fun x => x.1, fun x => ⟨x, n⟩⟩
    rw [e2]; exact hA
  dis := fun i j q x y => a.dis i j q x.1 y.1
  out := fun i q x => by
    rw [wipeE_out x.2]
    exact a.out i q x.1
  pool := a.pool
  pdis := fun i q x => a.pdis i q x.1
/-- .. and back -/
theorem At.unwipe (a : At pl G F H s fp) {vs : List Nat} (b : At pl (wipeE G vs) F' H' (wipe s vs) fp1) (g : Go pl F H (fun i q => fp i q ∧ i ∉ vs) F' H' fp1) :
    ∃ fp2, At pl G F' H' s fp2 ∧ Go pl F H fp F' H' fp2 ∧ ∀ i q, fp2 i q → fp i q ∨ fp1 i q := by
  classical
  have fpv : ∀ {i q}, fp i q → i ∈ vs → H' q = H q ∧ F' q = none := fun {i q} m hi => by
    obtain ⟨A, e⟩ := a.out i q m
    obtain ⟨gd, v, hv, hA⟩ := a.sl i A e
    obtain ⟨f, h⟩ := gd.own hA q m
    have k := g.keep q h (fun j x => x.2 (by rw [a.dis j i q x.1 m]; exact hi)) (a.pdis i q m)
    exact ⟨k.1, k.2 f⟩
  have nfp1 : ∀ {i j q}, fp i q → i ∈ vs → ¬ fp1 j q := fun {i j q} m hi z => by
    rcases g.foot j q z with ⟨k, x⟩ | x
    · exact x.2 (by rw [a.dis k i q x.1 m]; exact hi)
    · obtain ⟨A, e⟩ := a.out i q m
      obtain ⟨gd, v, hv, hA⟩ := a.sl i A e
      exact (gd.own hA q m).2 x
  refine ⟨fun i q => if i ∈ vs then fp i q else fp1 i q, ⟨b.ex, a.len, fun i A e => ?_, fun i j q x y => ?_, fun i q x => ?_, b.pool, fun i q x => ?_⟩, ⟨g.exF, fun q h n p => g.keep q h (fun i x => n i x.1) p, fun i q x => ?_, g.grow⟩, fun i q x => ?_⟩
  · by_cases hi : i ∈ vs
    · obtain ⟨gd, v, hv, hA⟩ := a.sl i A e
      refine ⟨gd, v, hv, ?_⟩
      have e2 : (fun q => if i ∈ vs then fp i q else fp1 i q) = fp i := by funext q; exact if_pos hi
      rw [e2]
      exact gd.frame hA g.exF fun q m => ⟨(fpv m hi).2, (fpv m hi).1⟩
    · obtain ⟨gd, v, hv, hA⟩ := b.sl i A (by rw [wipeE_out hi]; exact e)
      refine ⟨gd, v, by rw [← wipe_out' (s := s) hi]; exact hv, ?_⟩
      have e2 : (fun q => if i ∈ vs then fp i q else fp1 i q) = fp1 i := by funext q; exact if_neg hi
      rw [e2]; exact hA
  · by_cases hi : i ∈ vs
    · rw [if_pos hi] at x
      by_cases hj : j ∈ vs
      · rw [if_pos hj] at y; exact a.dis i j q x y
      · rw [if_neg hj] at y; exact (nfp1 x hi y).elim
    · rw [if_neg hi] at x
      by_cases hj : j ∈ vs
      · rw [if_pos hj] at y; exact (nfp1 y hj x).elim
      · rw [if_neg hj] at y; exact b.dis i j q x y
  · by_cases hi : i ∈ vs
    · rw [if_pos hi] at x; exact a.out i q x
    · rw [if_neg hi] at x
      obtain ⟨A, e⟩ := b.out i q x
      exact ⟨A, (wipeE_some e).1⟩
  · by_cases hi : i ∈ vs
    · rw [if_pos hi] at x; exact a.pdis i q x
    · rw [if_neg hi] at x; exact b.pdis i q x
  · by_cases hi : i ∈ vs
    · rw [if_pos hi] at x; exact .inl ⟨i, x⟩
    · rw [if_neg hi] at x
      rcases g.foot i q x with ⟨k, y⟩ | y
      · exact .inl ⟨k, y.1⟩
      · exact .inr y
  · by_cases hi : i ∈ vs
    · exact .inl ((if_pos hi).mp x)
    · exact .inr ((if_neg hi).mp x)
theorem At.conv {s' : St} (a : At pl G F H s fp) (h : ∀ (i : Nat) (A : Asrt), G[i]? = some (some A) → s'[i]? = s[i]?) (hl : s'.length = s.length) : At pl G F H s' fp := ⟨a.ex, a.len.trans hl.symm, fun i A e => by
  obtain ⟨g, v, hv, hA⟩ := a.sl i A e
  exact ⟨g, v, (h i A e).trans hv, hA⟩, a.dis, a.out, a.pool, a.pdis⟩
/-- a thing that is on its way is changed -/
theorem At.upd {D : Addr} {o : HO} (a : At pl G F H s fp) (f : F D = none) (n : ∀ i, ¬ fp i D) (p : ¬ isPool pl D) : At pl G F (L2.upd H D o) s fp := ⟨fun q u e => by
    have hq : q ≠ D := fun z => by rw [z, f] at e; cases e
    rw [upd_ne hq]; exact a.ex q u e, a.len, fun i A e => by
    obtain ⟨g, v, hv, hA⟩ := a.sl i A e
    exact ⟨g, v, hv, g.frame hA (Ex.refl _) fun q m => ⟨(g.own hA q m).1, upd_ne fun z => n i (by rw [← z]; exact m)⟩⟩, a.dis, a.out, a.pool.frame (Ex.refl _) fun q m => ⟨(a.pool.there m).1, upd_ne fun z => p (by rw [← z]; exact m)⟩, a.pdis⟩
theorem Go.upd {D : Addr} {o : HO} (g : Go pl F H fp F' H' fp1) (h : H D = none) : Go pl F H fp F' (L2.upd H' D o) fp1 := ⟨g.exF, fun q hq n p => by
    have hn : q ≠ D := fun z => by rw [z] at hq; exact hq h
    rw [upd_ne hn]; exact g.keep q hq n p, g.foot, fun q hq => by
    have hn : q ≠ D := fun z => by rw [z] at hq; exact hq h
    rw [upd_ne hn]; exact g.grow q hq⟩
end

/-! ### targets -/
def tG {α : Type} [Enc α] (pl : Pl) (G : Env) (ts : List Nat) (gs : α → Env) : TG := fun v s H Q => ∃ F fp a, At pl G F H s fp ∧ Has F v (enc a) ∧ ∀ s' fp', At pl (gs a) F H s' fp' → (∀ i q, fp' i q → fp i q) → (∀ vs, (∀ i, i ∈ ts → i ∈ vs) → wipe s' vs = wipe s vs) → Q s' H
abbrev DG {α : Type} [Enc α] (X : Cx) (pl : Pl) (G : Env) (tg : Expr) (ts : List Nat) (gs : α → Env) : Prop := PG X tg (tG pl G ts gs)
theorem PG.wk {X : Cx} {e : Expr} {t t' : TG} (h : PG X e t) (k : ∀ v s H Q, t' v s H Q → t v s H Q) : PG X e t' := ⟨fun pins s σ H v u Q I r w => h.run pins s σ H v u Q I r (k v σ H Q w)⟩
section
variable {X : Cx} {pl : Pl} {G : Env} {α β γ : Type} [Enc α] [Enc β] [Enc γ]
theorem blt_lt {n m : Nat} (h : Nat.blt n m = true) : n < m := Nat.le_of_ble_eq_true h
theorem dg_name (i : Nat) {x : Str} {pos : Pos} (hN : X.N.Nodup) (hl : Nat.blt i G.length = true := by rfl) (hi : X.N[i]? = some x := by rfl) (hx : Loc X.env.scope x := by first | exact Or.inl rfl | exact Or.inr rfl) (hf : X.fn x = true ∨ X.env.scope.names.lookup x = some .local := by first | exact .inl rfl | exact .inr rfl) :
    DG X pl G (.Name x pos) [i] (fun a : α => G.set i (some (fro a))) := PG.wk (pg_name hN hi hx hf) fun v s H Q ⟨F, fp, a, at_, b, K⟩ => by
  obtain ⟨fp', a', l⟩ := at_.setF (blt_lt hl) b
  exact K _ fp' a' l fun vs h => wipe_set (h i List.mem_cons_self)
theorem dg_pair (i j : Nat) {x y : Str} {k : Nat} {pos p1 p2 : Pos} (hc : X.calm = true) (hN : X.N.Nodup) (hl : Nat.blt i G.length = true := by rfl) (hl2 : Nat.blt j G.length = true := by rfl) (hi : X.N[i]? = some x := by rfl) (hj : X.N[j]? = some y := by rfl) (hx : Loc X.env.scope x := by first | exact Or.inl rfl | exact Or.inr rfl) (hy : Loc X.env.scope y := by first | exact Or.inl rfl | exact Or.inr rfl)
    (hf : X.fn x = true ∨ X.env.scope.names.lookup x = some .local := by first | exact .inl rfl | exact .inr rfl) (hf2 : X.fn y = true ∨ X.env.scope.names.lookup y = some .local := by first | exact .inl rfl | exact .inr rfl)
    (hn : (assignEach [.Name x p1, .Name y p2] X.env).length = 2 := by rfl) (hst : (assignEach [.Name x p1, .Name y p2] X.env).findIdx? (·.1) = none := by rfl)
    (hs : (assignEach (Expr.Name x p1 :: [.Name y p2]) X.env).map (·.2) = assign (.Name x p1) X.env :: (assignEach [.Name y p2] X.env).map (·.2) := by rfl) (hs2 : (assignEach (Expr.Name y p2 :: []) X.env).map (·.2) = assign (.Name y p2) X.env :: (assignEach [] X.env).map (·.2) := by rfl) :
    DG X pl G (.Tuple [.Name x p1, .Name y p2] k pos) [i, j] (fun a : P2 α β => (G.set i (some (fro a.a))).set j (some (fro a.b))) := PG.wk (pg_tup hc (pgs_cons (pg_name hN hi hx hf) (pgs_cons (pg_name hN hj hy hf2) pgs_nil hs2) hs) hn hst) fun v s H Q ⟨F, fp, a, at_, b, K⟩ => by
  cases b with
  | tup h1 h2 => cases h2 with
    | cons u1 h3 => cases h3 with
      | cons u2 h4 => cases h4 with
        | nil =>
          obtain ⟨fp1, a1, l1⟩ := at_.setF (blt_lt hl) u1
          obtain ⟨fp2, a2, l2⟩ := a1.setF (i := j) (by rw [List.length_set]; exact blt_lt hl2) u2
          exact ⟨_, _, rfl, TupAt.sq (TupAt.mono at_.ex h1), rfl, _, _, rfl, _, _, rfl, rfl, K _ fp2 a2 (fun i q m => l1 i q (l2 i q m)) fun vs h => by
            rw [wipe_set (h j (List.mem_cons_of_mem _ List.mem_cons_self)), wipe_set (h i List.mem_cons_self)]⟩
theorem HasKv.noNone {F : Hp} {kvs : List (Key × V)} {d : D} {ds : List (D × D)} {P : Prop} (h : HasKv F kvs ((.none, d) :: ds)) : P := by
  cases h with
  | cons a b c => rename_i k v kvs; cases k <;> cases a
theorem dg_pq (i j : Nat) {x y : Str} {k : Nat} {pos p1 p2 : Pos} (hc : X.calm = true) (hN : X.N.Nodup) (hl : Nat.blt i G.length = true := by rfl) (hl2 : Nat.blt j G.length = true := by rfl) (hi : X.N[i]? = some x := by rfl) (hj : X.N[j]? = some y := by rfl) (hx : Loc X.env.scope x := by first | exact Or.inl rfl | exact Or.inr rfl) (hy : Loc X.env.scope y := by first | exact Or.inl rfl | exact Or.inr rfl)
    (hf : X.fn x = true ∨ X.env.scope.names.lookup x = some .local := by first | exact .inl rfl | exact .inr rfl) (hf2 : X.fn y = true ∨ X.env.scope.names.lookup y = some .local := by first | exact .inl rfl | exact .inr rfl)
    (hn : (assignEach [.Name x p1, .Name y p2] X.env).length = 2 := by rfl) (hst : (assignEach [.Name x p1, .Name y p2] X.env).findIdx? (·.1) = none := by rfl)
    (hs : (assignEach (Expr.Name x p1 :: [.Name y p2]) X.env).map (·.2) = assign (.Name x p1) X.env :: (assignEach [.Name y p2] X.env).map (·.2) := by rfl) (hs2 : (assignEach (Expr.Name y p2 :: []) X.env).map (·.2) = assign (.Name y p2) X.env :: (assignEach [] X.env).map (·.2) := by rfl) :
    DG X pl G (.Tuple [.Name x p1, .Name y p2] k pos) [i, j] (fun a : Pq α β => (G.set i (some (fro a.a))).set j (some (fro a.b))) := PG.wk (pg_tup hc (pgs_cons (pg_name hN hi hx hf) (pgs_cons (pg_name hN hj hy hf2) pgs_nil hs2) hs) hn hst) fun v s H Q ⟨F, fp, a, at_, b, K⟩ => by
  cases b with
  | dct _ h2 => exact HasKv.noNone h2
  | prs h1 h2 => cases h2 with
    | mk u1 u2 =>
          obtain ⟨fp1, a1, l1⟩ := at_.setF (blt_lt hl) u1
          obtain ⟨fp2, a2, l2⟩ := a1.setF (i := j) (by rw [List.length_set]; exact blt_lt hl2) u2
          exact ⟨_, _, rfl, SqT.of (at_.ex _ _ h1), rfl, _, _, rfl, _, _, rfl, rfl, K _ fp2 a2 (fun i q m => l1 i q (l2 i q m)) fun vs h => by
            rw [wipe_set (h j (List.mem_cons_of_mem _ List.mem_cons_self)), wipe_set (h i List.mem_cons_self)]⟩
/-- a list of two, of one kind -/
theorem dg_pairL (i j : Nat) {x y : Str} {k : Nat} {pos p1 p2 : Pos} (hc : X.calm = true) (hN : X.N.Nodup) (f : γ → α) (g : γ → β) (hfg : ∀ c : γ, enc c = .list [enc (f c), enc (g c)]) (hl : Nat.blt i G.length = true := by rfl) (hl2 : Nat.blt j G.length = true := by rfl) (hi : X.N[i]? = some x := by rfl) (hj : X.N[j]? = some y := by rfl) (hx : Loc X.env.scope x := by first | exact Or.inl rfl | exact Or.inr rfl) (hy : Loc X.env.scope y := by first | exact Or.inl rfl | exact Or.inr rfl)
    (hf : X.fn x = true ∨ X.env.scope.names.lookup x = some .local := by first | exact .inl rfl | exact .inr rfl) (hf2 : X.fn y = true ∨ X.env.scope.names.lookup y = some .local := by first | exact .inl rfl | exact .inr rfl)
    (hn : (assignEach [.Name x p1, .Name y p2] X.env).length = 2 := by rfl) (hst : (assignEach [.Name x p1, .Name y p2] X.env).findIdx? (·.1) = none := by rfl)
    (hs : (assignEach (Expr.Name x p1 :: [.Name y p2]) X.env).map (·.2) = assign (.Name x p1) X.env :: (assignEach [.Name y p2] X.env).map (·.2) := by rfl) (hs2 : (assignEach (Expr.Name y p2 :: []) X.env).map (·.2) = assign (.Name y p2) X.env :: (assignEach [] X.env).map (·.2) := by rfl) :
    DG X pl G (.Tuple [.Name x p1, .Name y p2] k pos) [i, j] (fun a : γ => (G.set i (some (fro (f a)))).set j (some (fro (g a)))) := PG.wk (pg_lst hc (pgs_cons (pg_name hN hi hx hf) (pgs_cons (pg_name hN hj hy hf2) pgs_nil hs2) hs) hn hst) fun v s H Q ⟨F, fp, a, at_, b, K⟩ => by
  rw [hfg] at b
  cases b with
  | lst h1 h2 => cases h2 with
    | cons u1 h3 => cases h3 with
      | cons u2 h4 => cases h4 with
        | nil =>
          obtain ⟨fp1, a1, l1⟩ := at_.setF (blt_lt hl) u1
          obtain ⟨fp2, a2, l2⟩ := a1.setF (i := j) (by rw [List.length_set]; exact blt_lt hl2) u2
          exact ⟨_, _, rfl, SqL.of (at_.ex _ _ h1), rfl, _, _, rfl, _, _, rfl, rfl, K _ fp2 a2 (fun i q m => l1 i q (l2 i q m)) fun vs h => by
            rw [wipe_set (h j (List.mem_cons_of_mem _ List.mem_cons_self)), wipe_set (h i List.mem_cons_self)]⟩

/-! ### what is walked -/
structure Iters (J : It) (as : List α) (F0 : Hp) : Prop where
  turn : ∀ (F H : Hp) (i : Nat) (a : α), Ex F0 F → Ex F H → as[i]? = some a → J.go i H ∧ ∀ x H', J.yld i H x H' → ∃ F', New F H F' H' ∧ Has F' x (enc a)
  stop : ∀ (F H : Hp), Ex F0 F → Ex F H → J.stop as.length H
def tI (pl : Pl) (G : Env) (w : W (List α)) : TI := fun s H R => ∃ F fp, At pl G F H s fp ∧ ∃ P : List α → Prop, w P ∧ ∀ as F' H' fp' J, P as → At pl G F' H' s fp' → Go pl F H fp F' H' fp' → Iters J as F' → R J H'
abbrev DI (X : Cx) (pl : Pl) (G : Env) (tg e : Expr) (w : W (List α)) : Prop := PI X tg e (tI pl G w)
theorem PI.wk {X : Cx} {tg e : Expr} {t t' : TI} (h : PI X tg e t) (k : ∀ s H Q, t' s H Q → t s H Q) : PI X tg e t' := ⟨fun pins s σ H Q I w => h.run pins s σ H Q I (k σ H Q w)⟩
theorem iters_list {K : Fr} {p : Addr} {vs : List V} {as : List α} {F0 : Hp} (h : F0 p = some (.lst vs)) (hv : HasAll F0 vs (as.map Enc.enc)) : Iters (Itl K p) as F0 where
  turn := fun F H i a e1 e2 ha => by
    obtain ⟨x, hx, hb⟩ := hv.get (i := i) (d := enc a) (by rw [List.getElem?_map, ha]; rfl)
    have hS : SqL K H p vs := SqL.of (e2 _ _ (e1 _ _ h))
    refine ⟨⟨vs, x, hS, hx⟩, fun y H' ⟨e, k⟩ => ⟨F, ?_, ?_⟩⟩
    · rw [e]; exact New.refl e2
    · have e := (k vs hS).symm.trans hx
      cases e
      exact hb.mono e1
  stop := fun F H e1 e2 => ⟨vs, SqL.of (e2 _ _ (e1 _ _ h)), by have e := hv.length; rw [List.length_map] at e; exact Nat.le_of_eq e⟩
theorem iters_tup {K : Fr} {p : Addr} {vs : List V} {as : List α} {F0 : Hp} (h : TupAt F0 p vs) (hv : HasAll F0 vs (as.map Enc.enc)) : Iters (Itt K p) as F0 where
  turn := fun F H i a e1 e2 ha => by
    obtain ⟨x, hx, hb⟩ := hv.get (i := i) (d := enc a) (by rw [List.getElem?_map, ha]; rfl)
    have hS : SqT K H p vs := TupAt.sq (TupAt.mono e2 (TupAt.mono e1 h))
    refine ⟨⟨vs, x, hS, hx⟩, fun y H' ⟨e, k⟩ => ⟨F, ?_, ?_⟩⟩
    · rw [e]; exact New.refl e2
    · have e := (k vs hS).symm.trans hx
      cases e
      exact hb.mono e1
  stop := fun F H e1 e2 => ⟨vs, TupAt.sq (TupAt.mono e2 (TupAt.mono e1 h)), by have e := hv.length; rw [List.length_map] at e; exact Nat.le_of_eq e⟩
/-- lo, lo + 1, .. below hi -/
def rng (lo hi : Int) : List Int := (List.range (hi - lo).toNat).map fun i : Nat => lo + (i : Int)
theorem rng_get {lo hi : Int} {i : Nat} : (rng lo hi)[i]? = if i < (hi - lo).toNat then some (lo + (i : Int)) else none := by
  unfold rng
  rw [List.getElem?_map]
  by_cases h : i < (hi - lo).toNat
  · rw [if_pos h, List.getElem?_range h]; rfl
  · rw [if_neg h, List.getElem?_eq_none (by rw [List.length_range]; omega)]; rfl
theorem rng_len {lo hi : Int} : (rng lo hi).length = (hi - lo).toNat := by unfold rng; rw [List.length_map, List.length_range]
theorem iters_rng {lo hi : Int} {F0 : Hp} : Iters (Itr lo (hi - lo).toNat) (rng lo hi) F0 where
  turn := fun F H i a e1 e2 ha => by
    rw [rng_get] at ha
    by_cases h : i < (hi - lo).toNat
    · rw [if_pos h] at ha
      cases ha
      refine ⟨h, fun x H' ⟨e, k⟩ => ⟨F, ?_, ?_⟩⟩
      · rw [e]; exact New.refl e2
      · rw [k]; exact .int _
    · rw [if_neg h] at ha; cases ha
  stop := fun F H e1 e2 => by
    show (hi - lo).toNat ≤ (rng lo hi).length
    rw [rng_len]; exact Nat.le_refl _
theorem di_list {tg e : Expr} {w : W (List α)} (h : DE X pl G e w) : DI X pl G tg e w := PI.wk (pi_list h) fun s H R ⟨F, fp, at_, P, w, K⟩ => ⟨F, fp, at_, P, w, fun as v F1 H1 fp1 S1 p a1 g1 b1 _ => by
  obtain ⟨_, b1⟩ := b1
  cases b1 with
  | lst h1 h2 => exact ⟨_, rfl, ⟨_, SqL.of (a1.ex _ _ h1)⟩, K as F1 H1 fp1 _ p a1 g1 (iters_list h1 h2)⟩⟩
theorem di_tup {tg e : Expr} {w : W (Tup α)} (h : DE X pl G e w) : DI X pl G tg e (fun P => w fun a => P a.l) := PI.wk (pi_tup h) fun s H R ⟨F, fp, at_, P, w, K⟩ => ⟨F, fp, at_, _, w, fun as v F1 H1 fp1 S1 p a1 g1 b1 _ => by
  obtain ⟨_, b1⟩ := b1
  cases b1 with
  | tup h1 h2 => exact ⟨_, rfl, ⟨_, TupAt.sq (TupAt.mono a1.ex h1)⟩, K as.l F1 H1 fp1 _ p a1 g1 (iters_tup h1 h2)⟩⟩
def small (n : Int) : Prop := -(2 ^ 62) ≤ n ∧ n < 2 ^ 62
theorem di_rng1 {tg a : Expr} {w : W Int} {p pos : Pos} (hm : X.mg "range" = none) (h : DE X pl G a w) (hg : Gl X "range" := by rfl) (hs : starEach [a] X.env = [(false, eval a X.env)] := by rfl) : DI X pl G tg (.Call (.Name "range" p) [a] [] pos) (fun P => w fun n => small n ∧ P (rng 0 n)) := PI.wk (pi_range1 hg hm (pa_cons h pa_nil hs) hs) fun s H R ⟨F, fp, at_, P, w, K⟩ =>
  ⟨F, fp, at_, _, w, fun n v F1 H1 fp1 S1 p a1 g1 b1 _ => by
    cases b1.2
    refine ⟨n, rfl, p.1.1, p.1.2, K (rng 0 n) F1 H1 fp1 _ p.2 a1 g1 ?_⟩
    have e : n.toNat = (n - 0).toNat := by rw [Int.sub_zero]
    rw [e]; exact iters_rng⟩
theorem di_rng2 {tg a b : Expr} {w u : W Int} {p pos : Pos} (hm : X.mg "range" = none) (h : DE X pl G a w) (k : DE X pl G b u) (hg : Gl X "range" := by rfl) (hs : starEach [a, b] X.env = [(false, eval a X.env), (false, eval b X.env)] := by rfl) (hs2 : starEach [b] X.env = [(false, eval b X.env)] := by rfl) :
    DI X pl G tg (.Call (.Name "range" p) [a, b] [] pos) (fun P => w fun m => u fun n => (small m ∧ small n) ∧ P (rng m n)) := PI.wk (pi_range2 hg hm (pa_cons h (pa_cons k pa_nil hs2) (by rw [hs, hs2])) hs hs2) fun s H R ⟨F, fp, at_, P, w, K⟩ =>
  ⟨F, fp, at_, _, w, fun m v F1 H1 fp1 S1 p a1 g1 b1 _ => ⟨F1, fp1, a1, _, p, fun n v F2 H2 fp2 S2 p a2 g2 b2 _ => by
    cases b1.2
    cases b2.2
    exact ⟨m, n, rfl, ⟨p.1.1.1, p.1.1.2, p.1.2.1, p.1.2.2⟩, K (rng m n) F2 H2 fp2 _ p.2 a2 (g1.trans g2) iters_rng⟩⟩⟩

/-! ### comprehensions -/
def wFil : List α → (α → W Bool) → (α → W β) → (List β → Prop) → Prop
  | [], _, _, P => P []
  | a :: as, t, f, P => t a fun c => wIf c (f a fun b => wFil as t f fun bs => P (b :: bs)) (wFil as t f P)
def wYes : W Bool := fun P => P true
/-- the tests of a clause -/
abbrev DTs (X : Cx) (pl : Pl) (G : Env) (es : List Expr) (w : W Bool) : Prop := PTs X es (tT pl G w)
theorem dts_nil : DTs X pl G [] wYes := PTs.wk pts_nil fun s H Q ⟨F, fp, at_, P, w, K⟩ => K true F H fp w at_ .refl
theorem dts_one {c : Expr} {w : W Bool} (h : DT X pl G c w) : DTs X pl G [c] w := pts_one h
theorem lc_go {s : St} {H : Hp} {Q : VK} {wi : W (List α)} {gs : α → Env} {wt : α → W Bool} {we : α → W β} {vs ts : List Nat} (hts : ∀ i, i ∈ ts → i ∈ vs) (hgs : ∀ a, Sub (gs a) (wipeE G vs))
    (h : tX pl G (fun b : List β => own b) (fun P => wi fun as => as.length ≤ 100000 ∧ wFil as wt we P) s H Q) :
    tLc (tI pl G wi) (tG pl (wipeE G vs) ts gs) (fun s H Q => ∃ a, tT pl (gs a) (wt a) s H Q) (fun s H Q => ∃ a, tX pl (gs a) (fun b : β => fro b) (we a) s H Q) vs s H Q := by
  obtain ⟨F, fp, at_, P, w, K⟩ := h
  refine ⟨F, fp, at_, _, w, fun as F1 H1 fp1 J ⟨ln, p⟩ a1 g1 it D hD => ?_⟩
  have npD : ¬ isPool pl D := a1.nopl hD
  have nD : New F1 H1 F1 (upd H1 D (.lst [])) := New.own a1.ex hD
  have aW := (a1.new nD).inC vs
  let Inv := fun (i : Nat) (H2 : Hp) => ∃ F2 fp2 bs acc, At pl (wipeE G vs) F2 H2 (wipe s vs) fp2 ∧ Go pl F1 H1 (fun i q => fp1 i q ∧ i ∉ vs) F2 H2 fp2 ∧ H2 D = some (.lst acc) ∧ F2 D = none ∧ (∀ i, ¬ fp2 i D) ∧ HasAll F2 acc (bs.map Enc.enc) ∧ wFil (as.drop i) wt we (fun cs => P (bs ++ cs)) ∧ bs.length ≤ i
  refine ⟨fun i m H2 => i + m = as.length ∧ Inv i H2, ⟨as.length, by omega, F1, _, [], [], aW, (Go.new nD), upd_same, a1.fnone hD, fun i z => a1.nofp hD i z.1, .nil, p, Nat.le_refl _⟩, fun i m H2 ⟨em, F2, fp2, bs, acc, a2, g2, hD2, fD, nfD, ha, wf, lb⟩ => ?_⟩
  by_cases hi : i < as.length
  · refine .inr ?_
    obtain ⟨a, ea⟩ : ∃ a, as[i]? = some a := ⟨as[i], List.getElem?_eq_getElem hi⟩
    have ed : as.drop i = a :: as.drop (i + 1) := by
      rw [List.drop_eq_getElem_cons hi]
      rw [List.getElem?_eq_getElem hi] at ea
      cases ea; rfl
    rw [ed] at wf
    obtain ⟨go, yl⟩ := it.turn F2 H2 i a g2.exF a2.ex ea
    refine ⟨go, Inv (i + 1), fun H' hI => ⟨m - 1, by omega, by omega, hI⟩, fun x H3 hy => ?_⟩
    obtain ⟨F3, n3, hx⟩ := yl x H3 hy
    have tD : H2 D ≠ none := by rw [hD2]; simp
    refine ⟨F3, fp2, a, a2.new n3, hx, fun s3 fp3 a3 l3 off => ⟨(off vs hts).trans (wipe_wipe vs vs fun _ h => h), a, F3, fp3, a3, _, wf, fun b F4 H4 fp4 wb a4 g4 => ?_⟩⟩
    have hw : wipe s3 vs = wipe s vs := (off vs hts).trans (wipe_wipe vs vs fun _ h => h)
    have g3 : Go pl F2 H2 fp2 F3 H3 fp3 := (Go.new n3).trans (Go.less l3)
    have nD3 : ∀ i, ¬ fp3 i D := fun i z => nfD i (l3 i D z)
    have k3 : H3 D ≠ none := by rw [n3.same tD]; exact tD
    -- behind the turn the names are forgotten again
    have back : ∀ {F5 H5 : Hp} {fp5 : Foot}, At pl (gs a) F5 H5 s3 fp5 → Go pl F3 H3 fp3 F5 H5 fp5 → ∃ fp6, At pl (wipeE G vs) F5 H5 (wipe s vs) fp6 ∧ Go pl F1 H1 (fun i q => fp1 i q ∧ i ∉ vs) F5 H5 fp6 ∧ (∀ i, ¬ fp6 i D) ∧ H5 D = some (.lst acc) ∧ F5 D = none ∧ HasAll F5 acc (bs.map Enc.enc) := fun {F5 H5 fp5} a5 g5 => by
      obtain ⟨fp6, a6, l6⟩ := a5.sub (hgs a)
      have k5 := g5.keep D k3 nD3 npD
      refine ⟨fp6, a6.conv (fun i A e => ?_) ?_, g2.trans (g3.trans (g5.trans (Go.less l6))), fun i z => ?_, k5.1.trans ((n3.same tD).trans hD2), k5.2 (n3.keepN tD fD), (ha.mono n3.exF).mono g5.exF⟩
      · obtain ⟨_, ni⟩ := wipeE_some e
        rw [wipe_out' ni, ← wipe_out' (s := s3) ni, hw, wipe_out' ni]
      · rw [← hw, wipe_length]
      · exact (g5.foot i D (l6 i D z)).elim (fun ⟨j, y⟩ => nD3 j y) k3
    cases b with
    | true =>
      refine (if_pos rfl).mpr ?_
      refine ⟨a, F4, fp4, a4, _, wb.1 rfl, fun c y F5 H5 fp5 S5 wc a5 g5 b5 _ => ?_⟩
      obtain ⟨fp6, a6, g6, n6, e6, f6, h6⟩ := back a5 (g4.trans g5)
      have la := h6.length
      rw [List.length_map] at la
      refine ⟨acc, e6, lineLt (by omega), F5, fp6, bs ++ [c], acc ++ [y], a6.upd f6 n6 npD, g6.upd hD, upd_same, f6, n6, ?_, ?_, by rw [List.length_append]; show bs.length + 1 ≤ i + 1; omega⟩
      · rw [List.map_append]
        exact h6.append (.cons b5.2 .nil)
      · simp only [List.append_assoc]
        exact wc
    | false =>
      refine (if_neg Bool.false_ne_true).mpr ?_
      obtain ⟨fp6, a6, g6, n6, e6, f6, h6⟩ := back a4 g4
      exact ⟨F4, fp6, bs, acc, a6, g6, e6, f6, n6, h6, wb.2 rfl, by omega⟩
  · refine .inl ?_
    have e : i = as.length := by
      have := em
      omega
    refine ⟨by rw [e]; exact it.stop F2 H2 g2.exF a2.ex, ?_⟩
    rw [e, List.drop_length] at wf
    have wf' : P (bs ++ []) := wf
    rw [List.append_nil] at wf'
    obtain ⟨fp7, a7, g7, l7⟩ := a1.unwipe a2 g2
    refine K bs (.ref D) F2 H2 fp7 (fun x => x = D) wf' a7 (g1.trans g7) ⟨D, acc, rfl, fun _ => Iff.rfl, fD, hD2, ha⟩ fun q z => ?_
    rw [z]
    exact ⟨g1.back hD, fun i m => (l7 i D m).elim (fun y => a1.nofp hD i y) fun y => nfD i y, npD⟩
end
end Dm

set_option Elab.async false
set_option linter.all false
set_option maxRecDepth 100000
set_option maxHeartbeats 2000000
/-! Dm: part E: comprehensions as expressions; statements. -/
namespace Dm
open PySem L2
variable [TabC]

theorem PE.exi {X : Cx} {e : Expr} {ι : Type} {t : ι → TE} (h : ∀ a, PE X e (t a)) : PE X e (fun s H Q => ∃ a, t a s H Q) := ⟨fun pins s σ H Q I ⟨a, w⟩ => (h a).run pins s σ H Q I w⟩
theorem PTs.exi {X : Cx} {e : List Expr} {ι : Type} {t : ι → TT} (h : ∀ a, PTs X e (t a)) : PTs X e (fun s H Q => ∃ a, t a s H Q) := ⟨fun pins s σ H Q I ⟨a, w⟩ => (h a).run pins s σ H Q I w⟩
theorem PG.exi {X : Cx} {e : Expr} {ι : Type} {t : ι → TG} (h : ∀ a, PG X e (t a)) : PG X e (fun v s H Q => ∃ a, t a v s H Q) := ⟨fun pins s σ H v u Q I r ⟨a, w⟩ => (h a).run pins s σ H v u Q I r w⟩
theorem PSs.exi {X : Cx} {e : List Stmt} {ι : Type} {t : ι → TS} (h : ∀ a, PSs X e (t a)) : PSs X e (fun D s H => ∃ a, t a D s H) := ⟨fun pins s σ H D I ⟨a, w⟩ => (h a).run pins s σ H D I w⟩
theorem PS.wk {X : Cx} {e : Stmt} {t t' : TS} (h : PS X e t) (k : ∀ D s H, t' D s H → t D s H) : PS X e t' := ⟨fun pins s σ H D I w => h.run pins s σ H D I (k D σ H w)⟩
theorem PSs.wk {X : Cx} {e : List Stmt} {t t' : TS} (h : PSs X e t) (k : ∀ D s H, t' D s H → t D s H) : PSs X e t' := ⟨fun pins s σ H D I w => h.run pins s σ H D I (k D σ H w)⟩

def wMap {α β : Type} (as : List α) (f : α → W β) (P : List β → Prop) : Prop := wFil as (fun _ => wYes) f P
/-- the block's context -/
abbrev Blk (X : Cx) (scope : Scope) (s : Shared) (H : Hp) (C : Addr) (cl : List (Str × Addr)) (fp : List Addr) : Cx := X.blk s H scope (compEnvC scope cl C X.env) fp
section
variable {X : Cx} {pl : Pl} {G : Env} {α β γ : Type} [Enc α] [Enc β] [Enc γ]
/-- a comprehension: its parts -/
structure Lc (X : Cx) (pl : Pl) (G : Env) (elt tg iter : Expr) (ifs : List Expr) (scope : Scope) (vs ts : List Nat) (wi : W (List α)) (gs : α → Env) (wt : α → W Bool) (te : α → TE) : Prop where
  it : DI X pl G tg iter wi
  ok : ∃ own' : List (Str × Nat), BlkOk X.N X.env.scope scope own' ∧ own'.map (·.2) = vs
  tgt : ∀ s H C cl fp, DG (Blk X scope s H C cl fp) pl (wipeE G vs) tg ts gs
  test : ∀ a s H C cl fp, DTs (Blk X scope s H C cl fp) pl (gs a) ifs (wt a)
  item : ∀ a s H C cl fp, PE (Blk X scope s H C cl fp) elt (te a)
  hts : ∀ i, i ∈ ts → i ∈ vs
  hgs : ∀ a, Sub (gs a) (wipeE G vs)
  hs : ∀ x, foldedSetIterable iter X.env x = pure x
theorem Lc.pe {elt tg iter : Expr} {ifs : List Expr} {scope : Scope} {vs ts : List Nat} {wi : W (List α)} {gs : α → Env} {wt : α → W Bool} {te : α → TE} {pos : Pos} (c : Lc X pl G elt tg iter ifs scope vs ts wi gs wt te) (hc : X.calm = true) (hN : X.N.Nodup) :
    PE X (.ListComp elt [⟨tg, iter, ifs, 0⟩] scope pos) (tLc (tI pl G wi) (tG pl (wipeE G vs) ts gs) (fun s H Q => ∃ a, tT pl (gs a) (wt a) s H Q) (fun s H Q => ∃ a, te a s H Q) vs) := by
  obtain ⟨own', ok, rfl⟩ := c.ok
  exact pe_lc hc hN c.it ok c.tgt (fun s H C cl fp => PTs.exi fun a => c.test a s H C cl fp) (fun s H C cl fp => PE.exi fun a => c.item a s H C cl fp) c.hs
theorem Lc.ps {elt tg iter : Expr} {ifs : List Expr} {scope : Scope} {vs ts : List Nat} {wi : W (List α)} {gs : α → Env} {wt : α → W Bool} {te : α → TE} {pos spos py : Pos} {y : Str} (i : Nat) (c : Lc X pl G elt tg iter ifs scope vs ts wi gs wt te) (hc : X.calm = true) (hN : X.N.Nodup)
    (hy : X.N[i]? = some y) (hyl : X.env.scope.names.lookup y = some .local) (hsw : swapsWith (.ListComp elt [⟨tg, iter, ifs, 0⟩] scope pos) (some (.Name y py)) spos.line X.env = pure true) :
    PS X (.Assign [.Name y py] (.ListComp elt [⟨tg, iter, ifs, 0⟩] scope pos) spos) (tAsg (tLc (tI pl G wi) (tG pl (wipeE G vs) ts gs) (fun s H Q => ∃ a, tT pl (gs a) (wt a) s H Q) (fun s H Q => ∃ a, te a s H Q) vs) (gName i)) := by
  obtain ⟨own', ok, rfl⟩ := c.ok
  exact ps_setLc hc hN hy hyl hsw c.it ok c.tgt (fun s H C cl fp => PTs.exi fun a => c.test a s H C cl fp) (fun s H C cl fp => PE.exi fun a => c.item a s H C cl fp) c.hs
/-- its items stand still -/
abbrev LcF (X : Cx) (pl : Pl) (G : Env) (elt tg iter : Expr) (ifs : List Expr) (scope : Scope) (vs ts : List Nat) (wi : W (List α)) (gs : α → Env) (wt : α → W Bool) (we : α → W β) : Prop := Lc X pl G elt tg iter ifs scope vs ts wi gs wt (fun a => tX pl (gs a) (fun b : β => fro b) (we a))
/-- its items are new lists -/
abbrev LcO (X : Cx) (pl : Pl) (G : Env) (elt tg iter : Expr) (ifs : List Expr) (scope : Scope) (vs ts : List Nat) (wi : W (List α)) (gs : α → Env) (wt : α → W Bool) (we : α → W (List β)) : Prop := Lc X pl G elt tg iter ifs scope vs ts wi gs wt (fun a => tX pl (gs a) (fun b : List β => own b) (we a))
theorem dx_lc {elt tg iter : Expr} {ifs : List Expr} {scope : Scope} {vs ts : List Nat} {wi : W (List α)} {gs : α → Env} {wt : α → W Bool} {we : α → W β} {pos : Pos} (c : LcF X pl G elt tg iter ifs scope vs ts wi gs wt we) (hc : X.calm = true) (hN : X.N.Nodup) :
    DX X pl G (.ListComp elt [⟨tg, iter, ifs, 0⟩] scope pos) (fun b : List β => own b) (fun P => wi fun as => as.length ≤ 100000 ∧ wFil as wt we P) := PE.wk (c.pe hc hN) fun s H Q h => lc_go c.hts c.hgs h
theorem lcO_go {s : St} {H : Hp} {Q : VK} {wi : W (List α)} {gs : α → Env} {wt : α → W Bool} {we : α → W (List β)} {vs ts : List Nat} (hts : ∀ i, i ∈ ts → i ∈ vs) (hgs : ∀ a, Sub (gs a) (wipeE G vs))
    (h : tX pl G (fun b : List (List β) => own2 b) (fun P => wi fun as => as.length ≤ 100000 ∧ wFil as wt we P) s H Q) :
    tLc (tI pl G wi) (tG pl (wipeE G vs) ts gs) (fun s H Q => ∃ a, tT pl (gs a) (wt a) s H Q) (fun s H Q => ∃ a, tX pl (gs a) (fun b : List β => own b) (we a) s H Q) vs s H Q := by
  obtain ⟨F, fp, at_, P, w, K⟩ := h
  refine ⟨F, fp, at_, _, w, fun as F1 H1 fp1 J ⟨ln, p⟩ a1 g1 it D hD => ?_⟩
  have npD : ¬ isPool pl D := a1.nopl hD
  have nD : New F1 H1 F1 (upd H1 D (.lst [])) := New.own a1.ex hD
  have aW := (a1.new nD).inC vs
  let Inv := fun (i : Nat) (H2 : Hp) => ∃ F2 fp2 bs ps, At pl (wipeE G vs) F2 H2 (wipe s vs) fp2 ∧ Go pl F1 H1 (fun i q => fp1 i q ∧ i ∉ vs) F2 H2 fp2 ∧ H2 D = some (.lst (ps.map V.ref)) ∧ F2 D = none ∧ (∀ i, ¬ fp2 i D) ∧ (D :: ps).Nodup ∧ Rws F2 H2 ps bs ∧ (∀ q, q ∈ ps → H1 q = none ∧ (∀ i, ¬ fp2 i q) ∧ ¬ isPool pl q) ∧ wFil (as.drop i) wt we (fun cs => P (bs ++ cs)) ∧ bs.length ≤ i
  refine ⟨fun i m H2 => i + m = as.length ∧ Inv i H2, ⟨as.length, by omega, F1, _, [], [], aW, (Go.new nD), upd_same, a1.fnone hD, fun i z => a1.nofp hD i z.1, by simp, .nil, (fun q h => by cases h), p, Nat.le_refl _⟩, fun i m H2 ⟨em, F2, fp2, bs, ps, a2, g2, hD2, fD, nfD, nd, ha, hps, wf, lb⟩ => ?_⟩
  by_cases hi : i < as.length
  · refine .inr ?_
    obtain ⟨a, ea⟩ : ∃ a, as[i]? = some a := ⟨as[i], List.getElem?_eq_getElem hi⟩
    have ed : as.drop i = a :: as.drop (i + 1) := by
      rw [List.drop_eq_getElem_cons hi]
      rw [List.getElem?_eq_getElem hi] at ea
      cases ea; rfl
    rw [ed] at wf
    obtain ⟨go, yl⟩ := it.turn F2 H2 i a g2.exF a2.ex ea
    refine ⟨go, Inv (i + 1), fun H' hI => ⟨m - 1, by omega, by omega, hI⟩, fun x H3 hy => ?_⟩
    obtain ⟨F3, n3, hx⟩ := yl x H3 hy
    have tD : H2 D ≠ none := by rw [hD2]; simp
    refine ⟨F3, fp2, a, a2.new n3, hx, fun s3 fp3 a3 l3 off => ⟨(off vs hts).trans (wipe_wipe vs vs fun _ h => h), a, F3, fp3, a3, _, wf, fun b F4 H4 fp4 wb a4 g4 => ?_⟩⟩
    have hw : wipe s3 vs = wipe s vs := (off vs hts).trans (wipe_wipe vs vs fun _ h => h)
    have g3 : Go pl F2 H2 fp2 F3 H3 fp3 := (Go.new n3).trans (Go.less l3)
    have nD3 : ∀ i, ¬ fp3 i D := fun i z => nfD i (l3 i D z)
    have k3 : H3 D ≠ none := by rw [n3.same tD]; exact tD
    have back : ∀ {F5 H5 : Hp} {fp5 : Foot}, At pl (gs a) F5 H5 s3 fp5 → Go pl F3 H3 fp3 F5 H5 fp5 → ∃ fp6, At pl (wipeE G vs) F5 H5 (wipe s vs) fp6 ∧ Go pl F1 H1 (fun i q => fp1 i q ∧ i ∉ vs) F5 H5 fp6 ∧ (∀ i, ¬ fp6 i D) ∧ H5 D = some (.lst (ps.map V.ref)) ∧ F5 D = none ∧ Rws F5 H5 ps bs ∧ (∀ q, q ∈ ps → H1 q = none ∧ (∀ i, ¬ fp6 i q) ∧ ¬ isPool pl q) ∧ (∀ i q, fp6 i q → fp5 i q) := fun {F5 H5 fp5} a5 g5 => by
      obtain ⟨fp6, a6, l6⟩ := a5.sub (hgs a)
      have k5 := g5.keep D k3 nD3 npD
      have g36 : Go pl F2 H2 fp2 F5 H5 fp6 := g3.trans (g5.trans (Go.less l6))
      refine ⟨fp6, a6.conv (fun i A e => ?_) ?_, g2.trans g36, fun i z => ?_, k5.1.trans ((n3.same tD).trans hD2), k5.2 (n3.keepN tD fD), ha.frame g36.exF fun q hq => ?_, fun q hq => ⟨(hps q hq).1, fun i z => ?_, (hps q hq).2.2⟩, l6⟩
      · obtain ⟨_, ni⟩ := wipeE_some e
        rw [wipe_out' ni, ← wipe_out' (s := s3) ni, hw, wipe_out' ni]
      · rw [← hw, wipe_length]
      · exact (g5.foot i D (l6 i D z)).elim (fun ⟨j, y⟩ => nD3 j y) k3
      · obtain ⟨f, vs', h⟩ := ha.mem hq
        have kk := g36.keep q (by rw [h]; simp) (hps q hq).2.1 (hps q hq).2.2
        exact ⟨kk.2 f, kk.1⟩
      · obtain ⟨f, vs', h⟩ := ha.mem hq
        exact (g36.foot i q z).elim (fun ⟨j, y⟩ => (hps q hq).2.1 j y) fun y => by rw [h] at y; cases y
    cases b with
    | true =>
      refine (if_pos rfl).mpr ?_
      refine ⟨a, F4, fp4, a4, _, wb.1 rfl, fun c y F5 H5 fp5 S5 wc a5 g5 b5 hS5 => ?_⟩
      obtain ⟨fp6, a6, g6, n6, e6, f6, h6, hp6, l56⟩ := back a5 (g4.trans g5)
      obtain ⟨l, zs, rfl, hSl, fl, hl, hz⟩ := b5
      obtain ⟨hl4, nl5, npl⟩ := hS5 l ((hSl l).mpr rfl)
      have la := h6.length
      have tD4 : H4 D ≠ none := g4.grow D k3
      have lD : l ≠ D := fun z => tD4 (by rw [← z]; exact hl4)
      have back4 := back a4 g4
      have lps : l ∉ ps := fun hm => by
        obtain ⟨_, _, _, _, _, _, r4, _⟩ := back4
        obtain ⟨f, vs', h⟩ := r4.mem hm
        rw [hl4] at h; cases h
      have hl1 : H1 l = none := by
        have gg : Go pl F1 H1 (fun i q => fp1 i q ∧ i ∉ vs) F4 H4 fp4 := g2.trans (g3.trans g4)
        exact gg.back hl4
      refine ⟨ps.map V.ref, e6, lineLt (by rw [List.length_map, la]; omega), F5, fp6, bs ++ [c], ps ++ [l], a6.upd f6 n6 npD, g6.upd hD, ?_, f6, n6, ?_, ?_, fun q hq => ?_, ?_, by rw [List.length_append]; show bs.length + 1 ≤ i + 1; omega⟩
      · rw [upd_same, List.map_append]; rfl
      · rw [← List.cons_append]
        refine List.nodup_append.mpr ⟨nd, by simp, fun x hx y hy => ?_⟩
        have : y = l := by simpa using hy
        subst this
        rcases List.mem_cons.mp hx with z | z
        · rw [z]; exact fun e => lD e.symm
        · exact fun e => lps (by rw [← e]; exact z)
      · have ap : ∀ {xs : List Addr} {ys : List (List β)}, Rws F5 (upd H5 D (.lst (ps.map V.ref ++ [V.ref l]))) xs ys → Rws F5 (upd H5 D (.lst (ps.map V.ref ++ [V.ref l]))) (xs ++ [l]) (ys ++ [c]) := fun {xs ys} r => by
          induction r with
          | nil => exact .cons fl ((upd_ne lD).trans hl) hz .nil
          | cons a b c' r ih => exact .cons a b c' ih
        refine ap (h6.frame (Ex.refl _) fun q hq => ⟨(h6.mem hq).1, upd_ne fun z => ?_⟩)
        rw [z] at hq
        exact (List.nodup_cons.mp nd).1 hq
      · rcases List.mem_append.mp hq with z | z
        · exact hp6 q z
        · have e : q = l := by simpa using z
          rw [e]
          exact ⟨hl1, fun i m => nl5 i (l56 i l m), npl⟩
      · simp only [List.append_assoc]
        exact wc
    | false =>
      refine (if_neg Bool.false_ne_true).mpr ?_
      obtain ⟨fp6, a6, g6, n6, e6, f6, h6, hp6, _⟩ := back a4 g4
      exact ⟨F4, fp6, bs, ps, a6, g6, e6, f6, n6, nd, h6, hp6, wb.2 rfl, by omega⟩
  · refine .inl ?_
    have e : i = as.length := by omega
    refine ⟨by rw [e]; exact it.stop F2 H2 g2.exF a2.ex, ?_⟩
    rw [e, List.drop_length] at wf
    have wf' : P (bs ++ []) := wf
    rw [List.append_nil] at wf'
    obtain ⟨fp7, a7, g7, l7⟩ := a1.unwipe a2 g2
    refine K bs (.ref D) F2 H2 fp7 (fun x => x ∈ D :: ps) wf' a7 (g1.trans g7) ⟨D, ps, rfl, fun _ => Iff.rfl, nd, fD, hD2, ha⟩ fun q z => ?_
    rcases List.mem_cons.mp z with z | z
    · rw [z]
      exact ⟨g1.back hD, fun i m => (l7 i D m).elim (fun y => a1.nofp hD i y) fun y => nfD i y, npD⟩
    · obtain ⟨h1, h2, h3⟩ := hps q z
      exact ⟨g1.back h1, fun i m => (l7 i q m).elim (fun y => a1.nofp h1 i y) fun y => h2 i y, h3⟩
theorem dx_lcO {elt tg iter : Expr} {ifs : List Expr} {scope : Scope} {vs ts : List Nat} {wi : W (List α)} {gs : α → Env} {wt : α → W Bool} {we : α → W (List β)} {pos : Pos} (c : LcO X pl G elt tg iter ifs scope vs ts wi gs wt we) (hc : X.calm = true) (hN : X.N.Nodup) :
    DX X pl G (.ListComp elt [⟨tg, iter, ifs, 0⟩] scope pos) (fun b : List (List β) => own2 b) (fun P => wi fun as => as.length ≤ 100000 ∧ wFil as wt we P) := PE.wk (c.pe hc hN) fun s H Q h => lcO_go c.hts c.hgs h
end

/-! ### statements -/
/-- w: what is wanted where the block goes on (k: what the names are then), where it returns (r) -/
abbrev WS (κ ρ : Type) := (κ → Prop) → (ρ → Prop) → Prop
/-- a def's ways out: what its worth is, and what a way out does -/
structure Rt (ρ : Type) where
  a : ρ → Asrt
  out : VK → ρ → V → Hp → Prop
/-- .. all by return -/
def nrm {ρ : Type} (B : ρ → Asrt) : Rt ρ := ⟨B, fun q _ v H => q v H⟩
def tS {κ ρ : Type} (pl : Pl) (G : Env) (B : Rt ρ) (w : WS κ ρ) (G' : κ → Env) : TS := fun D s H => ∃ F fp, At pl G F H s fp ∧ ∃ (Pn : κ → Prop) (Pr : ρ → Prop), w Pn Pr ∧
  (∀ k s' F' H' fp', Pn k → At pl (G' k) F' H' s' fp' → Go pl F H fp F' H' fp' → D.nx s' H') ∧
  (∀ r v F' H' fp' S, Pr r → Ex F' H' → PoolOk pl F' H' → Go pl F H fp F' H' fp' → B.a r F' H' v S → (∀ q, S q → (∃ i, fp i q) ∨ H q = none) → B.out D.rt r v H')
abbrev DS {κ ρ : Type} (X : Cx) (pl : Pl) (G : Env) (B : Rt ρ) (e : Stmt) (w : WS κ ρ) (G' : κ → Env) : Prop := PS X e (tS pl G B w G')
abbrev DSs {κ ρ : Type} (X : Cx) (pl : Pl) (G : Env) (B : Rt ρ) (e : List Stmt) (w : WS κ ρ) (G' : κ → Env) : Prop := PSs X e (tS pl G B w G')
section
variable {X : Cx} {pl : Pl} {G : Env} {κ κ' ρ : Type} {B : Rt ρ}
variable {α β γ : Type} [Enc α] [Enc β] [Enc γ]
theorem dss_done (k : κ) (G' : κ → Env) (h : Sub G (G' k)) : DSs X pl G B [] (fun nx _ => nx k) G' := PSs.wk pss_nil fun D s H ⟨F, fp, at_, Pn, Pr, w, K1, K2⟩ => by
  obtain ⟨fp', a', l⟩ := at_.sub h
  exact K1 k s F H fp' w a' (Go.less l)
theorem tSeq_go {t u : TS} {w1 : WS κ ρ} {G1 : κ → Env} {w2 : κ → WS κ' ρ} {G2 : κ' → Env} (h1 : ∀ D s H, tS pl G B w1 G1 D s H → t D s H) (h2 : ∀ D s H, (∃ k, tS pl (G1 k) B (w2 k) G2 D s H) → u D s H) (D : Ends) (s : St) (H : Hp) (h : tS pl G B (fun nx rt => w1 (fun k => w2 k nx rt) rt) G2 D s H) : tSeq t u D s H := by
  obtain ⟨F, fp, at_, Pn, Pr, w, K1, K2⟩ := h
  refine h1 _ s H ⟨F, fp, at_, _, Pr, w, fun k s1 F1 H1 fp1 p a1 g1 => h2 D s1 H1 ⟨k, F1, fp1, a1, Pn, Pr, p, fun k' s2 F2 H2 fp2 p2 a2 g2 => K1 k' s2 F2 H2 fp2 p2 a2 (g1.trans g2), fun r v F2 H2 fp2 S p2 e2 po2 g2 b2 hS => K2 r v F2 H2 fp2 S p2 e2 po2 (g1.trans g2) b2 fun q m => ?_⟩, K2⟩
  rcases hS q m with ⟨i, x⟩ | x
  · exact g1.foot i q x
  · exact .inr (g1.back x)
theorem dss_cons {st : Stmt} {sts : List Stmt} {w1 : WS κ ρ} {G1 : κ → Env} {w2 : κ → WS κ' ρ} {G2 : κ' → Env} (h1 : DS X pl G B st w1 G1) (h2 : ∀ k, DSs X pl (G1 k) B sts (w2 k) G2) : DSs X pl G B (st :: sts) (fun nx rt => w1 (fun k => w2 k nx rt) rt) G2 :=
  PSs.wk (pss_cons h1 (PSs.exi h2)) fun D s H h => tSeq_go (fun _ _ _ z => z) (fun _ _ _ z => z) D s H h
theorem dss_one {st : Stmt} {w : WS κ ρ} {G' : κ → Env} (h : DS X pl G B st w G') : DSs X pl G B [st] w G' := pss_one h
theorem Go.own {F H F' H' : Hp} {fp fp1 fp2 : Foot} (g : Go pl F H fp F' H' fp1) (h : ∀ i q, fp2 i q → (∃ j, fp1 j q) ∨ H q = none) : Go pl F H fp F' H' fp2 := ⟨g.exF, g.keep, fun i q m => (h i q m).elim (fun ⟨j, y⟩ => g.foot j q y) .inr, g.grow⟩
/-- name = value -/
theorem asg_go {δ : Type} {i : Nat} {te : TE} {B' : δ → Asrt} {w : W δ} (hB : ∀ a, Good (B' a)) (hl : i < G.length) (k : ∀ s H Q, tX pl G B' w s H Q → te s H Q) (D : Ends) (s : St) (H : Hp) (h : tS pl G B (fun nx _ => w nx) (fun a : δ => G.set i (some (B' a))) D s H) : tAsg te (gName i) D s H := by
  obtain ⟨F, fp, at_, Pn, Pr, w, K1, K2⟩ := h
  refine k s H _ ⟨F, fp, at_, Pn, w, fun a v F1 H1 fp1 S1 p a1 g1 b1 hS => ?_⟩
  refine K1 a _ F1 H1 _ p (a1.set hl (hB a) b1 fun q m => (hS q m).2) (g1.own fun j q m => ?_)
  by_cases hj : j = i
  · rw [if_pos hj] at m; exact .inr (hS q m).1
  · rw [if_neg hj] at m; exact .inl ⟨j, m⟩
theorem ds_set {δ : Type} (i : Nat) {x : Str} {e : Expr} {B' : δ → Asrt} {w : W δ} {pos pos' : Pos} (hN : X.N.Nodup) (hB : ∀ a, Good (B' a)) (h : DX X pl G e B' w) (hl : Nat.blt i G.length = true := by rfl) (hi : X.N[i]? = some x := by rfl) (hx : Loc X.env.scope x := by first | exact Or.inl rfl | exact Or.inr rfl)
    (hs : swapsWith e (some (.Name x pos')) pos.line X.env = pure false := by rfl) (hf : X.fn x = true ∨ X.env.scope.names.lookup x = some .local := by first | exact .inl rfl | exact .inr rfl) :
    DS X pl G B (.Assign [.Name x pos'] e pos) (fun nx _ => w nx) (fun a : δ => G.set i (some (B' a))) := PS.wk (ps_set hN hi hx h hs hf) (asg_go hB (blt_lt hl) fun _ _ _ z => z)
/-- name = [..] -/
theorem ds_setLc (i : Nat) {x : Str} {elt tg iter : Expr} {ifs : List Expr} {scope : Scope} {vs ts : List Nat} {wi : W (List α)} {gs : α → Env} {wt : α → W Bool} {we : α → W β} {pos spos py : Pos} (c : LcF X pl G elt tg iter ifs scope vs ts wi gs wt we) (hc : X.calm = true) (hN : X.N.Nodup) (hl : Nat.blt i G.length = true := by rfl) (hi : X.N[i]? = some x := by rfl) (hyl : X.env.scope.names.lookup x = some .local := by rfl)
    (hsw : swapsWith (.ListComp elt [⟨tg, iter, ifs, 0⟩] scope pos) (some (.Name x py)) spos.line X.env = pure true := by exact sw_true rfl rfl rfl (by decide +kernel)) :
    DS X pl G B (.Assign [.Name x py] (.ListComp elt [⟨tg, iter, ifs, 0⟩] scope pos) spos) (fun nx _ => wi fun as => as.length ≤ 100000 ∧ wFil as wt we nx) (fun a : List β => G.set i (some (own a))) := PS.wk (c.ps i hc hN hi hyl hsw) (asg_go (fun a => good_own a) (blt_lt hl) fun s H Q z => lc_go c.hts c.hgs z)
theorem ds_setLcF (i : Nat) {x : Str} {elt tg iter : Expr} {ifs : List Expr} {scope : Scope} {vs ts : List Nat} {wi : W (List α)} {gs : α → Env} {wt : α → W Bool} {we : α → W β} {pos spos py : Pos} (c : LcF X pl G elt tg iter ifs scope vs ts wi gs wt we) (hc : X.calm = true) (hN : X.N.Nodup) (hl : Nat.blt i G.length = true := by rfl) (hi : X.N[i]? = some x := by rfl) (hyl : X.env.scope.names.lookup x = some .local := by rfl)
    (hsw : swapsWith (.ListComp elt [⟨tg, iter, ifs, 0⟩] scope pos) (some (.Name x py)) spos.line X.env = pure true := by exact sw_true rfl rfl rfl (by decide +kernel)) :
    DS X pl G B (.Assign [.Name x py] (.ListComp elt [⟨tg, iter, ifs, 0⟩] scope pos) spos) (fun nx _ => wi fun as => as.length ≤ 100000 ∧ wFil as wt we nx) (fun a : List β => G.set i (some (fro a))) := PS.wk (c.ps i hc hN hi hyl hsw) (asg_go (fun a => good_fro a) (blt_lt hl) fun s H Q ⟨F, fp, at_, P, w, K⟩ => lc_go c.hts c.hgs ⟨F, fp, at_, P, w, K.frz frz_own⟩)
theorem ds_setLcO (i : Nat) {x : Str} {elt tg iter : Expr} {ifs : List Expr} {scope : Scope} {vs ts : List Nat} {wi : W (List α)} {gs : α → Env} {wt : α → W Bool} {we : α → W (List β)} {pos spos py : Pos} (c : LcO X pl G elt tg iter ifs scope vs ts wi gs wt we) (hc : X.calm = true) (hN : X.N.Nodup) (hl : Nat.blt i G.length = true := by rfl) (hi : X.N[i]? = some x := by rfl) (hyl : X.env.scope.names.lookup x = some .local := by rfl)
    (hsw : swapsWith (.ListComp elt [⟨tg, iter, ifs, 0⟩] scope pos) (some (.Name x py)) spos.line X.env = pure true := by exact sw_true rfl rfl rfl (by decide +kernel)) :
    DS X pl G B (.Assign [.Name x py] (.ListComp elt [⟨tg, iter, ifs, 0⟩] scope pos) spos) (fun nx _ => wi fun as => as.length ≤ 100000 ∧ wFil as wt we nx) (fun a : List (List β) => G.set i (some (own2 a))) := PS.wk (c.ps i hc hN hi hyl hsw) (asg_go (fun a => good_own2 a) (blt_lt hl) fun s H Q z => lcO_go c.hts c.hgs z)
/-- return e -/
theorem ds_ret {B : ρ → Asrt} {e : Expr} {w : W ρ} {pos : Pos} {G' : κ → Env} (h : DX X pl G e B w) : DS X pl G (nrm B) (.Return (some e) pos) (fun _ rt => w rt) G' := PS.wk (ps_ret h) fun D s H ⟨F, fp, at_, Pn, Pr, w, K1, K2⟩ =>
  ⟨F, fp, at_, Pr, w, fun r v F1 H1 fp1 S1 p a1 g1 b1 hS => K2 r v F1 H1 fp1 S1 p a1.ex a1.pool g1 b1 fun q m => .inr (hS q m).1⟩
/-- return of an owned name -/
theorem ds_retO {B : ρ → Asrt} (i : Nat) {r : ρ} {x : Str} {pos pos' : Pos} {G' : κ → Env} (h : G[i]? = some (some (B r)) := by rfl) (hN : X.N[i]? = some x := by rfl) (hv : Vis X.env.scope x := by first | exact Or.inl rfl | exact Or.inr (Or.inl rfl) | exact Or.inr (Or.inr rfl)) (hd : (x == ("__debug__" : Str)) = false := by decide)
    (hcd : (x == ("__classdict__" : Str)) = false := by decide) : DS X pl G (nrm B) (.Return (some (.Name x pos')) pos) (fun _ rt => rt r) G' := PS.wk (ps_ret (pe_var hN hv hd hcd)) fun D s H ⟨F, fp, at_, Pn, Pr, w, K1, K2⟩ => by
  obtain ⟨g, v, hv, hA⟩ := at_.sl i _ h
  exact ⟨v, hv, K2 r v F H fp (fp i) w at_.ex at_.pool .refl hA fun q m => .inl ⟨i, m⟩⟩
theorem ds_if {c : Expr} {a b : List Stmt} {wc : W Bool} {w1 w2 : WS κ ρ} {G' : κ → Env} {pos : Pos} (hc : DT X pl G c wc) (h1 : DSs X pl G B a w1 G') (h2 : DSs X pl G B b w2 G') : DS X pl G B (.If c a b pos) (fun nx rt => wc fun x => wIf x (w1 nx rt) (w2 nx rt)) G' := PS.wk (ps_if hc h1 h2) fun D s H ⟨F, fp, at_, Pn, Pr, w, K1, K2⟩ => by
  refine ⟨F, fp, at_, _, w, fun x F1 H1 fp1 p a1 g1 => ?_⟩
  have go : ∀ w' : WS κ ρ, w' Pn Pr → tS pl G B w' G' D s H1 := fun w' hw => ⟨F1, fp1, a1, Pn, Pr, hw, fun k s2 F2 H2 fp2 p2 a2 g2 => K1 k s2 F2 H2 fp2 p2 a2 (g1.trans g2), fun r v F2 H2 fp2 S p2 e2 po2 g2 b2 hS => K2 r v F2 H2 fp2 S p2 e2 po2 (g1.trans g2) b2 fun q m => (hS q m).elim (fun ⟨i, y⟩ => g1.foot i q y) fun y => .inr (g1.back y)⟩
  cases x with
  | true => exact go w1 (p.1 rfl)
  | false => exact go w2 (p.2 rfl)
/-- for tg in iter: body -/
def wFor {α κ : Type} : List α → κ → (α → κ → (κ → Prop) → Prop) → (κ → Prop) → Prop
  | [], k, _, P => P k
  | a :: as, k, f, P => f a k fun k' => wFor as k' f P
theorem ds_for {tg iter : Expr} {body : List Stmt} {wi : W (List α)} {GL : κ → Env} {k0 : κ} {ts : List Nat} {gs : κ → α → Env} {wb : α → κ → WS κ ρ} {pos : Pos} (hp : PassesOwn (model X.prog X.w) X.A X.env X.xe) (hc : X.calm = true) (hi : DI X pl G tg iter wi) (h0 : Sub G (GL k0)) (hg : ∀ k, DG X pl (GL k) tg ts (gs k)) (hb : ∀ a k, DSs X pl (gs k a) B body (wb a k) GL)
    (hs : ∀ x, foldedSetIterable iter X.env x = pure x := by intro _; rfl) : DS X pl G B (.For tg iter body [] pos) (fun nx rt => wi fun as => wFor as k0 (fun a k nx' => wb a k nx' rt) nx) GL := PS.wk (ps_for hp hc hi (PG.exi hg) (PSs.exi fun ak : α × κ => hb ak.1 ak.2) hs) fun D s H ⟨F, fp, at_, Pn, Pr, w, K1, K2⟩ => by
  refine ⟨F, fp, at_, _, w, fun as F1 H1 fp1 J p a1 g1 it => ?_⟩
  let Inv := fun (i : Nat) (s2 : St) (H2 : Hp) => ∃ F2 fp2 k, At pl (GL k) F2 H2 s2 fp2 ∧ Go pl F1 H1 fp1 F2 H2 fp2 ∧ wFor (as.drop i) k (fun a k nx' => wb a k nx' Pr) Pn
  refine ⟨fun i m s2 H2 => i + m = as.length ∧ Inv i s2 H2, ⟨as.length, by omega, ?_⟩, fun i m s2 H2 ⟨em, F2, fp2, k, a2, g2, wf⟩ => ?_⟩
  · obtain ⟨fp', a', l⟩ := a1.sub h0
    exact ⟨F1, fp', k0, a', Go.less l, p⟩
  · by_cases hi : i < as.length
    · refine .inr ?_
      obtain ⟨a, ea⟩ : ∃ a, as[i]? = some a := ⟨as[i], List.getElem?_eq_getElem hi⟩
      have ed : as.drop i = a :: as.drop (i + 1) := by
        rw [List.drop_eq_getElem_cons hi]
        rw [List.getElem?_eq_getElem hi] at ea
        cases ea; rfl
      rw [ed] at wf
      obtain ⟨go, yl⟩ := it.turn F2 H2 i a g2.exF a2.ex ea
      refine ⟨go, fun s' H' => Inv (i + 1) s' H', fun s' H' hI => ⟨m - 1, by omega, by omega, hI⟩, fun x H3 hy => ?_⟩
      obtain ⟨F3, n3, hx⟩ := yl x H3 hy
      refine ⟨k, F3, fp2, a, a2.new n3, hx, fun s3 fp3 a3 l3 _ => ⟨(a, k), F3, fp3, a3, _, Pr, wf, fun k' s4 F4 H4 fp4 p4 a4 g4 => ?_, fun r v F4 H4 fp4 S p4 e4 po4 g4 b4 hS => ?_⟩⟩
      · exact ⟨F4, fp4, k', a4, g2.trans (((Go.new n3).trans (Go.less l3)).trans g4), p4⟩
      · have gg : Go pl F H fp F3 H3 fp3 := g1.trans (g2.trans ((Go.new n3).trans (Go.less l3)))
        exact K2 r v F4 H4 fp4 S p4 e4 po4 (gg.trans g4) b4 fun q m => (hS q m).elim (fun ⟨i, y⟩ => gg.foot i q y) fun y => .inr (gg.back y)
    · refine .inl ?_
      have e : i = as.length := by omega
      refine ⟨by rw [e]; exact it.stop F2 H2 g2.exF a2.ex, ?_⟩
      rw [e, List.drop_length] at wf
      exact K1 k s2 F2 H2 fp2 wf a2 (g1.trans g2)
/-- an owned name, from here on standing still (no code) -/
theorem dss_frz (i : Nat) {a : α} {Bo : α → Asrt} {sts : List Stmt} {w : WS κ ρ} {G' : κ → Env} (fz : Frz Bo) (hi : G[i]? = some (some (Bo a))) (h : DSs X pl (G.set i (some (fro a))) B sts w G') : DSs X pl G B sts w G' := PSs.wk h fun D s H ⟨F, fp, at_, Pn, Pr, w, K1, K2⟩ => by
  obtain ⟨gd, v, hv, hA⟩ := at_.sl i _ hi
  obtain ⟨z1, z2⟩ := fz a F H v (fp i) hA at_.ex
  -- the slot is taken out first
  have hlt : i < G.length := by
    by_cases z : i < G.length
    · exact z
    · rw [List.getElem?_eq_none (by omega)] at hi; cases hi
  have cut : At pl (G.set i none) F H s (fun j q => fp j q ∧ j ≠ i) := ⟨at_.ex, by rw [List.length_set]; exact at_.len, fun j A e => by
    by_cases hj : j = i
    · subst hj; rw [List.getElem?_set_self hlt] at e; cases e
    · rw [List.getElem?_set_ne (Ne.symm hj)] at e
      obtain ⟨g, u, hu, hB⟩ := at_.sl j A e
      refine ⟨g, u, hu, ?_⟩
      have e2 : (fun q => fp j q ∧ j ≠ i) = fp j := by
        funext q
        exact propext ⟨fun x => x.1, fun x => ⟨x, hj⟩⟩
      rw [e2]; exact hB, fun j k q x y => at_.dis j k q x.1 y.1, fun j q x => by
    rw [List.getElem?_set_ne (Ne.symm x.2)]
    exact at_.out j q x.1, at_.pool, fun j q x => at_.pdis j q x.1⟩
  obtain ⟨F2, e2, a2, k1, k2⟩ := cut.frz z1 fun q m => ⟨fun j x => x.2 (at_.dis j i q x.1 m), at_.pdis i q m⟩
  obtain ⟨fp3, a3, l3⟩ := a2.setF (i := i) (x := a) (v := v) (by rw [List.length_set]; exact hlt) (z2 F2 e2 k1)
  rw [List.set_set] at a3
  have es : s.set i (some v) = s := by
    have hls : i < s.length := by rw [← at_.len]; exact hlt
    refine List.ext_getElem? fun j => ?_
    by_cases hj : j = i
    · subst hj; rw [List.getElem?_set_self hls, hv]
    · rw [List.getElem?_set_ne (Ne.symm hj)]
  rw [es] at a3
  have g3 : Go pl F H fp F2 H fp3 := ⟨e2, fun q h n p => ⟨rfl, fun f => (k2 q fun m => n i m).trans f⟩, fun j q m => .inl ⟨j, (l3 j q m).1⟩, fun q h => h⟩
  exact ⟨F2, fp3, a3, Pn, Pr, w, fun k s4 F4 H4 fp4 p4 a4 g4 => K1 k s4 F4 H4 fp4 p4 a4 (g3.trans g4), fun r v F4 H4 fp4 S p4 e4 po4 g4 b4 hS => K2 r v F4 H4 fp4 S p4 e4 po4 (g3.trans g4) b4 fun q m => (hS q m).elim (fun ⟨j, y⟩ => g3.foot j q y) fun y => .inr y⟩
theorem dss_frzO (i : Nat) {a : List α} {sts : List Stmt} {w : WS κ ρ} {G' : κ → Env} (h : DSs X pl (G.set i (some (fro a))) B sts w G') (hi : G[i]? = some (some (own a)) := by rfl) : DSs X pl G B sts w G' := dss_frz i frz_own hi h
theorem dss_frzOO (i : Nat) {a : List (List α)} {sts : List Stmt} {w : WS κ ρ} {G' : κ → Env} (h : DSs X pl (G.set i (some (fro a))) B sts w G') (hi : G[i]? = some (some (own2 a)) := by rfl) : DSs X pl G B sts w G' := dss_frz i frz_own2 hi h
theorem dss_sub {G1 : Env} {sts : List Stmt} {w : WS κ ρ} {G' : κ → Env} (h0 : Sub G G1) (h : DSs X pl G1 B sts w G') : DSs X pl G B sts w G' := PSs.wk h fun D s H ⟨F, fp, at_, Pn, Pr, w, K1, K2⟩ => by
  obtain ⟨fp', a', l⟩ := at_.sub h0
  exact ⟨F, fp', a', Pn, Pr, w, fun k s4 F4 H4 fp4 p4 a4 g4 => K1 k s4 F4 H4 fp4 p4 a4 ((Go.less l).trans g4), fun r v F4 H4 fp4 S p4 e4 po4 g4 b4 hS => K2 r v F4 H4 fp4 S p4 e4 po4 ((Go.less l).trans g4) b4 fun q m => (hS q m).elim (fun ⟨j, y⟩ => .inl ⟨j, l j q y⟩) fun y => .inr y⟩
end
end Dm

set_option Elab.async false
set_option linter.all false
set_option maxRecDepth 100000
set_option maxHeartbeats 2000000
/-! Dm: part F: changes of owned lists, several targets. -/
namespace Dm
open PySem L2
variable [TabC]
section
variable {X : Cx} {pl : Pl} {G : Env} {κ κ' ρ : Type} {B : Rt ρ} {s : St} {F H F1 H1 F' H' : Hp} {fp fp1 : Foot}
variable {α β γ : Type} [Enc α] [Enc β] [Enc γ]
theorem At.lt (a : At pl G F H s fp) {i : Nat} {A : Asrt} (h : G[i]? = some (some A)) : i < G.length := by
  by_cases z : i < G.length
  · exact z
  · rw [List.getElem?_eq_none (by omega)] at h; cases h
/-- an owned thing is changed: another assertion at the same slot, the same footprint -/
theorem At.mut (a : At pl G F H s fp) {i : Nat} {A : Asrt} {q : Addr} {o : HO} {v : V} (hi : i < G.length) (hq : fp i q) (hv : s[i]? = some (some v)) (g : Good A) (hA : A F (L2.upd H q o) v (fp i)) : At pl (G.set i (some A)) F (L2.upd H q o) s fp ∧ Go pl F H fp F (L2.upd H q o) fp := by
  have fq : F q = none ∧ H q ≠ none := by
    obtain ⟨A', e⟩ := a.out i q hq
    obtain ⟨g', v', hv', hB⟩ := a.sl i A' e
    exact g'.own hB q hq
  refine ⟨⟨fun x u e => ?_, by rw [List.length_set]; exact a.len, fun j A' e => ?_, a.dis, fun j x m => ?_, a.pool.frame (Ex.refl _) fun x m => ⟨(a.pool.there m).1, upd_ne fun z => a.pdis i q hq (by rw [← z]; exact m)⟩, a.pdis⟩, ⟨Ex.refl _, fun x h n p => ⟨upd_ne fun z => n i (by rw [z]; exact hq), fun z => z⟩, fun j x m => .inl ⟨j, m⟩, fun x h => ?_⟩⟩
  · have hx : x ≠ q := fun z => by rw [z, fq.1] at e; cases e
    rw [upd_ne hx]; exact a.ex x u e
  · by_cases hj : j = i
    · subst hj
      rw [List.getElem?_set_self hi] at e
      cases e
      exact ⟨g, v, hv, hA⟩
    · rw [List.getElem?_set_ne (Ne.symm hj)] at e
      obtain ⟨g', v', hv', hB⟩ := a.sl j A' e
      exact ⟨g', v', hv', g'.frame hB (Ex.refl _) fun x m => ⟨(g'.own hB x m).1, upd_ne fun z => hj (a.dis j i q (by rw [← z]; exact m) hq)⟩⟩
  · by_cases hj : j = i
    · subst hj; exact ⟨A, List.getElem?_set_self hi⟩
    · rw [List.getElem?_set_ne (Ne.symm hj)]; exact a.out j x m
  · by_cases z : x = q
    · rw [z, upd_same]; simp
    · rw [upd_ne z]; exact h
/-- x.append(e) -/
theorem ds_app (i : Nat) {as : List α} {x : Str} {e : Expr} {w : W α} {p ap cp pos : Pos} (he : DE X pl G e w) (h : G[i]? = some (some (own as)) := by rfl) (hN : X.N[i]? = some x := by rfl) (hv : Vis X.env.scope x := by first | exact Or.inl rfl | exact Or.inr (Or.inl rfl) | exact Or.inr (Or.inr rfl)) (hd : (x == ("__debug__" : Str)) = false := by decide)
    (hcd : (x == ("__classdict__" : Str)) = false := by decide) (hbase : attributeBase (.Name x p) "append" X.env (eval (.Name x p) X.env) = eval (.Name x p) X.env := by rfl)
    (hfew : ((backTo cp (starEach [e] X.env)).all (fun x => !x.1) && (backToKw cp (keywordEach [] X.env)).all (fun x => x.1.isSome) && decide ([e].length + ([] : List Keyword).length + (if ([] : List Keyword).isEmpty then 0 else 1) < 30)) = true := by rfl)
    (hline : (ap.endLine == cp.line) = true := by rfl) (hs : starEach [e] X.env = (false, eval e X.env) :: starEach [] X.env := by rfl) (hplain : (backTo cp (starEach [] X.env)).any (·.1) = false := by rfl)
    (hsw : swapsWith (.Call (.Attribute (.Name x p) "append" ap) [e] [] cp) none pos.line X.env = pure false := by rfl) :
    DS X pl G B (.Expr (.Call (.Attribute (.Name x p) "append" ap) [e] [] cp) pos) (fun nx _ => w fun a => as.length < 100000 ∧ nx (as ++ [a])) (fun as' : List α => G.set i (some (own as'))) :=
  PS.wk (ps_expr (pe_bm PySem.F.plainAttrs_list PySem.F.slot_list_append PySem.F.type_list_append mt_append (pe_var hN hv hd hcd) (pa_cons he pa_nil hs) hbase hfew hline hs hplain) hsw) fun D s H ⟨F, fp, at_, Pn, Pr, w, K1, K2⟩ => by
    obtain ⟨_, v, hv, l, vs, rfl, hS, hF, hH, ha⟩ := at_.sl i _ h
    refine ⟨.ref l, hv, .inl ⟨rfl, _, SqL.of hH⟩, F, fp, at_, _, w, fun a u F1 H1 fp1 S1 ⟨ln, p⟩ a1 g1 b1 _ => ?_⟩
    obtain ⟨_, v', hv', l', vs', rfl, hS', hF', hH', ha'⟩ := a1.sl i _ h
    rw [hv] at hv'; cases hv'
    have lv := ha'.length
    rw [List.length_map] at lv
    refine ⟨l, vs', u, rfl, rfl, hH', lineLt (by rw [lv]; exact ln), ?_⟩
    obtain ⟨a2, g2⟩ := a1.mut (A := own (as ++ [a])) (q := l) (o := .lst (vs' ++ [u])) (v := .ref l) (a1.lt h) ((hS' l).mpr rfl) hv (good_own _) ⟨l, _, rfl, hS', hF', upd_same, by rw [List.map_append]; exact ha'.append (.cons b1.2 .nil)⟩
    exact K1 (as ++ [a]) s F1 _ fp1 p a2 (g1.trans g2)
/-- x[i] = e, x an owned list -/
def wSet {α : Type} (as : List α) (i : Int) (a : α) (P : List α → Prop) : Prop := ∃ n, ixN as.length i = some n ∧ P (as.set n a)
theorem ds_setI (i : Nat) {as : List α} {x : Str} {e e' : Expr} {w : W α} {wi : W Int} {p sp pos : Pos} (he : DE X pl G e w) (hb : DQ X pl G e' wi) (h : G[i]? = some (some (own as)) := by rfl) (hN : X.N[i]? = some x := by rfl) (hv : Vis X.env.scope x := by first | exact Or.inl rfl | exact Or.inr (Or.inl rfl) | exact Or.inr (Or.inr rfl)) (hd : (x == ("__debug__" : Str)) = false := by decide)
    (hcd : (x == ("__classdict__" : Str)) = false := by decide)
    (ha : ∀ v, assign (.Subscript (.Name x p) e' sp) X.env v = (do
          let ov ← holding [v] (eval (.Name x p) X.env)
          let iv ← holding [v, ov] (eval e' X.env)
          standAt sp
          holding [v, ov, iv] (setItem ov iv v)
          release [v, ov, iv] []) := by intro _; rfl)
    (hs1 : swapsWithSole [.Subscript (.Name x p) e' sp] e pos.line X.env = pure false := by rfl) (hs2 : swappedStores [.Subscript (.Name x p) e' sp] e X.env = pure none := by rfl) :
    DS X pl G B (.Assign [.Subscript (.Name x p) e' sp] e pos) (fun nx _ => w fun a => wi fun j => wSet as j a nx) (fun as' : List α => G.set i (some (own as'))) :=
  PS.wk (ps_asg he (pg_sub (pe_var hN hv hd hcd) hb set_list ha) hs1 hs2) fun D s H ⟨F, fp, at_, Pn, Pr, w, K1, K2⟩ => by
    refine ⟨F, fp, at_, _, w, fun a u F1 H1 fp1 S1 wi1 a1 g1 b1 _ => ?_⟩
    obtain ⟨_, v, hv, l, vs, rfl, hS, hF, hH, ha⟩ := a1.sl i _ h
    refine ⟨.ref l, hv, F1, fp1, a1, _, wi1, fun j z ⟨n, hn, p⟩ bj => ?_⟩
    cases bj
    have lv := ha.length
    rw [List.length_map] at lv
    refine ⟨l, vs, j, n, rfl, rfl, hH, by rw [lv]; exact hn, ?_⟩
    obtain ⟨a2, g2⟩ := a1.mut (A := own (as.set n a)) (q := l) (o := .lst (vs.set n u)) (v := .ref l) (a1.lt h) ((hS l).mpr rfl) hv (good_own _) ⟨l, _, rfl, hS, hF, upd_same, by rw [List.map_set]; exact ha.set b1.2 n⟩
    exact K1 _ s F1 _ fp1 p a2 (g1.trans g2)
theorem Rws.set {q : Addr} {vs : List V} {as : List α} : ∀ {ps : List Addr} {ass : List (List α)} {n : Nat}, Rws F H ps ass → ps.Nodup → ps[n]? = some q → HasAll F vs (as.map Enc.enc) → Rws F (upd H q (.lst vs)) ps (ass.set n as)
  | _, _, n, .nil, _, e, _ => by simp at e
  | _, _, 0, .cons (q := p) a b c r, nd, e, h => by
    simp at e; subst e
    refine .cons a upd_same h (r.frame (Ex.refl _) fun x m => ⟨(r.mem m).1, upd_ne fun z => ?_⟩)
    rw [z] at m
    exact (List.nodup_cons.mp nd).1 m
  | _, _, n + 1, .cons (q := p) a b c r, nd, e, h => by
    have e' := (show _ = some q by simpa using e)
    have hp : p ≠ q := fun z => by
      rw [z] at nd
      exact (List.nodup_cons.mp nd).1 (List.mem_of_getElem? e')
    exact .cons a ((upd_ne hp).trans b) c (r.set (n := n) (List.nodup_cons.mp nd).2 e' h)
def wSet2 {α : Type} (ass : List (List α)) (i : Int) (wj : W Int) (a : α) (P : List (List α) → Prop) : Prop := ∃ n as, ixN ass.length i = some n ∧ ass[n]? = some as ∧ wj fun j => ∃ m, ixN as.length j = some m ∧ P (ass.set n (as.set m a))
/-- x[i][j] = e, x owned rows -/
theorem ds_setII (i : Nat) {ass : List (List α)} {x : Str} {e e' e2 : Expr} {w : W α} {wi wj : W Int} {p sp sp2 pos : Pos} (he : DE X pl G e w) (hb : DQ X pl G e' wi) (hc : DQ X pl G e2 wj) (h : G[i]? = some (some (own2 ass)) := by rfl) (hN : X.N[i]? = some x := by rfl) (hv : Vis X.env.scope x := by first | exact Or.inl rfl | exact Or.inr (Or.inl rfl) | exact Or.inr (Or.inr rfl)) (hd : (x == ("__debug__" : Str)) = false := by decide)
    (hcd : (x == ("__classdict__" : Str)) = false := by decide) (hpl : PlainIx e' := by exact fun _ _ => rfl)
    (ha : ∀ v, assign (.Subscript (.Subscript (.Name x p) e' sp) e2 sp2) X.env v = (do
          let ov ← holding [v] (eval (.Subscript (.Name x p) e' sp) X.env)
          let iv ← holding [v, ov] (eval e2 X.env)
          standAt sp2
          holding [v, ov, iv] (setItem ov iv v)
          release [v, ov, iv] []) := by intro _; rfl)
    (hs1 : swapsWithSole [.Subscript (.Subscript (.Name x p) e' sp) e2 sp2] e pos.line X.env = pure false := by rfl) (hs2 : swappedStores [.Subscript (.Subscript (.Name x p) e' sp) e2 sp2] e X.env = pure none := by rfl) :
    DS X pl G B (.Assign [.Subscript (.Subscript (.Name x p) e' sp) e2 sp2] e pos) (fun nx _ => w fun a => wi fun j => wSet2 ass j wj a nx) (fun as' : List (List α) => G.set i (some (own2 as'))) :=
  PS.wk (ps_asg he (pg_sub (pe_ix ix_list (pe_var hN hv hd hcd) hb hpl) hc set_list ha) hs1 hs2) fun D s H ⟨F, fp, at_, Pn, Pr, w, K1, K2⟩ => by
    refine ⟨F, fp, at_, _, w, fun a u F1 H1 fp1 S1 wi1 a1 g1 b1 _ => ?_⟩
    obtain ⟨_, v, hv, l, ps, rfl, hS, nd, hF, hH, hr⟩ := a1.sl i _ h
    refine ⟨.ref l, hv, F1, fp1, a1, _, wi1, fun j z ⟨n, as, hn, hn2, wj1⟩ bj => ?_⟩
    cases bj
    obtain ⟨q, vs, hq, fq, hq2, ha⟩ := hr.at hn2
    have at1 : atI (ps.map V.ref) j = some (.ref q) := by
      unfold atI
      rw [List.length_map, hr.length, hn]
      show (ps.map V.ref)[n]? = _
      rw [List.getElem?_map, hq]; rfl
    refine ⟨l, _, j, .ref q, rfl, rfl, SqL.of hH, at1, F1, fp1, a1, _, wj1, fun k y ⟨m, hm, p⟩ bk => ?_⟩
    cases bk
    have lv := ha.length
    rw [List.length_map] at lv
    refine ⟨q, vs, k, m, rfl, rfl, hq2, by rw [lv]; exact hm, ?_⟩
    have qm : q ∈ ps := List.mem_of_getElem? hq
    have lq : l ≠ q := fun z => (List.nodup_cons.mp nd).1 (by rw [z]; exact qm)
    obtain ⟨a2, g2⟩ := a1.mut (A := own2 (ass.set n (as.set m a))) (q := q) (o := .lst (vs.set m u)) (v := .ref l) (a1.lt h) ((hS q).mpr (List.mem_cons_of_mem _ qm)) hv (good_own2 _) ⟨l, ps, rfl, hS, nd, hF, (upd_ne lq).trans hH, hr.set (List.nodup_cons.mp nd).2 hq (by rw [List.map_set]; exact ha.set b1.2 m)⟩
    exact K1 _ s F1 _ fp1 p a2 (g1.trans g2)

/-! ### several values on their way -/
structure Fl where
  v : V
  A : Asrt
  S : Set'
structure FlOk (pl : Pl) (F H : Hp) (fp : Foot) (l : List Fl) : Prop where
  good : ∀ f, f ∈ l → Good f.A ∧ f.A F H f.v f.S
  off : ∀ f, f ∈ l → ∀ q, f.S q → (∀ i, ¬ fp i q) ∧ ¬ isPool pl q
  dis : l.Pairwise fun f g => ∀ q, f.S q → ¬ g.S q
theorem FlOk.nil : FlOk pl F H fp [] := FlOk.mk (fun _ h => nomatch h) (fun _ h => nomatch h) List.Pairwise.nil
/-- what is on its way is as it was behind a further evaluation -/
theorem Go.float {A : Asrt} {v : V} {S : Set'} (g : Go pl F H fp F' H' fp1) (gd : Good A) (h : A F H v S) (hS : ∀ q, S q → (∀ i, ¬ fp i q) ∧ ¬ isPool pl q) : A F' H' v S ∧ ∀ q, S q → (∀ i, ¬ fp1 i q) ∧ ¬ isPool pl q := by
  refine ⟨gd.frame h g.exF fun q m => ?_, fun q m => ⟨fun i z => ?_, (hS q m).2⟩⟩
  · have o := gd.own h q m
    have k := g.keep q o.2 (hS q m).1 (hS q m).2
    exact ⟨k.2 o.1, k.1⟩
  · exact (g.foot i q z).elim (fun ⟨j, y⟩ => (hS q m).1 j y) fun y => (gd.own h q m).2 y
def tAK (pl : Pl) (G : Env) (w : W κ) (As : κ → List Asrt) : TA := fun s H Q => ∃ F fp, At pl G F H s fp ∧ ∃ P : κ → Prop, w P ∧ ∀ k l F' H' fp', P k → l.map Fl.A = As k → At pl G F' H' s fp' → Go pl F H fp F' H' fp' → FlOk pl F' H' fp' l → (∀ f, f ∈ l → ∀ q, f.S q → H q = none) → Q (l.map Fl.v) H'
abbrev DAK (X : Cx) (pl : Pl) (G : Env) (es : List Expr) (w : W κ) (As : κ → List Asrt) : Prop := PA X es (tAK pl G w As)
theorem dk_nil : DAK X pl G [] (fun P => P ()) (fun _ => []) := PA.wk pa_nil fun s H Q ⟨F, fp, at_, P, w, K⟩ => K () [] F H fp w rfl at_ .refl .nil fun _ h => nomatch h
theorem dk_cons {δ : Type} {e : Expr} {es : List Expr} {B' : δ → Asrt} {w : W δ} {w' : W κ} {As : κ → List Asrt} (hB : ∀ a, Good (B' a)) (h : DX X pl G e B' w) (hr : DAK X pl G es w' As) (hs : starEach (e :: es) X.env = (false, eval e X.env) :: starEach es X.env := by rfl) :
    DAK X pl G (e :: es) (fun P => w fun a => w' fun k => P (a, k)) (fun p : δ × κ => B' p.1 :: As p.2) := PA.wk (pa_cons h hr hs) fun s H Q ⟨F, fp, at_, P, w, K⟩ =>
  ⟨F, fp, at_, _, w, fun a v F1 H1 fp1 S1 w1 a1 g1 b1 hS => ⟨F1, fp1, a1, _, w1, fun k l F2 H2 fp2 p el a2 g2 ok fr => by
    obtain ⟨b2, o2⟩ := g2.float (hB a) b1 fun q m => (hS q m).2
    refine K (a, k) (⟨v, B' a, S1⟩ :: l) F2 H2 fp2 p (by rw [List.map_cons, el]) a2 (g1.trans g2) ⟨fun f hf => ?_, fun f hf => ?_, .cons (fun f hf q m z => ?_) ok.dis⟩ fun f hf q m => ?_
    · rcases List.mem_cons.mp hf with e | hf
      · rw [e]; exact ⟨hB a, b2⟩
      · exact ok.good f hf
    · rcases List.mem_cons.mp hf with e | hf
      · rw [e]; exact o2
      · exact ok.off f hf
    · exact ((hB a).own b1 q m).2 (fr f hf q z)
    · rcases List.mem_cons.mp hf with e | hf
      · rw [e] at m; exact (hS q m).1
      · exact g1.back (fr f hf q m)⟩⟩
def setAll (G : Env) : List Nat → List Asrt → Env
  | i :: is, A :: As => setAll (G.set i (some A)) is As
  | _, _ => G
/-- all of them stored -/
theorem At.setAll : ∀ {is : List Nat} {l : List Fl} {G : Env} {s : St} {fp : Foot}, At pl G F H s fp → FlOk pl F H fp l → (∀ i, i ∈ is → i < G.length) → is.length = l.length →
    ∃ s' fp', s' = (is.zip l).foldl (fun s p => s.set p.1 (some p.2.v)) s ∧ At pl (Dm.setAll G is (l.map Fl.A)) F H s' fp' ∧ ∀ j q, fp' j q → (∃ j, fp j q) ∨ ∃ f, f ∈ l ∧ f.S q
  | [], [], G, s, fp, a, _, _, _ => ⟨s, fp, rfl, a, fun j q m => .inl ⟨j, m⟩⟩
  | [], _ :: _, _, _, _, _, _, _, e => by cases e
  | _ :: _, [], _, _, _, _, _, _, e => by cases e
  | i :: is, f :: l, G, s, fp, a, ok, hi, e => by
    have a1 := a.set (hi i List.mem_cons_self) (ok.good f List.mem_cons_self).1 (ok.good f List.mem_cons_self).2 (ok.off f List.mem_cons_self)
    have dd := List.pairwise_cons.mp ok.dis
    have ok1 : FlOk pl F H (fun j q => if j = i then f.S q else fp j q) l := ⟨fun g hg => ok.good g (List.mem_cons_of_mem _ hg), fun g hg q m => ⟨fun j z => by
      by_cases hj : j = i
      · rw [if_pos hj] at z; exact dd.1 g hg q z m
      · rw [if_neg hj] at z; exact (ok.off g (List.mem_cons_of_mem _ hg) q m).1 j z, (ok.off g (List.mem_cons_of_mem _ hg) q m).2⟩, dd.2⟩
    obtain ⟨s', fp', es, a2, l2⟩ := At.setAll a1 ok1 (fun j hj => by rw [List.length_set]; exact hi j (List.mem_cons_of_mem _ hj)) (by simpa using e)
    refine ⟨s', fp', es, a2, fun j q m => ?_⟩
    rcases l2 j q m with ⟨j', z⟩ | ⟨g, hg, z⟩
    · by_cases hj : j' = i
      · rw [if_pos hj] at z; exact .inr ⟨f, List.mem_cons_self, z⟩
      · rw [if_neg hj] at z; exact .inl ⟨j', z⟩
    · exact .inr ⟨g, List.mem_cons_of_mem _ hg, z⟩
def gNs : List Nat → TGs
  | [] => gNil
  | i :: is => gCons (gName i) (gNs is)
theorem gNs_go : ∀ (is : List Nat) (l : List Fl) (s : St) (H : Hp) (Q : St → Hp → Prop), is.length = l.length → Q ((is.zip l).foldl (fun s p => s.set p.1 (some p.2.v)) s) H → gNs is (l.map Fl.v) s H Q
  | [], [], _, _, _, _, q => ⟨rfl, q⟩
  | [], _ :: _, _, _, _, e, _ => by cases e
  | _ :: _, [], _, _, _, e, _ => by cases e
  | i :: is, f :: l, s, H, Q, e, q => ⟨f.v, l.map Fl.v, rfl, gNs_go is l _ H Q (by simpa using e) q⟩
theorem FlOk.frame {l : List Fl} (ok : FlOk pl F H fp l) (n : New F H F' H') (a : At pl G F H s fp) : FlOk pl F' H' fp l := ⟨fun f hf => ⟨(ok.good f hf).1, (ok.good f hf).1.frame (ok.good f hf).2 n.exF fun q m => by
    have o := (ok.good f hf).1.own (ok.good f hf).2 q m
    exact ⟨n.keepN o.2 o.1, n.same o.2⟩⟩, ok.off, ok.dis⟩
/-- a, b, .. = x, y, .. -/
theorem asgN_go {As : κ → List Asrt} {is : List Nat} (hlt : is.all (fun i => Nat.blt i G.length) = true) (hlen : ∀ k, (As k).length = is.length) {k : κ} {l : List Fl} (el : l.map Fl.A = As k) (a : At pl G F H s fp) (ok : FlOk pl F H fp l) {Q : St → Hp → Prop}
    (K : ∀ s' fp', At pl (setAll G is (As k)) F H s' fp' → (∀ j q, fp' j q → (∃ j, fp j q) ∨ ∃ f, f ∈ l ∧ f.S q) → Q s' H) : Q ((is.zip l).foldl (fun s p => s.set p.1 (some p.2.v)) s) H := by
  have e : is.length = l.length := by
    have h1 := hlen k
    rw [← el, List.length_map] at h1
    exact h1.symm
  obtain ⟨s', fp', es, a2, l2⟩ := At.setAll (is := is) a ok (fun i hi => blt_lt (List.all_eq_true.mp hlt i hi)) e
  rw [el] at a2
  rw [← es]
  exact K s' fp' a2 l2
theorem ds_asgT {tgts es : List Expr} {kt kv : Nat} {pt pv pos : Pos} {w : W κ} {As : κ → List Asrt} {is : List Nat} {n : Nat} (hc : X.calm = true) (hal : DAK X pl G es w As) (hg : PGs X tgts (gNs is)) (hln : is.length = n := by rfl) (hsz : n ≤ 100000 := by decide) (hlt : is.all (fun i => Nat.blt i G.length) = true := by rfl) (hlen : ∀ k, (As k).length = is.length := by intro _; rfl)
    (hn : (assignEach tgts X.env).length = n := by rfl) (hst : (assignEach tgts X.env).findIdx? (·.1) = none := by rfl) (hs1 : swapsWithSole [.Tuple tgts kt pt] (.Tuple es kv pv) pos.line X.env = pure false := by rfl) (hs2 : swappedStores [.Tuple tgts kt pt] (.Tuple es kv pv) X.env = pure none := by rfl) :
    DS X pl G B (.Assign [.Tuple tgts kt pt] (.Tuple es kv pv) pos) (fun nx _ => w nx) (fun k => setAll G is (As k)) := PS.wk (ps_asg (pe_tup hal) (pg_tup hc hg hn hst) hs1 hs2) fun D s H ⟨F, fp, at_, Pn, Pr, w, K1, K2⟩ => by
  refine ⟨F, fp, at_, Pn, w, fun k l F1 H1 fp1 p el a1 g1 ok fr => ?_⟩
  have eln : l.length = n := by
    have h1 := hlen k
    rw [← el, List.length_map] at h1
    exact h1.trans hln
  refine ⟨by rw [List.length_map, eln]; exact lineOf hsz, fun q hq => ⟨q, l.map Fl.v, rfl, SqT.of upd_same, by rw [List.length_map, eln], gNs_go is l s _ _ (hln.trans eln.symm) ?_⟩⟩
  have nw : New F1 H1 F1 (upd H1 q (.tup (l.map Fl.v))) := New.own a1.ex hq
  refine asgN_go hlt hlen el (a1.new nw) (ok.frame nw a1) fun s' fp' a2 l2 => K1 k s' F1 _ fp' p a2 ((g1.trans (.new nw)).own fun j x m => ?_)
  rcases l2 j x m with z | ⟨f, hf, z⟩
  · exact .inl z
  · exact .inr (fr f hf x z)
theorem ds_par {i j : Nat} {x y : Str} {a b : Expr} {px py pt : Pos} {kt k2 pt2 pos} {w : W κ} {As : κ → List Asrt} (hc : X.calm = true) (hN : X.N.Nodup) (hal : DAK X pl G [a, b] w As) (hi : X.N[i]? = some x := by rfl) (hj : X.N[j]? = some y := by rfl) (hij : i ≠ j := by decide)
    (hx : X.env.scope.names.lookup x = some .local := by rfl) (hy : X.env.scope.names.lookup y = some .local := by rfl) (hlt : [i, j].all (fun i => Nat.blt i G.length) = true := by rfl) (hlen : ∀ k, (As k).length = [i, j].length := by intro _; rfl)
    (hw : swappedStores [.Tuple [.Name x px, .Name y py] kt pt] (.Tuple [a, b] k2 pt2) X.env = pure (some [x, y]) := by rfl)
    (hs : swapsWithSole [.Tuple [.Name x px, .Name y py] kt pt] (.Tuple [a, b] k2 pt2) pos.line X.env = pure false := by rfl) :
    DS X pl G B (.Assign [.Tuple [.Name x px, .Name y py] kt pt] (.Tuple [a, b] k2 pt2) pos) (fun nx _ => w nx) (fun k => setAll G [i, j] (As k)) := PS.wk (ps_par hc hN hi hj hij hx hy hal hw hs) fun D s H ⟨F, fp, at_, Pn, Pr, w, K1, K2⟩ => by
  refine ⟨F, fp, at_, Pn, w, fun k l F1 H1 fp1 p el a1 g1 ok fr => ?_⟩
  obtain ⟨f, g, rfl⟩ : ∃ f g, l = [f, g] := by
    have h1 := hlen k
    rw [← el, List.length_map] at h1
    match l, h1 with
    | [f, g], _ => exact ⟨f, g, rfl⟩
  refine ⟨f.v, g.v, rfl, asgN_go (is := [i, j]) (l := [f, g]) hlt hlen el a1 ok fun s' fp' a2 l2 => K1 k s' F1 _ fp' p a2 (g1.own fun j x m => ?_)⟩
  rcases l2 j x m with z | ⟨f, hf, z⟩
  · exact .inl z
  · exact .inr (fr f hf x z)
theorem ds_par3 {i j m : Nat} {x y z : Str} {a b c : Expr} {px py pz pt : Pos} {kt k2 pt2 pos} {w : W κ} {As : κ → List Asrt} (hc : X.calm = true) (hN : X.N.Nodup) (hal : DAK X pl G [a, b, c] w As) (hi : X.N[i]? = some x := by rfl) (hj : X.N[j]? = some y := by rfl) (hm : X.N[m]? = some z := by rfl) (hij : i ≠ j := by decide) (him : i ≠ m := by decide) (hjm : j ≠ m := by decide)
    (hx : X.env.scope.names.lookup x = some .local := by rfl) (hy : X.env.scope.names.lookup y = some .local := by rfl) (hz : X.env.scope.names.lookup z = some .local := by rfl) (hlt : [i, j, m].all (fun i => Nat.blt i G.length) = true := by rfl) (hlen : ∀ k, (As k).length = [i, j, m].length := by intro _; rfl)
    (hw : swappedStores [.Tuple [.Name x px, .Name y py, .Name z pz] kt pt] (.Tuple [a, b, c] k2 pt2) X.env = pure (some [x, y, z]) := by rfl)
    (hs : swapsWithSole [.Tuple [.Name x px, .Name y py, .Name z pz] kt pt] (.Tuple [a, b, c] k2 pt2) pos.line X.env = pure false := by rfl) :
    DS X pl G B (.Assign [.Tuple [.Name x px, .Name y py, .Name z pz] kt pt] (.Tuple [a, b, c] k2 pt2) pos) (fun nx _ => w nx) (fun k => setAll G [i, j, m] (As k)) := PS.wk (ps_par3 hc hN hi hj hm hij him hjm hx hy hz hal hw hs) fun D s H ⟨F, fp, at_, Pn, Pr, w, K1, K2⟩ => by
  refine ⟨F, fp, at_, Pn, w, fun k l F1 H1 fp1 p el a1 g1 ok fr => ?_⟩
  obtain ⟨f, g, h, rfl⟩ : ∃ f g h, l = [f, g, h] := by
    have h1 := hlen k
    rw [← el, List.length_map] at h1
    match l, h1 with
    | [f, g, h], _ => exact ⟨f, g, h, rfl⟩
  refine ⟨f.v, g.v, h.v, rfl, asgN_go (is := [i, j, m]) (l := [f, g, h]) hlt hlen el a1 ok fun s' fp' a2 l2 => K1 k s' F1 _ fp' p a2 (g1.own fun j x m => ?_)⟩
  rcases l2 j x m with z | ⟨f, hf, z⟩
  · exact .inl z
  · exact .inr (fr f hf x z)
/-- a, b = e, e a pair -/
theorem ds_unp {tgts : List Expr} {e : Expr} {kt : Nat} {pt pos : Pos} {δ : Type} [Enc δ] {w : W δ} {is : List Nat} {n : Nat} {As : δ → List Asrt} (hc : X.calm = true) (h : DE X pl G e w) (hg : PGs X tgts (gNs is)) (hd : ∀ F H (a : δ) v, Ex F H → Has F v (enc a) → ∃ q vs, v = .ref q ∧ TupAt F q vs ∧ vs.length = n ∧ ∃ l : List Fl, l.map Fl.v = vs ∧ l.map Fl.A = As a ∧ ∀ f, f ∈ l → Good f.A ∧ f.A F H f.v f.S ∧ ∀ q, ¬ f.S q)
    (hln : is.length = n := by rfl) (hlt : is.all (fun i => Nat.blt i G.length) = true := by rfl) (hlen : ∀ k, (As k).length = is.length := by intro _; rfl)
    (hn : (assignEach tgts X.env).length = n := by rfl) (hst : (assignEach tgts X.env).findIdx? (·.1) = none := by rfl) (hs1 : swapsWithSole [.Tuple tgts kt pt] e pos.line X.env = pure false := by rfl) (hs2 : swappedStores [.Tuple tgts kt pt] e X.env = pure none := by rfl) :
    DS X pl G B (.Assign [.Tuple tgts kt pt] e pos) (fun nx _ => w nx) (fun k => setAll G is (As k)) := PS.wk (ps_asg h (pg_tup hc hg hn hst) hs1 hs2) fun D s H ⟨F, fp, at_, Pn, Pr, w, K1, K2⟩ => by
  refine ⟨F, fp, at_, Pn, w, fun a v F1 H1 fp1 S1 p a1 g1 b1 _ => ?_⟩
  obtain ⟨q, vs, rfl, hq, hl, l, hv, hA, ok⟩ := hd F1 H1 a v a1.ex b1.2
  have e2 : is.length = l.length := by rw [← hv, List.length_map] at hl; rw [hln, hl]
  refine ⟨q, vs, rfl, TupAt.sq (TupAt.mono a1.ex hq), hl, ?_⟩
  rw [← hv]
  refine gNs_go is l s _ _ e2 ?_
  have okk : FlOk pl F1 H1 fp1 l := ⟨fun f hf => ⟨(ok f hf).1, (ok f hf).2.1⟩, fun f hf q m => ((ok f hf).2.2 q m).elim, by
    refine List.Pairwise.imp_of_mem (R := fun _ _ => True) (fun {f g} hf _ _ q m => ((ok f hf).2.2 q m).elim) ?_
    exact List.pairwise_of_forall fun _ _ => trivial⟩
  refine asgN_go hlt hlen hA a1 okk fun s' fp' a2 l2 => K1 a s' F1 _ fp' p a2 (g1.own fun j x m => ?_)
  rcases l2 j x m with z | ⟨f, hf, z⟩
  · exact .inl z
  · exact ((ok f hf).2.2 x z).elim
theorem unp2 (F H : Hp) (a : P2 α β) (v : V) (_ : Ex F H) (h : Has F v (enc a)) : ∃ q vs, v = .ref q ∧ TupAt F q vs ∧ vs.length = 2 ∧ ∃ l : List Fl, l.map Fl.v = vs ∧ l.map Fl.A = [fro a.a, fro a.b] ∧ ∀ f, f ∈ l → Good f.A ∧ f.A F H f.v f.S ∧ ∀ q, ¬ f.S q := by
  cases h with
  | tup h1 h2 => cases h2 with
    | cons x y => cases y with
      | cons y z => cases z with
        | nil =>
          refine ⟨_, _, rfl, h1, rfl, [⟨_, fro a.a, fun _ => False⟩, ⟨_, fro a.b, fun _ => False⟩], rfl, rfl, fun f hf => ?_⟩
          rcases List.mem_cons.mp hf with e | hf
          · rw [e]; exact ⟨good_fro _, ⟨fun _ h => h, x⟩, fun _ h => h⟩
          · have e : f = _ := List.mem_singleton.mp hf
            rw [e]; exact ⟨good_fro _, ⟨fun _ h => h, y⟩, fun _ h => h⟩
end
end Dm

set_option Elab.async false
set_option linter.all false
set_option maxRecDepth 100000
set_option maxHeartbeats 2000000
/-! Dm: part G: defs and their calls, where no text is being made. -/
namespace Dm
open PySem PySem.Spec PyProof.Rows L2
variable [TabC]

/-- a def's promise, called where nothing is being shown -/
structure FnG (P : Program) (w : World) (K : Fr) (mg : Str → Option Value) (base : Heap) (CX : CXT) (k : Nat) (f : Addr) (fd : FuncData) (ps : List Str) (sp : Sp) : Prop where
  len : ∀ vs H Q E, sp vs H Q E → vs.length = ps.length
  go : ∀ (A : Around) (outer : List PySem.Env) (s : Shared) (H : Hp) (args : Args) (us : List Value) (vs : List V) (Q : VK) (E : XK), Room k A → A.guards = some [] → Env0 P w K mg base A outer s H → BindsTo s fd args (ps.zip us) → Vals vs us → sp vs H Q E → codeAny (model P w) A (.call (.ref f) args) (CR CX outer P w H s Q E) s
section
variable {P : Program} {w : World} {K : Fr} {mg : Str → Option Value} {base : Heap} {CX : CXT}
theorem FnG.of {k : Nat} {f : Addr} {fd : FuncData} {ps : List Str} {sp : Sp} (h : FnOk P w K mg base CX k f fd ps sp) : FnG P w K mg base CX k f fd ps sp := ⟨h.len, fun A outer s H args us vs Q E hr _ => h.run A outer s H args us vs Q E hr⟩
theorem FnG.mono {j k : Nat} {f : Addr} {fd : FuncData} {ps : List Str} {sp : Sp} (h : FnG P w K mg base CX j f fd ps sp) (hk : j ≤ k) : FnG P w K mg base CX k f fd ps sp := ⟨h.len, fun A outer s H args us vs Q E hr => h.go A outer s H args us vs Q E (hr.mono hk)⟩
theorem FnG.body {k : Nat} {x qual : Str} {st : Stmt} {f : Addr} {fd : FuncData} {N ps : List Str} {sp : Sp} (Fn : Fun K x qual st f fd) (S : FnScope N ps (defScope st)) (len : ∀ vs H Q E, sp vs H Q E → vs.length = ps.length)
    (hb : ∀ (cdv : Value) (A : Around) (outer : List PySem.Env) (s : Shared) (H : Hp) (vs : List V) (Q : VK) (E : XK), Room k (A.deeper (envOfC qual (defScope st) s.heap.objs.size f cdv)) → A.guards = some [] → sp vs H Q E →
      ∃ t, PSs (cxOf CX P w K mg base N qual (defScope st) f cdv A outer s H E) (defBody st) t ∧ t { nx := fun _ H' => Q .non H', rt := Q } (L2.start N vs) H) : FnG P w K mg base CX (k + 1) f fd ps sp := by
  obtain ⟨oc, od, kV, doc, pm, an, cdv, ct, osl, rfl, lk, hcd⟩ := Fn.ex
  refine ⟨len, fun A outer s H args us vs Q E hr hg e0 bd rv hsp => ?_⟩
  have ll := len vs H Q E hsp
  have inK : K.In s.heap := e0.mod.kin.keeps fun b o e => (e0.bs b o e).1
  have nl : s.heap.NoLimit := e0.mod.nolimit.keeps fun b o e => (e0.bs b o e).1
  refine codeAny_call_function hr.depth (inK _ _ lk) rfl S.co S.gen rfl (PySem.W.codeRec_of inK hcd) (bd _ _ _ _ ?_)
  refine wpAny_newFunctionEnv_cells S.kind ?_ fun env he s1 x => ?_
  · intro y hy
    have par := S.par y.1 (List.of_mem_zip (a := y.1) (b := y.2) hy).1
    exact par.elim .inl fun q => .inr ⟨q, PySem.W.cellsFrom_some _ _ _ (.inl q)⟩
  subst he
  refine ⟨nl.keeps x.toInCall.keep, codeAny_func ?_⟩
  obtain ⟨t, ht, hq⟩ := hb cdv A outer s H vs Q E (hr.deeper _) hg hsp
  have I0 := inv_start (CX := CX) (P := P) (w := w) (K := K) (mg := mg) (base := base) (E := E) S hr.hd e0 ll rv x
  refine wpAny_mono (ht.run [] s1 _ H _ I0 hq) (fun fl s' hs => ?_) fun e s' he => he
  cases fl with
  | brk => obtain ⟨_, _, _, z⟩ := hs; exact z.elim
  | cont => obtain ⟨_, _, _, z⟩ := hs; exact z.elim
  | next =>
    obtain ⟨σ', H', J, q⟩ := hs
    exact ⟨V.non, H', J.os, J.bare, J.base, J.hok, rfl, q⟩
  | ret u =>
    obtain ⟨v, σ', H', J, rv, q⟩ := hs
    exact ⟨v, H', J.os, J.bare, J.base, J.hok, rv, q⟩
end
/-- how keywords alone bind: g puts their values in the parameters' order -/
structure KwB (fd : FuncData) (ps ks : List Str) (g : {α : Type} → List α → List α) : Prop where
  to : ∀ us : List Value, us.length = ks.length → bindArgs fd ⟨[], ks.zip us⟩ = pure (ps.zip (g us))
  rel : ∀ {vs : List V} {us : List Value}, Vals vs us → vs.length = ks.length → Vals (g vs) (g us)
section
variable {X : Cx} {CX : CXT} {k : Nat} {f : Addr} {fd : FuncData} {ps ks : List Str} {sp : Sp} {E : XK} {x : Str} {p pos : Pos} {e : Expr} {es : List Expr} {kws : List Keyword} {t tk : TA}
theorem call_g {pins : List (Addr × Obj)} {s : L2.St} {H : Hp} {sh : Shared} {Q : VK} {args : Args} {us : List Value} {vs : List V} (G : FnG X.prog X.w X.K X.mg X.base CX k f fd ps sp) (hr : Room k X.A) (hgu : X.A.guards = some []) (hx : Passes CX X E) (I : Inv X pins s H sh) (rv : Vals vs us) (bd : BindsTo sh fd args (ps.zip us)) (h : sp vs H Q E) :
    wpAny (model X.prog X.w) X.A (call (.ref f) args.pos args.kw) (EP X pins s Q) X.xe sh := by
  refine wpAny_call (codeAny_mono (G.go X.A X.stack sh H args us vs Q E hr hgu I.env0 bd rv h) fun r s' hq => ?_)
  match r, hq with
  | .error e, hq => exact hx pins s H sh e s' I hq
  | .ok (.ret u), hq => exact I.after hq
theorem pe_g (G : FnG X.prog X.w X.K X.mg X.base CX k f fd ps sp) (hr : Room k X.A) (hgu : X.A.guards = some []) (hm : X.mg x = some (.ref f)) (hk : PySem.W.keepIn X.K (.ref f) = true) (hb : Binds X.K fd ps []) (hx : Passes CX X E) (ha : PA X (e :: es) t) (hg : Gl X x := by rfl)
    (hdb : (x == ("__debug__" : Str)) = false := by decide) (he : starEach (e :: es) X.env = (false, eval e X.env) :: starEach es X.env := by rfl) (hpl : (backTo pos (starEach es X.env)).any (·.1) = false := by rfl) : PE X (.Call (.Name x p) (e :: es) [] pos) (fun s H Q => t s H fun vs H1 => sp vs H1 Q E) := by
  refine ⟨fun pins sh s H Q I h => wpAny_Call_Name_kw (ld_glob I hg hm ?_ hdb)⟩
  refine PySem.W.callWith_K (h₀ := X.base) I.ok.mod.kin hk (thn (ha.run pos pins sh s H _ I h) fun us s1 ⟨vs, H1, I1, r1, q1⟩ => ⟨I1.kIn, ?_⟩) he hpl
  have ln := G.len _ _ _ _ q1
  have b := hb s1 us I1.kIn (by rw [List.append_nil, ← r1.length]; exact ln)
  rw [List.append_nil] at b
  exact call_g (args := ⟨us, []⟩) G hr hgu hx I1 r1 b q1
theorem pe_g0 (G : FnG X.prog X.w X.K X.mg X.base CX k f fd ps sp) (hr : Room k X.A) (hgu : X.A.guards = some []) (hm : X.mg x = some (.ref f)) (hk : PySem.W.keepIn X.K (.ref f) = true) (hb : Binds X.K fd ps []) (hx : Passes CX X E) (hg : Gl X x := by rfl)
    (hdb : (x == ("__debug__" : Str)) = false := by decide) : PE X (.Call (.Name x p) [] [] pos) (fun s H Q => sp [] H Q E) := by
  refine ⟨fun pins sh s H Q I h => wpAny_Call_Name_kw (ld_glob I hg hm ?_ hdb)⟩
  have ln := G.len _ _ _ _ h
  have b := hb sh [] I.kIn (by rw [List.append_nil]; exact ln)
  exact PySem.W.callWith_K0 I.kIn hk (call_g (args := ⟨[], []⟩) G hr hgu hx I .nil b h)
theorem pe_gK {g : {α : Type} → List α → List α} (G : FnG X.prog X.w X.K X.mg X.base CX k f fd ps sp) (hr : Room k X.A) (hgu : X.A.guards = some []) (hm : X.mg x = some (.ref f)) (hk : PySem.W.keepIn X.K (.ref f) = true) (hb : KwB fd ps ks g) (hx : Passes CX X E) (hkw : PK X kws tk) (hg : Gl X x := by rfl)
    (hall : (backToKw pos (keywordEach kws X.env)).all (·.1.isSome) = true := by rfl) (hks : (backToKw pos (keywordEach kws X.env)).filterMap (·.1) = ks := by rfl) (hdb : (x == ("__debug__" : Str)) = false := by decide)
    (hpl : ((backTo pos (starEach [] X.env)).any (·.1) || (backToKw pos (keywordEach kws X.env)).any (·.1.isNone)) = false := by rfl) : PE X (.Call (.Name x p) [] kws pos) (fun s H Q => tk s H fun vs H1 => vs.length = ks.length ∧ sp (g vs) H1 Q E) := by
  refine ⟨fun pins sh s H Q I h => wpAny_Call_Name_kw (ld_glob I hg hm ?_ hdb)⟩
  refine PySem.W.callWith_KW0 (h₀ := X.base) I.ok.mod.kin hk hall (thn (hkw.run pos pins sh s H _ I h) fun us s1 ⟨vs, H1, I1, r1, q1, q2⟩ => ⟨I1.kIn, ?_⟩) hpl
  rw [hks]
  exact call_g (args := ⟨[], ks.zip us⟩) G hr hgu hx I1 (hb.rel r1 q1) (.of_eq (hb.to us (by rw [← r1.length]; exact q1))) q2
end

/-! ### promises over data -/
def noF : Foot := fun _ _ => False
structure ExT (F H : Hp) : Prop where
  ex : Ex F H
  tab : TabOk F H
theorem At.exT {pl : Pl} {G : Env} {F H : Hp} {s : L2.St} {fp : Foot} (a : At pl G F H s fp) : ExT F H := ⟨a.ex, a.pool.tab⟩
def Prom {ρ : Type} (pl : Pl) (B : ρ → Asrt) (w : W ρ) (F H : Hp) (Q : VK) : Prop := ∃ P : ρ → Prop, w P ∧ ∀ r v F' H' S, P r → Ex F' H' → PoolOk pl F' H' → Go pl F H noF F' H' noF → B r F' H' v S → (∀ q, S q → H q = none) → Q v H'
def spF {ρ : Type} (M : List D → W ρ → Prop) (B : ρ → Asrt) : Sp := fun vs H Q _ => ∃ F ds w, ExT F H ∧ HasAll F vs ds ∧ M ds w ∧ Prom none B w F H Q
def spP {ρ : Type} (M : List D → W ρ → Prop) (B : ρ → Asrt) : Sp := fun vs H Q _ => ∃ p f vs' F ds w, vs = .ref p :: vs' ∧ Ex F H ∧ PoolOk (some (p, f)) F H ∧ HasAll F vs' ds ∧ M ds w ∧ Prom (some (p, f)) B w F H Q
/-- all that stands at a def's beginning -/
def G0 (As : List Asrt) (n : Nat) : Env := As.map some ++ List.replicate (n - As.length) none
structure Args0 (F : Hp) (vs : List V) (As : List Asrt) : Prop where
  len : vs.length = As.length
  at_ : ∀ (i : Nat) (A : Asrt), As[i]? = some A → Good A ∧ ∃ v, vs[i]? = some v ∧ ∀ H, A F H v (fun _ => False)
theorem Args0.nil {F : Hp} : Args0 F [] [] := ⟨rfl, fun i A e => by simp at e⟩
theorem Args0.cons {F : Hp} {v : V} {vs : List V} {A : Asrt} {As : List Asrt} (g : Good A) (h : ∀ H, A F H v (fun _ => False)) (r : Args0 F vs As) : Args0 F (v :: vs) (A :: As) := ⟨by rw [List.length_cons, List.length_cons, r.len], fun i B e => by
  cases i with
  | zero =>
    have e' : A = B := by simpa using e
    rw [← e']; exact ⟨g, v, rfl, h⟩
  | succ i => exact r.at_ i B (by simpa using e)⟩
theorem Args0.fro {F : Hp} : ∀ {ds : List D} {vs : List V}, HasAll F vs ds → Args0 F vs (ds.map fun d => Dm.fro d)
  | [], _, h => by cases h; exact .nil
  | d :: ds, _, h => by
    cases h with
    | cons a b => exact .cons (good_fro _) (fun _ => ⟨fun _ h => h, a⟩) (Args0.fro b)
theorem at_start {pl : Pl} {F H : Hp} {vs : List V} {As : List Asrt} {N : List Str} (a : Args0 F vs As) (e : Ex F H) (po : PoolOk pl F H) (hl : As.length ≤ N.length) : At pl (G0 As N.length) F H (L2.start N vs) noF where
  ex := e
  len := by
    unfold G0 L2.start
    rw [List.length_append, List.length_append, List.length_map, List.length_map, List.length_replicate, List.length_replicate, a.len]
  sl := fun i A h => by
    unfold G0 at h
    by_cases hi : i < As.length
    · rw [List.getElem?_append_left (by rw [List.length_map]; exact hi), List.getElem?_map] at h
      obtain ⟨B, hB⟩ : ∃ B, As[i]? = some B := ⟨As[i], List.getElem?_eq_getElem hi⟩
      rw [hB] at h
      cases h
      obtain ⟨g, v, hv, hA⟩ := a.at_ i A hB
      refine ⟨g, v, ?_, hA H⟩
      unfold L2.start
      rw [List.getElem?_append_left (by rw [List.length_map, a.len]; exact hi), List.getElem?_map, hv]; rfl
    · rw [List.getElem?_append_right (by rw [List.length_map]; omega), List.getElem?_replicate] at h
      split at h <;> cases h
  dis := fun i j q m _ => m.elim
  out := fun i q m => m.elim
  pool := po
  pdis := fun i q m => m.elim
end Dm

set_option Elab.async false
set_option linter.all false
set_option maxRecDepth 100000
set_option maxHeartbeats 2000000
/-! Dm: part H: calls of defs and of built-in functions. -/
namespace Dm
open PySem PySem.Spec PyProof.Rows L2
variable [TabC]

/-- a def of the text, where it stands, and its promise -/
structure Def (P : Program) (w : World) (K : Fr) (mg : Str → Option Value) (base : Heap) (CX : CXT) (k : Nat) (x : Str) (st : Stmt) (ps : List Str) (sp : Sp) : Prop where
  ex : ∃ (f : Addr) (fd : FuncData) (qual : Str), Fun K x qual st f fd ∧ FnG P w K mg base CX k f fd ps sp ∧ mg x = some (.ref f) ∧ Binds K fd ps []
abbrev DefX (X : Cx) (CX : CXT) (k : Nat) (x : Str) (st : Stmt) (ps : List Str) (sp : Sp) : Prop := Def X.prog X.w X.K X.mg X.base CX k x st ps sp
/-- the built-in names that no module's name hides -/
structure Blt (mg : Str → Option Value) : Prop where
  len : mg "len" = none
  list : mg "list" = none
  tuple : mg "tuple" = none
  range : mg "range" = none
  repr : mg "repr" = none
  all : mg "all" = none
  any : mg "any" = none
  sum : mg "sum" = none
  int : mg "int" = none
  str : mg "str" = none
  min : mg "min" = none
  max : mg "max" = none
  sorted : mg "sorted" = none
  set : mg "set" = none
  enumerate : mg "enumerate" = none
  isinstance : mg "isinstance" = none
  bool : mg "bool" = none
  dict : mg "dict" = none
  zip : mg "zip" = none
  abs : mg "abs" = none

section
variable {X : Cx} {pl : Pl} {G : Env} {α β γ ρ κ : Type} [Enc α] [Enc β] [Enc γ] {CX : CXT} {k : Nat} {f x : Str} {st : Stmt} {ps : List Str} {B : ρ → Asrt}
/-! ### arguments -/
def tAQ (pl : Pl) (G : Env) (w : W κ) (ds : κ → List D) : TA := fun s H Q => ∃ F fp, At pl G F H s fp ∧ ∃ P : κ → Prop, w P ∧ ∀ k vs F' H' fp', P k → At pl G F' H' s fp' → Go pl F H fp F' H' fp' → HasAll F' vs (ds k) → Q vs H'
abbrev AQ (X : Cx) (pl : Pl) (G : Env) (es : List Expr) (w : W κ) (ds : κ → List D) : Prop := PA X es (tAQ pl G w ds)
theorem aq_nil : AQ X pl G [] (fun P => P ()) (fun _ => []) := PA.wk pa_nil fun s H Q ⟨F, fp, at_, P, w, K⟩ => K () [] F H fp w at_ .refl .nil
theorem aq_cons {e : Expr} {es : List Expr} {w : W α} {w' : W κ} {ds : κ → List D} (h : DE X pl G e w) (hr : AQ X pl G es w' ds) (hs : starEach (e :: es) X.env = (false, eval e X.env) :: starEach es X.env := by rfl) : AQ X pl G (e :: es) (fun P => w fun a => w' fun k => P (a, k)) (fun p : α × κ => enc p.1 :: ds p.2) :=
  PA.wk (pa_cons h hr hs) fun s H Q ⟨F, fp, at_, P, w, K⟩ => ⟨F, fp, at_, _, w, fun a v F1 H1 fp1 S1 w1 a1 g1 b1 _ => ⟨F1, fp1, a1, _, w1, fun k vs F2 H2 fp2 w2 a2 g2 b2 => K (a, k) (v :: vs) F2 H2 fp2 w2 a2 (g1.trans g2) (.cons (b1.2.mono g2.exF) b2)⟩⟩
def tKQ (pl : Pl) (G : Env) (w : W κ) (ds : κ → List D) : TA := tAQ pl G w ds
abbrev KQ (X : Cx) (pl : Pl) (G : Env) (es : List Keyword) (w : W κ) (ds : κ → List D) : Prop := PK X es (tAQ pl G w ds)
theorem PK.wk {X : Cx} {e : List Keyword} {t t' : TA} (h : PK X e t) (k : ∀ s H Q, t' s H Q → t s H Q) : PK X e t' := ⟨fun pos pins s σ H Q I w => h.run pos pins s σ H Q I (k σ H Q w)⟩
theorem kq_nil : KQ X pl G [] (fun P => P ()) (fun _ => []) := PK.wk pk_nil fun s H Q ⟨F, fp, at_, P, w, K⟩ => K () [] F H fp w at_ .refl .nil
theorem kq_cons {e : Expr} {nm : Option Str} {kpos : Pos} {es : List Keyword} {w : W α} {w' : W κ} {ds : κ → List D} (h : DE X pl G e w) (hr : KQ X pl G es w' ds) : KQ X pl G (⟨nm, e, kpos⟩ :: es) (fun P => w fun a => w' fun k => P (a, k)) (fun p : α × κ => enc p.1 :: ds p.2) :=
  PK.wk (pk_cons h hr) fun s H Q ⟨F, fp, at_, P, w, K⟩ => ⟨F, fp, at_, _, w, fun a v F1 H1 fp1 S1 w1 a1 g1 b1 _ => ⟨F1, fp1, a1, _, w1, fun k vs F2 H2 fp2 w2 a2 g2 b2 => K (a, k) (v :: vs) F2 H2 fp2 w2 a2 (g1.trans g2) (.cons (b1.2.mono g2.exF) b2)⟩⟩

/-! ### a def that draws nothing; a def that draws -/
theorem At.back {F H F' H' : Hp} {s : L2.St} {fp : Foot} {pl2 : Pl} (a : At pl G F H s fp) (hp : pl2 = none ∨ pl2 = pl) (e : Ex F' H') (po : PoolOk pl2 F' H') (g : Go pl2 F H noF F' H' noF) : At pl G F' H' s fp ∧ Go pl F H fp F' H' fp := by
  have np : ∀ i q, fp i q → ¬ isPool pl2 q := fun i q m z => by
    rcases hp with h | h
    · rw [h] at z
      rcases z with ⟨_, _, z, _⟩ | z
      · cases z
      · exact a.pdis i q m (.inr z)
    · rw [h] at z; exact a.pdis i q m z
  have there : ∀ i q, fp i q → H q ≠ none := fun i q m => by
    obtain ⟨A, e⟩ := a.out i q m
    obtain ⟨gd, v, _, hA⟩ := a.sl i A e
    exact (gd.own hA q m).2
  have po' : PoolOk pl F' H' := by
    rcases hp with h | h
    · refine ⟨fun p f ep => ?_, po.tab⟩
      have own := a.pool.at_ p f ep
      have nt : ∀ q, q = p ∨ q = f → ¬ isTab q := fun q hq z => by
        obtain ⟨_, ps, y⟩ := a.pool.tab.there z
        have z2 := own.seen hq
        rw [y] at z2
        exact z2 ps rfl
      refine own.frame g.exF fun q m => ?_
      have th := a.pool.there (q := q) (.inl ⟨p, f, ep, m⟩)
      have k := g.keep q th.2 (fun _ z => z) (by rw [h]; exact fun z => z.elim (fun ⟨_, _, z, _⟩ => by cases z) (nt q m))
      exact ⟨k.2 th.1, k.1⟩
    · rw [← h]; exact po
  refine ⟨⟨e, a.len, fun i A ea => ?_, a.dis, a.out, po', a.pdis⟩, ⟨g.exF, fun q h n p => g.keep q h (fun _ z => z) fun z => ?_, fun i q m => .inl ⟨i, m⟩, g.grow⟩⟩
  · obtain ⟨gd, v, hv, hA⟩ := a.sl i A ea
    exact ⟨gd, v, hv, gd.frame hA g.exF fun q m => ⟨(g.keep q (there i q m) (fun _ z => z) (np i q m)).2 (gd.own hA q m).1, (g.keep q (there i q m) (fun _ z => z) (np i q m)).1⟩⟩
  · rcases hp with h | h
    · rw [h] at z
      rcases z with ⟨_, _, z, _⟩ | z
      · cases z
      · exact p (.inr z)
    · rw [h] at z; exact p z
theorem prom_go {F0 H0 F H : Hp} {s : L2.St} {fp0 fp : Foot} {Q : VK} {P : ρ → Prop} {w : W ρ} {pl2 : Pl} (K : Wish pl G B s F0 H0 fp0 P Q) (a : At pl G F H s fp) (g0 : Go pl F0 H0 fp0 F H fp) (hp : pl2 = none ∨ pl2 = pl) (hw : w P) : Prom pl2 B w F H Q := ⟨P, hw, fun r v F' H' S p e po g b hS => by
  obtain ⟨a2, g2⟩ := a.back hp e po g
  exact K r v F' H' fp S p a2 (g0.trans g2) b fun q m => ⟨g0.back (hS q m), a.nofp (hS q m), a.nopl (hS q m)⟩⟩
theorem dx_callF {M : List D → W ρ → Prop} {m : κ → W ρ} {w : W κ} {ds : κ → List D} {e : Expr} {es : List Expr} {p pos : Pos} (d : DefX X CX k x st ps (spF M B)) (hr : Room k X.A) (hgu : X.A.guards = some []) (ha : AQ X pl G (e :: es) w ds) (hM : ∀ k, M (ds k) (m k)) (hx : Passes CX X E0 := by exact pass0) (hg : Gl X x := by rfl)
    (hdb : (x == ("__debug__" : Str)) = false := by decide) (he : starEach (e :: es) X.env = (false, eval e X.env) :: starEach es X.env := by rfl) (hpl : (backTo pos (starEach es X.env)).any (·.1) = false := by rfl) : DX X pl G (.Call (.Name x p) (e :: es) [] pos) B (fun P => w fun k => m k P) := by
  obtain ⟨f, fd, qual, Fn, FG, hm, hb⟩ := d.ex
  refine PE.wk (pe_g FG hr hgu hm Fn.kp hb hx ha hg hdb he hpl) fun s H Q ⟨F, fp, at_, P, w, K⟩ => ⟨F, fp, at_, _, w, fun k vs F1 H1 fp1 p a1 g1 b1 => ?_⟩
  exact ⟨F1, ds k, m k, a1.exT, b1, hM k, prom_go K a1 g1 (.inl rfl) p⟩
theorem dx_callF0 {M : List D → W ρ → Prop} {m : W ρ} {p pos : Pos} (d : DefX X CX k x st ps (spF M B)) (hr : Room k X.A) (hgu : X.A.guards = some []) (hM : M [] m) (hx : Passes CX X E0 := by exact pass0) (hg : Gl X x := by rfl)
    (hdb : (x == ("__debug__" : Str)) = false := by decide) : DX X pl G (.Call (.Name x p) [] [] pos) B m := by
  obtain ⟨f, fd, qual, Fn, FG, hm, hb⟩ := d.ex
  refine PE.wk (pe_g0 FG hr hgu hm Fn.kp hb hx hg hdb) fun s H Q ⟨F, fp, at_, P, w, K⟩ => ?_
  exact ⟨F, [], m, at_.exT, .nil, hM, prom_go K at_ .refl (.inl rfl) w⟩
/-- keywords alone -/
theorem Fun.kw {K : Fr} {qual : Str} {fa : Addr} {fd : FuncData} {ks : List Str} {g : {α : Type} → List α → List α} (Fn : Fun K x qual st fa fd) (h : ∀ (kV doc pm : Value) (an : Option Addr) (cdv ct : Value) (us : List Value), us.length = ks.length → bindArgs (PySem.W.fnOf x qual (defArgs st) (defBody st) (defScope st) .none kV doc pm an cdv ct) ⟨[], ks.zip us⟩ = pure (ps.zip (g us))) (hr : ∀ {vs : List V} {us : List Value}, Vals vs us → vs.length = ks.length → Vals (g vs) (g us)) : KwB fd ps ks g := by
  obtain ⟨oc, od, kV, doc, pm, an, cdv, ct, osl, rfl, lk, hcd⟩ := Fn.ex
  exact ⟨h kV doc pm an cdv ct, hr⟩
theorem dx_callK {M : List D → W ρ → Prop} {m : κ → W ρ} {w : W κ} {ds : κ → List D} {kws : List Keyword} {p pos : Pos} {ks : List Str} (g : {α : Type} → List α → List α) (d : DefX X CX k x st ps (spF M B)) (hr : Room k X.A) (hgu : X.A.guards = some []) (ha : KQ X pl G kws w ds)
    (hkw : ∀ (qual : Str) (kV doc pm : Value) (an : Option Addr) (cdv ct : Value) (us : List Value), us.length = ks.length → bindArgs (PySem.W.fnOf x qual (defArgs st) (defBody st) (defScope st) .none kV doc pm an cdv ct) ⟨[], ks.zip us⟩ = pure (ps.zip (g us)))
    (hrel : ∀ {vs : List V} {us : List Value}, Vals vs us → vs.length = ks.length → Vals (g vs) (g us)) (hlen : ∀ k, (ds k).length = ks.length) (hM : ∀ k, M (g (ds k)) (m k)) (hgd : ∀ (F : Hp) (vs : List V) (ds : List D), HasAll F vs ds → ds.length = ks.length → HasAll F (g vs) (g ds)) (hx : Passes CX X E0 := by exact pass0) (hg : Gl X x := by rfl)
    (hall : (backToKw pos (keywordEach kws X.env)).all (·.1.isSome) = true := by rfl) (hks : (backToKw pos (keywordEach kws X.env)).filterMap (·.1) = ks := by rfl) (hdb : (x == ("__debug__" : Str)) = false := by decide)
    (hpl : ((backTo pos (starEach [] X.env)).any (·.1) || (backToKw pos (keywordEach kws X.env)).any (·.1.isNone)) = false := by rfl) : DX X pl G (.Call (.Name x p) [] kws pos) B (fun P => w fun k => m k P) := by
  obtain ⟨f, fd, qual, Fn, FG, hm, hb⟩ := d.ex
  refine PE.wk (pe_gK FG hr hgu hm Fn.kp (Fun.kw Fn (hkw qual) hrel) hx ha hg hall hks hdb hpl) fun s H Q ⟨F, fp, at_, P, w, K⟩ => ⟨F, fp, at_, _, w, fun k vs F1 H1 fp1 p a1 g1 b1 => ⟨by rw [b1.length, hlen], ?_⟩⟩
  exact ⟨F1, g (ds k), m k, a1.exT, hgd F1 vs (ds k) b1 (hlen k), hM k, prom_go K a1 g1 (.inl rfl) p⟩
/-- .. whose first argument is the pool's name -/
theorem dx_callP {M : List D → W ρ → Prop} {m : κ → W ρ} {w : W κ} {ds : κ → List D} {es : List Expr} {p pos pos' : Pos} {y : Str} {pp pf : Addr} (i : Nat) (d : DefX X CX k x st ps (spP M B)) (hr : Room k X.A) (hgu : X.A.guards = some []) (ha : AQ X (some (pp, pf)) G es w ds) (hM : ∀ k, M (ds k) (m k)) (hx : Passes CX X E0 := by exact pass0) (hi : G[i]? = some (some (raw (.ref pp))) := by rfl) (hN : X.N[i]? = some y := by rfl) (hv : Vis X.env.scope y := by first | exact Or.inl rfl | exact Or.inr (Or.inl rfl) | exact Or.inr (Or.inr rfl)) (hd1 : (y == ("__debug__" : Str)) = false := by decide)
    (hcd : (y == ("__classdict__" : Str)) = false := by decide) (hg : Gl X x := by rfl) (hdb : (x == ("__debug__" : Str)) = false := by decide) (he : starEach (.Name y pos' :: es) X.env = (false, eval (.Name y pos') X.env) :: starEach es X.env := by rfl) (hpl : (backTo pos (starEach es X.env)).any (·.1) = false := by rfl) :
    DX X (some (pp, pf)) G (.Call (.Name x p) (.Name y pos' :: es) [] pos) B (fun P => w fun k => m k P) := by
  obtain ⟨f, fd, qual, Fn, FG, hm, hb⟩ := d.ex
  refine PE.wk (pe_g FG hr hgu hm Fn.kp hb hx (pa_cons (pe_var hN hv hd1 hcd) ha he) hg hdb he hpl) fun s H Q ⟨F, fp, at_, P, w, K⟩ => ?_
  obtain ⟨_, v, hv2, _, rfl⟩ := at_.sl i _ hi
  exact ⟨_, hv2, F, fp, at_, _, w, fun k vs F1 H1 fp1 p a1 g1 b1 => ⟨pp, pf, vs, F1, ds k, m k, rfl, a1.ex, a1.pool, b1, hM k, prom_go K a1 g1 (.inr rfl) p⟩⟩
end

/-! ### bodies -/
section
variable {P : Program} {w : World} {K : Fr} {mg : Str → Option Value} {base : Heap} {CX : CXT} {ρ : Type} {B : ρ → Asrt}
theorem prom_end {pl : Pl} {F H : Hp} {Q : VK} {wr : W ρ} {κ : Type} {w' : WS κ ρ} {G : Env} {G' : κ → Env} {s : L2.St} (a : At pl G F H s noF) (pr : Prom pl B wr F H Q) (hw : ∀ Pr, wr Pr → w' (fun _ => False) Pr) : tS pl G (nrm B) w' G' { nx := fun _ H' => Q .non H', rt := Q } s H := by
  obtain ⟨Pr, h, K⟩ := pr
  refine ⟨F, noF, a, fun _ => False, Pr, hw Pr h, fun _ _ _ _ _ z => z.elim, fun r v F' H' fp' S p e po g b hS => K r v F' H' S p e po (g.own fun i q m => m.elim) b fun q m => ?_⟩
  exact (hS q m).elim (fun ⟨_, z⟩ => z.elim) fun z => z
theorem Fun.bodyF {k : Nat} {x qual : Str} {st : Stmt} {f : Addr} {fd : FuncData} {N ps : List Str} {M : List D → W ρ → Prop} (Fn : Fun K x qual st f fd) (S : FnScope N ps (defScope st)) (hlen : ∀ ds w, M ds w → ds.length = ps.length)
    (hb : ∀ (cdv : Value) (A : Around) (outer : List PySem.Env) (s : Shared) (H : Hp) (E : XK), Room k (A.deeper (envOfC qual (defScope st) s.heap.objs.size f cdv)) → A.guards = some [] → ∀ ds wr, M ds wr →
      ∃ (κ : Type) (w' : WS κ ρ) (G' : κ → Env), DSs (cxOf CX P w K mg base N qual (defScope st) f cdv A outer s H E).nox none (G0 (ds.map fun d => fro d) N.length) (nrm B) (defBody st) w' G' ∧ ∀ Pr, wr Pr → w' (fun _ => False) Pr) : FnG P w K mg base CX (k + 1) f fd ps (spF M B) := by
  refine FnG.body Fn S (fun vs H Q E ⟨F, ds, wr, _, ha, hM, _⟩ => by rw [ha.length, hlen ds wr hM]) fun cdv A outer s H vs Q E hr hg ⟨F, ds, wr, e, ha, hM, pr⟩ => ?_
  obtain ⟨κ, w', G', h, hw⟩ := hb cdv A outer s H E hr hg ds wr hM
  have hl : ds.length ≤ N.length := by
    have h1 := congrArg List.length S.pre
    rw [List.length_take] at h1
    rw [hlen ds wr hM]; omega
  exact ⟨_, PSs.nox h, prom_end (at_start (Args0.fro ha) e.ex (PoolOk.none e.tab) (by rw [List.length_map]; exact hl)) pr hw⟩
theorem Fun.bodyP {k : Nat} {x qual : Str} {st : Stmt} {f : Addr} {fd : FuncData} {N ps : List Str} {M : List D → W ρ → Prop} (Fn : Fun K x qual st f fd) (S : FnScope N ps (defScope st)) (hlen : ∀ ds w, M ds w → ds.length + 1 = ps.length)
    (hb : ∀ (cdv : Value) (A : Around) (outer : List PySem.Env) (s : Shared) (H : Hp) (E : XK) (pp pf : Addr), Room k (A.deeper (envOfC qual (defScope st) s.heap.objs.size f cdv)) → A.guards = some [] → ∀ ds wr, M ds wr →
      ∃ (κ : Type) (w' : WS κ ρ) (G' : κ → Env), DSs (cxOf CX P w K mg base N qual (defScope st) f cdv A outer s H E).nox (some (pp, pf)) (G0 (raw (.ref pp) :: ds.map fun d => fro d) N.length) (nrm B) (defBody st) w' G' ∧ ∀ Pr, wr Pr → w' (fun _ => False) Pr) : FnG P w K mg base CX (k + 1) f fd ps (spP M B) := by
  refine FnG.body Fn S (fun vs H Q E ⟨pp, pf, vs', F, ds, wr, ev, _, _, ha, hM, _⟩ => by rw [ev, List.length_cons, ha.length, hlen ds wr hM]) fun cdv A outer s H vs Q E hr hg ⟨pp, pf, vs', F, ds, wr, ev, e, po, ha, hM, pr⟩ => ?_
  subst ev
  obtain ⟨κ, w', G', h, hw⟩ := hb cdv A outer s H E pp pf hr hg ds wr hM
  have hl : ds.length + 1 ≤ N.length := by
    have h1 := congrArg List.length S.pre
    rw [List.length_take] at h1
    rw [hlen ds wr hM]; omega
  exact ⟨_, PSs.nox h, prom_end (at_start (Args0.cons (good_raw _) (fun _ => ⟨fun _ h => h, rfl⟩) (Args0.fro ha)) e po (by rw [List.length_cons, List.length_map]; exact hl)) pr hw⟩
end
def M0 {ρ : Type} (m : W ρ) : List D → W ρ → Prop := fun ds w => ds = [] ∧ w = m
def M1 {ρ α : Type} [Enc α] (m : α → W ρ) : List D → W ρ → Prop := fun ds w => ∃ a, ds = [enc a] ∧ w = m a
def M2 {ρ α β : Type} [Enc α] [Enc β] (m : α → β → W ρ) : List D → W ρ → Prop := fun ds w => ∃ a b, ds = [enc a, enc b] ∧ w = m a b
def M3 {ρ α β γ : Type} [Enc α] [Enc β] [Enc γ] (m : α → β → γ → W ρ) : List D → W ρ → Prop := fun ds w => ∃ a b c, ds = [enc a, enc b, enc c] ∧ w = m a b c
def M4 {ρ α β γ δ : Type} [Enc α] [Enc β] [Enc γ] [Enc δ] (m : α → β → γ → δ → W ρ) : List D → W ρ → Prop := fun ds w => ∃ a b c d, ds = [enc a, enc b, enc c, enc d] ∧ w = m a b c d
def M5 {ρ α β γ δ ε : Type} [Enc α] [Enc β] [Enc γ] [Enc δ] [Enc ε] (m : α → β → γ → δ → ε → W ρ) : List D → W ρ → Prop := fun ds w => ∃ a b c d e, ds = [enc a, enc b, enc c, enc d, enc e] ∧ w = m a b c d e

/-! ### texts of data, equality of data -/
section
variable {X : Cx} {pl : Pl} {G : Env} {α β γ : Type} [Enc α] [Enc β] [Enc γ]
mutual
theorem Has.dp {K : Fr} {F H : Hp} (e : Ex F H) : ∀ {d : D} {v : V}, Has F v d → d.hasDict = false → Dp K H v d
  | .none, _, h, _ => by cases h; exact .non
  | .bool b, _, h, _ => by cases h; exact .bl b
  | .int i, _, h, _ => by cases h; exact .int i
  | .str x, _, h, _ => by cases h; exact .str x
  | .list ds, _, h, n => by
    cases h with
    | lst a b => exact .lst (SqL.of (e _ _ a)) (HasAll.dp e b (by rw [PyData.hasDict] at n; exact n))
  | .tuple ds, _, h, n => by
    cases h with
    | tup a b => exact .tup (TupAt.sq (TupAt.mono e a)) (HasAll.dp e b (by rw [PyData.hasDict] at n; exact n))
  | .dict ds, _, h, n => by rw [PyData.hasDict] at n; cases n
theorem HasAll.dp {K : Fr} {F H : Hp} (e : Ex F H) : ∀ {ds : List D} {vs : List V}, HasAll F vs ds → PyData.hasDictAll ds = false → DpAll K H vs ds
  | [], _, h, _ => by cases h; exact .nil
  | d :: ds, _, h, n => by
    rw [PyData.hasDictAll, Bool.or_eq_false_iff] at n
    cases h with
    | cons a b => exact .cons (Has.dp e a n.1) (HasAll.dp e b n.2)
end
/-- its text can be made -/
structure ShowOk (d : D) : Prop where
  nums : d.showable = true
  nod : d.hasDict = false
  flat : d.depth ≤ 100
  fits : d.shown.length ≤ sizeLine
theorem call_repr (hgu : X.A.guards = some []) (hu : X.A.units + 200 < cLine) : CallR X (.builtin "repr") (fun xs H Q => ∃ a d, xs = [.ref a] ∧ Dp X.K H (.ref a) d ∧ ShowOk d ∧ Q (.str d.shown) H) := by
  intro pins sh s H xs us Q I r h
  obtain ⟨a, d, rfl, hd, ok, q⟩ := h
  rw [Vals.ref1 r]
  obtain ⟨as, rd⟩ := Dp.reads I d _ _ hd rfl
  refine repr_of_reads' (h₀ := sh.heap) rd ok.nums (fun z => by rw [ok.nod] at z; cases z) hgu (by have := ok.flat; omega) (fun _ _ z => z) (fun h' u tk kp => ?_) ok.fits
  exact ⟨.str d.shown, H, I.kept kp, ⟨u, rfl⟩, q⟩
/-- data that is an object: a list or a tuple -/
def boxed : D → Bool
  | .list _ | .tuple _ => true
  | _ => false
theorem de_repr {e : Expr} {w : W α} {p pos : Pos} (hm : X.mg "repr" = none) (hgu : X.A.guards = some []) (hu : X.A.units + 200 < cLine) (h : DE X pl G e w) (hbx : ∀ a : α, boxed (enc a) = true := by intro _; rfl) (hg : Gl X "repr" := by rfl)
    (he : starEach [e] X.env = (false, eval e X.env) :: starEach [] X.env := by rfl) (hpl : (backTo pos (starEach [] X.env)).any (·.1) = false := by rfl) : DE X pl G (.Call (.Name "repr" p) [e] [] pos) (fun P => w fun a => ShowOk (enc a) ∧ P (enc a).shown) := PE.wk (pe_callB (call_repr hgu hu) hg hm PyProof.Rows.boot_repr (pa_cons h pa_nil he) (by decide) (by decide) he hpl) fun s H Q ⟨F, fp, at_, P, w, K⟩ =>
  ⟨F, fp, at_, _, w, fun a v F1 H1 fp1 S1 ⟨ok, w1⟩ a1 g1 b1 _ => by
    have hd : Dp X.K H1 v (enc a) := Has.dp a1.ex b1.2 ok.nod
    have hv : ∃ q, v = .ref q := by
      have hb := hbx a
      have b2 := b1.2
      generalize enc a = d at hb b2
      cases b2 <;> first | exact ⟨_, rfl⟩ | (cases hb)
    obtain ⟨q, rfl⟩ := hv
    exact ⟨q, enc a, rfl, hd, ok, K.pure a1 g1 w1 (.str _)⟩⟩
/-- two data that can be held against one another -/
def EqOk (d : D) : Prop := SeqAt.shaped d = true ∧ d.hasDict = false
theorem vr_eqD : VR2 (rEqD X.K) (fun (a : α) (b : β) (P : Bool → Prop) => EqOk (enc a) ∧ EqOk (enc b) ∧ P (PyData.eqv (enc a) (enc b))) (fun b : Bool => fro b) := fun F H x y a b Q P e hx hy ⟨p1, p2, p⟩ K =>
  ⟨_, _, Has.dp e hx p1.2, Has.dp e hy p2.2, p1.1, p2.1, K _ _ F H (fun _ => False) p (New.refl e) ⟨fun _ h => h, .bl _⟩ fun _ h => h.elim⟩
theorem vr_neD : VR2 (rNeD X.K) (fun (a : α) (b : β) (P : Bool → Prop) => EqOk (enc a) ∧ EqOk (enc b) ∧ P (!PyData.eqv (enc a) (enc b))) (fun b : Bool => fro b) := fun F H x y a b Q P e hx hy ⟨p1, p2, p⟩ K =>
  ⟨_, _, Has.dp e hx p1.2, Has.dp e hy p2.2, p1.1, p2.1, K _ _ F H (fun _ => False) p (New.refl e) ⟨fun _ h => h, .bl _⟩ fun _ h => h.elim⟩
theorem de_eqD {e e' : Expr} {wa : W α} {wb : W β} {pos : Pos} (hu : X.A.units + 200 < cLine) (ha : DE X pl G e wa) (hb : DE X pl G e' wb) : DE X pl G (.Compare e [.Eq] [e'] pos) (fun P => wa fun x => wb fun y => EqOk (enc x) ∧ EqOk (enc y) ∧ P (PyData.eqv (enc x) (enc y))) := de_cmp (op_eqD (by omega)) vr_eqD ha hb
theorem de_neD {e e' : Expr} {wa : W α} {wb : W β} {pos : Pos} (hu : X.A.units + 200 < cLine) (ha : DE X pl G e wa) (hb : DE X pl G e' wb) : DE X pl G (.Compare e [.NotEq] [e'] pos) (fun P => wa fun x => wb fun y => EqOk (enc x) ∧ EqOk (enc y) ∧ P (!PyData.eqv (enc x) (enc y))) := de_cmp (op_neD (by omega)) vr_neD ha hb
theorem vr_eqI : VR2 rEq (fun (a b : Int) (P : Bool → Prop) => P (decide (a = b))) (fun b : Bool => fro b) := fun F H x y a b Q P e hx hy p K => by
  cases hx; cases hy
  refine ⟨rfl, K _ _ F H (fun _ => False) p (New.refl e) ⟨fun _ h => h, ?_⟩ fun _ h => h.elim⟩
  have e2 : decide (V.int a = V.int b) = decide (a = b) := by rw [dec_int]; rfl
  rw [e2]; exact .bl _
theorem vr_neI : VR2 rNe (fun (a b : Int) (P : Bool → Prop) => P (!decide (a = b))) (fun b : Bool => fro b) := fun F H x y a b Q P e hx hy p K => by
  cases hx; cases hy
  refine ⟨rfl, K _ _ F H (fun _ => False) p (New.refl e) ⟨fun _ h => h, ?_⟩ fun _ h => h.elim⟩
  have e2 : decide (V.int a = V.int b) = decide (a = b) := by rw [dec_int]; rfl
  rw [e2]; exact .bl _
theorem vr_eqS : VR2 rEq (fun (a b : Str) (P : Bool → Prop) => P (decide (a = b))) (fun b : Bool => fro b) := fun F H x y a b Q P e hx hy p K => by
  cases hx; cases hy
  refine ⟨rfl, K _ _ F H (fun _ => False) p (New.refl e) ⟨fun _ h => h, ?_⟩ fun _ h => h.elim⟩
  have e2 : decide (V.str a = V.str b) = decide (a = b) := by
    by_cases z : a = b
    · rw [z, decide_eq_true rfl, decide_eq_true rfl]
    · rw [decide_eq_false z, decide_eq_false fun q => z (V.str.inj q)]
  rw [e2]; exact .bl _
theorem vr_neS : VR2 rNe (fun (a b : Str) (P : Bool → Prop) => P (!decide (a = b))) (fun b : Bool => fro b) := fun F H x y a b Q P e hx hy p K => by
  cases hx; cases hy
  refine ⟨rfl, K _ _ F H (fun _ => False) p (New.refl e) ⟨fun _ h => h, ?_⟩ fun _ h => h.elim⟩
  have e2 : decide (V.str a = V.str b) = decide (a = b) := by
    by_cases z : a = b
    · rw [z, decide_eq_true rfl, decide_eq_true rfl]
    · rw [decide_eq_false z, decide_eq_false fun q => z (V.str.inj q)]
  rw [e2]; exact .bl _
section
variable {e e' : Expr} {wa wb : W Int} {ua ub : W Str} {pos : Pos}
theorem de_eqI (ha : DE X pl G e wa) (hb : DE X pl G e' wb) : DE X pl G (.Compare e [.Eq] [e'] pos) (fun P => wa fun x => wb fun y => P (decide (x = y))) := de_cmp op_eq vr_eqI ha hb
theorem de_neI (ha : DE X pl G e wa) (hb : DE X pl G e' wb) : DE X pl G (.Compare e [.NotEq] [e'] pos) (fun P => wa fun x => wb fun y => P (!decide (x = y))) := de_cmp op_ne vr_neI ha hb
theorem de_eqS (ha : DE X pl G e ua) (hb : DE X pl G e' ub) : DE X pl G (.Compare e [.Eq] [e'] pos) (fun P => ua fun x => ub fun y => P (decide (x = y))) := de_cmp op_eq vr_eqS ha hb
theorem de_neS (ha : DE X pl G e ua) (hb : DE X pl G e' ub) : DE X pl G (.Compare e [.NotEq] [e'] pos) (fun P => ua fun x => ub fun y => P (!decide (x = y))) := de_cmp op_ne vr_neS ha hb
end
/-! ### built-in functions of one argument -/
theorem de_b1 {id : String} {e : Expr} {r : List V → Hp → VK → Prop} {w : W α} {op : α → W β} {x : Str} {p pos : Pos} (hc : CallR X (.builtin id) r) (hm : X.mg x = none) (hv : bootBuiltins x = some (.builtin id)) (h : DE X pl G e w) (hr : VR1 (fun x => r [x]) op (fun b : β => fro b)) (hg : Gl X x := by rfl) (hn : x ≠ "__name__" := by decide) (hdb : (x == ("__debug__" : Str)) = false := by decide)
    (he : starEach [e] X.env = (false, eval e X.env) :: starEach [] X.env := by rfl) (hpl : (backTo pos (starEach [] X.env)).any (·.1) = false := by rfl) : DE X pl G (.Call (.Name x p) [e] [] pos) (fun P => w fun a => op a P) := PE.wk (pe_callB hc hg hm hv (pa_cons h pa_nil he) hn hdb he hpl) fun s H Q ⟨F, fp, at_, P, w, K⟩ =>
  ⟨F, fp, at_, _, w, fun a v F1 H1 fp1 S1 w1 a1 g1 b1 _ => hr F1 H1 v a Q P a1.ex b1.2 w1 fun c z F' H' S pc n hb hS => K.fin a1 g1 pc n hb hS⟩
theorem de_ty1 {T : String} {e : Expr} {r : List V → Hp → VK → Prop} {w : W α} {op : α → W β} {x : Str} {p pos : Pos} (hc : CallR X (.type T) r) (hm : X.mg x = none) (hv : bootBuiltins x = some (.type T)) (h : DE X pl G e w) (hr : VR1 (fun x => r [x]) op (fun b : β => fro b)) (hg : Gl X x := by rfl) (hn : x ≠ "__name__" := by decide) (hdb : (x == ("__debug__" : Str)) = false := by decide)
    (he : starEach [e] X.env = (false, eval e X.env) :: starEach [] X.env := by rfl) (hpl : (backTo pos (starEach [] X.env)).any (·.1) = false := by rfl) : DE X pl G (.Call (.Name x p) [e] [] pos) (fun P => w fun a => op a P) := PE.wk (pe_callTy hc hg hm hv (pa_cons h pa_nil he) hn hdb he hpl) fun s H Q ⟨F, fp, at_, P, w, K⟩ =>
  ⟨F, fp, at_, _, w, fun a v F1 H1 fp1 S1 w1 a1 g1 b1 _ => hr F1 H1 v a Q P a1.ex b1.2 w1 fun c z F' H' S pc n hb hS => K.fin a1 g1 pc n hb hS⟩
theorem vr_all {K : Fr} : VR1 (fun x => rAll K [x]) (fun (l : List Bool) (P : Bool → Prop) => P (l.all id)) (fun b : Bool => fro b) := fun F H x a Q P e hx p Kk => by
  cases hx with
  | lst h1 h2 =>
    have ev : _ = a.map V.bl := HasAll.ofBools (ns := a) h2
    rw [ev] at h1
    exact ⟨_, a, rfl, SqL.of (e _ _ h1), Kk _ _ F H (fun _ => False) p (New.refl e) ⟨fun _ h => h, .bl _⟩ fun _ h => h.elim⟩
theorem vr_any {K : Fr} : VR1 (fun x => rAny K [x]) (fun (l : List Bool) (P : Bool → Prop) => P (l.any id)) (fun b : Bool => fro b) := fun F H x a Q P e hx p Kk => by
  cases hx with
  | lst h1 h2 =>
    have ev : _ = a.map V.bl := HasAll.ofBools (ns := a) h2
    rw [ev] at h1
    exact ⟨_, a, rfl, SqL.of (e _ _ h1), Kk _ _ F H (fun _ => False) p (New.refl e) ⟨fun _ h => h, .bl _⟩ fun _ h => h.elim⟩
theorem vr_sum {K : Fr} : VR1 (fun x => rSum K [x]) (fun (l : List Int) (P : Int → Prop) => P l.sum) (fun b : Int => fro b) := fun F H x a Q P e hx p Kk => by
  cases hx with
  | lst h1 h2 =>
    have ev : _ = a.map V.int := HasAll.ofInts (ns := a) h2
    rw [ev] at h1
    exact ⟨_, a, rfl, SqL.of (e _ _ h1), Kk _ _ F H (fun _ => False) p (New.refl e) ⟨fun _ h => h, .int _⟩ fun _ h => h.elim⟩
theorem vr_int : VR1 (fun x H Q => (∃ i, [x] = [V.int i] ∧ Q (.int i) H) ∨ ∃ k, [x] = [V.bl k] ∧ Q (.int (if k then 1 else 0)) H) (fun (i : Int) (P : Int → Prop) => P i) (fun b : Int => fro b) := fun F H x a Q P e hx p Kk => by
  cases hx
  exact .inl ⟨a, rfl, Kk _ _ F H (fun _ => False) p (New.refl e) ⟨fun _ h => h, .int _⟩ fun _ h => h.elim⟩
def b2n (b : Bool) : Int := if b then 1 else 0
theorem vr_intB : VR1 (fun x H Q => (∃ i, [x] = [V.int i] ∧ Q (.int i) H) ∨ ∃ k, [x] = [V.bl k] ∧ Q (.int (if k then 1 else 0)) H) (fun (i : Bool) (P : Int → Prop) => P (b2n i)) (fun b : Int => fro b) := fun F H x a Q P e hx p Kk => by
  cases hx
  exact .inr ⟨a, rfl, Kk _ _ F H (fun _ => False) p (New.refl e) ⟨fun _ h => h, .int _⟩ fun _ h => h.elim⟩
theorem de_intI {e : Expr} {w : W Int} {p pos : Pos} (hm : X.mg "int" = none) (h : DE X pl G e w) (hg : Gl X "int" := by rfl) (he : starEach [e] X.env = (false, eval e X.env) :: starEach [] X.env := by rfl) (hpl : (backTo pos (starEach [] X.env)).any (·.1) = false := by rfl) : DE X pl G (.Call (.Name "int" p) [e] [] pos) w := de_ty1 call_int1 hm PyProof.Rows.boot_int h vr_int hg (by decide) (by decide) he hpl
theorem de_intB {e : Expr} {w : W Bool} {p pos : Pos} (hm : X.mg "int" = none) (h : DE X pl G e w) (hg : Gl X "int" := by rfl) (he : starEach [e] X.env = (false, eval e X.env) :: starEach [] X.env := by rfl) (hpl : (backTo pos (starEach [] X.env)).any (·.1) = false := by rfl) : DE X pl G (.Call (.Name "int" p) [e] [] pos) (fun P => w fun b => P (b2n b)) := de_ty1 call_int1 hm PyProof.Rows.boot_int h vr_intB hg (by decide) (by decide) he hpl
theorem de_all {e : Expr} {w : W (List Bool)} {p pos : Pos} (hc : X.calm = true) (hm : X.mg "all" = none) (h : DE X pl G e w) (hg : Gl X "all" := by rfl) (he : starEach [e] X.env = (false, eval e X.env) :: starEach [] X.env := by rfl) (hpl : (backTo pos (starEach [] X.env)).any (·.1) = false := by rfl) : DE X pl G (.Call (.Name "all" p) [e] [] pos) (fun P => w fun l => P (l.all id)) := de_b1 (cr_all hc) hm (by decide +kernel) h vr_all hg (by decide) (by decide) he hpl
theorem de_any {e : Expr} {w : W (List Bool)} {p pos : Pos} (hc : X.calm = true) (hm : X.mg "any" = none) (h : DE X pl G e w) (hg : Gl X "any" := by rfl) (he : starEach [e] X.env = (false, eval e X.env) :: starEach [] X.env := by rfl) (hpl : (backTo pos (starEach [] X.env)).any (·.1) = false := by rfl) : DE X pl G (.Call (.Name "any" p) [e] [] pos) (fun P => w fun l => P (l.any id)) := de_b1 (cr_any hc) hm (by decide +kernel) h vr_any hg (by decide) (by decide) he hpl
theorem de_sum {e : Expr} {w : W (List Int)} {p pos : Pos} (hc : X.calm = true) (hm : X.mg "sum" = none) (h : DE X pl G e w) (hg : Gl X "sum" := by rfl) (he : starEach [e] X.env = (false, eval e X.env) :: starEach [] X.env := by rfl) (hpl : (backTo pos (starEach [] X.env)).any (·.1) = false := by rfl) : DE X pl G (.Call (.Name "sum" p) [e] [] pos) (fun P => w fun l => P l.sum) := de_b1 (cr_sum hc) hm (by decide +kernel) h vr_sum hg (by decide) (by decide) he hpl
end
end Dm

set_option Elab.async false
set_option linter.all false
set_option maxRecDepth 100000
set_option maxHeartbeats 2000000
/-! Dm: part I: facts for the pool's own defs; the law's end. -/
namespace Dm
open PySem PySem.Spec PyProof.Rows L2
variable [TabC]

theorem ints_lay : ∀ ns : List Int, PyData.canLayAll0 (ns.map PyData.int) = true
  | [] => by simp [PyData.canLayAll0]
  | n :: ns => by
    have h := ints_lay ns
    simp [PyData.canLayAll0, PyData.canLay0, h]
theorem ints_depth : ∀ ns : List Int, PyData.depthAll (ns.map PyData.int) ≤ 1
  | [] => by simp [PyData.depthAll]
  | n :: ns => by
    have h := ints_depth ns
    simp only [List.map_cons, PyData.depthAll, PyData.depth]
    omega
theorem ints_shaped (ns : List Int) : SeqAt.shaped (.list (ns.map PyData.int)) = true := by
  unfold SeqAt.shaped
  have h1 : PyData.canLay0 (.list (ns.map PyData.int)) = true := by
    rw [PyData.canLay0]; exact ints_lay ns
  have h2 : PyData.depth (.list (ns.map PyData.int)) ≤ 64 := by
    rw [PyData.depth]
    have := ints_depth ns
    omega
  rw [h1, decide_eq_true h2]; rfl
theorem dp_ints {K : Fr} {H : Hp} {a : Addr} {ns : List Int} (h : H a = some (.lst (ns.map V.int))) : Dp K H (.ref a) (.list (ns.map PyData.int)) := .lst (SqL.of h) (by
  induction ns generalizing a with
  | nil => exact .nil
  | cons n ns ih =>
    have : ∀ ms : List Int, DpAll K H (ms.map V.int) (ms.map PyData.int) := fun ms => by
      induction ms with
      | nil => exact .nil
      | cons m ms ih => exact .cons (.int m) ih
    exact this (n :: ns))
theorem eqv_nil (ns : List Int) : PyData.eqv (.list (ns.map PyData.int)) (.list []) = ns.isEmpty := by
  cases ns with
  | nil => simp [PyData.eqv, PyData.eqvAll]
  | cons n ns => simp [PyData.eqv, PyData.eqvAll]
/-- what a draw promises -/
def mDraw (size : Int) : W Int := fun P => (1 ≤ size ∧ size < 1073741824) ∧ ∀ n : Int, 0 ≤ n → n < size → P n
theorem mod_draw {a n : Int} (h : 2 ≤ n) : 0 ≤ a.fmod n ∧ a.fmod n < n := ⟨Int.fmod_nonneg_of_pos a (by omega), Int.fmod_lt_of_pos a (by omega)⟩
theorem draw_fin {p f : Addr} {F H H' : Hp} {Q : VK} {size n : Int} {P : Int → Prop} (K : ∀ r v F' H' S, P r → Ex F' H' → PoolOk (some (p, f)) F' H' → Go (some (p, f)) F H noF F' H' noF → fro r F' H' v S → (∀ q, S q → H q = none) → Q v H') (e : Ex F H) (tb : TabOk F H) (po : PoolAt p f F H) (hp : ∀ n : Int, 0 ≤ n → n < size → P n)
    (h0 : 0 ≤ n) (h1 : n < size) (hk : ∀ q, q ≠ p → q ≠ f → (H' q = H q ∨ H q = none)) (po' : PoolAt p f F H') : Q (.int n) H' := by
  refine K n (.int n) F H' (fun _ => False) (hp n h0 h1) (fun q o h => ?_) ⟨fun p' f' z => (by cases z; exact po'), tb.frame (Ex.refl _) fun q m => ⟨(tb.there m).1, by
    obtain ⟨_, ps, y⟩ := tb.there m
    have h1 : q ≠ p := fun z => by
      have z2 := po.seen (q := q) (.inl z)
      rw [y] at z2; exact z2 ps rfl
    have h2 : q ≠ f := fun z => by
      have z2 := po.seen (q := q) (.inr z)
      rw [y] at z2; exact z2 ps rfl
    exact (hk q h1 h2).resolve_right (by rw [y]; simp)⟩⟩ ⟨Ex.refl _, fun q h _ np => ⟨?_, fun z => z⟩, fun i q m => m.elim, fun q h => ?_⟩ ⟨fun _ h => h, .int n⟩ (fun _ h => h.elim)
  · have h1 : q ≠ p := fun z => by rw [z, po.np] at h; cases h
    have h2 : q ≠ f := fun z => by rw [z, po.nf] at h; cases h
    rcases hk q h1 h2 with z | z
    · rw [z]; exact e q o h
    · rw [e q o h] at z; cases z
  · exact (hk q (fun z => np (.inl ⟨p, f, rfl, .inl z⟩)) fun z => np (.inl ⟨p, f, rfl, .inr z⟩)).resolve_right h
  · by_cases z1 : q = p
    · obtain ⟨far, wh, tn, hp, _⟩ := po'.st
      rw [z1, hp]; simp
    · by_cases z2 : q = f
      · obtain ⟨far, wh, tn, _, hf, _⟩ := po'.st
        rw [z2, hf]; simp
      · rw [(hk q z1 z2).resolve_right h]; exact h
theorem mul_wide {a : Int} {b : Int} (hb : -(2 ^ 64) < b ∧ b < 2 ^ 64) : CMul a b := .inr hb
/-! ### the script, the pool made of it -/
def scr (K : Fr) (ns : List Int) : Asrt := fun F _ v S => (∀ q, ¬ S q) ∧ ∃ a, v = .ref a ∧ SqL K F a (ns.map V.int)
theorem sqL_ex {K : Fr} {F F' : Hp} {a : Addr} {xs : List V} (e : Ex F F') (h : SqL K F a xs) : SqL K F' a xs := by
  rcases h with (h | ⟨o, h⟩) | h
  · exact .inl (.inl (e _ _ h))
  · exact .inl (.inr ⟨o, e _ _ h⟩)
  · exact .inr h
theorem good_scr {K : Fr} {ns : List Int} : Good (scr K ns) := ⟨fun h q s => (h.1 q s).elim, fun ⟨h, a, e, s⟩ x _ => ⟨h, a, e, sqL_ex x s⟩⟩
def poolB : Unit → Asrt := fun _ F H v S => ∃ p f, v = .ref p ∧ (∀ q, S q ↔ q = p ∨ q = f) ∧ PoolAt p f F H
def spPool (K : Fr) : Sp := fun vs H Q _ => ∃ (F : Hp) (ns : List Int) (a : Addr), ExT F H ∧ vs = [.ref a] ∧ SqL K F a (ns.map V.int) ∧ Prom none poolB (fun P => P ()) F H Q
/-- all but the tables stands still -/
theorem cutT {H : Hp} (h : ∀ t ∈ TabC.tb, H t.1 = some (.tbl #[])) : ∃ F : Hp, Ex F H ∧ TabOk F H ∧ ∀ {K : Fr} {a : Addr} {xs : List V}, SqL K H a xs → SqL K F a xs := by
  classical
  refine ⟨fun q => if isTab q then none else H q, fun q o e => ?_, fun t ht => ⟨if_pos ⟨t, ht, rfl⟩, #[], h t ht, True.intro, fun pos cv hc => ?_⟩, fun {K a xs} s => ?_⟩
  · by_cases z : isTab q
    · have e' := (if_pos z).symm.trans e; cases e'
    · exact (if_neg z).symm.trans e
  · have z : codeAmong pos [] = some cv := hc
    simp [codeAmong] at z
  · have na : ∀ {u : HO}, H a = some u → (∀ ps, u ≠ .tbl ps) → ¬ isTab a := fun e n ⟨t, ht, z⟩ => by
      rw [z, h t ht] at e
      exact n #[] (Option.some.inj e).symm
    rcases s with (s | ⟨o, s⟩) | s
    · exact .inl (.inl ((if_neg (na s fun ps z => by cases z)).trans s))
    · exact .inl (.inr ⟨o, (if_neg (na s fun ps z => by cases z)).trans s⟩)
    · exact .inr s
def spLaw (K : Fr) : Sp := fun vs H Q _ => ∃ (a : Addr) (ns : List Int), vs = [.ref a] ∧ SqL K H a (ns.map V.int) ∧ ns.length ≤ 63 ∧ (∀ t ∈ TabC.tb, H t.1 = some (.tbl #[])) ∧ ∀ H', Q (.bl true) H'
section
variable {X : Cx} {pl : Pl} {G : Env} {κ κ' ρ : Type} {B : Rt ρ} {CX : CXT}
theorem dx_slScr (i : Nat) {ns : List Int} {x : Str} {hi : Expr} {w : W (Option Int)} {pos p2 pos' : Pos} (hh : DO X pl G (some hi) w) (h : G[i]? = some (some (scr X.K ns)) := by rfl) (hN : X.N[i]? = some x := by rfl) (hv : Vis X.env.scope x := by first | exact Or.inl rfl | exact Or.inr (Or.inl rfl) | exact Or.inr (Or.inr rfl)) (hd : (x == ("__debug__" : Str)) = false := by decide)
    (hcd : (x == ("__classdict__" : Str)) = false := by decide) : DX X pl G (.Subscript (.Name x pos') (.Slice none (some hi) none p2) pos) (fun a : List Int => own a) (fun P => w fun j => P (cutA ns none j)) := PE.wk (pe_slice sl_list (pe_var hN hv hd hcd) po_none hh) fun s H Q ⟨F, fp, at_, P, w, K⟩ => by
  obtain ⟨_, v, hv2, _⟩ := at_.sl i _ h
  refine ⟨v, hv2, F, fp, at_, _, w, fun j F1 H1 fp1 w1 a1 g1 => ?_⟩
  obtain ⟨_, v', hv', _, a, rfl, hs⟩ := a1.sl i _ h
  rw [hv2] at hv'; cases hv'
  refine ⟨a, _, rfl, sqL_ex a1.ex hs, fun q hq => K.fin (S := fun x => x = q) a1 g1 w1 (New.own a1.ex hq) (own_new (a1.fnone hq) ?_) fun x e => by rw [e]; exact hq⟩
  exact cut_has (HasAll.ints ns) none j
/-- [[..], whole, 0], returned -/
theorem ds_retDeck {e1 e2 : Expr} {w1 : W (List Int)} {w2 : W Int} {p6 pos pos' : Pos} {k5 : Nat} {G' : κ → Env} (h1 : DX X pl G e1 (fun a : List Int => own a) w1) (h2 : DE X pl G e2 w2) (hs2 : starEach [e2, .Constant (.int 0) k5 p6] X.env = (false, eval e2 X.env) :: starEach [.Constant (.int 0) k5 p6] X.env := by rfl) (hs1 : starEach [e1, e2, .Constant (.int 0) k5 p6] X.env = (false, eval e1 X.env) :: starEach [e2, .Constant (.int 0) k5 p6] X.env := by rfl) :
    DS X pl G (nrm poolB) (.Return (some (.List [e1, e2, .Constant (.int 0) k5 p6] pos)) pos') (fun _ rt => w1 fun far => w2 fun _ => far.length ≤ 64 ∧ rt ()) G' :=
  PS.wk (ps_ret (pe_lst (pa_cons h1 (pa_cons h2 (pa_cons pe_int pa_nil) hs2) hs1))) fun D s H ⟨F, fp, at_, Pn, Pr, w, K1, K2⟩ => by
    refine ⟨F, fp, at_, _, w, fun far v1 F1 H1 fp1 S1 w1 a1 g1 b1 hS1 => ⟨F1, fp1, a1, _, w1, fun wh v2 F2 H2 fp2 S2 ⟨hl, p2⟩ a2 g2 b2 hS2 => ?_⟩⟩
    obtain ⟨l, vs, rfl, hS, hF, hH, ha⟩ := b1
    have efs : vs = far.map V.int := HasAll.ofInts (ns := far) ha
    subst efs
    have hz := b2.2
    cases hz
    have s1 := hS1 l ((hS l).mpr rfl)
    have kp := g2.keep l (by rw [hH]; simp) s1.2.1 s1.2.2
    have hl2 : H2 l = some (.lst (far.map V.int)) := kp.1.trans hH
    have fl2 : F2 l = none := kp.2 hF
    refine ⟨Nat.le_of_ble_eq_true rfl, fun p hp => ?_⟩
    have lp : l ≠ p := ne_of_none hl2 hp
    have n : New F2 H2 F2 (upd H2 p (.lst [.ref l, .int wh, .int 0])) := New.own a2.ex hp
    refine K2 () (.ref p) F2 _ fp2 (fun q => q = p ∨ q = l) p2 n.ex (a2.new n).pool ((g1.trans g2).trans (Go.new n)) ⟨p, l, rfl, fun _ => Iff.rfl, ⟨Ne.symm lp, a2.fnone hp, fl2, far, wh, 0, upd_same, (upd_ne lp).trans hl2, hl⟩⟩ fun q m => ?_
    rcases m with m | m
    · rw [m]; exact .inr ((g1.trans g2).back hp)
    · rw [m]; exact .inr s1.1
/-- the law's first row: from there on there is a pool -/
theorem dss_pool {st : Stmt} {k : Nat} {ps : List Str} {ns : List Int} {x y f : Str} {p p1 pos pos' pos0 : Pos} {sts : List Stmt} {w : WS κ ρ} {G' : κ → Env} (i0 i1 : Nat) (hNd : X.N.Nodup) (d : DefX X CX k f st ps (spPool X.K)) (hr : Room k X.A) (hgu : X.A.guards = some []) (h : ∀ pp pf, DSs X (some (pp, pf)) (G.set i1 (some (raw (.ref pp)))) B sts w G') (hx : Passes CX X E0 := by exact pass0) (hi : G[i0]? = some (some (scr X.K ns)) := by rfl) (hN : X.N[i0]? = some y := by rfl) (hv : Vis X.env.scope y := by first | exact Or.inl rfl | exact Or.inr (Or.inl rfl) | exact Or.inr (Or.inr rfl)) (hd1 : (y == ("__debug__" : Str)) = false := by decide)
    (hcd : (y == ("__classdict__" : Str)) = false := by decide) (hl : Nat.blt i1 G.length = true := by rfl) (hN1 : X.N[i1]? = some x := by rfl) (hx1 : Loc X.env.scope x := by first | exact Or.inl rfl | exact Or.inr rfl) (hf1 : X.fn x = true ∨ X.env.scope.names.lookup x = some .local := by first | exact .inl rfl | exact .inr rfl)
    (hg : Gl X f := by rfl) (hdb : (f == ("__debug__" : Str)) = false := by decide) (he : starEach [.Name y p1] X.env = (false, eval (.Name y p1) X.env) :: starEach [] X.env := by rfl) (hpl : (backTo pos (starEach [] X.env)).any (·.1) = false := by rfl)
    (hs : swapsWith (.Call (.Name f p) [.Name y p1] [] pos) (some (.Name x pos')) pos0.line X.env = pure false := by rfl) :
    DSs X none G B (.Assign [.Name x pos'] (.Call (.Name f p) [.Name y p1] [] pos) pos0 :: sts) w G' := by
  obtain ⟨fa, fd, qual, Fn, FG, hm, hb⟩ := d.ex
  refine PSs.wk (pss_cons (ps_set hNd hN1 hx1 (pe_g FG hr hgu hm Fn.kp hb hx (pa_cons (pe_var hN hv hd1 hcd) pa_nil he) hg hdb he hpl) hs hf1) (PSs.exi fun q : Addr × Addr => h q.1 q.2)) fun D s H ⟨F, fp, at_, Pn, Pr, w, K1, K2⟩ => ?_
  obtain ⟨_, v, hv2, _, a, rfl, hS⟩ := at_.sl i0 _ hi
  refine ⟨.ref a, hv2, F, ns, a, at_.exT, rfl, hS, fun _ => True, trivial, fun _ v F1 H1 S _ e1 pt g1 ⟨pp, pf, ev, hSS, pk⟩ hfr => ?_⟩
  subst ev
  obtain ⟨a1, g1'⟩ := at_.back (.inl rfl) e1 pt g1
  have hpp : H pp = none := hfr pp ((hSS pp).mpr (.inl rfl))
  have hpf : H pf = none := hfr pf ((hSS pf).mpr (.inr rfl))
  have aP : At (some (pp, pf)) G F1 H1 s fp := ⟨a1.ex, a1.len, a1.sl, a1.dis, a1.out, ⟨fun p' f' z => (by cases z; exact pk), pt.tab⟩, fun i q m hq => by
    rcases hq with ⟨p', f', z, hq⟩ | hq
    · cases z
      rcases hq with z | z
      · exact at_.nofp hpp i (by rw [← z]; exact m)
      · exact at_.nofp hpf i (by rw [← z]; exact m)
    · exact at_.pdis i q m (.inr hq)⟩
  have a2 := aP.set (A := raw (.ref pp)) (v := .ref pp) (S := fun _ => False) (blt_lt hl) (good_raw _) ⟨fun _ z => z, rfl⟩ fun _ z => z.elim
  have fpn : ∀ j q, (fun j q => if j = i1 then False else fp j q) j q → fp j q := fun j q m => by
    by_cases hj : j = i1
    · have : False := (if_pos hj).mp m
      exact this.elim
    · exact (if_neg hj).mp m
  -- what is said of the pool is about new things
  have conv : ∀ {F2 H2 : Hp} {fp2 : Foot}, Go (some (pp, pf)) F1 H1 (fun j q => if j = i1 then False else fp j q) F2 H2 fp2 → Go none F H fp F2 H2 fp2 := fun {F2 H2 fp2} g => by
    refine ⟨g1'.exF.trans g.exF, fun q hq n np => ?_, fun j q m => ?_, fun q hq => g.grow q (g1'.grow q hq)⟩
    · have k1 := g1'.keep q hq n np
      have k2 := g.keep q (by rw [k1.1]; exact hq) (fun j m => n j (fpn j q m)) fun hz => by
        rcases hz with ⟨p', f', z, hz⟩ | hz
        · cases z
          rcases hz with z | z
          · rw [z] at hq; exact hq hpp
          · rw [z] at hq; exact hq hpf
        · exact np (.inr hz)
      exact ⟨k2.1.trans k1.1, fun z => k2.2 (k1.2 z)⟩
    · rcases g.foot j q m with ⟨j', m'⟩ | z
      · exact .inl ⟨j', fpn j' q m'⟩
      · exact .inr (g1'.back z)
  refine ⟨(pp, pf), F1, _, a2, Pn, Pr, w, fun k s' F2 H2 fp2 pk' b2 g2 => K1 k s' F2 H2 fp2 pk' ⟨b2.ex, b2.len, b2.sl, b2.dis, b2.out, PoolOk.none b2.pool.tab, fun i q m z => z.elim (fun ⟨_, _, z, _⟩ => by cases z) fun z => b2.pdis i q m (.inr z)⟩ (conv g2), fun r v F2 H2 fp2 S2 pr e2 po2 g2 br hS2 => K2 r v F2 H2 fp2 S2 pr e2 (PoolOk.none po2.tab) (conv g2) br fun q m => ?_⟩
  rcases hS2 q m with ⟨j, z⟩ | z
  · exact .inl ⟨j, fpn j q z⟩
  · exact .inr (g1'.back z)
end

/-! ### the pool's own def, the law's own def -/
section
variable {P : Program} {w : World} {K : Fr} {mg : Str → Option Value} {base : Heap} {CX : CXT}
theorem Fun.bodyPool {k : Nat} {x qual : Str} {st : Stmt} {f : Addr} {fd : FuncData} {N ps : List Str} (Fn : Fun K x qual st f fd) (S : FnScope N ps (defScope st)) (hps : ps.length = 1)
    (hb : ∀ (cdv : Value) (A : Around) (outer : List PySem.Env) (s : Shared) (H : Hp) (E : XK) (ns : List Int), Room k (A.deeper (envOfC qual (defScope st) s.heap.objs.size f cdv)) → A.guards = some [] →
      ∃ (κ : Type) (w' : WS κ Unit) (G' : κ → Env), DSs (cxOf CX P w K mg base N qual (defScope st) f cdv A outer s H E).nox none (G0 [scr K ns] N.length) (nrm poolB) (defBody st) w' G' ∧ ∀ Pr : Unit → Prop, Pr () → w' (fun _ => False) Pr) : FnG P w K mg base CX (k + 1) f fd ps (spPool K) := by
  refine FnG.body Fn S (fun vs H Q E ⟨F, ns, a, _, ev, _⟩ => by rw [ev, hps]; rfl) fun cdv A outer s H vs Q E hr hg ⟨F, ns, a, e, ev, hS, pr⟩ => ?_
  subst ev
  obtain ⟨κ, w', G', h, hw⟩ := hb cdv A outer s H E ns hr hg
  have hl : 1 ≤ N.length := by
    have h1 := congrArg List.length S.pre
    rw [List.length_take] at h1
    omega
  exact ⟨_, PSs.nox h, prom_end (at_start (Args0.cons good_scr (fun _ => ⟨fun _ h => h, a, rfl, hS⟩) .nil) e.ex (PoolOk.none e.tab) hl) pr hw⟩
theorem Fun.bodyLaw {k : Nat} {x qual : Str} {st : Stmt} {f : Addr} {fd : FuncData} {N ps : List Str} (Fn : Fun K x qual st f fd) (S : FnScope N ps (defScope st)) (hps : ps.length = 1)
    (hb : ∀ (cdv : Value) (A : Around) (outer : List PySem.Env) (s : Shared) (H : Hp) (E : XK) (ns : List Int), Room k (A.deeper (envOfC qual (defScope st) s.heap.objs.size f cdv)) → A.guards = some [] →
      ∃ (κ : Type) (w' : WS κ Bool) (G' : κ → Env), DSs (cxOf CX P w K mg base N qual (defScope st) f cdv A outer s H E).nox none (G0 [scr K ns] N.length) (nrm fun b : Bool => fro b) (defBody st) w' G' ∧ w' (fun _ => False) (fun b => b = true)) : FnG P w K mg base CX (k + 1) f fd ps (spLaw K) := by
  refine FnG.body Fn S (fun vs H Q E ⟨a, ns, ev, _⟩ => by rw [ev, hps]; rfl) fun cdv A outer s H vs Q E hr hg ⟨a, ns, ev, hS, _, hT, q⟩ => ?_
  subst ev
  obtain ⟨κ, w', G', h, hw⟩ := hb cdv A outer s H E ns hr hg
  have hl : 1 ≤ N.length := by
    have h1 := congrArg List.length S.pre
    rw [List.length_take] at h1
    omega
  obtain ⟨F, eF, tF, sF⟩ := cutT hT
  refine ⟨_, PSs.nox h, prom_end (wr := fun Pr => w' (fun _ => False) Pr) (at_start (Args0.cons good_scr (fun _ => ⟨fun _ h => h, a, rfl, sF hS⟩) .nil) eF (PoolOk.none tF) hl) ⟨fun b => b = true, hw, fun r v F' H' S hr2 _ _ _ hb _ => ?_⟩ fun Pr hp => hp⟩
  subst hr2
  cases hb.2
  exact q H'
end
/-- the end of a law whose def promises spLaw; tr: code objects, their tables, the names of what the tables hold -/
abbrev tabC (tr : List (Addr × Addr × Str)) : TabC := ⟨tr.map fun t => (t.2.1, t.2.2)⟩
theorem law_go {P : Program} {w : World} {K : Fr} {mg mb : Str → Option Value} {CX : CXT} {k : Nat} {fa a : Addr} {fd : FuncData} {x : Str} {s1 : Shared} {vs : List Value} {ns : List Int} (tr : List (Addr × Addr × Str))
    (KX : K.In s1.heap) (hns : s1.heap.Ns mainGlobals mg) (hb : s1.heap.Ns builtinsNs mb) (hbb : ∀ x : Str, x ≠ "__name__" → mb x = bootBuiltins x) (hlim : s1.heap.NoLimit) (hg : s1.gens = #[])
    (hbm : ∃ (bm : Addr) (ob : Obj), mg "__builtins__" = some (.ref bm) ∧ bm ≠ builtinsNs ∧ s1.heap.get? bm = some ob ∧ ob.cls = .type "module" ∧ ob.dict = some builtinsNs ∧ ob.data = .plain)
    (htr : ∀ t ∈ tr, s1.heap.get? t.2.1 = some (PySem.W.tabObj #[]) ∧ K.lookup t.2.1 = none ∧ PySem.W.CodeHd s1.heap t.1 t.2.1)
    (ha : s1.heap.get? a = some { cls := .type "list", data := .seq vs.toArray }) (hi : IntsAre vs ns) (hl : ns.length ≤ 63) (hr : Room k callerA)
    (FG : ∀ base : Heap, K.In base → base.Ns mainGlobals mg → (∀ t ∈ tr, LamX.TabB base mg t.1 t.2.1) → FnG P w K mg base CX k fa fd [x] (@spLaw (tabC tr) K)) (hbind : ∀ (s : Shared) (u : Value), BindsTo s fd ⟨[u], []⟩ [(x, u)])
    (hCX : ∀ H e s', CX [] H s1 (fun _ _ _ => False) e s' → False) :
    codeAny (model P w) callerA (.call (.ref fa) ⟨[.ref a], []⟩) (fun r s' => r = .ok (.ret (.bool true)) ∧ OldK s1.heap s'.heap ∧ s'.os = s1.os ∧ AllBare s'.gens) s1 := by
  classical
  have rel : Vals (ns.map V.int) vs := vals_ints hi
  have lv := hi.length
  have line : ns.length ≤ sizeLine := Nat.le_trans hl (by decide)
  let isT : Addr → Prop := fun b => ∃ t ∈ tr, b = t.2.1
  have tO : ∀ {b}, isT b → s1.heap.get? b = some (PySem.W.tabObj #[]) := fun {b} ⟨t, ht, e⟩ => by rw [e]; exact (htr t ht).1
  have tK : ∀ {b}, isT b → K.lookup b = none := fun {b} ⟨t, ht, e⟩ => by rw [e]; exact (htr t ht).2.1
  have aT : ¬ isT a := fun z => by
    have q := tO z
    rw [ha] at q
    have q' := congrArg Obj.data (Option.some.inj q)
    cases q'
  -- once H is chosen, with the script and the tables alone in it
  have core : ∀ H : Hp, (∀ b u, H b = some u → (b = a ∧ ∃ o xs, u = .frz o (.lst xs)) ∨ (isT b ∧ u = .tbl #[])) → (∀ b, isT b → H b = some (.tbl #[])) → SqL K H a (ns.map V.int) → HOk P w H s1.heap → (H a ≠ none → K.lookup a = none) →
      codeAny (model P w) callerA (.call (.ref fa) ⟨[.ref a], []⟩) (fun r s' => r = .ok (.ret (.bool true)) ∧ OldK s1.heap s'.heap ∧ s'.os = s1.os ∧ AllBare s'.gens) s1 := by
    intro H only hTT hS ok hK
    have plainFree : ∀ {b : Addr} {o : Obj}, s1.heap.get? b = some o → (∀ vs n, o.data ≠ .seq vs n) → o.data ≠ .fields #[] → H b = none := fun {b o} e n1 n2 => by
      cases q : H b with
      | none => rfl
      | some u =>
        rcases only b u q with ⟨z, _⟩ | ⟨z, _⟩
        · rw [z, ha] at e
          cases e
          exact (n1 _ _ rfl).elim
        · rw [tO z] at e
          cases e
          exact (n2 rfl).elim
    have dictFree : ∀ {b : Addr} {o : Obj} {es : Array DictEntry} {ep : Nat}, s1.heap.get? b = some o → o.data = .dict es ep → H b = none := fun {b o es ep} e d => plainFree e (fun vs n z => by rw [d] at z; cases z) (fun z => by rw [d] at z; cases z)
    have nsB : ∀ {b : Addr} {m : Str → Option Value}, s1.heap.Ns b m → (hidT s1.heap H).Ns b m := fun {b m} ⟨o, es, ep, e, d, r⟩ => ⟨o, es, ep, hidT_get e (dictFree e d), d, r⟩
    have kB : K.In (hidT s1.heap H) := fun b o e => hidT_get (KX b o e) (by
      cases q : H b with
      | none => rfl
      | some u =>
        rcases only b u q with ⟨z, _⟩ | ⟨z, _⟩
        · rw [z] at q e
          rw [hK (by rw [q]; simp)] at e; cases e
        · rw [tK z] at e; cases e)
    have hM : Mod K mg (hidT s1.heap H) := ⟨kB, nsB hns, ⟨mb, nsB hb, hbb⟩, hlim.elim fun mc hh => ⟨mc, nsB hh.1, hh.2⟩⟩
    have e0 : Env0 P w K mg (hidT s1.heap H) callerA [] s1 H := by
      refine ⟨rfl, hM, fun b o e => of_hidT e, Nat.le_of_eq (hidT_size _ _), trivial, fun b hb => ?_, ok, .of_eq hg⟩
      cases hb
    have tB : ∀ t ∈ tr, LamX.TabB (hidT s1.heap H) mg t.1 t.2.1 := fun t ht => by
      obtain ⟨t1, t2, t3⟩ := htr t ht
      obtain ⟨o, us, file, tf, flags, tg, inF, text, tt, e1, r1, r2, r3, rr⟩ := t3
      obtain ⟨bm, ob, b1, b2, b3, b4, b5, b6⟩ := hbm
      have notT : bm ≠ t.2.1 := fun z => by
        rw [z, t1] at b3
        cases b3; cases b6
      refine ⟨⟨o, us, file, tf, flags, tg, inF, text, tt, hidT_get e1 (plainFree e1 (fun vs n z => ?_) fun z => ?_), r1, r2, r3, rr⟩, ⟨bm, ob, b1, b2, fun z => ?_, notT, hidT_get b3 (plainFree b3 (fun vs n z => ?_) fun z => ?_), b4, b5, b6⟩, fun z => ?_⟩
      · rw [r2] at z; cases z
      · rw [r2] at z; cases z; simp at r3
      · obtain ⟨og, es, ep, eg, dg, _⟩ := hns
        rw [z, eg] at b3
        cases b3
        rw [dg] at b6; cases b6
      · rw [b6] at z; cases z
      · rw [b6] at z; cases z
      · obtain ⟨og, es, ep, eg, dg, _⟩ := hns
        rw [z, t1] at eg
        cases eg
        cases dg
    have tabs : ∀ t ∈ (tabC tr).tb, H t.1 = some (.tbl #[]) := fun t ht => by
      obtain ⟨u, hu, rfl⟩ := List.mem_map.mp ht
      exact hTT _ ⟨u, hu, rfl⟩
    refine codeAny_mono ((FG _ kB (nsB hns) tB).go callerA [] s1 H ⟨[.ref a], []⟩ [.ref a] [.ref a] (fun v _ => v = .bl true) (fun _ _ _ => False) hr rfl e0 (hbind s1 (.ref a)) (.cons rfl .nil) ⟨a, ns, rfl, hS, hl, tabs, fun _ => rfl⟩) fun r s' h => ?_
    match r, h with
    | .error e, h => exact (hCX H e s' h).elim
    | .ok (.ret u), h =>
      obtain ⟨v, H', os, bare, uu, hok', rv, q⟩ := h
      have q' : v = .bl true := q
      subst q'
      cases rv
      have stay : ∀ b o, ¬ isT b → s1.heap.get? b = some o → s'.heap.get? b = some o := fun b o nb e => by
        cases q : H b with
        | none => exact uu.keep b o e q (fun z => nomatch z) (fun z => nomatch z)
        | some u =>
          rcases only b u q with ⟨_, ob, xs, eu⟩ | ⟨z, _⟩
          · subst eu
            have z2 := uu.frzs b ob _ q
            have g1 := (ok b _ q).1
            have g2 := (hok' b _ z2).1
            rw [e] at g1; cases g1
            exact g2
          · exact (nb z).elim
      have grown : ∀ b, isT b → ∃ more : Array Value, s'.heap.get? b = some { cls := .none, data := .fields more } := fun b hb => by
        obtain ⟨more, z⟩ := uu.tbls b #[] (hTT b hb)
        exact ⟨_, hok' b _ z⟩
      refine ⟨rfl, ⟨fun b o e => ?_, fun b o e => ?_⟩, os, bare⟩
      · by_cases hb : isT b
        · obtain ⟨more, hm⟩ := grown b hb
          obtain ⟨t, ht, z⟩ := hb
          subst z
          have w := htr t ht
          rw [w.1] at e
          cases e
          refine .inr (.inl ⟨(w.2.2.tab w.1).isCodeTable, rfl, #[], more, rfl, ?_⟩)
          rw [Array.empty_append]; exact hm
        · exact .inl (stay b o hb e)
      · by_cases hb : isT b
        · obtain ⟨more, hm⟩ := grown b hb
          exact ⟨_, hm⟩
        · exact ⟨o, stay b o hb e⟩
  cases hk : K.lookup a with
  | some o =>
    have e := KX a o hk
    rw [ha] at e
    cases e
    refine core (fun b => if isT b then some (.tbl #[]) else none) (fun b u z => ?_) (fun b hb => if_pos hb) (.inr ⟨_, vs.toArray, _, hk, rfl, rfl, rfl, by rw [List.size_toArray, lv]; exact line, by simpa using rel⟩) (fun b u z => ?_) fun z => absurd (if_neg aT) z
    · by_cases hb : isT b
      · have z' := (if_pos hb).symm.trans z
        cases z'
        exact .inr ⟨hb, rfl⟩
      · have z' := (if_neg hb).symm.trans z
        cases z'
    · by_cases hb : isT b
      · have z' := (if_pos hb).symm.trans z
        cases z'
        exact tO hb
      · have z' := (if_neg hb).symm.trans z
        cases z'
  | none =>
    refine core (fun b => if b = a then some (.frz { cls := .type "list", data := .seq vs.toArray } (.lst (ns.map V.int))) else if isT b then some (.tbl #[]) else none) (fun b u z => ?_) (fun b hb => (if_neg (show ¬ b = a from fun z => aT (z ▸ hb))).trans (if_pos hb)) (.inl (.inr ⟨_, if_pos rfl⟩)) (fun b u z => ?_) fun _ => hk
    · by_cases hb : b = a
      · have z2 := (if_pos hb).symm.trans z
        cases z2
        exact .inl ⟨hb, _, _, rfl⟩
      · have z2 := (if_neg hb).symm.trans z
        by_cases hc : isT b
        · have z' := (if_pos hc).symm.trans z2
          cases z'
          exact .inr ⟨hc, rfl⟩
        · have z' := (if_neg hc).symm.trans z2
          cases z'
    · by_cases hb : b = a
      · have z2 := (if_pos hb).symm.trans z
        cases z2
        subst hb
        exact ⟨ha, by rw [List.length_map]; exact line, vs, _, rel, ha⟩
      · have z2 := (if_neg hb).symm.trans z
        by_cases hc : isT b
        · have z' := (if_pos hc).symm.trans z2
          cases z'
          exact tO hc
        · have z' := (if_neg hc).symm.trans z2
          cases z'
/-- what all_mk tells of a law -/
def LawT (P : Program) (w : World) (K : Fr) (mg : Str → Option Value) (k : Nat) (x : Str) (fa : Addr) (h : Heap) (CX : CXT) : Prop :=
  ∃ (tr : List (Addr × Addr × Str)) (fd : FuncData), (∀ t ∈ tr, h.get? t.2.1 = some (PySem.W.tabObj #[]) ∧ K.lookup t.2.1 = none ∧ PySem.W.CodeHd h t.1 t.2.1) ∧ (∀ (s : Shared) (u : Value), BindsTo s fd ⟨[u], []⟩ [(x, u)]) ∧
    ∀ base : Heap, K.In base → base.Ns mainGlobals mg → (∀ t ∈ tr, LamX.TabB base mg t.1 t.2.1) → FnG P w K mg base CX k fa fd [x] (@spLaw (tabC tr) K)
theorem walkG {l : PySem.W.OpenLaw} {k : Nat} {q : Program} {loose : List Str} {XP : (Str → Option Value) → Heap → Prop} {YP : World → Heap → Prop} {d : DefRec} {K : Params → Fr} {CX : World → CXT} {x : Str}
    (hn : l.most = some 63) (hdf : d.params.defaults = []) (hr : Room k callerA) (hY : ∀ (w : World) (h : Heap), YP w h → (K w.params).In h)
    (FF : ∀ (w : World) (mg : Str → Option Value) (fa : Addr) (h : Heap), YP w h → (K w.params).In h → h.Ns mainGlobals mg → mg d.name = some (.ref fa) → LawT l.prog w (K w.params) mg k x fa h (CX w))
    (hCX : ∀ (w : World) (H : Hp) (s : Shared) (e : Value) (s' : Shared), CX w [] H s (fun _ _ _ => False) e s' → False) :
    PySem.W.WalkO q loose XP YP l.row.toRowW d [] (fun f vs => PySem.call f vs) := by
  refine Att.attach_callB hn hdf fun w s0 s1 mg mb fa o pm cd doc a vs ns G Y ho hd hcd hmg hobj hints hlen _ hg => ?_
  have KX := hY w _ Y
  obtain ⟨tr, fd, htr, hb, hF⟩ := FF w mg fa _ Y KX G.T.g hmg
  exact law_go tr KX G.T.g G.T.b G.T.builtins G.T.nolimit hg G.T.bmain htr hobj hints hlen hr hF hb fun H e s' => hCX w H s1 e s'
end Dm

set_option Elab.async false
set_option linter.all false
set_option maxRecDepth 100000
set_option maxHeartbeats 2000000
/-! Dm: part J: comprehensions of two clauses; a list's pop on the way to another list. -/
namespace Dm
open PySem L2
variable [TabC]
section
variable {X : Cx} {pl : Pl} {G : Env} {α β γ : Type} [Enc α] [Enc β] [Enc γ]
/-- the parts that each item makes, one behind another -/
def wCat {α β : Type} : List α → (α → W (List β)) → (List β → Prop) → Prop
  | [], _, P => P []
  | a :: as, f, P => f a fun xs => wCat as f fun ys => P (xs ++ ys)
/-- the body of two clauses -/
def wTwo {α β γ : Type} (wt : α → W Bool) (wi : α → W (List β)) (wt1 : α → β → W Bool) (we : α → β → W γ) (a : α) : W (List γ) := fun k => wt a fun c => wIf c (wi a fun bs => bs.length ≤ 300 ∧ wFil bs (wt1 a) (we a) k) (k [])
theorem lc2_go {s : St} {H : Hp} {Q : VK} {wi : W (List α)} {gs : α → Env} {wt : α → W Bool} {wi1 : α → W (List β)} {gs1 : α → β → Env} {wt1 : α → β → W Bool} {we : α → β → W γ} {vs ts vs1 ts1 : List Nat} (hts : ∀ i, i ∈ ts → i ∈ vs) (hgs : ∀ a, Sub (gs a) (wipeE G vs)) (hts1 : ∀ i, i ∈ ts1 → i ∈ vs1) (hgs1 : ∀ a b, Sub (gs1 a b) (wipeE (gs a) vs1))
    (h : tX pl G (fun b : List γ => own b) (fun P => wi fun as => as.length ≤ 300 ∧ wCat as (wTwo wt wi1 wt1 we) P) s H Q) :
    tLc2 (tI pl G wi) (tG pl (wipeE G vs) ts gs) (fun s H Q => ∃ a, tT pl (gs a) (wt a) s H Q) (fun s H R => ∃ a, tI pl (gs a) (wi1 a) s H R) (fun v s H Q => ∃ a, tG pl (wipeE (gs a) vs1) ts1 (gs1 a) v s H Q) (fun s H Q => ∃ p : α × β, tT pl (gs1 p.1 p.2) (wt1 p.1 p.2) s H Q) (fun s H Q => ∃ p : α × β, tX pl (gs1 p.1 p.2) (fun b : γ => fro b) (we p.1 p.2) s H Q) vs vs1 s H Q := by
  obtain ⟨F, fp, at_, P, w, K⟩ := h
  refine ⟨F, fp, at_, _, w, fun as F1 H1 fp1 J ⟨ln, p⟩ a1 g1 it D hD => ?_⟩
  have npD : ¬ isPool pl D := a1.nopl hD
  have nD : New F1 H1 F1 (upd H1 D (.lst [])) := New.own a1.ex hD
  have aW := (a1.new nD).inC vs
  let Inv := fun (i : Nat) (H2 : Hp) => ∃ F2 fp2 bs acc, At pl (wipeE G vs) F2 H2 (wipe s vs) fp2 ∧ Go pl F1 H1 (fun i q => fp1 i q ∧ i ∉ vs) F2 H2 fp2 ∧ H2 D = some (.lst acc) ∧ F2 D = none ∧ (∀ i, ¬ fp2 i D) ∧ HasAll F2 acc (bs.map Enc.enc) ∧ wCat (as.drop i) (wTwo wt wi1 wt1 we) (fun cs => P (bs ++ cs)) ∧ bs.length ≤ 300 * i
  refine ⟨fun i m H2 => i + m = as.length ∧ Inv i H2, ⟨as.length, by omega, F1, _, [], [], aW, (Go.new nD), upd_same, a1.fnone hD, fun i z => a1.nofp hD i z.1, .nil, p, Nat.zero_le _⟩, fun i m H2 ⟨em, F2, fp2, bs, acc, a2, g2, hD2, fD, nfD, ha, wf, lb⟩ => ?_⟩
  by_cases hi : i < as.length
  · refine .inr ?_
    obtain ⟨a, ea⟩ : ∃ a, as[i]? = some a := ⟨as[i], List.getElem?_eq_getElem hi⟩
    have ed : as.drop i = a :: as.drop (i + 1) := by
      rw [List.drop_eq_getElem_cons hi]
      rw [List.getElem?_eq_getElem hi] at ea
      cases ea; rfl
    rw [ed] at wf
    obtain ⟨go, yl⟩ := it.turn F2 H2 i a g2.exF a2.ex ea
    refine ⟨go, Inv (i + 1), fun H' hI => ⟨m - 1, by omega, by omega, hI⟩, fun x H3 hy => ?_⟩
    obtain ⟨F3, n3, hx⟩ := yl x H3 hy
    have tD : H2 D ≠ none := by rw [hD2]; simp
    refine ⟨F3, fp2, a, a2.new n3, hx, fun s3 fp3 a3 l3 off => ⟨(off vs hts).trans (wipe_wipe vs vs fun _ h => h), a, F3, fp3, a3, _, wf, fun b F4 H4 fp4 wb a4 g4 => ?_⟩⟩
    have hw : wipe s3 vs = wipe s vs := (off vs hts).trans (wipe_wipe vs vs fun _ h => h)
    have g3 : Go pl F2 H2 fp2 F3 H3 fp3 := (Go.new n3).trans (Go.less l3)
    have nD3 : ∀ i, ¬ fp3 i D := fun i z => nfD i (l3 i D z)
    have k3 : H3 D ≠ none := by rw [n3.same tD]; exact tD
    -- behind the outer turn
    have back : ∀ {F5 H5 : Hp} {fp5 : Foot}, At pl (gs a) F5 H5 s3 fp5 → Go pl F1 H1 (fun i q => fp1 i q ∧ i ∉ vs) F5 H5 fp5 → (∀ i, ¬ fp5 i D) → ∃ fp6, At pl (wipeE G vs) F5 H5 (wipe s vs) fp6 ∧ Go pl F1 H1 (fun i q => fp1 i q ∧ i ∉ vs) F5 H5 fp6 ∧ (∀ i, ¬ fp6 i D) := fun {F5 H5 fp5} a5 g5 n5 => by
      obtain ⟨fp6, a6, l6⟩ := a5.sub (hgs a)
      refine ⟨fp6, a6.conv (fun i A e => ?_) ?_, g5.trans (Go.less l6), fun i z => n5 i (l6 i D z)⟩
      · obtain ⟨_, ni⟩ := wipeE_some e
        rw [wipe_out' ni, ← wipe_out' (s := s3) ni, hw, wipe_out' ni]
      · rw [← hw, wipe_length]
    have g24 : Go pl F1 H1 (fun i q => fp1 i q ∧ i ∉ vs) F4 H4 fp4 := g2.trans (g3.trans g4)
    have k4 := g4.keep D k3 nD3 npD
    have nD4 : ∀ i, ¬ fp4 i D := fun i z => (g4.foot i D z).elim (fun ⟨j, y⟩ => nD3 j y) k3
    have hD4 : H4 D = some (.lst acc) := k4.1.trans ((n3.same tD).trans hD2)
    have fD4 : F4 D = none := k4.2 (n3.keepN tD fD)
    have ha4 : HasAll F4 acc (bs.map Enc.enc) := (ha.mono n3.exF).mono g4.exF
    cases b with
    | false =>
      refine (if_neg Bool.false_ne_true).mpr ?_
      obtain ⟨fp6, a6, g6, n6⟩ := back a4 g24 nD4
      exact ⟨F4, fp6, bs, acc, a6, g6, hD4, fD4, n6, ha4, by have := wb.2 rfl; simpa using this, by omega⟩
    | true =>
      refine (if_pos rfl).mpr ?_
      refine ⟨a, F4, fp4, a4, _, wb.1 rfl, fun as1 F5 H5 fp5 J1 ⟨ln1, p1⟩ a5 g5 it1 => ?_⟩
      have tD4 : H4 D ≠ none := by rw [hD4]; simp
      have k5 := g5.keep D tD4 nD4 npD
      have nD5 : ∀ i, ¬ fp5 i D := fun i z => (g5.foot i D z).elim (fun ⟨j, y⟩ => nD4 j y) tD4
      have g15 : Go pl F1 H1 (fun i q => fp1 i q ∧ i ∉ vs) F5 H5 fp5 := g24.trans g5
      have aV := a5.inC vs1
      let Inv1 := fun (j : Nat) (H6 : Hp) => ∃ F6 fp6 cs acc1, At pl (wipeE (gs a) vs1) F6 H6 (wipe s3 vs1) fp6 ∧ Go pl F5 (fun q => if q = D then none else H5 q) (fun i q => fp5 i q ∧ i ∉ vs1) F6 H6 fp6 ∧ H6 D = some (.lst acc1) ∧ F6 D = none ∧ (∀ i, ¬ fp6 i D) ∧ HasAll F6 acc1 ((bs ++ cs).map Enc.enc) ∧ wFil (as1.drop j) (wt1 a) (we a) (fun es => wCat (as.drop (i + 1)) (wTwo wt wi1 wt1 we) fun ys => P ((bs ++ (cs ++ es)) ++ ys)) ∧ cs.length ≤ j
      have gcut : Go pl F5 (fun q => if q = D then none else H5 q) (fun i q => fp5 i q ∧ i ∉ vs1) F5 H5 (fun i q => fp5 i q ∧ i ∉ vs1) := ⟨Ex.refl _, fun q h _ _ => by
        have hq : q ≠ D := fun z => h (if_pos z)
        exact ⟨(if_neg hq).symm, fun z => z⟩, fun i q m => .inl ⟨i, m⟩, fun q h => by
        have hq : q ≠ D := fun z => h (if_pos z)
        rw [if_neg hq] at h; exact h⟩
      refine ⟨fun j k H6 => j + k = as1.length ∧ Inv1 j H6, ⟨as1.length, by omega, F5, _, [], acc, aV, gcut, k5.1.trans hD4, k5.2 fD4, fun i z => nD5 i z.1, by rw [List.append_nil]; exact ha4.mono g5.exF, by simp only [List.nil_append, List.drop_zero, List.append_assoc]; simpa only [List.append_assoc] using p1, Nat.le_refl _⟩, fun j k H6 ⟨ek, F6, fp6, cs, acc1, a6, g6, hD6, fD6, nD6, ha6, wf6, lc⟩ => ?_⟩
      -- from the inner walk's state to the outer one's
      have outGo : ∀ {F7 H7 : Hp} {fp7 : Foot}, Go pl F5 (fun q => if q = D then none else H5 q) fp5 F7 H7 fp7 → Go pl F1 H1 (fun i q => fp1 i q ∧ i ∉ vs) F7 H7 fp7 := fun {F7 H7 fp7} g => by
        refine ⟨g15.exF.trans g.exF, fun q hq n np => ?_, fun i q m => ?_, fun q hq => ?_⟩
        · have hqD : q ≠ D := fun z => hq (by rw [z]; exact hD)
          have k1 := g15.keep q hq n np
          have n5 : ∀ i, ¬ fp5 i q := fun i m => (g15.foot i q m).elim (fun ⟨j, y⟩ => n j y) hq
          have k2 := g.keep q (by rw [if_neg hqD, k1.1]; exact hq) n5 np
          rw [if_neg hqD] at k2
          exact ⟨k2.1.trans k1.1, fun z => k2.2 (k1.2 z)⟩
        · rcases g.foot i q m with ⟨j, y⟩ | y
          · exact g15.foot j q y
          · by_cases hqD : q = D
            · rw [hqD]; exact .inr hD
            · rw [if_neg hqD] at y; exact .inr (g15.back y)
        · have hqD : q ≠ D := fun z => hq (by rw [z]; exact hD)
          exact g.grow q (by rw [if_neg hqD]; exact g15.grow q hq)
      by_cases hj : j < as1.length
      · refine .inr ?_
        obtain ⟨b, eb⟩ : ∃ b, as1[j]? = some b := ⟨as1[j], List.getElem?_eq_getElem hj⟩
        have ed1 : as1.drop j = b :: as1.drop (j + 1) := by
          rw [List.drop_eq_getElem_cons hj]
          rw [List.getElem?_eq_getElem hj] at eb
          cases eb; rfl
        rw [ed1] at wf6
        obtain ⟨go1, yl1⟩ := it1.turn F6 H6 j b g6.exF a6.ex eb
        refine ⟨go1, Inv1 (j + 1), fun H' hI => ⟨k - 1, by omega, by omega, hI⟩, fun x1 H7 hy1 => ?_⟩
        obtain ⟨F7, n7, hx1⟩ := yl1 x1 H7 hy1
        have tD6 : H6 D ≠ none := by rw [hD6]; simp
        refine ⟨a, F7, fp6, b, a6.new n7, hx1, fun s8 fp8 a8 l8 off8 => ⟨(off8 vs1 hts1).trans (wipe_wipe vs1 vs1 fun _ h => h), (a, b), F7, fp8, a8, _, wf6, fun c F9 H9 fp9 wc a9 g9 => ?_⟩⟩
        have hw8 : wipe s8 vs1 = wipe s3 vs1 := (off8 vs1 hts1).trans (wipe_wipe vs1 vs1 fun _ h => h)
        have g8 : Go pl F6 H6 fp6 F7 H7 fp8 := (Go.new n7).trans (Go.less l8)
        have nD8 : ∀ i, ¬ fp8 i D := fun i z => nD6 i (l8 i D z)
        have k7 : H7 D ≠ none := by rw [n7.same tD6]; exact tD6
        have back1 : ∀ {Fa Ha : Hp} {fpa : Foot}, At pl (gs1 a b) Fa Ha s8 fpa → Go pl F7 H7 fp8 Fa Ha fpa → ∃ fpb, At pl (wipeE (gs a) vs1) Fa Ha (wipe s3 vs1) fpb ∧ Go pl F5 (fun q => if q = D then none else H5 q) (fun i q => fp5 i q ∧ i ∉ vs1) Fa Ha fpb ∧ (∀ i, ¬ fpb i D) ∧ Ha D = some (.lst acc1) ∧ Fa D = none ∧ HasAll Fa acc1 ((bs ++ cs).map Enc.enc) := fun {Fa Ha fpa} aa ga => by
          obtain ⟨fpb, ab, lb⟩ := aa.sub (hgs1 a b)
          have ka := ga.keep D k7 nD8 npD
          refine ⟨fpb, ab.conv (fun i A e => ?_) ?_, g6.trans (g8.trans (ga.trans (Go.less lb))), fun i z => ?_, ka.1.trans ((n7.same tD6).trans hD6), ka.2 (n7.keepN tD6 fD6), (ha6.mono n7.exF).mono ga.exF⟩
          · obtain ⟨_, ni⟩ := wipeE_some e
            rw [wipe_out' ni, ← wipe_out' (s := s8) ni, hw8, wipe_out' ni]
          · rw [← hw8, wipe_length]
          · exact (ga.foot i D (lb i D z)).elim (fun ⟨j, y⟩ => nD8 j y) k7
        cases c with
        | true =>
          refine (if_pos rfl).mpr ?_
          refine ⟨(a, b), F9, fp9, a9, _, wc.1 rfl, fun e y Fa Ha fpa Sa we' aa ga ba _ => ?_⟩
          obtain ⟨fpb, ab, gb, nb, eb', fb, hb⟩ := back1 aa (g9.trans ga)
          have la := hb.length
          rw [List.length_map, List.length_append] at la
          refine ⟨acc1, eb', lineLt (by omega), Fa, fpb, cs ++ [e], acc1 ++ [y], ab.upd fb nb npD, gb.upd (if_pos rfl), upd_same, fb, nb, ?_, ?_, by rw [List.length_append]; show cs.length + 1 ≤ j + 1; omega⟩
          · rw [← List.append_assoc, List.map_append]
            exact hb.append (.cons ba.2 .nil)
          · simp only [List.append_assoc, List.singleton_append] at we' ⊢
            exact we'
        | false =>
          refine (if_neg Bool.false_ne_true).mpr ?_
          obtain ⟨fpb, ab, gb, nb, eb', fb, hb⟩ := back1 a9 g9
          exact ⟨F9, fpb, cs, acc1, ab, gb, eb', fb, nb, hb, wc.2 rfl, by omega⟩
      · refine .inl ?_
        have e : j = as1.length := by omega
        refine ⟨by rw [e]; exact it1.stop F6 H6 g6.exF a6.ex, ?_⟩
        rw [e, List.drop_length] at wf6
        have wf7 : wCat (as.drop (i + 1)) (wTwo wt wi1 wt1 we) fun ys => P ((bs ++ (cs ++ [])) ++ ys) := wf6
        rw [List.append_nil] at wf7
        -- the second clause's names are as they were
        have aC : At pl (gs a) F5 (fun q => if q = D then none else H5 q) s3 fp5 := ⟨fun q o h => by
            have hq : q ≠ D := fun z => by rw [z, k5.2 fD4] at h; cases h
            rw [if_neg hq]; exact a5.ex q o h, a5.len, fun i A h => by
            obtain ⟨gd, v, hv, hA⟩ := a5.sl i A h
            exact ⟨gd, v, hv, gd.frame hA (Ex.refl _) fun q m => ⟨(gd.own hA q m).1, if_neg fun z => nD5 i (by rw [← z]; exact m)⟩⟩, a5.dis, a5.out, a5.pool.frame (Ex.refl _) fun q m => ⟨(a5.pool.there m).1, if_neg fun z => npD (by rw [← z]; exact m)⟩, a5.pdis⟩
        obtain ⟨fp7, a7, g7, l7⟩ := aC.unwipe a6 g6
        obtain ⟨fp8, a8, g8, n8⟩ := back a7 (outGo g7) (fun i m => (l7 i D m).elim (fun y => nD5 i y) fun y => nD6 i y)
        refine ⟨F6, fp8, bs ++ cs, acc1, a8, g8, hD6, fD6, n8, ha6, wf7, by rw [List.length_append]; omega⟩
  · refine .inl ?_
    have e : i = as.length := by omega
    refine ⟨by rw [e]; exact it.stop F2 H2 g2.exF a2.ex, ?_⟩
    rw [e, List.drop_length] at wf
    have wf' : P (bs ++ []) := wf
    rw [List.append_nil] at wf'
    obtain ⟨fp7, a7, g7, l7⟩ := a1.unwipe a2 g2
    refine K bs (.ref D) F2 H2 fp7 (fun x => x = D) wf' a7 (g1.trans g7) ⟨D, acc, rfl, fun _ => Iff.rfl, fD, hD2, ha⟩ fun q z => ?_
    rw [z]
    exact ⟨g1.back hD, fun i m => (l7 i D m).elim (fun y => a1.nofp hD i y) fun y => nfD i y, npD⟩
theorem PI.exi {X : Cx} {tg e : Expr} {ι : Type} {t : ι → TI} (h : ∀ a, PI X tg e (t a)) : PI X tg e (fun s H R => ∃ a, t a s H R) := ⟨fun pins s σ H R I ⟨a, w⟩ => (h a).run pins s σ H R I w⟩
structure Lc2 (X : Cx) (pl : Pl) (G : Env) (elt tg iter : Expr) (ifs : List Expr) (tg1 iter1 : Expr) (ifs1 : List Expr) (scope : Scope) (vs ts vs1 ts1 : List Nat) (wi : W (List α)) (gs : α → Env) (wt : α → W Bool) (wi1 : α → W (List β)) (gs1 : α → β → Env) (wt1 : α → β → W Bool) (we : α → β → W γ) : Prop where
  it : DI X pl G tg iter wi
  ok : ∃ own' : List (Str × Nat), BlkOk X.N X.env.scope scope own' ∧ own'.map (·.2) = vs
  hv : ∀ i, i ∈ vs1 → i ∈ vs
  tgt : ∀ s H C cl fp, DG (Blk X scope s H C cl fp) pl (wipeE G vs) tg ts gs
  test : ∀ a s H C cl fp, DTs (Blk X scope s H C cl fp) pl (gs a) ifs (wt a)
  it1 : ∀ a s H C cl fp, DI (Blk X scope s H C cl fp) pl (gs a) tg1 iter1 (wi1 a)
  tgt1 : ∀ a s H C cl fp, DG (Blk X scope s H C cl fp) pl (wipeE (gs a) vs1) tg1 ts1 (gs1 a)
  test1 : ∀ a b s H C cl fp, DTs (Blk X scope s H C cl fp) pl (gs1 a b) ifs1 (wt1 a b)
  item : ∀ a b s H C cl fp, DE (Blk X scope s H C cl fp) pl (gs1 a b) elt (we a b)
  hts : ∀ i, i ∈ ts → i ∈ vs
  hgs : ∀ a, Sub (gs a) (wipeE G vs)
  hts1 : ∀ i, i ∈ ts1 → i ∈ vs1
  hgs1 : ∀ a b, Sub (gs1 a b) (wipeE (gs a) vs1)
  hs : ∀ x, foldedSetIterable iter X.env x = pure x
  hs1 : ∀ env x, foldedSetIterable iter1 env x = pure x
theorem dx_lc2 {elt tg iter : Expr} {ifs : List Expr} {tg1 iter1 : Expr} {ifs1 : List Expr} {scope : Scope} {vs ts vs1 ts1 : List Nat} {wi : W (List α)} {gs : α → Env} {wt : α → W Bool} {wi1 : α → W (List β)} {gs1 : α → β → Env} {wt1 : α → β → W Bool} {we : α → β → W γ} {pos : Pos} (c : Lc2 X pl G elt tg iter ifs tg1 iter1 ifs1 scope vs ts vs1 ts1 wi gs wt wi1 gs1 wt1 we) (hc : X.calm = true) (hN : X.N.Nodup) :
    DX X pl G (.ListComp elt [⟨tg, iter, ifs, 0⟩, ⟨tg1, iter1, ifs1, 0⟩] scope pos) (fun b : List γ => own b) (fun P => wi fun as => as.length ≤ 300 ∧ wCat as (wTwo wt wi1 wt1 we) P) := by
  obtain ⟨own', ok, rfl⟩ := c.ok
  exact PE.wk (pe_lc2 hc hN c.it ok c.hv c.tgt (fun s H C cl fp => PTs.exi fun a => c.test a s H C cl fp) (fun s H C cl fp => PI.exi fun a => c.it1 a s H C cl fp) (fun s H C cl fp => PG.exi fun a => c.tgt1 a s H C cl fp) (fun s H C cl fp => PTs.exi fun p : α × β => c.test1 p.1 p.2 s H C cl fp) (fun s H C cl fp => PE.exi fun p : α × β => c.item p.1 p.2 s H C cl fp) c.hs c.hs1) fun s H Q h => lc2_go c.hts c.hgs c.hts1 c.hgs1 h
theorem ds_setLc2 {ρ : Type} {B : Rt ρ} (i : Nat) {x : Str} {elt tg iter : Expr} {ifs : List Expr} {tg1 iter1 : Expr} {ifs1 : List Expr} {scope : Scope} {vs ts vs1 ts1 : List Nat} {wi : W (List α)} {gs : α → Env} {wt : α → W Bool} {wi1 : α → W (List β)} {gs1 : α → β → Env} {wt1 : α → β → W Bool} {we : α → β → W γ} {pos spos py : Pos} (c : Lc2 X pl G elt tg iter ifs tg1 iter1 ifs1 scope vs ts vs1 ts1 wi gs wt wi1 gs1 wt1 we) (hc : X.calm = true) (hN : X.N.Nodup) (hl : Nat.blt i G.length = true := by rfl) (hi : X.N[i]? = some x := by rfl) (hyl : X.env.scope.names.lookup x = some .local := by rfl)
    (hsw : swapsWith (.ListComp elt [⟨tg, iter, ifs, 0⟩, ⟨tg1, iter1, ifs1, 0⟩] scope pos) (some (.Name x py)) spos.line X.env = pure true := by exact sw_true rfl rfl rfl (by decide +kernel)) :
    DS X pl G B (.Assign [.Name x py] (.ListComp elt [⟨tg, iter, ifs, 0⟩, ⟨tg1, iter1, ifs1, 0⟩] scope pos) spos) (fun nx _ => wi fun as => as.length ≤ 300 ∧ wCat as (wTwo wt wi1 wt1 we) nx) (fun a : List γ => G.set i (some (own a))) := by
  obtain ⟨own', ok, rfl⟩ := c.ok
  exact PS.wk (ps_setLc2 hc hN hi hyl hsw c.it ok c.hv c.tgt (fun s H C cl fp => PTs.exi fun a => c.test a s H C cl fp) (fun s H C cl fp => PI.exi fun a => c.it1 a s H C cl fp) (fun s H C cl fp => PG.exi fun a => c.tgt1 a s H C cl fp) (fun s H C cl fp => PTs.exi fun p : α × β => c.test1 p.1 p.2 s H C cl fp) (fun s H C cl fp => PE.exi fun p : α × β => c.item p.1 p.2 s H C cl fp) c.hs c.hs1) (asg_go (fun a => good_own a) (blt_lt hl) fun s H Q z => lc2_go c.hts c.hgs c.hts1 c.hgs1 z)

theorem map_erase {α β : Type} (f : α → β) : ∀ (l : List α) (k : Nat), (l.map f).eraseIdx k = (l.eraseIdx k).map f
  | [], _ => rfl
  | _ :: _, 0 => rfl
  | a :: l, k + 1 => by
    show f a :: (l.map f).eraseIdx k = f a :: (l.eraseIdx k).map f
    rw [map_erase f l k]
/-- x.append(y.pop(e)) -/
def wPop {α : Type} (as : List α) (i : Int) (P : α → List α → Prop) : Prop := (-(2 ^ 63) ≤ i ∧ i < 2 ^ 63) ∧ ∃ k a, seqIndex? i as.length = some k ∧ as[k]? = some a ∧ P a (as.eraseIdx k)
theorem ds_appPop {ρ : Type} {B : Rt ρ} (i j : Nat) {as bs : List α} {x y : Str} {e : Expr} {w : W Int} {p ap cp q aq cq pos : Pos} (hij : i ≠ j := by decide) (he : DE X pl G e w) (h : G[i]? = some (some (own as)) := by rfl) (h2 : G[j]? = some (some (own bs)) := by rfl) (hN : X.N[i]? = some x := by rfl) (hN2 : X.N[j]? = some y := by rfl) (hv : Vis X.env.scope x := by first | exact Or.inl rfl | exact Or.inr (Or.inl rfl) | exact Or.inr (Or.inr rfl)) (hv2 : Vis X.env.scope y := by first | exact Or.inl rfl | exact Or.inr (Or.inl rfl) | exact Or.inr (Or.inr rfl)) (hd : (x == ("__debug__" : Str)) = false := by decide)
    (hcd : (x == ("__classdict__" : Str)) = false := by decide) (hd2 : (y == ("__debug__" : Str)) = false := by decide) (hcd2 : (y == ("__classdict__" : Str)) = false := by decide)
    (hb1 : attributeBase (.Name x p) "append" X.env (eval (.Name x p) X.env) = eval (.Name x p) X.env := by rfl) (hb2 : attributeBase (.Name y q) "pop" X.env (eval (.Name y q) X.env) = eval (.Name y q) X.env := by rfl)
    (hf1 : ((backTo cp (starEach [.Call (.Attribute (.Name y q) "pop" aq) [e] [] cq] X.env)).all (fun x => !x.1) && (backToKw cp (keywordEach [] X.env)).all (fun x => x.1.isSome) && decide ([Expr.Call (.Attribute (.Name y q) "pop" aq) [e] [] cq].length + ([] : List Keyword).length + (if ([] : List Keyword).isEmpty then 0 else 1) < 30)) = true := by rfl)
    (hf2 : ((backTo cq (starEach [e] X.env)).all (fun x => !x.1) && (backToKw cq (keywordEach [] X.env)).all (fun x => x.1.isSome) && decide ([e].length + ([] : List Keyword).length + (if ([] : List Keyword).isEmpty then 0 else 1) < 30)) = true := by rfl)
    (hl1 : (ap.endLine == cp.line) = true := by rfl) (hl2 : (aq.endLine == cq.line) = true := by rfl) (hs1 : starEach [.Call (.Attribute (.Name y q) "pop" aq) [e] [] cq] X.env = (false, eval (.Call (.Attribute (.Name y q) "pop" aq) [e] [] cq) X.env) :: starEach [] X.env := by rfl) (hs2 : starEach [e] X.env = (false, eval e X.env) :: starEach [] X.env := by rfl) (hp1 : (backTo cp (starEach [] X.env)).any (·.1) = false := by rfl) (hp2 : (backTo cq (starEach [] X.env)).any (·.1) = false := by rfl)
    (hsw : swapsWith (.Call (.Attribute (.Name x p) "append" ap) [.Call (.Attribute (.Name y q) "pop" aq) [e] [] cq] [] cp) none pos.line X.env = pure false := by rfl) :
    DS X pl G B (.Expr (.Call (.Attribute (.Name x p) "append" ap) [.Call (.Attribute (.Name y q) "pop" aq) [e] [] cq] [] cp) pos) (fun nx _ => w fun n => wPop bs n fun a bs' => as.length < 100000 ∧ nx (as ++ [a], bs')) (fun k : List α × List α => (G.set j (some (own k.2))).set i (some (own k.1))) :=
  PS.wk (ps_expr (pe_bm PySem.F.plainAttrs_list PySem.F.slot_list_append PySem.F.type_list_append mt_append (pe_var hN hv hd hcd) (pa_cons (pe_bm PySem.F.plainAttrs_list PySem.F.slot_list_pop PySem.F.type_list_pop mt_popAt (pe_var hN2 hv2 hd2 hcd2) (pa_cons he pa_nil hs2) hb2 hf2 hl2 hs2 hp2) pa_nil hs1) hb1 hf1 hl1 hs1 hp1) hsw) fun D s H ⟨F, fp, at_, Pn, Pr, w, K1, K2⟩ => by
    obtain ⟨_, v, hv, l, vs, rfl, hS, hF, hH, ha⟩ := at_.sl i _ h
    obtain ⟨_, v2, hv2, m, us, rfl, hS2, hF2, hH2, ha2⟩ := at_.sl j _ h2
    refine ⟨.ref l, hv, .inl ⟨rfl, _, SqL.of hH⟩, .ref m, hv2, .inl ⟨rfl, _, SqL.of hH2⟩, F, fp, at_, _, w, fun n u F1 H1 fp1 S1 ⟨⟨n1, n2⟩, k, a, hk, hka, ln, pp⟩ a1 g1 b1 _ => ?_⟩
    cases b1.2
    obtain ⟨_, v', hv', l', vs', rfl, hS', hF', hH', ha'⟩ := a1.sl i _ h
    rw [hv] at hv'; cases hv'
    obtain ⟨_, v', hv2', m', us', rfl, hS2', hF2', hH2', ha2'⟩ := a1.sl j _ h2
    rw [hv2] at hv2'; cases hv2'
    have lu := ha2'.length
    rw [List.length_map] at lu
    have lv := ha'.length
    rw [List.length_map] at lv
    obtain ⟨z, hz, hbz⟩ := ha2'.get (i := k) (d := enc a) (by rw [List.getElem?_map, hka]; rfl)
    refine ⟨m, us', n, k, z, rfl, rfl, hH2', n1, n2, by rw [lu]; exact hk, hz, ?_⟩
    have ml : l ≠ m := fun e => hij (a1.dis i j l ((hS' l).mpr rfl) (by rw [e]; exact (hS2' m).mpr rfl))
    obtain ⟨a2, g2⟩ := a1.mut (A := own (bs.eraseIdx k)) (q := m) (o := .lst (us'.eraseIdx k)) (v := .ref m) (a1.lt h2) ((hS2' m).mpr rfl) hv2 (good_own _) ⟨m, _, rfl, hS2', hF2', upd_same, by rw [← map_erase]; exact ha2'.eraseIdx k⟩
    have hl : (upd H1 m (.lst (us'.eraseIdx k))) l = some (.lst vs') := (upd_ne ml).trans hH'
    refine ⟨l, vs', z, rfl, rfl, hl, lineLt (by rw [lv]; exact ln), ?_⟩
    have h' : (G.set j (some (own (bs.eraseIdx k))))[i]? = some (some (own as)) := by rw [List.getElem?_set_ne (Ne.symm hij)]; exact h
    obtain ⟨a3, g3⟩ := a2.mut (A := own (as ++ [a])) (q := l) (o := .lst (vs' ++ [z])) (v := .ref l) (a2.lt h') ((hS' l).mpr rfl) hv (good_own _) ⟨l, _, rfl, hS', hF', upd_same, by rw [List.map_append]; exact ha'.append (.cons hbz .nil)⟩
    exact K1 (as ++ [a], bs.eraseIdx k) s F1 _ fp1 pp a3 ((g1.trans g2).trans g3)
theorem gn_nil : PGs X [] (gNs []) := pgs_nil
theorem gn_cons (i : Nat) {is : List Nat} {x : Str} {pos : Pos} {es : List Expr} (hN : X.N.Nodup) (h : PGs X es (gNs is)) (hi : X.N[i]? = some x := by rfl) (hx : Loc X.env.scope x := by first | exact Or.inl rfl | exact Or.inr rfl) (hf : X.fn x = true ∨ X.env.scope.names.lookup x = some .local := by first | exact .inl rfl | exact .inr rfl)
    (hs : (assignEach (.Name x pos :: es) X.env).map (·.2) = assign (.Name x pos) X.env :: (assignEach es X.env).map (·.2) := by rfl) : PGs X (.Name x pos :: es) (gNs (i :: is)) := pgs_cons (pg_name hN hi hx hf) h hs
/-- list(range(..)), tuple(range(..)) -/
theorem rgV_eq (a b : Int) : rgV a b = (rng a b).map V.int := by
  unfold rgV rng
  rw [List.map_map]; rfl
theorem rng_has (F : Hp) (a b : Int) : HasAll F (rgV a b) ((rng a b).map Enc.enc) := by
  rw [rgV_eq]; exact HasAll.ints _
def small24 (a b : Int) : Prop := small a ∧ small b ∧ (b - a).toNat ≤ 100000
theorem small24.ok {a b : Int} (h : small24 a b) : RgOk a b := ⟨h.1.1, h.1.2, h.2.1.1, h.2.1.2, Nat.le_trans h.2.2 (by decide)⟩
theorem dx_listRg1 {e : Expr} {w : W Int} {p q pos pos' : Pos} (hc : X.calm = true) (hm : X.mg "list" = none) (hm2 : X.mg "range" = none) (h : DE X pl G e w) (hg : Gl X "list" := by rfl) (hg2 : Gl X "range" := by rfl) (na : starEach [.Call (.Name "range" q) [e] [] pos'] X.env = (false, eval (.Call (.Name "range" q) [e] [] pos') X.env) :: starEach [] X.env := by rfl) (nb : starEach [e] X.env = (false, eval e X.env) :: starEach [] X.env := by rfl) :
    DX X pl G (.Call (.Name "list" p) [.Call (.Name "range" q) [e] [] pos'] [] pos) (fun a : List Int => own a) (fun P => w fun n => small24 0 n ∧ P (rng 0 n)) := PE.wk (pe_listRg hc hg hm (prg_1 hg2 hm2 h nb) na) fun s H Q ⟨F, fp, at_, P, w, K⟩ =>
  ⟨F, fp, at_, _, w, fun n v F1 H1 fp1 S1 ⟨ok, p⟩ a1 g1 b1 _ => by
    cases b1.2
    exact ⟨n, rfl, ok.ok, fun q hq => K.fin (S := fun x => x = q) a1 g1 p (New.own a1.ex hq) (own_new (a1.fnone hq) (rng_has F1 0 n)) fun x e => by rw [e]; exact hq⟩⟩
theorem de_tupRg1 {e : Expr} {w : W Int} {p q pos pos' : Pos} (hc : X.calm = true) (hm : X.mg "tuple" = none) (hm2 : X.mg "range" = none) (h : DE X pl G e w) (hg : Gl X "tuple" := by rfl) (hg2 : Gl X "range" := by rfl) (na : starEach [.Call (.Name "range" q) [e] [] pos'] X.env = (false, eval (.Call (.Name "range" q) [e] [] pos') X.env) :: starEach [] X.env := by rfl) (nb : starEach [e] X.env = (false, eval e X.env) :: starEach [] X.env := by rfl) :
    DE X pl G (.Call (.Name "tuple" p) [.Call (.Name "range" q) [e] [] pos'] [] pos) (fun P => w fun n => small24 0 n ∧ P (Tup.mk (rng 0 n))) := PE.wk (pe_tupRgS hc hg hm (prg_1 hg2 hm2 h nb) na) fun s H Q ⟨F, fp, at_, P, w, K⟩ =>
  ⟨F, fp, at_, _, w, fun n v F1 H1 fp1 S1 ⟨ok, p⟩ a1 g1 b1 _ => by
    cases b1.2
    exact ⟨n, rfl, ok.ok, fun q ob hq hn =>
K.fro a1 g1 p (New.fro a1.ex hq) (.tup (TupAt.new hn) ((rng_has F1 0 n).mono (Ex.new (a1.fnone hq))))⟩⟩
theorem de_tupRg2 {e e2 : Expr} {w u : W Int} {p q pos pos' : Pos} (hc : X.calm = true) (hm : X.mg "tuple" = none) (hm2 : X.mg "range" = none) (h : DE X pl G e w) (h2 : DE X pl G e2 u) (hg : Gl X "tuple" := by rfl) (hg2 : Gl X "range" := by rfl) (na : starEach [.Call (.Name "range" q) [e, e2] [] pos'] X.env = (false, eval (.Call (.Name "range" q) [e, e2] [] pos') X.env) :: starEach [] X.env := by rfl) (nb : starEach [e, e2] X.env = (false, eval e X.env) :: starEach [e2] X.env := by rfl) (nc : starEach [e2] X.env = (false, eval e2 X.env) :: starEach [] X.env := by rfl) (nd : (backTo pos' (starEach [e2] X.env)).any (·.1) = false := by rfl) :
    DE X pl G (.Call (.Name "tuple" p) [.Call (.Name "range" q) [e, e2] [] pos'] [] pos) (fun P => w fun m => u fun n => small24 m n ∧ P (Tup.mk (rng m n))) := PE.wk (pe_tupRgS hc hg hm (prg_2 hg2 hm2 h h2 nb nc nd) na) fun s H Q ⟨F, fp, at_, P, w, K⟩ =>
  ⟨F, fp, at_, _, w, fun m v F1 H1 fp1 S1 p a1 g1 b1 _ => ⟨F1, fp1, a1, _, p, fun n v F2 H2 fp2 S2 ⟨ok, p⟩ a2 g2 b2 _ => by
    cases b1.2
    cases b2.2
    exact ⟨m, n, rfl, rfl, ok.ok, fun q ob hq hn =>
K.fro a2 (g1.trans g2) p (New.fro a2.ex hq) (.tup (TupAt.new hn) ((rng_has F2 m n).mono (Ex.new (a2.fnone hq))))⟩⟩⟩
/-- min(m, n) -/
theorem de_min2 {e e2 : Expr} {w u : W Int} {p pos : Pos} (hc : X.calm = true) (hm : X.mg "min" = none) (h : DE X pl G e w) (h2 : DE X pl G e2 u) (hg : Gl X "min" := by rfl) (na : starEach [e, e2] X.env = (false, eval e X.env) :: starEach [e2] X.env := by rfl) (nb : starEach [e2] X.env = (false, eval e2 X.env) :: starEach [] X.env := by rfl) (hpl : (backTo pos (starEach [e2] X.env)).any (·.1) = false := by rfl) :
    DE X pl G (.Call (.Name "min" p) [e, e2] [] pos) (fun P => w fun i => u fun j => P (if j < i then j else i)) := PE.wk (pe_callB (call_min2 hc) hg hm (by decide +kernel) (pa_cons h (pa_cons h2 pa_nil nb) na) (by decide) (by decide) na hpl) fun s H Q ⟨F, fp, at_, P, w, K⟩ =>
  ⟨F, fp, at_, _, w, fun i v F1 H1 fp1 S1 p a1 g1 b1 _ => ⟨F1, fp1, a1, _, p, fun j v F2 H2 fp2 S2 p a2 g2 b2 _ => by
    cases b1.2
    cases b2.2
    exact ⟨i, j, rfl, K.pure a2 (g1.trans g2) p (.int _)⟩⟩⟩
/-- a written list of two, of any kinds -/
structure Lp (α β : Type) where
  a : α
  b : β
instance {α β : Type} [Enc α] [Enc β] : Enc (Lp α β) := ⟨fun p => PyData.list [Enc.enc p.a, Enc.enc p.b]⟩
theorem de_lp {e e1 : Expr} {pos : Pos} {wa : W α} {wb : W β} (ha : DE X pl G e wa) (hb : DE X pl G e1 wb) (h1 : starEach [e, e1] X.env = (false, eval e X.env) :: starEach [e1] X.env := by rfl) (h2 : starEach [e1] X.env = (false, eval e1 X.env) :: starEach [] X.env := by rfl) :
    DE X pl G (.List [e, e1] pos) (fun P => wa fun a => wb fun b => P (Lp.mk a b)) := PE.wk (pe_lst (pa_cons ha (pa_cons hb pa_nil h2) h1)) fun s H Q ⟨F, fp, at_, P, w, K⟩ =>
  ⟨F, fp, at_, _, w, fun a v F1 H1 fp1 S1 w1 a1 g1 b1 _ => ⟨F1, fp1, a1, _, w1, fun b u F2 H2 fp2 S2 w2 a2 g2 b2 _ => ⟨lineOf (by decide : 2 ≤ 100000), fun q hq =>
    K.fro a2 (g1.trans g2) w2 (New.fro a2.ex hq) (.lst upd_same (HasAll.mono (Ex.new (a2.fnone hq)) (.cons (b1.2.mono g2.exF) (.cons b2.2 .nil))))⟩⟩⟩
theorem dg_lp (i j : Nat) {x y : Str} {k : Nat} {pos p1 p2 : Pos} (hc : X.calm = true) (hN : X.N.Nodup) (hl : Nat.blt i G.length = true := by rfl) (hl2 : Nat.blt j G.length = true := by rfl) (hi : X.N[i]? = some x := by rfl) (hj : X.N[j]? = some y := by rfl) (hx : Loc X.env.scope x := by first | exact Or.inl rfl | exact Or.inr rfl) (hy : Loc X.env.scope y := by first | exact Or.inl rfl | exact Or.inr rfl)
    (hf : X.fn x = true ∨ X.env.scope.names.lookup x = some .local := by first | exact .inl rfl | exact .inr rfl) (hf2 : X.fn y = true ∨ X.env.scope.names.lookup y = some .local := by first | exact .inl rfl | exact .inr rfl)
    (hn : (assignEach [.Name x p1, .Name y p2] X.env).length = 2 := by rfl) (hst : (assignEach [.Name x p1, .Name y p2] X.env).findIdx? (·.1) = none := by rfl)
    (hs : (assignEach (Expr.Name x p1 :: [.Name y p2]) X.env).map (·.2) = assign (.Name x p1) X.env :: (assignEach [.Name y p2] X.env).map (·.2) := by rfl) (hs2 : (assignEach (Expr.Name y p2 :: []) X.env).map (·.2) = assign (.Name y p2) X.env :: (assignEach [] X.env).map (·.2) := by rfl) :
    DG X pl G (.Tuple [.Name x p1, .Name y p2] k pos) [i, j] (fun a : Lp α β => (G.set i (some (fro a.a))).set j (some (fro a.b))) := dg_pairL (γ := Lp α β) i j hc hN (fun c => c.a) (fun c => c.b) (fun _ => rfl) hl hl2 hi hj hx hy hf hf2 hn hst hs hs2
end
end Dm

set_option Elab.async false
set_option linter.all false
namespace Dm
open PySem PySem.Spec PyProof.Rows L2
variable [TabC]
abbrev wLet {α : Type} (x : α) (k : α → Prop) : Prop := k x
section
variable {X : Cx} {pl : Pl} {G : Env}
section
variable {e e' : Expr} {wa wb : W Int} {pos : Pos}
theorem dt_lt (ha : DE X pl G e wa) (hb : DE X pl G e' wb) (hm : behindInMarks .Lt e' = false := by first | exact nomark _ | rfl) : DT X pl G (.Compare e [.Lt] [e'] pos) (fun P => wa fun x => wb fun y => P (decide (x < y))) := dt_cmp op_lt vr_IB ha hb hm
theorem dt_le (ha : DE X pl G e wa) (hb : DE X pl G e' wb) (hm : behindInMarks .LtE e' = false := by first | exact nomark _ | rfl) : DT X pl G (.Compare e [.LtE] [e'] pos) (fun P => wa fun x => wb fun y => P (decide (x ≤ y))) := dt_cmp op_le vr_IB ha hb hm
theorem dt_gt (ha : DE X pl G e wa) (hb : DE X pl G e' wb) (hm : behindInMarks .Gt e' = false := by first | exact nomark _ | rfl) : DT X pl G (.Compare e [.Gt] [e'] pos) (fun P => wa fun x => wb fun y => P (decide (y < x))) := dt_cmp op_gt vr_IB ha hb hm
theorem dt_ge (ha : DE X pl G e wa) (hb : DE X pl G e' wb) (hm : behindInMarks .GtE e' = false := by first | exact nomark _ | rfl) : DT X pl G (.Compare e [.GtE] [e'] pos) (fun P => wa fun x => wb fun y => P (decide (y ≤ x))) := dt_cmp op_ge vr_IB ha hb hm
theorem dt_eqI (ha : DE X pl G e wa) (hb : DE X pl G e' wb) (hm : behindInMarks .Eq e' = false := by first | exact nomark _ | rfl) : DT X pl G (.Compare e [.Eq] [e'] pos) (fun P => wa fun x => wb fun y => P (decide (x = y))) := dt_cmp op_eq vr_eqI ha hb hm
theorem dt_neI (ha : DE X pl G e wa) (hb : DE X pl G e' wb) (hm : behindInMarks .NotEq e' = false := by first | exact nomark _ | rfl) : DT X pl G (.Compare e [.NotEq] [e'] pos) (fun P => wa fun x => wb fun y => P (!decide (x = y))) := dt_cmp op_ne vr_neI ha hb hm
end
section
variable {e e' : Expr} {wa wb : W Str} {pos : Pos}
theorem dt_eqS (ha : DE X pl G e wa) (hb : DE X pl G e' wb) (hm : behindInMarks .Eq e' = false := by first | exact nomark _ | rfl) : DT X pl G (.Compare e [.Eq] [e'] pos) (fun P => wa fun x => wb fun y => P (decide (x = y))) := dt_cmp op_eq vr_eqS ha hb hm
theorem dt_neS (ha : DE X pl G e wa) (hb : DE X pl G e' wb) (hm : behindInMarks .NotEq e' = false := by first | exact nomark _ | rfl) : DT X pl G (.Compare e [.NotEq] [e'] pos) (fun P => wa fun x => wb fun y => P (!decide (x = y))) := dt_cmp op_ne vr_neS ha hb hm
end
section
variable {α β : Type} [Enc α] [Enc β] {e e' : Expr} {wa : W α} {wb : W β} {pos : Pos}
theorem dt_eqD (hu : X.A.units + 200 < cLine) (ha : DE X pl G e wa) (hb : DE X pl G e' wb) (hm : behindInMarks .Eq e' = false := by first | exact nomark _ | rfl) : DT X pl G (.Compare e [.Eq] [e'] pos) (fun P => wa fun x => wb fun y => EqOk (enc x) ∧ EqOk (enc y) ∧ P (PyData.eqv (enc x) (enc y))) := dt_cmp (op_eqD (by omega)) vr_eqD ha hb hm
theorem dt_neD (hu : X.A.units + 200 < cLine) (ha : DE X pl G e wa) (hb : DE X pl G e' wb) (hm : behindInMarks .NotEq e' = false := by first | exact nomark _ | rfl) : DT X pl G (.Compare e [.NotEq] [e'] pos) (fun P => wa fun x => wb fun y => EqOk (enc x) ∧ EqOk (enc y) ∧ P (!PyData.eqv (enc x) (enc y))) := dt_cmp (op_neD (by omega)) vr_neD ha hb hm
end
end
end Dm

set_option Elab.async false
set_option linter.all false
set_option maxRecDepth 100000
/-! Dm: part L: what the plain readings come to. -/
namespace Dm
open PySem PySem.Spec PyProof.Rows L2
section
variable {α β γ κ : Type}
theorem wFil_filter {F : α → W β} {T : α → W Bool} {g : α → β} {t : α → Bool} : ∀ {as : List α} {P : List β → Prop}, (∀ a ∈ as, ∀ K : Bool → Prop, K (t a) → T a K) → (∀ a ∈ as, t a = true → ∀ K : β → Prop, K (g a) → F a K) → P ((as.filter t).map g) → wFil as T F P
  | [], P, _, _, p => p
  | a :: as, P, hT, hF, p => by
    have hT' := fun b hb => hT b (List.mem_cons_of_mem a hb)
    have hF' := fun b hb => hF b (List.mem_cons_of_mem a hb)
    refine hT a (List.mem_cons_self ..) _ ?_
    cases h : t a with
    | true =>
      refine ⟨fun _ => hF a (List.mem_cons_self ..) h _ (wFil_filter hT' hF' ?_), fun z => by cases z⟩
      rw [List.filter_cons_of_pos h] at p
      exact p
    | false =>
      refine ⟨fun z => (by cases z), fun _ => wFil_filter hT' hF' ?_⟩
      rw [List.filter_cons_of_neg (by rw [h]; simp)] at p
      exact p
theorem wFil_map {F : α → W β} {g : α → β} : ∀ {as : List α} {P : List β → Prop}, (∀ a ∈ as, ∀ K : β → Prop, K (g a) → F a K) → P (as.map g) → wFil as (fun _ => wYes) F P
  | [], P, _, p => p
  | a :: as, P, h, p => ⟨fun _ => h a (List.mem_cons_self ..) _ (wFil_map (fun b hb => h b (List.mem_cons_of_mem _ hb)) p), fun z => by cases z⟩
theorem wCat_flat {F : α → W (List β)} {g : α → List β} : ∀ {as : List α} {P : List β → Prop}, (∀ a ∈ as, ∀ K : List β → Prop, K (g a) → F a K) → P (as.flatMap g) → wCat as F P
  | [], P, _, p => p
  | a :: as, P, h, p => h a (List.mem_cons_self ..) _ (wCat_flat (fun b hb => h b (List.mem_cons_of_mem _ hb)) p)
/-! ### ranges -/
theorem rng_nil {lo hi : Int} (h : hi ≤ lo) : rng lo hi = [] := by
  unfold rng
  rw [show (hi - lo).toNat = 0 by omega]; rfl
theorem rng_cons {lo hi : Int} (h : lo < hi) : rng lo hi = lo :: rng (lo + 1) hi := by
  unfold rng
  rw [show (hi - lo).toNat = (hi - (lo + 1)).toNat + 1 by omega, List.range_succ_eq_map, List.map_cons, List.map_map]
  refine congr (congrArg List.cons (Int.add_zero lo)) (List.map_congr_left fun a _ => ?_)
  show lo + ((a + 1 : Nat) : Int) = lo + 1 + (a : Int)
  omega
theorem mem_rng {lo hi x : Int} : x ∈ rng lo hi ↔ lo ≤ x ∧ x < hi := by
  unfold rng
  rw [List.mem_map]
  constructor
  · rintro ⟨i, hi2, rfl⟩
    rw [List.mem_range] at hi2
    omega
  · intro h
    exact ⟨(x - lo).toNat, List.mem_range.mpr (by omega), by omega⟩
theorem wFor_go {F : Int → κ → (κ → Prop) → Prop} {P : κ → Prop} {n : Int} (I : Int → κ → Prop) (hs : ∀ i k, 0 ≤ i → i < n → I i k → ∀ K : κ → Prop, (∀ k', I (i + 1) k' → K k') → F i k K) (hP : ∀ k, I n k → P k) : ∀ (m : Nat) (j : Int) (k : κ), 0 ≤ j → j + m = n → I j k → wFor (rng j n) k F P
  | 0, j, k, _, e, h => by
    have e2 : j = n := by omega
    rw [e2] at h
    rw [rng_nil (by omega)]
    exact hP k h
  | m + 1, j, k, h0, e, h => by
    rw [rng_cons (by omega)]
    exact hs j k h0 (by omega) h _ fun k' h' => wFor_go I hs hP m (j + 1) k' (by omega) (by omega) h'
theorem wFor_rng {F : Int → κ → (κ → Prop) → Prop} {P : κ → Prop} {n : Int} (hn : 0 ≤ n) (I : Int → κ → Prop) {k0 : κ} (h0 : I 0 k0) (hs : ∀ i k, 0 ≤ i → i < n → I i k → ∀ K : κ → Prop, (∀ k', I (i + 1) k' → K k') → F i k K) (hP : ∀ k, I n k → P k) : wFor (rng 0 n) k0 F P :=
  wFor_go I hs hP n.toNat 0 k0 (Int.le_refl 0) (by omega) h0
theorem wFor_all {F : α → κ → (κ → Prop) → Prop} {P : κ → Prop} (I : κ → Prop) : ∀ {as : List α} {k0 : κ}, I k0 → (∀ a ∈ as, ∀ k, I k → ∀ K : κ → Prop, (∀ k', I k' → K k') → F a k K) → (∀ k, I k → P k) → wFor as k0 F P
  | [], k0, h0, _, hP => hP k0 h0
  | a :: as, k0, h0, hs, hP => hs a (List.mem_cons_self ..) k0 h0 _ fun k' h' => wFor_all I h' (fun b hb => hs b (List.mem_cons_of_mem _ hb)) hP
/-! ### rows by their numbers -/
theorem rng0_len {n : Int} : (rng 0 n).length = n.toNat := by rw [rng_len]; omega
theorem map_len {g : Int → α} {n : Int} : ((rng 0 n).map g).length = n.toNat := by rw [List.length_map, rng0_len]
theorem map_len' {g : Int → α} {n : Int} (h : 0 ≤ n) : (((rng 0 n).map g).length : Int) = n := by rw [map_len]; omega
theorem map_get {g : Int → α} {n i : Int} (h : 0 ≤ i) (h' : i < n) : ((rng 0 n).map g)[i.toNat]? = some (g i) := by
  rw [List.getElem?_map, rng_get, if_pos (by omega)]
  show some (g (0 + ((i.toNat : Nat) : Int))) = some (g i)
  rw [show (0 + ((i.toNat : Nat) : Int)) = i by omega]
theorem ixN_in {n : Nat} {i : Int} (h : 0 ≤ i) (h' : i < n) : ixN n i = some i.toNat := by
  unfold ixN
  rw [if_pos h, if_pos h']
theorem wIdx_map {g : Int → α} {n i : Int} {P : α → Prop} (h : 0 ≤ i) (h' : i < n) (p : P (g i)) : wIdx ((rng 0 n).map g) i P := by
  refine ⟨g i, ?_, p⟩
  unfold atI
  rw [map_len, ixN_in h (by omega)]
  exact map_get h h'
theorem wIdx_mem {as : List α} {i : Int} {P : α → Prop} (h : 0 ≤ i) (h' : i < as.length) (p : ∀ a ∈ as, P a) : wIdx as i P := by
  have hl : i.toNat < as.length := by omega
  refine ⟨as[i.toNat], ?_, p _ (List.getElem_mem hl)⟩
  unfold atI
  rw [ixN_in h h']
  exact List.getElem?_eq_getElem hl
theorem map_set {g : Int → α} {n j : Int} {v : α} (h : 0 ≤ j) : ((rng 0 n).map g).set j.toNat v = (rng 0 n).map fun y => if y = j then v else g y := by
  apply List.ext_getElem?
  intro m
  rw [List.getElem?_set, List.getElem?_map, List.getElem?_map, map_len]
  have rg : (rng 0 n)[m]? = if m < n.toNat then some (m : Int) else none := by
    rw [rng_get]
    by_cases z : m < (n - 0).toNat
    · rw [if_pos z, if_pos (by omega)]; congr 1; omega
    · rw [if_neg z, if_neg (by omega)]
  rw [rg]
  by_cases z : m < n.toNat
  · rw [if_pos z]
    by_cases e : j.toNat = m
    · rw [if_pos e, if_pos (by omega)]
      show some v = some (if (m : Int) = j then v else g m)
      rw [if_pos (by omega)]
    · rw [if_neg e]
      show some (g m) = some (if (m : Int) = j then v else g m)
      rw [if_neg (by omega)]
  · rw [if_neg z]
    by_cases e : j.toNat = m
    · rw [if_pos e, if_neg (by omega)]; rfl
    · rw [if_neg e]; rfl
def row (n : Int) (g : Int → Int) : List Int := (rng 0 n).map g
def mk (n : Int) (f : Int → Int → Int) : List (List Int) := (rng 0 n).map fun i => row n (f i)
theorem mk_congr {n : Int} {f g : Int → Int → Int} (h : ∀ i j, 0 ≤ i → i < n → 0 ≤ j → j < n → f i j = g i j) : mk n f = mk n g :=
  List.map_congr_left fun i hi => List.map_congr_left fun j hj => by
    rw [mem_rng] at hi hj
    exact h i j hi.1 hi.2 hj.1 hj.2
theorem wIdx2 {n : Int} {f : Int → Int → Int} {i j : Int} {P : Int → Prop} (hi : 0 ≤ i) (hi' : i < n) (hj : 0 ≤ j) (hj' : j < n) (p : P (f i j)) : wIdx (mk n f) i fun r => wIdx r j P :=
  wIdx_map hi hi' (wIdx_map hj hj' p)
theorem wSet2_mk {n : Int} {f : Int → Int → Int} {i j v : Int} {wj : W Int} {P : List (List Int) → Prop} (hi : 0 ≤ i) (hi' : i < n) (hj : 0 ≤ j) (hj' : j < n) (hw : ∀ K : Int → Prop, K j → wj K) (p : P (mk n fun x y => if x = i ∧ y = j then v else f x y)) : wSet2 (mk n f) i wj v P := by
  refine ⟨i.toNat, row n (f i), ?_, map_get hi hi', hw _ ⟨j.toNat, ?_, ?_⟩⟩
  · unfold mk
    rw [map_len]; exact ixN_in hi (by omega)
  · unfold row
    rw [map_len]; exact ixN_in hj (by omega)
  · unfold row mk at *
    rw [map_set hj, map_set hi]
    have e : (fun y => if y = i then List.map (fun y => if y = j then v else f i y) (rng 0 n) else row n (f y)) = (fun x => row n fun y => if x = i ∧ y = j then v else f x y) := by
      funext x
      by_cases z : x = i
      · rw [if_pos z]
        unfold row
        congr 1
        funext y
        by_cases q : y = j
        · rw [if_pos q, if_pos ⟨z, q⟩]
        · rw [if_neg q, if_neg fun w => q w.2, z]
      · rw [if_neg z]
        congr 1
        funext y
        rw [if_neg fun w => z w.1]
    exact e ▸ p
theorem reps0 {n : Int} : reps ([(0 : Int)] : List Int) n = row n fun _ => 0 := by
  unfold reps row
  rw [List.flatten_replicate_singleton]
  apply List.ext_getElem?
  intro m
  rw [List.getElem?_map, rng_get, List.getElem?_replicate]
  by_cases z : m < n.toNat
  · rw [if_pos z, if_pos (by omega)]; rfl
  · rw [if_neg z, if_neg (by omega)]; rfl
theorem erase_perm {α : Type} : ∀ {l : List α} {n : Nat} (h : n < l.length), (l[n] :: l.eraseIdx n).Perm l
  | a :: l, 0, _ => List.Perm.refl _
  | a :: l, n + 1, h => (List.Perm.swap a _ _).trans (List.Perm.cons a (erase_perm (l := l) (n := n) (Nat.lt_of_succ_lt_succ h)))
theorem as_map {α : Type} [Inhabited α] (as : List α) : as = (rng 0 as.length).map fun i => as.getD i.toNat default := by
  apply List.ext_getElem?
  intro m
  rw [List.getElem?_map, rng_get]
  by_cases z : m < as.length
  · rw [if_pos (by omega)]
    show as[m]? = some (as.getD (0 + (m : Int)).toNat default)
    rw [show (0 + (m : Int)).toNat = m by omega, List.getD_eq_getElem?_getD, List.getElem?_eq_getElem z]; rfl
  · rw [if_neg (by omega), List.getElem?_eq_none (by omega)]; rfl
theorem wFor_app {α β : Type} {F : α → List β → (List β → Prop) → Prop} {g : α → β} {B : Nat} {P : List β → Prop} : ∀ {as : List α} {k0 : List β}, k0.length + as.length ≤ B → (∀ a ∈ as, ∀ k : List β, k.length < B → ∀ K : List β → Prop, K (k ++ [g a]) → F a k K) → P (k0 ++ as.map g) → wFor as k0 F P
  | [], k0, _, _, p => by rw [List.map_nil, List.append_nil] at p; exact p
  | a :: as, k0, hl, hF, p => by
    rw [List.length_cons] at hl
    refine hF a (List.mem_cons_self ..) k0 (by omega) _ (wFor_app (g := g) ?_ (fun b hb => hF b (List.mem_cons_of_mem _ hb)) ?_)
    · rw [List.length_append, List.length_singleton]; omega
    · rw [List.append_assoc]; exact p
/-! ### drawing -/
theorem draw_ok {n : Int} {P : Int → Prop} (h0 : 1 ≤ n) (h1 : n < 1073741824) (p : ∀ m, 0 ≤ m → m < n → P m) : mDraw n P := ⟨⟨h0, h1⟩, p⟩
/-! ### data that can be shown and compared -/
structure Okd (d : D) (b h : Nat) : Prop where
  lv : PyData.leavesShort 8 d = true
  sh : d.showable = true
  nd : d.hasDict = false
  dp : d.depth ≤ h
  bk : d.bulk ≤ b
  ly : d.canLay0 = true
theorem Okd.show' {d : D} {b h : Nat} (o : Okd d b h) (hb : b ≤ 1000000) (hh : h ≤ 60) : ShowOk d := ⟨o.sh, o.nd, by have := o.dp; omega, PyData.shown_fits_bulk (by decide : 8 ≤ 8) (by decide) o.lv (by have := o.bk; omega)⟩
theorem Okd.eq' {d : D} {b h : Nat} (o : Okd d b h) (hh : h ≤ 60) : EqOk d := ⟨by
  rw [SeqAt.shaped.eq_def, o.ly]
  have := o.dp
  rw [decide_eq_true (show d.depth ≤ 64 by omega)]; rfl, o.nd⟩
theorem Okd.int {i : Int} (h0 : 0 ≤ i) (h1 : i ≤ 99) : Okd (.int i) 0 0 := by
  refine ⟨?_, ?_, rfl, Nat.le_refl 0, Nat.le_refl 0, rfl⟩
  · rw [PyData.leavesShort]
    have : ∀ k : Fin 100, decide ((PyData.int (k : Nat)).shown.length ≤ 8) = true := by decide +kernel
    have := this ⟨i.toNat, by omega⟩
    rwa [show ((⟨i.toNat, by omega⟩ : Fin 100) : Nat) = i.toNat from rfl, Int.toNat_of_nonneg h0] at this
  · rw [PyData.showable]
    have : ∀ k : Fin 100, decide (((k : Nat) : Int).natAbs.log2 < 1920) = true := by decide +kernel
    have := this ⟨i.toNat, by omega⟩
    rwa [show ((⟨i.toNat, by omega⟩ : Fin 100) : Nat) = i.toNat from rfl, Int.toNat_of_nonneg h0] at this
theorem Okd.bool {b : Bool} : Okd (.bool b) 0 0 := ⟨rfl, rfl, rfl, Nat.le_refl 0, Nat.le_refl 0, rfl⟩
structure Oka (ds : List D) (b h : Nat) : Prop where
  lv : PyData.leavesShortAll 8 ds = true
  sh : PyData.showableAll ds = true
  nd : PyData.hasDictAll ds = false
  dp : PyData.depthAll ds ≤ h
  bk : PyData.bulkAll ds ≤ b
  ly : PyData.canLayAll0 ds = true
theorem Oka.nil {h : Nat} : Oka [] 0 h := ⟨rfl, rfl, rfl, Nat.zero_le _, Nat.le_refl 0, rfl⟩
theorem Oka.cons {d : D} {ds : List D} {b b' h h' : Nat} (o : Okd d b h) (r : Oka ds b' h') (hh : h ≤ h') : Oka (d :: ds) (b + 1 + b') h' := by
  refine ⟨?_, ?_, ?_, ?_, ?_, ?_⟩
  · rw [PyData.leavesShortAll, o.lv, r.lv]; rfl
  · rw [PyData.showableAll, o.sh, r.sh]; rfl
  · rw [PyData.hasDictAll, o.nd, r.nd]; rfl
  · rw [PyData.depthAll]
    have := o.dp; have := r.dp
    omega
  · rw [PyData.bulkAll]
    have := o.bk; have := r.bk
    omega
  · rw [PyData.canLayAll0, o.ly, r.ly]; rfl
theorem Oka.all {b h : Nat} : ∀ {ds : List D}, (∀ d ∈ ds, Okd d b h) → Oka ds (ds.length * (b + 1)) h
  | [], _ => by rw [List.length_nil, Nat.zero_mul]; exact .nil
  | d :: ds, o => by
    have := Oka.cons (o d (List.mem_cons_self ..)) (Oka.all fun x hx => o x (List.mem_cons_of_mem _ hx)) (Nat.le_refl h)
    rw [List.length_cons, Nat.succ_mul, Nat.add_comm]
    exact this
theorem Oka.list {ds : List D} {b h : Nat} (o : Oka ds b h) : Okd (.list ds) b (h + 1) := ⟨o.lv, o.sh, o.nd, by rw [PyData.depth]; have := o.dp; omega, o.bk, o.ly⟩
theorem Oka.tuple {ds : List D} {b h : Nat} (o : Oka ds b h) : Okd (.tuple ds) b (h + 1) := ⟨o.lv, o.sh, o.nd, by rw [PyData.depth]; have := o.dp; omega, o.bk, o.ly⟩
end
end Dm

set_option Elab.async false
set_option linter.all false
set_option maxRecDepth 100000
set_option maxHeartbeats 2000000
/-! Dm: part M: in, None, sorted, enumerate, triples' places. -/
namespace Dm
open PySem PySem.Spec PyProof.Rows L2
variable [TabC]
theorem inV_ints (x : Int) : ∀ l : List Int, inV (.int x) (l.map V.int) = decide (x ∈ l)
  | [] => by simp [inV]
  | a :: l => by
    have ih := inV_ints x l
    unfold inV at ih ⊢
    rw [List.map_cons, List.any_cons, ih]
    show ((a == x) || decide (x ∈ l)) = decide (x ∈ a :: l)
    by_cases z : a = x
    · subst z
      rw [beq_self_eq_true, Bool.true_or, decide_eq_true (List.mem_cons_self ..)]
    · have z1 : (a == x) = false := by rw [beq_eq_false_iff_ne]; exact z
      rw [z1, Bool.false_or]
      by_cases q : x ∈ l
      · rw [decide_eq_true q, decide_eq_true (List.mem_cons_of_mem a q)]
      · rw [decide_eq_false q, decide_eq_false fun w => (List.mem_cons.mp w).elim (fun e => z e.symm) q]
theorem flat_ints (l : List Int) : (l.map V.int).all flatV = true := by
  rw [List.all_eq_true]
  intro v hv
  obtain ⟨i, _, rfl⟩ := List.mem_map.mp hv
  rfl
def isNo : D → Bool
  | .none => true
  | _ => false
theorem Has.isNo {F : Hp} {v : V} {d : D} (h : Has F v d) : decide (v = .non) = isNo d := by
  cases h <;> rfl
section
variable {α β : Type} [Enc α] [Enc β] {K : Fr}
theorem vr_inL : VR2 (rIn K false) (fun (x : Int) (l : List Int) (P : Bool → Prop) => P (decide (x ∈ l))) (fun b : Bool => fro b) := fun F H x y a l Q P e hx hy p Kk => by
  cases hx
  cases hy with
  | lst h1 h2 =>
    have ev : _ = l.map V.int := HasAll.ofInts (ns := l) h2
    rw [ev] at h1
    refine ⟨_, _, rfl, .inl (SqL.of (e _ _ h1)), rfl, flat_ints l, ?_⟩
    rw [if_neg (by decide), inV_ints]
    exact Kk _ _ F H (fun _ => False) p (New.refl e) ⟨fun _ h => h, .bl _⟩ fun _ h => h.elim
theorem vr_ninL : VR2 (rIn K true) (fun (x : Int) (l : List Int) (P : Bool → Prop) => P (!decide (x ∈ l))) (fun b : Bool => fro b) := fun F H x y a l Q P e hx hy p Kk => by
  cases hx
  cases hy with
  | lst h1 h2 =>
    have ev : _ = l.map V.int := HasAll.ofInts (ns := l) h2
    rw [ev] at h1
    refine ⟨_, _, rfl, .inl (SqL.of (e _ _ h1)), rfl, flat_ints l, ?_⟩
    rw [if_pos rfl, inV_ints]
    exact Kk _ _ F H (fun _ => False) p (New.refl e) ⟨fun _ h => h, .bl _⟩ fun _ h => h.elim
theorem vr_inT : VR2 (rIn K false) (fun (x : Int) (l : Tup Int) (P : Bool → Prop) => P (decide (x ∈ l.l))) (fun b : Bool => fro b) := fun F H x y a l Q P e hx hy p Kk => by
  cases hx
  cases hy with
  | tup h1 h2 =>
    have ev : _ = l.l.map V.int := HasAll.ofInts (ns := l.l) h2
    rw [ev] at h1
    refine ⟨_, _, rfl, .inr (TupAt.sq (TupAt.mono e h1)), rfl, flat_ints l.l, ?_⟩
    rw [if_neg (by decide), inV_ints]
    exact Kk _ _ F H (fun _ => False) p (New.refl e) ⟨fun _ h => h, .bl _⟩ fun _ h => h.elim
theorem vr_ninT : VR2 (rIn K true) (fun (x : Int) (l : Tup Int) (P : Bool → Prop) => P (!decide (x ∈ l.l))) (fun b : Bool => fro b) := fun F H x y a l Q P e hx hy p Kk => by
  cases hx
  cases hy with
  | tup h1 h2 =>
    have ev : _ = l.l.map V.int := HasAll.ofInts (ns := l.l) h2
    rw [ev] at h1
    refine ⟨_, _, rfl, .inr (TupAt.sq (TupAt.mono e h1)), rfl, flat_ints l.l, ?_⟩
    rw [if_pos rfl, inV_ints]
    exact Kk _ _ F H (fun _ => False) p (New.refl e) ⟨fun _ h => h, .bl _⟩ fun _ h => h.elim
theorem vr_isN : VR2 (fun x y H Q => y = .non ∧ Q (.bl (decide (x = .non))) H) (fun (a : α) (_ : Unit) (P : Bool → Prop) => P (isNo (enc a))) (fun b : Bool => fro b) := fun F H x y a l Q P e hx hy p Kk => by
  cases hy
  refine ⟨rfl, Kk _ _ F H (fun _ => False) p (New.refl e) ⟨fun _ h => h, ?_⟩ fun _ h => h.elim⟩
  rw [hx.isNo]; exact .bl _
theorem vr_notN : VR2 (fun x y H Q => y = .non ∧ Q (.bl (!decide (x = .non))) H) (fun (a : α) (_ : Unit) (P : Bool → Prop) => P (!isNo (enc a))) (fun b : Bool => fro b) := fun F H x y a l Q P e hx hy p Kk => by
  cases hy
  refine ⟨rfl, Kk _ _ F H (fun _ => False) p (New.refl e) ⟨fun _ h => h, ?_⟩ fun _ h => h.elim⟩
  rw [hx.isNo]; exact .bl _
end
section
variable {X : Cx} {pl : Pl} {G : Env} {α β γ : Type} [Enc α] [Enc β] [Enc γ] {e e' : Expr} {pos : Pos}
theorem de_inL {wa : W Int} {wb : W (List Int)} (ha : DE X pl G e wa) (hb : DE X pl G e' wb) (hm : behindInMarks .In e' = false := by first | exact nomark _ | rfl) : DE X pl G (.Compare e [.In] [e'] pos) (fun P => wa fun x => wb fun l => P (decide (x ∈ l))) := de_cmp op_in_seq vr_inL ha hb hm
theorem dt_inL {wa : W Int} {wb : W (List Int)} (ha : DE X pl G e wa) (hb : DE X pl G e' wb) (hm : behindInMarks .In e' = false := by first | exact nomark _ | rfl) : DT X pl G (.Compare e [.In] [e'] pos) (fun P => wa fun x => wb fun l => P (decide (x ∈ l))) := dt_cmp op_in_seq vr_inL ha hb hm
theorem de_ninL {wa : W Int} {wb : W (List Int)} (ha : DE X pl G e wa) (hb : DE X pl G e' wb) (hm : behindInMarks .NotIn e' = false := by first | exact nomark _ | rfl) : DE X pl G (.Compare e [.NotIn] [e'] pos) (fun P => wa fun x => wb fun l => P (!decide (x ∈ l))) := de_cmp op_notIn_seq vr_ninL ha hb hm
theorem dt_ninL {wa : W Int} {wb : W (List Int)} (ha : DE X pl G e wa) (hb : DE X pl G e' wb) (hm : behindInMarks .NotIn e' = false := by first | exact nomark _ | rfl) : DT X pl G (.Compare e [.NotIn] [e'] pos) (fun P => wa fun x => wb fun l => P (!decide (x ∈ l))) := dt_cmp op_notIn_seq vr_ninL ha hb hm
theorem de_inT {wa : W Int} {wb : W (Tup Int)} (ha : DE X pl G e wa) (hb : DE X pl G e' wb) (hm : behindInMarks .In e' = false := by first | exact nomark _ | rfl) : DE X pl G (.Compare e [.In] [e'] pos) (fun P => wa fun x => wb fun l => P (decide (x ∈ l.l))) := de_cmp op_in_seq vr_inT ha hb hm
theorem dt_inT {wa : W Int} {wb : W (Tup Int)} (ha : DE X pl G e wa) (hb : DE X pl G e' wb) (hm : behindInMarks .In e' = false := by first | exact nomark _ | rfl) : DT X pl G (.Compare e [.In] [e'] pos) (fun P => wa fun x => wb fun l => P (decide (x ∈ l.l))) := dt_cmp op_in_seq vr_inT ha hb hm
theorem de_ninT {wa : W Int} {wb : W (Tup Int)} (ha : DE X pl G e wa) (hb : DE X pl G e' wb) (hm : behindInMarks .NotIn e' = false := by first | exact nomark _ | rfl) : DE X pl G (.Compare e [.NotIn] [e'] pos) (fun P => wa fun x => wb fun l => P (!decide (x ∈ l.l))) := de_cmp op_notIn_seq vr_ninT ha hb hm
theorem dt_ninT {wa : W Int} {wb : W (Tup Int)} (ha : DE X pl G e wa) (hb : DE X pl G e' wb) (hm : behindInMarks .NotIn e' = false := by first | exact nomark _ | rfl) : DT X pl G (.Compare e [.NotIn] [e'] pos) (fun P => wa fun x => wb fun l => P (!decide (x ∈ l.l))) := dt_cmp op_notIn_seq vr_ninT ha hb hm
/-- e is None, e is not None -/
theorem de_isN {wa : W α} (ha : DE X pl G e wa) {k : Nat} {p : Pos} : DE X pl G (.Compare e [.Is] [.Constant .none k p] pos) (fun P => wa fun x => P (isNo (enc x))) := de_cmp op_isN vr_isN ha de_none
theorem dt_isN {wa : W α} (ha : DE X pl G e wa) {k : Nat} {p : Pos} : DT X pl G (.Compare e [.Is] [.Constant .none k p] pos) (fun P => wa fun x => P (isNo (enc x))) := dt_cmp op_isN vr_isN ha de_none
theorem de_notN {wa : W α} (ha : DE X pl G e wa) {k : Nat} {p : Pos} : DE X pl G (.Compare e [.IsNot] [.Constant .none k p] pos) (fun P => wa fun x => P (!isNo (enc x))) := de_cmp op_notN vr_notN ha de_none
theorem dt_notN {wa : W α} (ha : DE X pl G e wa) {k : Nat} {p : Pos} : DT X pl G (.Compare e [.IsNot] [.Constant .none k p] pos) (fun P => wa fun x => P (!isNo (enc x))) := dt_cmp op_notN vr_notN ha de_none
/-- what may be None, where it is none -/
theorem de_un {w : W (Option α)} (h : DE X pl G e w) : DE X pl G e (fun P => w fun o => ∃ a, o = some a ∧ P a) := PE.wk h fun s H Q ⟨F, fp, at_, P, wp, K⟩ =>
  ⟨F, fp, at_, _, wp, fun o v F1 H1 fp1 S1 ⟨a, eo, p⟩ a1 g1 b1 hS => by
    subst eo
    exact K a v F1 H1 fp1 S1 p a1 g1 b1 hS⟩
theorem de_p3a {w : W (P3 α β γ)} {pos' : Pos} {j : Nat} (ha : DE X pl G e w) : DE X pl G (.Subscript e (.Constant (.int 0) j pos') pos) (fun P => w fun p => P p.a) := PE.wk (pe_ix ix_tup ha pe_int (fun _ _ => rfl)) fun s H Q ⟨F, fp, at_, P, w, K⟩ =>
  ⟨F, fp, at_, _, w, fun a v F1 H1 fp1 S1 w1 a1 g1 b1 _ => by
    obtain ⟨_, b1⟩ := b1
    cases b1 with
    | tup h1 h2 => cases h2 with
      | cons x y => exact ⟨_, _, _, _, rfl, rfl, TupAt.sq (TupAt.mono a1.ex h1), atI_nat (j := 0) rfl, K.pure a1 g1 w1 x⟩⟩
theorem de_p3b {w : W (P3 α β γ)} {pos' : Pos} {j : Nat} (ha : DE X pl G e w) : DE X pl G (.Subscript e (.Constant (.int 1) j pos') pos) (fun P => w fun p => P p.b) := PE.wk (pe_ix ix_tup ha pe_int (fun _ _ => rfl)) fun s H Q ⟨F, fp, at_, P, w, K⟩ =>
  ⟨F, fp, at_, _, w, fun a v F1 H1 fp1 S1 w1 a1 g1 b1 _ => by
    obtain ⟨_, b1⟩ := b1
    cases b1 with
    | tup h1 h2 => cases h2 with
      | cons x y => cases y with
        | cons y z => exact ⟨_, _, _, _, rfl, rfl, TupAt.sq (TupAt.mono a1.ex h1), atI_nat (j := 1) rfl, K.pure a1 g1 w1 y⟩⟩
theorem de_p3c {w : W (P3 α β γ)} {pos' : Pos} {j : Nat} (ha : DE X pl G e w) : DE X pl G (.Subscript e (.Constant (.int 2) j pos') pos) (fun P => w fun p => P p.c) := PE.wk (pe_ix ix_tup ha pe_int (fun _ _ => rfl)) fun s H Q ⟨F, fp, at_, P, w, K⟩ =>
  ⟨F, fp, at_, _, w, fun a v F1 H1 fp1 S1 w1 a1 g1 b1 _ => by
    obtain ⟨_, b1⟩ := b1
    cases b1 with
    | tup h1 h2 => cases h2 with
      | cons x y => cases y with
        | cons y z => cases z with
          | cons z u => exact ⟨_, _, _, _, rfl, rfl, TupAt.sq (TupAt.mono a1.ex h1), atI_nat (j := 2) rfl, K.pure a1 g1 w1 z⟩⟩
/-- sorted(a list of whole numbers) -/
theorem dx_sorted {w : W (List Int)} {p : Pos} (hm : X.mg "sorted" = none) (h : DE X pl G e w) (hg : Gl X "sorted" := by rfl)
    (he : starEach [e] X.env = (false, eval e X.env) :: starEach [] X.env := by rfl) (hpl : (backTo pos (starEach [] X.env)).any (·.1) = false := by rfl) : DX X pl G (.Call (.Name "sorted" p) [e] [] pos) (fun a : List Int => own a) (fun P => w fun l => ∀ l', l'.Perm l → l'.Pairwise (· ≤ ·) → P l') := PE.wk (pe_callB cr_sortedI hg hm (by decide +kernel) (pa_cons h pa_nil he) (by decide) (by decide) he hpl) fun s H Q ⟨F, fp, at_, P, w, K⟩ =>
  ⟨F, fp, at_, _, w, fun l v F1 H1 fp1 S1 w1 a1 g1 b1 _ => by
    obtain ⟨_, b1⟩ := b1
    cases b1 with
    | lst h1 h2 =>
      have ev : _ = l.map V.int := HasAll.ofInts (ns := l) h2
      rw [ev] at h1
      exact ⟨_, l, rfl, SqL.of (a1.ex _ _ h1), fun l' q perm pw hq => K.fin (S := fun x => x = q) a1 g1 (w1 l' perm pw) (New.own a1.ex hq) (own_new (a1.fnone hq) (HasAll.ints l')) fun x e => by rw [e]; exact hq⟩⟩
/-- enumerate(a list) -/
def enumA (as : List α) : List (Pq Int α) := as.zipIdx.map fun p => Pq.mk (p.2 : Int) p.1
theorem enumA_get {as : List α} {i : Nat} : (enumA as)[i]? = as[i]?.map fun a => Pq.mk (i : Int) a := by
  unfold enumA
  rw [List.getElem?_map, List.getElem?_zipIdx]
  cases as[i]? <;> simp
theorem enumA_len {as : List α} : (enumA as).length = as.length := by unfold enumA; rw [List.length_map, List.length_zipIdx]
theorem iters_enum {K : Fr} {p : Addr} {vs : List V} {as : List α} {F0 : Hp} (h : F0 p = some (.lst vs)) (hv : HasAll F0 vs (as.map Enc.enc)) : Iters (Ite K p) (enumA as) F0 where
  turn := fun F H i a e1 e2 ha => by
    rw [enumA_get] at ha
    cases ea : as[i]? with
    | none => rw [ea] at ha; cases ha
    | some a0 =>
      rw [ea] at ha
      cases ha
      obtain ⟨x, hx, hb⟩ := hv.get (i := i) (d := enc a0) (by rw [List.getElem?_map, ea]; rfl)
      have hS : SqL K H p vs := SqL.of (e2 _ _ (e1 _ _ h))
      refine ⟨⟨vs, x, hS, hx⟩, fun y H' ⟨T, x', ey, hT, eH, k⟩ => ?_⟩
      have e := (k vs hS).symm.trans hx
      cases e
      subst ey
      subst eH
      refine ⟨_, New.fro e2 hT, .prs upd_same (.mk (.int _) ((hb.mono e1).mono (Ex.new (e2.fnone hT))))⟩
  stop := fun F H e1 e2 => ⟨vs, SqL.of (e2 _ _ (e1 _ _ h)), by
    have := hv.length
    rw [List.length_map] at this
    rw [enumA_len]; omega⟩
theorem di_enumL {elts : List Expr} {kk : Nat} {tpos p : Pos} {w : W (List α)} (hm : X.mg "enumerate" = none) (h : DE X pl G e w) (hg : Gl X "enumerate" := by rfl) (hs : starEach [e] X.env = [(false, eval e X.env)] := by rfl) : DI X pl G (.Tuple elts kk tpos) (.Call (.Name "enumerate" p) [e] [] pos) (fun P => w fun as => P (enumA as)) := PI.wk (pi_enum hg hm (pa_cons h pa_nil (hs.trans rfl)) hs) fun s H R ⟨F, fp, at_, P, w, K⟩ => ⟨F, fp, at_, _, w, fun as v F1 H1 fp1 S1 p a1 g1 b1 _ => by
  obtain ⟨_, b1⟩ := b1
  cases b1 with
  | lst h1 h2 => exact ⟨_, _, rfl, SqL.of (a1.ex _ _ h1), K (enumA as) F1 H1 fp1 _ p a1 g1 (iters_enum h1 h2)⟩⟩
end
end Dm

set_option Elab.async false
set_option linter.all false
set_option maxRecDepth 100000
set_option maxHeartbeats 2000000
/-! Dm: part N: isinstance of plain values; tuples told many times. -/
namespace Dm
open PySem PySem.Spec PyProof.Rows L2
variable [TabC]
def tyName : D → String
  | .none => "NoneType"
  | .bool _ => "bool"
  | .int _ => "int"
  | .str _ => "str"
  | .list _ => "list"
  | .tuple _ => "tuple"
  | .dict ds => match ds with
    | (.none, _) :: _ => "tuple"
    | _ => "dict"
def isiD (d : D) (T : String) : Bool := (tyName d == T) || (tyName d == "bool" && T == "int")
theorem Has.ty {K : Fr} {F H : Hp} {v : V} {d : D} (e : Ex F H) (h : Has F v d) : TyX K H v (.type (tyName d)) := by
  cases h with
  | non => exact .base .non
  | bl b => exact .base (.bl b)
  | int i => exact .base (.int i)
  | str x => exact .base (.str x)
  | lst h1 h2 => exact .base (.lst (e _ _ h1))
  | tup h1 h2 =>
    obtain ⟨ob, h1, _⟩ := h1
    exact .fTuple (e _ _ h1)
  | dct h1 h2 =>
    cases h2 with
    | nil => exact .base (.dK (e _ _ h1))
    | @cons k v kvs d e2 ds a b c => cases k <;> cases a <;> exact .base (.dK (e _ _ h1))
  | prs h1 h2 =>
    cases h2
    exact .base (.tup (e _ _ h1))
section
variable {X : Cx} {pl : Pl} {G : Env} {α : Type} [Enc α] {e : Expr}
theorem de_isi {T : String} {x : Str} {w : W α} {p p2 pos : Pos} (hm : X.mg "isinstance" = none) (hm2 : X.mg x = none) (hv : bootBuiltins x = some (.type T)) (h : DE X pl G e w) (hk : ∀ d : D, PySem.W.kitOne X.K (.type (tyName d)) (.type T) = some (isiD d T) := by intro d; cases d <;> first | rfl | (rename_i ds; show PySem.W.kitOne _ (.type (match ds with | (.none, _) :: _ => "tuple" | _ => "dict")) _ = some (((match ds with | (.none, _) :: _ => "tuple" | _ => "dict") == _) || _); split <;> rfl)) (hg : Gl X "isinstance" := by rfl) (hg2 : Gl X x := by rfl) (hn : x ≠ "__name__" := by decide) (hdb : (x == ("__debug__" : Str)) = false := by decide)
    (he : starEach [e, .Name x p2] X.env = (false, eval e X.env) :: starEach [.Name x p2] X.env := by rfl) (he2 : starEach [.Name x p2] X.env = (false, eval (.Name x p2) X.env) :: starEach [] X.env := by rfl) (hpl : (backTo pos (starEach [.Name x p2] X.env)).any (·.1) = false := by rfl) :
    DE X pl G (.Call (.Name "isinstance" p) [e, .Name x p2] [] pos) (fun P => w fun a => P (isiD (enc a) T)) := PE.wk (pe_callB call_isi hg hm (by decide +kernel) (pa_cons h (pa_cons (pe_bltn (v := .ty T) hg2 hm2 hv rfl hn hdb) pa_nil he2) he) (by decide) (by decide) he hpl) fun s H Q ⟨F, fp, at_, P, w, K⟩ =>
  ⟨F, fp, at_, _, w, fun a v F1 H1 fp1 S1 w1 a1 g1 b1 _ => ⟨v, .ty T, .type (tyName (enc a)), .type T, isiD (enc a) T, rfl, .ty T, b1.2.ty a1.ex, hk (enc a), K.pure a1 g1 w1 (.bl _)⟩⟩
/-- (a, b, ..) * n, n at least 2 -/
theorem vr_repT {K : Fr} : VR2 (rRepS K) (fun (a : Tup α) (k : Int) (P : Tup α → Prop) => (a.l ≠ [] ∧ 2 ≤ k ∧ k ≤ 1000 ∧ a.l.length ≤ 1000) ∧ P (Tup.mk (reps a.l k))) (fun b : Tup α => fro b) := fun F H x y a k Q P e hx hy p Kk => by
  cases hy
  cases hx with
  | tup h1 h2 =>
    have l2 := h2.length
    rw [List.length_map] at l2
    refine ⟨_, _, _, rfl, rfl, TupAt.sq (TupAt.mono e h1), fun z => p.1.1 ?_, p.1.2.1, p.1.2.2.1, by rw [l2]; exact p.1.2.2.2, fun q ob hq hn => Kk _ _ (upd F q _) _ (fun z => False) p.2 (New.fro e hq) ⟨fun _ h => h, .tup (TupAt.new hn) ?_⟩ fun z hz => hz.elim⟩
    · rw [z] at l2
      exact List.length_eq_zero_iff.mp l2.symm
    · show HasAll _ _ ((reps a.l k).map Enc.enc)
      rw [map_reps]
      exact (h2.mono (Ex.new (e.fnone hq))).rep _
theorem de_repT {e' : Expr} {wa : W (Tup α)} {wb : W Int} {pos : Pos} (ha : DE X pl G e wa) (hb : DE X pl G e' wb) : DE X pl G (.BinOp e .Mult e' pos) (fun P => wa fun a => wb fun k => (a.l ≠ [] ∧ 2 ≤ k ∧ k ≤ 1000 ∧ a.l.length ≤ 1000) ∧ P (Tup.mk (reps a.l k))) := dx_op2 op_repS vr_repT ha hb
end
end Dm
namespace Dm
open PySem PySem.Spec PyProof.Rows L2
variable [TabC]
section
variable {X : Cx} {pl : Pl} {G : Env} {α β : Type} [Enc α] [Enc β]
theorem de_lenP2 {e : Expr} {w : W (P2 α β)} {p pos : Pos} (hm : X.mg "len" = none) (h : DE X pl G e w) (hg : Gl X "len" := by rfl)
    (he : starEach [e] X.env = (false, eval e X.env) :: starEach [] X.env := by rfl) (hpl : (backTo pos (starEach [] X.env)).any (·.1) = false := by rfl) : DE X pl G (.Call (.Name "len" p) [e] [] pos) (fun P => w fun _ => P (2 : Int)) := de_lenV (f := fun _ => 2) call_len_seq hm h (fun F H x a Q e hx q => by
  cases hx with
  | tup h1 h2 => cases h2 with
    | cons x y => cases y with
      | cons y z => cases z with
        | nil => exact ⟨_, _, rfl, .inr (TupAt.sq (TupAt.mono e h1)), q⟩) hg he hpl
end
end Dm
namespace Dm
open PySem PySem.Spec PyProof.Rows L2
variable [TabC]
section
variable {X : Cx} {pl : Pl} {G : Env}
theorem dq_IC {f : Operator} {C : Int → Int → Prop} {g : Int → Int → Int} {e e' : Expr} {wa wb : W Int} {pos : Pos} (ho : OpR X (binaryOp f) (rI C fun i j => .int (g i j))) (ha : DQ X pl G e wa) (hb : DQ X pl G e' wb) : DQ X pl G (.BinOp e f e' pos) (fun P => wa fun x => wb fun y => C x y ∧ P (g x y)) := PE.wk (pe_op ho ha hb) fun s H Q ⟨F, fp, at_, P, w, K⟩ =>
  ⟨F, fp, at_, _, w, fun a x p1 h1 => ⟨F, fp, at_, _, p1, fun b y p2 h2 => by
    cases h1; cases h2
    exact ⟨a, b, rfl, rfl, p2.1, K _ _ p2.2 (.int _)⟩⟩⟩
theorem dq_mod {e e' : Expr} {wa wb : W Int} {pos : Pos} (ha : DQ X pl G e wa) (hb : DQ X pl G e' wb) : DQ X pl G (.BinOp e .Mod e' pos) (fun P => wa fun x => wb fun y => y ≠ 0 ∧ P (x.fmod y)) := dq_IC op_modN ha hb
theorem dq_mul {e e' : Expr} {wa wb : W Int} {pos : Pos} (ha : DQ X pl G e wa) (hb : DQ X pl G e' wb) : DQ X pl G (.BinOp e .Mult e' pos) (fun P => wa fun x => wb fun y => CMul x y ∧ P (x * y)) := dq_IC op_mul ha hb
theorem dq_intI {e : Expr} {w : W Int} {p pos : Pos} (hm : X.mg "int" = none) (h : DQ X pl G e w) (hg : Gl X "int" := by rfl) (he : starEach [e] X.env = (false, eval e X.env) :: starEach [] X.env := by rfl) (hpl : (backTo pos (starEach [] X.env)).any (·.1) = false := by rfl) : DQ X pl G (.Call (.Name "int" p) [e] [] pos) w := PE.wk (pe_callTy call_int1 hg hm PyProof.Rows.boot_int (pa_cons h pa_nil he) (by decide) (by decide) he hpl) fun s H Q ⟨F, fp, at_, P, w, K⟩ =>
  ⟨F, fp, at_, _, w, fun a v p b => by
    cases b
    exact .inl ⟨a, rfl, K _ _ p (.int _)⟩⟩
end
end Dm
namespace Dm
open PySem PySem.Spec PyProof.Rows L2
variable [TabC]
section
variable {X : Cx} {pl : Pl} {G : Env}
theorem dt_chain {e e1 e2 : Expr} {wa wb wc : W Int} {pos : Pos} {f f' : CmpOp} {g g' : Int → Int → Bool} (ho : OpR X (compareOp f) (rI0 fun i j => .bl (g i j))) (ho' : OpR X (compareOp f') (rI0 fun i j => .bl (g' i j))) (ha : DE X pl G e wa) (hb : DE X pl G e1 wb) (hc : DE X pl G e2 wc)
    (hm : lastMarks [f, f'] [e1, e2] = false := by with_unfolding_all rfl) : DT X pl G (.Compare e [f, f'] [e1, e2] pos) (fun P => wa fun x => wb fun y => wIf (g x y) (wc fun z => P (g' y z)) (P false)) := PT.wk (pt_chain ho ho' ha hb hc hm) (tTest_go fun s H Q ⟨F, fp, at_, P, w, K⟩ => by
  refine ⟨F, fp, at_, _, w, fun a x F1 H1 fp1 S1 w1 a1 g1 b1 _ => ⟨F1, fp1, a1, _, w1, fun b y F2 H2 fp2 S2 w2 a2 g2 b2 _ => ?_⟩⟩
  cases b1.2; cases b2.2
  refine ⟨a, b, rfl, rfl, g a b, rfl, ?_⟩
  cases hg : g a b with
  | true =>
    rw [hg] at w2
    refine (if_pos rfl).mpr ?_
    refine ⟨F2, fp2, a2, _, w2.1 rfl, fun c z F3 H3 fp3 S3 w3 a3 g3 b3 _ => ?_⟩
    cases b3.2
    exact ⟨b, c, rfl, rfl, Wish.pure K a3 ((g1.trans g2).trans g3) w3 (.bl _)⟩
  | false =>
    rw [hg] at w2
    refine (if_neg Bool.false_ne_true).mpr ?_
    exact Wish.pure K a2 (g1.trans g2) (w2.2 rfl) (.bl false))
end
end Dm
namespace Dm
open PySem PySem.Spec PyProof.Rows L2
variable [TabC]
section
variable {X : Cx} {pl : Pl} {G : Env}
theorem call_reprB : CallR X (.builtin "repr") (fun xs H Q => ∃ b, xs = [.bl b] ∧ Q (.str (PyData.bool b).shown) H) := by
  intro pins sh s H xs us Q I r h
  obtain ⟨b, rfl, q⟩ := h
  cases r with
  | cons r1 r2 =>
    cases r2
    cases r1
    refine PySem.P.repr_of_bool ⟨.str (PyData.bool b).shown, H, I.tok _, ⟨sh.toks, ?_⟩, q⟩
    cases b <;> rfl
theorem de_reprB {e : Expr} {w : W Bool} {p pos : Pos} (hm : X.mg "repr" = none) (h : DE X pl G e w) (hg : Gl X "repr" := by rfl)
    (he : starEach [e] X.env = (false, eval e X.env) :: starEach [] X.env := by rfl) (hpl : (backTo pos (starEach [] X.env)).any (·.1) = false := by rfl) : DE X pl G (.Call (.Name "repr" p) [e] [] pos) (fun P => w fun b => P (PyData.shown (enc b))) := PE.wk (pe_callB call_reprB hg hm PyProof.Rows.boot_repr (pa_cons h pa_nil he) (by decide) (by decide) he hpl) fun s H Q ⟨F, fp, at_, P, w, K⟩ =>
  ⟨F, fp, at_, _, w, fun b v F1 H1 fp1 S1 w1 a1 g1 b1 _ => by
    obtain ⟨_, b1⟩ := b1
    cases b1
    exact ⟨b, rfl, K.pure a1 g1 w1 (.str _)⟩⟩
end
end Dm

set_option Elab.async false
set_option linter.all false
set_option maxRecDepth 100000
namespace Dm
open PySem PySem.Spec PyProof.Rows L2
variable [TabC]
theorem for_any {α : Type} {M : Model} {A : Around} {f : Bool → Sem α} {b : Bool} {Q : α → Shared → Prop} {E : Value → Shared → Prop} {s : Shared} (h : ∀ b, wpAny M A (f b) Q E s) : wpAny M A (f b) Q E s := h b
theorem meets_enum1 {v : Value} {o : Obj} {Hh : Heap → Prop} (B : Begins v o Hh) : Meets (Builtin.«enumerate.__new__» ⟨[.type "enumerate", v], []⟩) fun _ R s => Hh s.heap ∧ R (.ok (.ret (.ref (s.heap.push o).objs.size))) { heap := (s.heap.push o).push { cls := .type "enumerate", data := .fields #[.none, .bool false, .ref s.heap.objs.size, rawInt 0, .none, .none] }, gens := s.gens, drawn := s.drawn, toks := s.toks, os := s.os } := by
  refine Meets.of_wp fun prog w A R s h => ?_
  obtain ⟨hp, g, d, tk, os⟩ := s
  obtain ⟨hl, h⟩ := h
  have hsub := sub_enumerate
  have last : wpAny (model prog w) A.in1 (do
      let a ← pyIter v
      let b ← Builtin.SmallTypes.newRecord (Value.type "enumerate") (Builtin.SmallTypes.ownedTupleFields ++ [a, rawInt 0, .none, .none])
      ret b) (fun fin s' => ∃ v, fin = Fin.done (Flow.ret v) ∧ R (Except.ok (Flow.ret v)) s') (fun e s' => R (Except.error e) s') { heap := hp, gens := g, drawn := d, toks := tk, os := os } := by
    refine wpAny_bind ?_
    refine B.iter _ _ _ _ _ _ hl ?_
    refine wpAny_bind ?_
    unfold Builtin.SmallTypes.newRecord newObj
    refine wpAny_ite_false (by rfl) ?_
    refine wpAny_bind ?_
    refine wpAny_alloc' ?_
    refine wpAny_pure ?_
    exact wpAny_pure ⟨_, rfl, h⟩
  refine wpAny_bind ?_
  refine wpAny_bind ?_
  refine wpAny_pure ?_
  refine wpAny_ite_false rfl ?_
  refine wpAny_bind ?_
  refine wpAny_of_eq hsub ?_
  refine wpAny_ite_false rfl ?_
  refine wpAny_pure ?_
  refine wpAny_ite_true rfl ?_
  refine wpAny_bind ?_
  refine wpAny_bind ?_
  refine wpAny_stack_any fun st => ?_
  refine wpAny_pure ?_
  split
  · rename_i c tail kw snd tl hst
    generalize (c == Value.type "enumerate") = short
    cases short with
    | false =>
      refine wpAny_ite_false rfl ?_
      refine wpAny_bind ?_
      refine wpAny_of_eq (a := (v, (Option.none : Option Value))) (by rfl) ?_
      exact last
    | true =>
      refine wpAny_ite_true rfl ?_
      refine wpAny_bind ?_
      refine wpAny_pure ?_
      exact last
  · refine wpAny_ite_false rfl ?_
    refine wpAny_bind ?_
    refine wpAny_of_eq (a := (v, (Option.none : Option Value))) (by rfl) ?_
    exact last
theorem call_enumB {prog : Program} {w : World} {A : Around} {E : Value → Shared → Prop} {s : Shared} {v : Value} {o : Obj} {Hh : Heap → Prop} {Q : Value → Shared → Prop} (B : Begins v o Hh) (hl : Hh s.heap)
    (h : ∀ h' : Heap, IsEnum h' (s.heap.objs.size + 1) s.heap.objs.size 0 .none → h'.get? s.heap.objs.size = some o → h'.objs.size = s.heap.objs.size + 2 → (∀ (b : Addr) (o : Obj), s.heap.get? b = some o → h'.get? b = some o) → Q (.ref (s.heap.objs.size + 1)) { heap := h', gens := s.gens, drawn := s.drawn, toks := s.toks, os := s.os }) :
    wpAny (model prog w) A (call (.type "enumerate") [v]) Q E s := by
  have hz : (s.heap.push o).objs.size = s.heap.objs.size + 1 := Heap.size_push s.heap o
  refine callType_new F.called_enumerate (by decide) (F.typeCall_enumerate_1 v) (F.newCall_enumerate_1 v) (fun obj => F.args_object_init_2 obj v) F.entry_enumerate_new (meets_enum1 B) ⟨hl, ?_⟩
  have he : ((s.heap.push o).push { cls := .type "enumerate", data := .fields #[.none, .bool false, .ref s.heap.objs.size, rawInt 0, .none, .none] }).get? (s.heap.objs.size + 1) = some { cls := .type "enumerate", data := .fields #[.none, .bool false, .ref s.heap.objs.size, rawInt 0, .none, .none] } := by
    have := Heap.get?_push_size (s.heap.push o) (o := { cls := .type "enumerate", data := .fields #[.none, .bool false, .ref s.heap.objs.size, rawInt 0, .none, .none] }) rfl
    rw [hz] at this
    exact this
  rw [hz]
  refine ⟨⟨_, he, rfl⟩, h _ he (Heap.get?_push_of_some _ (Heap.get?_push_size s.heap B.free)) ?_ fun b o' e => Heap.get?_push_of_some _ (Heap.get?_push_of_some _ e)⟩
  rw [Heap.size_push, hz]
/-- the walk of enumerate(a tuple) -/
def IteT (K : Fr) (a : Addr) : It where
  go := fun i H => ∃ xs x, SqT K H a xs ∧ xs[i]? = some x
  yld := fun i H v H' => ∃ T x, v = V.ref T ∧ H T = none ∧ H' = upd H T (.tup [.int (i : Int), x]) ∧ ∀ xs : List V, SqT K H a xs → xs[i]? = some x
  stop := fun i H => ∃ xs : List V, SqT K H a xs ∧ xs.length = i
theorem isTup_tuple {h : Heap} {a : Addr} {items : Array Value} (p : PyProof.Rows.IsTup h a items) : h.IsTuple a items := by
  first | exact p | exact (have this := p; this)
theorem turn_enumT {P : Program} {w : World} {K : Fr} {elts : List Expr} {kk : Nat} {tpos : Pos} (a e it : Addr) : Turn P w K (.Tuple elts kk tpos) (IteT K a) [e, it] e fun i h => (∃ old, IsEnum h e it (i : Int) old) ∧ h.IsTupleIter it a i ∧ e ≠ it where
  mem := by simp
  obj := fun i h ⟨⟨old, he⟩, ⟨o, ho, hc, hd⟩, hne⟩ b hb => by
    rcases List.mem_cons.mp hb with z | z
    · rw [z]; exact ⟨_, he, fun v q => nomatch q⟩
    · rw [List.mem_singleton.mp z]; exact ⟨o, ho, fun v q => by rw [hd] at q; cases q⟩
  keep := fun i h h' ⟨⟨old, he⟩, ⟨o, ho, hc, hd⟩, hne⟩ k => ⟨⟨old, k e (by simp) _ he⟩, ⟨o, k it (by simp) _ ho, hc, hd⟩, hne⟩
  item := fun X hP hw hK hc i pins s σ H E I hf ⟨⟨old, he⟩, hit, hne⟩ hg => by
    subst hP; subst hw; subst hK
    obtain ⟨xs, x, hq, hx⟩ := hg
    obtain ⟨its, rv, p, hz⟩ := Inv.tuple I hq
    obtain ⟨u, hu, ru⟩ := Vals.get rv hx
    have tp := isTup_tuple p
    obtain ⟨o1, g1, c1, n1, d1⟩ := tp
    obtain ⟨o2, g2, c2, d2⟩ := hit
    have ai : a ≠ it := fun z => by
      rw [z, g2] at g1; cases g1
      rw [c2] at c1
      exact absurd (Value.type.inj c1) (by decide)
    have ea : e ≠ a := fun z => by
      rw [← z, he] at g1; cases g1
      exact absurd (Value.type.inj c1) (by decide)
    have hlt : i < its.toArray.size := by
      have := List.getElem?_eq_some_iff.mp hu
      obtain ⟨w, _⟩ := this
      simpa using w
    have D := Draws.tuple (prog := X.prog) (w := X.w) (A := X.A.in1) (I.ok.hd hc) it a ai its.toArray
    have G := GoesN.enumFrom (A := X.A) (elts := elts) (x1 := kk) (pos := tpos) 0 D e hne (by simp [hne, ea]) (by simp)
    have z0 : (0 : Int) + (i : Int) = (i : Int) := Int.zero_add _
    refine G.goes i s _ E hlt ⟨⟨old, by rw [z0]; exact he⟩, ⟨o2, g2, c2, d2⟩, ⟨o1, g1, c1, n1, d1⟩⟩ fun v h' tk Y St k _ => ?_
    obtain ⟨T, t, y, ev, hT, hy, hI⟩ := Y
    obtain ⟨⟨old', he'⟩, hit', _⟩ := St
    have ey : y = u := by
      rw [List.getElem?_toArray, hu] at hy
      exact (Option.some.inj hy).symm
    subst ey
    subst ev
    rw [z0] at hI
    have e1 : (0 : Int) + ((i + 1 : Nat) : Int) = ((i + 1 : Nat) : Int) := Int.zero_add _
    rw [e1] at he'
    have new : ObjOk X.prog X.w (upd H T (.tup [.int (i : Int), x])) h' T (.tup [.int (i : Int), x]) := ⟨by show 2 ≤ sizeLine; decide, [.int (i : Int) t, y], .cons ⟨t, rfl⟩ (.cons ru .nil), hI⟩
    refine ⟨.ref T, upd H T (.tup [.int (i : Int), x]), Inv.turnedNew I (fun b ob hb q => k b ob hb q) hf hT new, rfl, ⟨T, x, rfl, HOk.fresh I.hok hT, rfl, fun ys hy => by rw [Inv.tuple_inj I hy hq]; exact hx⟩, ⟨⟨old', he'⟩, hit', hne⟩, fun b hb => ?_⟩
    have hb' : b < s.heap.objs.size := by
      rcases List.mem_cons.mp hb with z | z
      · rw [z]; exact Heap.lt_size he
      · rw [List.mem_singleton.mp z]; exact Heap.lt_size g2
    rw [upd_ne (Nat.ne_of_lt (Nat.lt_of_lt_of_le hb' hT))]
    exact (hf b hb).1
  done := fun X hP hw hK hc i pins s σ H E I hf ⟨⟨old, he⟩, hit, hne⟩ hg => by
    subst hP; subst hw; subst hK
    obtain ⟨xs, hq, hx⟩ := hg
    obtain ⟨its, rv, p, hz⟩ := Inv.tuple I hq
    have hl := Vals.length rv
    obtain ⟨o1, g1, c1, n1, d1⟩ := isTup_tuple p
    obtain ⟨o2, g2, c2, d2⟩ := hit
    have ai : a ≠ it := fun z => by
      rw [z, g2] at g1; cases g1
      rw [c2] at c1
      exact absurd (Value.type.inj c1) (by decide)
    obtain ⟨f0, f1, f2, f3, f4, f5⟩ := hf it (by simp)
    have D := Draws.tuple (prog := X.prog) (w := X.w) (A := X.A.in1) (I.ok.hd hc) it a ai its.toArray
    refine wpAny_pyNext_enum_endD D he ⟨⟨o2, g2, c2, ?_⟩, ⟨o1, g1, c1, n1, d1⟩⟩ fun h' eb => ⟨rfl, Inv.turned I (fun b o hb q => eb b o hb q) f0 f1 f3 f4 f5⟩
    rw [d2, ← hx, hl]; simp
  self := fun A i s Q E ⟨⟨old, he⟩, _⟩ h => wpAny_pyIter_enum he h
theorem pi_enumT {X : Cx} {e : Expr} {ta : TA} {p pos tpos : Pos} {elts : List Expr} {kk : Nat} (hg : Gl X "enumerate") (hm : X.mg "enumerate" = none) (ha : PA X [e] ta) (hs : starEach [e] X.env = [(false, eval e X.env)] := by rfl) :
    PI X (.Tuple elts kk tpos) (.Call (.Name "enumerate" p) [e] [] pos) (fun σ H R => ta σ H fun vs H1 => ∃ a xs, vs = [V.ref a] ∧ SqT X.K H1 a xs ∧ R (IteT X.K a) H1) := by
  refine ⟨fun pins s σ H R I h => PyProof.Rows.Call_ (ld_blt I hg hm PyProof.Rows.boot_enumerate (PyProof.Rows.callWith_type1 (thn (ha.run pos pins s σ H _ I h) fun us s1 hh => ?_) hs rfl))⟩
  · obtain ⟨vs, H1, I1, r1, a, xs, rfl, hq, q⟩ := hh
    cases r1 with
    | cons r rr =>
      cases rr
      cases r
      obtain ⟨its, rv, p', hz⟩ := Inv.tuple I1 hq
      refine call_enumB (begins_tuple a its.toArray) (isTup_tuple p') fun h' he hit hsz hk => wpAny_pyIter_enum he ?_
      have I2 := Inv.kept I1 hk (t' := s1.toks)
      refine ⟨s1.heap.objs.size + 1, [s1.heap.objs.size + 1, s1.heap.objs.size], _, IteT X.K a, H1, rfl, I2, turn_enumT a (s1.heap.objs.size + 1) s1.heap.objs.size, ⟨⟨.none, he⟩, ⟨_, hit, rfl, rfl⟩, Nat.succ_ne_self _⟩, fun b hb => ?_, q⟩
      have hle : s1.heap.objs.size ≤ b := by
        rcases List.mem_cons.mp hb with z | z
        · rw [z]; exact Nat.le_succ _
        · rw [List.mem_singleton.mp z]; exact Nat.le_refl _
      exact Inv.fpOk I1 hle (HOk.fresh I1.hok hle)
section
variable {X : Cx} {pl : Pl} {G : Env} {α : Type} [Enc α] {e : Expr}
theorem iters_enumT {K : Fr} {p : Addr} {vs : List V} {as : List α} {F0 : Hp} (h : TupAt F0 p vs) (hv : HasAll F0 vs (as.map Enc.enc)) : Iters (IteT K p) (enumA as) F0 where
  turn := fun F H i a e1 e2 ha => by
    rw [enumA_get] at ha
    cases ea : as[i]? with
    | none => rw [ea] at ha; cases ha
    | some a0 =>
      rw [ea] at ha
      cases ha
      obtain ⟨x, hx, hb⟩ := hv.get (i := i) (d := enc a0) (by rw [List.getElem?_map, ea]; rfl)
      have hS : SqT K H p vs := TupAt.sq (TupAt.mono e2 (TupAt.mono e1 h))
      refine ⟨⟨vs, x, hS, hx⟩, fun y H' ⟨T, x', ey, hT, eH, k⟩ => ?_⟩
      have e := (k vs hS).symm.trans hx
      cases e
      subst ey
      subst eH
      refine ⟨_, New.fro e2 hT, .prs upd_same (.mk (.int _) ((hb.mono e1).mono (Ex.new (e2.fnone hT))))⟩
  stop := fun F H e1 e2 => ⟨vs, TupAt.sq (TupAt.mono e2 (TupAt.mono e1 h)), by
    have := hv.length
    rw [List.length_map] at this
    rw [enumA_len]; omega⟩
theorem di_enumT {elts : List Expr} {kk : Nat} {tpos p : Pos} {w : W (Tup α)} (hm : X.mg "enumerate" = none) (h : DE X pl G e w) (hg : Gl X "enumerate" := by rfl) (hs : starEach [e] X.env = [(false, eval e X.env)] := by rfl) : DI X pl G (.Tuple elts kk tpos) (.Call (.Name "enumerate" p) [e] [] pos) (fun P => w fun as => P (enumA as.l)) := PI.wk (pi_enumT hg hm (pa_cons h pa_nil (hs.trans rfl)) hs) fun s H R ⟨F, fp, at_, P, w, K⟩ => ⟨F, fp, at_, _, w, fun as v F1 H1 fp1 S1 p a1 g1 b1 _ => by
  obtain ⟨_, b1⟩ := b1
  cases b1 with
  | tup h1 h2 => exact ⟨_, _, rfl, TupAt.sq (TupAt.mono a1.ex h1), K (enumA as.l) F1 H1 fp1 _ p a1 g1 (iters_enumT h1 h2)⟩⟩
end
end Dm

set_option Elab.async false
set_option linter.all false
set_option maxRecDepth 100000
namespace Dm
open PySem PySem.Spec PyProof.Rows L2
variable [TabC]
theorem tuple_mul1 (l : Addr) (items : Array Value) (n : Nat) (dd : Option Addr) (sl : Array (Option Value)) (u : Tok) : Meets (Builtin.«tuple.__mul__» ⟨[.ref l, .int 1 u], []⟩) fun _ R s => s.heap.get? l = some { cls := .type "tuple", dict := dd, data := .seq items n, slots := sl } ∧ R (.ok (.ret (.ref l))) s := by
  refine Meets.of_wp fun prog w A R s h => ?_
  obtain ⟨hp, g, d, tk, os⟩ := s
  obtain ⟨hl, h⟩ := h
  have f1 := AutoSeq1.idx_int
  refine wpAny_bind ?_
  refine wpAny_bind ?_
  refine wpAny_pure ?_
  refine wpAny_pure ?_
  refine wpAny_ite_false rfl ?_
  refine wpAny_bind ?_
  refine wpAny_bind ?_
  refine wpAny_bind ?_
  refine wpAny_load' hl ?_
  refine wpAny_pure ?_
  refine wpAny_pure ?_
  have c : (items.isEmpty || (1 : Int) == 1) = true := by simp
  refine wpAny_ite_true (decide_eq_true c) ?_
  refine wpAny_bind ?_
  refine wpAny_bind ?_
  refine wpAny_bind ?_
  refine wpAny_load' hl ?_
  refine wpAny_pure ?_
  refine wpAny_pure ?_
  refine wpAny_ite_true rfl ?_
  refine wpAny_bind ?_
  refine wpAny_rule ?_
  exact wpAny_pure ⟨_, rfl, h⟩
theorem tuple_mul0 (l : Addr) (items : Array Value) (n : Nat) (dd : Option Addr) (sl : Array (Option Value)) (u : Tok) (hne : items.isEmpty = false) : Meets (Builtin.«tuple.__mul__» ⟨[.ref l, .int 0 u], []⟩) fun _ R s => s.heap.get? l = some { cls := .type "tuple", dict := dd, data := .seq items n, slots := sl } ∧ R (.ok (.ret (.ref s.heap.objs.size))) { heap := s.heap.push { cls := .type "tuple", data := .seq #[] }, gens := s.gens, drawn := s.drawn, toks := s.toks, os := s.os } := by
  refine Meets.of_wp fun prog w A R s h => ?_
  obtain ⟨hp, g, d, tk, os⟩ := s
  obtain ⟨hl, h⟩ := h
  have f1 := AutoSeq1.idx_int
  refine wpAny_bind ?_
  refine wpAny_bind ?_
  refine wpAny_pure ?_
  refine wpAny_pure ?_
  refine wpAny_ite_false rfl ?_
  refine wpAny_bind ?_
  refine wpAny_bind ?_
  refine wpAny_bind ?_
  refine wpAny_load' hl ?_
  refine wpAny_pure ?_
  refine wpAny_pure ?_
  have c : ¬ (items.isEmpty || (0 : Int) == 1) = true := by rw [hne]; decide
  refine wpAny_ite_false (decide_eq_false c) ?_
  refine wpAny_ite_true rfl ?_
  refine wpAny_bind ?_
  unfold Builtin.Tuple.tupleExact newObj
  refine wpAny_ite_false (by rfl) ?_
  refine wpAny_bind ?_
  refine wpAny_alloc' ?_
  refine wpAny_pure ?_
  exact wpAny_pure ⟨_, rfl, h⟩
def rRepT01 (K : Fr) : R2 := fun x y H Q => ∃ (l : Addr) (k : Int) (xs : List V), x = .ref l ∧ y = .int k ∧ SqT K H l xs ∧ xs ≠ [] ∧ ((k = 1 ∧ Q (.ref l) H) ∨ (k = 0 ∧ ∀ p ob, H p = none → TN ob → Q (.ref p) (upd H p (.frz ob (.tup [])))))
theorem op_repT01 {X : Cx} : OpR X (binaryOp .Mult) (rRepT01 X.K) := by
  intro pins s σ H x y v u Q I rx ry h
  obtain ⟨l, k, xs, ex, ey, hT, hne, h⟩ := h
  subst ex; subst ey
  cases rx
  obtain ⟨t, rfl⟩ := ry
  obtain ⟨its, r, p, hs⟩ := Inv.tuple I hT
  obtain ⟨⟨cls, dd, data, sl⟩, ho, hc, n, hd⟩ := isTup_tuple p
  have hc' : cls = .type "tuple" := hc
  have hd' : data = .seq its.toArray n := hd
  subst hc'; subst hd'
  have hi : its.toArray.isEmpty = false := by
    cases its with
    | nil =>
      have := Vals.length r
      cases xs with
      | nil => exact absurd rfl hne
      | cons a b => cases this
    | cons a b => rfl
  refine wpAny_binaryOp_repeat_ref (by decide) ⟨_, ho, rfl⟩ (fun s' => typeIs_int s' k t) noFill_tuple_mul F.fills_int_mul F.slot_int_rmul repeat_tuple F.slot_int_index.lookup (call_meets F.slot_int_rmul (typeIs_int s k t) F.entry_int_rmul (F.args_int_rmul_2 (.int k t) (.ref l)) (int_rmul_tuple k t l its.toArray n dd sl) ⟨ho, rfl, ⟨_, ho, rfl⟩, ?_⟩)
  rcases h with ⟨rfl, q⟩ | ⟨rfl, q⟩
  · exact call_meets F.slot_tuple_mul ⟨_, ho, rfl⟩ F.entry_tuple_mul (F.args_tuple_mul_2 (.ref l) (.int 1 t)) (tuple_mul1 l its.toArray n dd sl t) ⟨ho, .ref l, H, I, rfl, q⟩
  · refine call_meets F.slot_tuple_mul ⟨_, ho, rfl⟩ F.entry_tuple_mul (F.args_tuple_mul_2 (.ref l) (.int 0 t)) (tuple_mul0 l its.toArray n dd sl t hi) ⟨ho, .ref s.heap.objs.size, upd H s.heap.objs.size (.frz { cls := .type "tuple", data := .seq #[] } (.tup [])), ?_, rfl, q _ _ (HOk.fresh I.hok (Nat.le_refl _)) ⟨rfl, rfl⟩⟩
    exact Inv.laid I (t' := s.toks) (fun b u e => Heap.get?_push_of_some _ e) (Nat.le_refl _) ⟨Heap.get?_push_size s.heap rfl, Nat.zero_le _, [], .nil, _, Heap.get?_push_size s.heap rfl, rfl, 0, rfl⟩
/-- (a, b, ..) * n, n any of 0 to 1000 -/
theorem vr_repT01 {K : Fr} {α : Type} [Enc α] : VR2 (fun x y H Q => rRepS K x y H Q ∨ rRepT01 K x y H Q) (fun (a : Tup α) (k : Int) (P : Tup α → Prop) => (a.l ≠ [] ∧ 0 ≤ k ∧ k ≤ 1000 ∧ a.l.length ≤ 1000) ∧ P (Tup.mk (reps a.l k))) (fun b : Tup α => fro b) := fun F H x y a k Q P e hx hy p Kk => by
  by_cases h2 : 2 ≤ k
  · exact .inl (vr_repT F H x y a k Q P e hx hy ⟨⟨p.1.1, h2, p.1.2.2.1, p.1.2.2.2⟩, p.2⟩ Kk)
  · refine .inr ?_
    cases hy
    cases hx with
    | tup h1 h3 =>
      have l2 := h3.length
      rw [List.length_map] at l2
      refine ⟨_, _, _, rfl, rfl, TupAt.sq (TupAt.mono e h1), fun z => p.1.1 ?_, ?_⟩
      · rw [z] at l2
        exact List.length_eq_zero_iff.mp l2.symm
      · by_cases h0 : k = 0
        · subst h0
          refine .inr ⟨rfl, fun q ob hq hn => Kk _ _ (upd F q _) _ (fun z => False) p.2 (New.fro e hq) ⟨fun _ h => h, .tup (TupAt.new hn) ?_⟩ fun z hz => hz.elim⟩
          exact .nil
        · have : k = 1 := by have := p.1.2.1; omega
          subst this
          refine .inl ⟨rfl, Kk _ _ F H (fun z => False) p.2 (New.refl e) ⟨fun _ h => h, .tup h1 ?_⟩ fun z hz => hz.elim⟩
          have er : reps a.l 1 = a.l := by unfold reps; simp
          show HasAll _ _ ((reps a.l 1).map Enc.enc)
          rw [er]; exact h3
theorem op_repTA {X : Cx} : OpR X (binaryOp .Mult) (fun x y H Q => rRepS X.K x y H Q ∨ rRepT01 X.K x y H Q) := fun pins s σ H x y v u Q I rx ry h => h.elim (op_repS pins s σ H x y v u Q I rx ry) (op_repT01 pins s σ H x y v u Q I rx ry)
theorem de_repTA {X : Cx} {pl : Pl} {G : Env} {α : Type} [Enc α] {e e' : Expr} {wa : W (Tup α)} {wb : W Int} {pos : Pos} (ha : DE X pl G e wa) (hb : DE X pl G e' wb) : DE X pl G (.BinOp e .Mult e' pos) (fun P => wa fun a => wb fun k => (a.l ≠ [] ∧ 0 ≤ k ∧ k ≤ 1000 ∧ a.l.length ≤ 1000) ∧ P (Tup.mk (reps a.l k))) := dx_op2 op_repTA vr_repT01 ha hb
end Dm

set_option Elab.async false
set_option linter.all false
set_option maxRecDepth 100000
set_option maxHeartbeats 2000000
namespace Dm
open PySem PySem.Spec PyProof.Rows L2
variable [TabC]
theorem collect_tup {prog : Program} {w : World} {A : Around} {E : Value → Shared → Prop} {s : Shared} {l : Addr} {vs : List Value} {Q : List Value → Shared → Prop} (hl : s.heap.IsTuple l vs.toArray)
    (h : Q vs { heap := (s.heap.push (seqObj "list" #[] 0)).update s.heap.objs.size (Obj.mapSeq fun x => x ++ vs.toArray), gens := s.gens, drawn := s.drawn, toks := s.toks, os := s.os }) (hsz : vs.length ≤ sizeLine) : wpAny (model prog w) A (collect (.ref l)) Q E s := by
  obtain ⟨o, ho, hc, n, hd⟩ := hl
  refine wpAny_bind (wpAny_runValue (codeAny_builtin entry_proto_collect' ?_))
  refine wpAny_bind (wpAny_newList (wpAny_pure ⟨Code.quiet_builtin { pos := [.ref s.heap.objs.size, .ref l] } (by decide +kernel), codeAny_builtin entry_list_iadd' ?_⟩) (Nat.zero_le _))
  have ho' := Heap.get?_push_of_some (seqObj "list" #[] 0) ho
  show wpAny _ _ (Builtin.List.listExtendWith (.ref s.heap.objs.size) (.ref l) (.ref s.heap.objs.size)) _ _ _
  unfold Builtin.List.listExtendWith
  refine wpAny_bind ?_
  refine wpAny_typeOf (v := .ref l) (T := "tuple") ⟨o, ho', hc⟩ ?_
  rw [if_pos (by simp)]
  refine wpAny_bind (listItems_at ho' hd ?_)
  refine wpAny_bind (listItems_at (Heap.get?_push_size s.1 rfl) rfl ?_)
  rw [if_neg (by simp)]
  refine wpAny_bind (listUpdate_at (Heap.get?_push_size s.1 rfl) rfl (wpAny_pure ?_) (Nat.zero_le _) (by rw [Array.size_append, List.size_toArray]; simp; omega))
  refine wpAny_bind (wpAny_load (get?_update_seq (Heap.get?_push_size s.1 rfl) fun x => x ++ vs.toArray) ?_)
  have e : (#[] ++ vs.toArray : Array Value).toList = vs := by simp
  show wpAny _ _ (pure (#[] ++ vs.toArray : Array Value).toList) _ _ _
  rw [e]
  exact wpAny_pure h
theorem sorted_tup {prog : Program} {w : World} {A : Around} {E : Value → Shared → Prop} {s : Shared} {l : Addr} {vs : List Value} {ns : List Int} {Q : Value → Shared → Prop} (hl : s.heap.IsTuple l vs.toArray) (hI : IntsAre vs ns) (h64 : vs.length < 64)
    (h : ∀ (out : Array Value) (ns' : List Int), IntsAre out.toList ns' → ns'.Perm ns → ns'.Pairwise (· ≤ ·) → Q (.ref (s.heap.objs.size + 1)) { heap := sortedAll s.heap vs out, gens := s.gens, drawn := s.drawn, toks := s.toks, os := s.os }) :
    wpAny (model prog w) A (call (.builtin "sorted") [.ref l]) Q E s := by
  have hsz : vs.length ≤ sizeLine := by rw [sizeLine_eq]; omega
  refine Calls.call_function_entry kind_sorted plain_sorted entry_sorted (args_sorted1 (.ref l)) ?_
  refine wpAny_bind ?_
  refine wpAny_pure ?_
  refine wpAny_bind ?_
  refine collect_tup hl ?_ hsz
  refine wpAny_bind ?_
  refine wpAny_newList ?_ hsz
  have hz : ((s.heap.push (seqObj "list" #[] 0)).update s.heap.objs.size (Obj.mapSeq fun x => x ++ vs.toArray)).objs.size = s.heap.objs.size + 1 := by rw [Heap.size_update, size_push']
  have hoL : (((s.heap.push (seqObj "list" #[] 0)).update s.heap.objs.size (Obj.mapSeq fun x => x ++ vs.toArray)).push (seqObj "list" vs.toArray 0)).get? (s.heap.objs.size + 1) = some (seqObj "list" vs.toArray 0) := by
    rw [← hz]
    exact Heap.get?_push_size _ rfl
  rw [hz]
  exact wpAny_bind (wpAny_holding (wpAny_call_entry slot_list_sort ⟨seqObj "list" vs.toArray 0, hoL, rfl⟩ entry_list_sort (list_sort_tree hoL hI h64 fun out ns' a1 a2 a3 => ⟨.none, rfl, wpAny_pure ⟨.ref (s.heap.objs.size + 1), rfl, h out ns' a1 a2 a3⟩⟩) (args_list_sort (.ref (s.heap.objs.size + 1)))))
def rSortedTup (K : Fr) : List V → Hp → VK → Prop := fun vs H Q => ∃ (a : Addr) (ns : List Int), vs = [V.ref a] ∧ SqT K H a (ns.map V.int) ∧ ns.length < 64 ∧ ∀ (ns' : List Int) (p : Addr), ns'.Perm ns → ns'.Pairwise (· ≤ ·) → H p = none → Q (.ref p) (upd H p (.lst (ns'.map V.int)))
theorem cr_sortedTup {X : Cx} : CallR X (.builtin "sorted") (rSortedTup X.K) := by
  intro pins s σ H xs us Q I r h
  obtain ⟨a, ns, rfl, hs, h64, q⟩ := h
  obtain ⟨its, rv, p, hz⟩ := Inv.tuple I hs
  rw [Vals.ref1 r]
  have hi := Vals.ints rv
  have hl := Vals.length rv
  rw [List.length_map] at hl
  refine sorted_tup (isTup_tuple p) hi (by omega) fun out ns' k1 k2 k3 => ?_
  obtain ⟨ep, he'⟩ := sortedAll_at s.heap its out
  have hlen : (ns'.map V.int).length ≤ sizeLine := by
    rw [List.length_map, k2.length_eq, sizeLine_eq]; omega
  exact ⟨.ref (s.heap.objs.size + 1), upd H (s.heap.objs.size + 1) (.lst (ns'.map V.int)), Inv.laid I (t' := s.toks) (fun _ _ => sortedAll_old) (Nat.le_succ _) ⟨hlen, out.toList, ep, vals_of_ints k1, he'⟩, rfl, q ns' _ k2 k3 (HOk.fresh I.hok (Nat.le_succ _))⟩
theorem dx_sortedT {X : Cx} {pl : Pl} {G : Env} {e : Expr} {w : W (Tup Int)} {p pos : Pos} (hm : X.mg "sorted" = none) (h : DE X pl G e w) (hg : Gl X "sorted" := by rfl)
    (he : starEach [e] X.env = (false, eval e X.env) :: starEach [] X.env := by rfl) (hpl : (backTo pos (starEach [] X.env)).any (·.1) = false := by rfl) : DX X pl G (.Call (.Name "sorted" p) [e] [] pos) (fun a : List Int => own a) (fun P => w fun l => l.l.length < 64 ∧ ∀ l', l'.Perm l.l → l'.Pairwise (· ≤ ·) → P l') := PE.wk (pe_callB cr_sortedTup hg hm (by decide +kernel) (pa_cons h pa_nil he) (by decide) (by decide) he hpl) fun s H Q ⟨F, fp, at_, P, w, K⟩ =>
  ⟨F, fp, at_, _, w, fun l v F1 H1 fp1 S1 w1 a1 g1 b1 _ => by
    obtain ⟨_, b1⟩ := b1
    cases b1 with
    | tup h1 h2 =>
      have ev : _ = l.l.map V.int := HasAll.ofInts (ns := l.l) h2
      rw [ev] at h1
      exact ⟨_, l.l, rfl, TupAt.sq (TupAt.mono a1.ex h1), w1.1, fun l' q perm pw hq => K.fin (S := fun x => x = q) a1 g1 (w1.2 l' perm pw) (New.own a1.ex hq) (own_new (a1.fnone hq) (HasAll.ints l')) fun x e => by rw [e]; exact hq⟩⟩
end Dm

set_option Elab.async false
set_option linter.all false
set_option maxRecDepth 100000
set_option maxHeartbeats 4000000
/-! Dm: part U: sorted(set(..)) of whole numbers; while; a triple as a tuple. -/
namespace Dm
open PySem PySem.Spec PyProof.Rows L2
variable [TabC]
/-- set(a list of whole numbers): as for a tuple -/
theorem set_of_list {P : Program} {w : World} {A : Around} {E : Value → Shared → Prop} {s : Shared} {l : Addr} {items : Array Value} (ns : List Int) {Q : Value → Shared → Prop} (hh : A.handled = none) (hl : s.heap.IsList l items) (hit : IntsAre items.toList ns) (hb : ns.length + 1 < scanBound)
    (h : ∀ (h' : Heap) (tk c : Nat), SetR w h' s.heap.objs.size (fun j => decide (j ∈ ns)) c → c ≤ ns.length → (∀ b o, s.heap.get? b = some o → h'.get? b = some o) → Q (.ref s.heap.objs.size) { s with heap := h', toks := tk }) : wpAny (model P w) A (call (.type "set") [.ref l]) Q E s := by
  have sz : items.size = ns.length := by have q := IntsAre.length hit; rw [Array.length_toList] at q; exact q
  let fresh : Obj := { cls := .type "set", dict := none, data := .set #[] 0 (.fresh 0 0 (!w.params.followText "set-order")) }
  obtain ⟨_, _, m0⟩ := F.called_set.mro; have m1 := F.called_set.made; have m2 := F.called_set.sub; have m3 := F.called_set.notType; have m4 := F.called_set.canCreate; have m5 := F.typeCall_set_1 (.ref l)
  refine wpAny_call (codeAny_of_tree ?_); show wpAny _ _ (callAny (.type "set") _) _ _ _
  refine wpAny_pure ⟨Code.quiet_builtin _ (by decide +kernel), codeAny_builtin F.entry_type_call ?_⟩; rw [Around.under_plain (weight_type_call_type "set" [.ref l] []) rfl]
  repeat (any_goals (first | assumption | wp_step))
  refine codeAny_mono (code_set_led1 (.ref l) (E := E) (Q₁ := fun o t => o = .ref s.heap.objs.size ∧ t = { s with heap := s.heap.push fresh }) ⟨rfl, rfl⟩) fun r t hr => ?_
  rcases r with e | fl
  · exact hr
  · cases fl with
    | ret o =>
      obtain ⟨rfl, rfl⟩ := hr
      have g0 : (s.heap.push fresh).get? s.heap.objs.size = some fresh := Heap.get?_push_size _ rfl
      have ty : Shared.TypeIs { s with heap := s.heap.push fresh } (.ref s.heap.objs.size) "set" := ⟨_, g0, rfl⟩
      have i1 := F.called_set.init.lookup; have i2 := F.called_set.init.bind (.ref s.heap.objs.size)
      repeat (any_goals (first | assumption | wp_step))
      refine codeAny_mono (codeAny_call_builtin (R := wants (fun r t => r = .none ∧ ∃ h' tk c, t = { s with heap := h', toks := tk } ∧ SetR w h' s.heap.objs.size (fun j => decide (j ∈ ns)) c ∧ c ≤ ns.length ∧ ∀ b o, s.heap.get? b = some o → h'.get? b = some o) E) F.called_set.init.plain F.entry_set_init (check_set_init_1 ty ?_)) fun r2 t2 hr2 => ?_
      · obtain ⟨⟨oc, od, oda, osl⟩, ol, oe, nl, odd⟩ := hl
        simp only at oe odd; subst oe; subst odd
        have ol1 : (s.heap.push fresh).get? l = some { cls := .type "list", dict := od, data := .seq items nl, slots := osl } := Heap.get?_push_of_some _ ol
        have b1 := F.sub_list_set; have b2 := F.sub_list_frozenset; have b3 : (Value.type "list" == Value.type "dict") = false := by decide
        have il : (s.heap.push fresh).IsList l items := ⟨_, ol1, rfl, nl, rfl⟩
        unfold Builtin.«set.__init__» noKeywords Builtin.Frozenset.updateFrom
        generalize hPI : pyIter = PI; wp_walk; subst hPI
        refine wpAny_pyIter_list il ?_; refine wpAny_bind (wpAny_runValue ?_)
        have lt : l < s.heap.objs.size := Heap.lt_size ol
        have hd3 : A.in1.in1.in1.handled = none := by simp [hh]
        have pz : (s.heap.push fresh).objs.size = s.heap.objs.size + 1 := Heap.size_push ..
        have ne1 : l ≠ (s.heap.push fresh).objs.size := by rw [pz]; exact Nat.ne_of_lt (Nat.lt_succ_of_lt lt)
        have ne2 : s.heap.objs.size ∉ [(s.heap.push fresh).objs.size, l] := by rw [pz]; simp only [List.mem_cons, List.not_mem_nil, or_false, not_or]; exact ⟨Nat.ne_of_lt (Nat.lt_succ_self _), Nat.ne_of_gt lt⟩
        refine set_update_ints ((Walks.list hd3 _ l ne1 items).toS) s.heap.objs.size ne2 ns sz hb (fun i v hv => ?_) (items.size - 0) 0 _ (by omega) (Nat.zero_le _) ⟨⟨_, Heap.get?_push_size _ rfl, rfl, rfl⟩, (il.push _)⟩ ⟨0, Nat.le_refl 0, setR_new_at (Heap.get?_push_of_some _ g0)⟩ ?_
        · have hi : i < ns.length := by rw [← sz]; exact (Array.getElem?_eq_some_iff.mp hv).1
          obtain ⟨t, e⟩ := PyProof.Rows.IntsAre.int_at hit i v (by rw [Array.getElem?_toList]; exact hv)
          exact ⟨ns[i], t, List.getElem?_eq_getElem hi, by rw [e, List.getD_eq_getElem?_getD, List.getElem?_eq_getElem hi]; rfl⟩
        · intro s' c' hm hc' hS'
          obtain ⟨h', g2, d', tk', os'⟩ := s'
          have eg : g2 = s.gens := hm.gens; have ed : d' = s.drawn := hm.drawn; have eo : os' = s.os := hm.os
          subst eg; subst ed; subst eo
          show wpAny _ _ _ _ _ _
          refine wpAny_pure ?_; show wpAny _ _ (ret Value.none) _ _ _
          rw [sz] at hc'
          refine wpAny_pure ⟨rfl, h', tk', c', rfl, hS', hc', fun b o e => hm.heap b o ?_ (Heap.get?_push_of_some _ (Heap.get?_push_of_some _ e))⟩
          have k0 : b < s.heap.objs.size := Heap.lt_size e
          rw [pz]; simp only [List.mem_cons, List.not_mem_nil, or_false, not_or]; exact ⟨Nat.ne_of_lt k0, Nat.ne_of_lt (Nat.lt_succ_of_lt k0)⟩
      · rcases r2 with e | fl2
        · exact hr2
        · cases fl2 with
          | ret r =>
            obtain ⟨rfl, h', tk, c, rfl, k1, k2, k3⟩ := hr2
            repeat (any_goals (first | assumption | wp_step))
            exact h _ _ _ k1 k2 k3
          | _ => exact hr2.elim
    | _ => exact hr.elim
def rSetI (K : Fr) (w : World) : List V → Hp → VK → Prop := fun xs H Q => ∃ (l : Addr) (ns : List Int), xs = [.ref l] ∧ (SqT K H l (ns.map V.int) ∨ SqL K H l (ns.map V.int)) ∧ ns.length ≤ 1000 ∧
  ∀ (p : Addr) (S : Int → Bool) (n : Nat), H p = none → (∀ k, S k = true ↔ k ∈ ns) → n ≤ ns.length → Q (.ref p) (upd H p (SetO w p S n))
theorem cr_setI {X : Cx} (hc : X.calm = true) : CallR X (.type "set") (rSetI X.K X.w) := by
  intro pins s σ H xs us Q I r h
  obtain ⟨l, ns, rfl, hs, ln, q⟩ := h
  rw [Vals.ref1 r]
  have sb : ns.length + 1 < scanBound := by unfold scanBound; omega
  have fin : ∀ (h' : Heap) (tk c : Nat), SetR X.w h' s.heap.objs.size (fun j => decide (j ∈ ns)) c → c ≤ ns.length → (∀ b o, s.heap.get? b = some o → h'.get? b = some o) → EP X pins σ Q (.ref s.heap.objs.size) { s with heap := h', toks := tk } := fun h' tk c R hc k =>
    ⟨.ref _, upd H s.heap.objs.size (SetO X.w s.heap.objs.size (fun j => decide (j ∈ ns)) c), I.laid (t' := tk) k (Nat.le_refl _) (setO_new R), rfl, q _ _ c (I.hok.fresh (Nat.le_refl _)) (fun k => decide_eq_true_iff) hc⟩
  rcases hs with hs | hs
  · obtain ⟨its, rv, p, hz⟩ := Inv.tuple I hs
    exact call_set_tupI ns (I.ok.hd hc) (isTup_tuple p) (Vals.ints rv) sb fin
  · obtain ⟨its, rv, p, hz⟩ := I.list hs
    obtain ⟨o, n, ho, hcl, hdn, hd⟩ := p
    exact set_of_list ns (I.ok.hd hc) ⟨o, ho, hcl, n, hd⟩ (Vals.ints rv) sb fin
section
variable {X : Cx} {pl : Pl} {G : Env} {e : Expr} {p p2 pos pos2 : Pos}
theorem dx_ssT {w : W (Tup Int)} (hc : X.calm = true) (hm : X.mg "sorted" = none) (hm2 : X.mg "set" = none) (h : DE X pl G e w) (hg : Gl X "sorted" := by rfl) (hg2 : Gl X "set" := by rfl)
    (he : starEach [e] X.env = (false, eval e X.env) :: starEach [] X.env := by rfl) (hpl : (backTo pos2 (starEach [] X.env)).any (·.1) = false := by rfl)
    (he2 : starEach [Expr.Call (.Name "set" p2) [e] [] pos2] X.env = (false, eval (Expr.Call (.Name "set" p2) [e] [] pos2) X.env) :: starEach [] X.env := by rfl) (hpl2 : (backTo pos (starEach [] X.env)).any (·.1) = false := by rfl) :
    DX X pl G (.Call (.Name "sorted" p) [.Call (.Name "set" p2) [e] [] pos2] [] pos) (fun a : List Int => own a) (fun P => w fun l => l.l.length < 64 ∧ ∀ l' : List Int, l'.Pairwise (· < ·) → (∀ k, k ∈ l' ↔ k ∈ l.l) → P l') :=
  PE.wk (pe_callB (cr_sortedSet hc) hg hm (by decide +kernel) (pa_cons (pe_callTy (cr_setI hc) hg2 hm2 PyProof.Rows.boot_set (pa_cons h pa_nil he) (by decide) (by decide) he hpl) pa_nil he2) (by decide) (by decide) he2 hpl2) fun s H Q ⟨F, fp, at_, P, w, K⟩ =>
  ⟨F, fp, at_, _, w, fun l v F1 H1 fp1 S1 w1 a1 g1 b1 _ => by
    obtain ⟨_, b1⟩ := b1
    cases b1 with
    | tup h1 h2 =>
      have ev : _ = l.l.map V.int := HasAll.ofInts (ns := l.l) h2
      rw [ev] at h1
      refine ⟨_, l.l, rfl, .inl (TupAt.sq (TupAt.mono a1.ex h1)), by omega, fun q S n hq hS hn => ⟨q, S, n, rfl, upd_same, by omega, fun l' r pw mem ln hr => ?_⟩⟩
      have n1 : New F1 H1 F1 (upd H1 q (SetO X.w q S n)) := New.own a1.ex hq
      have hr1 : H1 r = none := by
        by_cases hrq : r = q
        · rw [hrq]; exact hq
        · rw [upd_ne hrq] at hr; exact hr
      exact K.fin (S := fun x => x = r) a1 g1 (w1.2 l' pw fun k => (mem k).trans (hS k)) (n1.trans (New.own n1.ex hr)) (own_new (a1.fnone hr1) (HasAll.ints l')) fun x e => by rw [e]; exact hr1⟩
theorem dx_ssL {w : W (List Int)} (hc : X.calm = true) (hm : X.mg "sorted" = none) (hm2 : X.mg "set" = none) (h : DE X pl G e w) (hg : Gl X "sorted" := by rfl) (hg2 : Gl X "set" := by rfl)
    (he : starEach [e] X.env = (false, eval e X.env) :: starEach [] X.env := by rfl) (hpl : (backTo pos2 (starEach [] X.env)).any (·.1) = false := by rfl)
    (he2 : starEach [Expr.Call (.Name "set" p2) [e] [] pos2] X.env = (false, eval (Expr.Call (.Name "set" p2) [e] [] pos2) X.env) :: starEach [] X.env := by rfl) (hpl2 : (backTo pos (starEach [] X.env)).any (·.1) = false := by rfl) :
    DX X pl G (.Call (.Name "sorted" p) [.Call (.Name "set" p2) [e] [] pos2] [] pos) (fun a : List Int => own a) (fun P => w fun l => l.length < 64 ∧ ∀ l' : List Int, l'.Pairwise (· < ·) → (∀ k, k ∈ l' ↔ k ∈ l) → P l') :=
  PE.wk (pe_callB (cr_sortedSet hc) hg hm (by decide +kernel) (pa_cons (pe_callTy (cr_setI hc) hg2 hm2 PyProof.Rows.boot_set (pa_cons h pa_nil he) (by decide) (by decide) he hpl) pa_nil he2) (by decide) (by decide) he2 hpl2) fun s H Q ⟨F, fp, at_, P, w, K⟩ =>
  ⟨F, fp, at_, _, w, fun l v F1 H1 fp1 S1 w1 a1 g1 b1 _ => by
    obtain ⟨_, b1⟩ := b1
    cases b1 with
    | lst h1 h2 =>
      have ev : _ = l.map V.int := HasAll.ofInts (ns := l) h2
      rw [ev] at h1
      refine ⟨_, l, rfl, .inr (SqL.of (a1.ex _ _ h1)), by omega, fun q S n hq hS hn => ⟨q, S, n, rfl, upd_same, by omega, fun l' r pw mem ln hr => ?_⟩⟩
      have n1 : New F1 H1 F1 (upd H1 q (SetO X.w q S n)) := New.own a1.ex hq
      have hr1 : H1 r = none := by
        by_cases hrq : r = q
        · rw [hrq]; exact hq
        · rw [upd_ne hrq] at hr; exact hr
      exact K.fin (S := fun x => x = r) a1 g1 (w1.2 l' pw fun k => (mem k).trans (hS k)) (n1.trans (New.own n1.ex hr)) (own_new (a1.fnone hr1) (HasAll.ints l')) fun x e => by rw [e]; exact hr1⟩
end
end Dm

set_option Elab.async false
set_option linter.all false
set_option maxRecDepth 100000
set_option maxHeartbeats 4000000
/-! Dm: part V: while; a triple as a tuple. -/
namespace Dm
open PySem PySem.Spec PyProof.Rows L2
variable [TabC]
theorem PT.exi {X : Cx} {e : Expr} {ι : Type} {t : ι → TT} (h : ∀ a, PT X e (t a)) : PT X e (fun s H Q => ∃ a, t a s H Q) := ⟨fun pins s σ H Q I ⟨a, w⟩ => (h a).run pins s σ H Q I w⟩
/-- a while loop of at most n turns -/
def wWhN {κ : Type} : Nat → κ → (κ → W Bool) → (κ → (κ → Prop) → Prop) → (κ → Prop) → Prop
  | 0, _, _, _, _ => False
  | n + 1, k, c, f, P => c k fun b => wIf b (f k fun k' => wWhN n k' c f P) (P k)
def wWhile {κ : Type} (k : κ) (c : κ → W Bool) (f : κ → (κ → Prop) → Prop) (P : κ → Prop) : Prop := ∃ n, wWhN n k c f P
section
variable {X : Cx} {pl : Pl} {G : Env} {κ ρ : Type} {B : Rt ρ}
theorem ds_while {e : Expr} {body : List Stmt} {GL : κ → Env} {k0 : κ} {wc : κ → W Bool} {wb : κ → WS κ ρ} {pos : Pos} (hp : PassesOwn (model X.prog X.w) X.A X.env X.xe) (h0 : Sub G (GL k0)) (ht : ∀ k, DT X pl (GL k) e (wc k)) (hb : ∀ k, DSs X pl (GL k) B body (wb k) GL) :
    DS X pl G B (.While e body [] pos) (fun nx rt => wWhile k0 wc (fun k nx' => wb k nx' rt) nx) GL := PS.wk (ps_while hp (PT.exi ht) (PSs.exi hb)) fun D s H ⟨F, fp, at_, Pn, Pr, ⟨n, w⟩, K1, K2⟩ => by
  obtain ⟨fp', a', l⟩ := at_.sub h0
  refine ⟨fun m s2 H2 => ∃ F2 fp2 k, At pl (GL k) F2 H2 s2 fp2 ∧ Go pl F H fp F2 H2 fp2 ∧ wWhN m k wc (fun k nx' => wb k nx' Pr) Pn, ⟨n, F, fp', k0, a', Go.less l, w⟩, fun m s2 H2 ⟨F2, fp2, k, a2, g2, wf⟩ => ?_⟩
  cases m with
  | zero => exact wf.elim
  | succ m =>
    refine ⟨k, F2, fp2, a2, _, wf, fun b F3 H3 fp3 w3 a3 g3 => ?_⟩
    have gg := g2.trans g3
    cases b with
    | true =>
      refine (if_pos rfl).mpr ⟨fun s' H' => ∃ F2 fp2 k, At pl (GL k) F2 H' s' fp2 ∧ Go pl F H fp F2 H' fp2 ∧ wWhN m k wc (fun k nx' => wb k nx' Pr) Pn, fun s' H' h => ⟨m, Nat.lt_succ_self m, h⟩, k, F3, fp3, a3, _, Pr, w3.1 rfl, fun k' s4 F4 H4 fp4 p4 a4 g4 => ⟨F4, fp4, k', a4, gg.trans g4, p4⟩, fun r v F4 H4 fp4 S p4 e4 po4 g4 b4 hS => ?_⟩
      exact K2 r v F4 H4 fp4 S p4 e4 po4 (gg.trans g4) b4 fun q m => (hS q m).elim (fun ⟨i, y⟩ => gg.foot i q y) fun y => .inr (gg.back y)
    | false => exact (if_neg Bool.false_ne_true).mpr (K1 k s2 F3 H3 fp3 (w3.2 rfl) a3 gg)
theorem de_p3T {α : Type} [Enc α] {e : Expr} {w : W (P3 α α α)} (h : DE X pl G e w) : DE X pl G e (fun P => w fun p => P (Tup.mk [p.a, p.b, p.c])) := dx_map (B' := fun o : Tup α => fro o) (fun p : P3 α α α => Tup.mk [p.a, p.b, p.c]) h fun a F H v S b => b
theorem vr_isB : VR2 (fun x y H Q => ∃ a b : Bool, x = .bl a ∧ y = .bl b ∧ Q (.bl (decide (a = b))) H) (fun (a b : Bool) (P : Bool → Prop) => P (decide (a = b))) (fun b : Bool => fro b) := fun F H x y a b Q P e hx hy p Kk => by
  cases hx; cases hy
  exact ⟨a, b, rfl, rfl, Kk _ _ F H (fun _ => False) p (New.refl e) ⟨fun _ h => h, .bl _⟩ fun _ h => h.elim⟩
theorem vr_notB : VR2 (fun x y H Q => ∃ a b : Bool, x = .bl a ∧ y = .bl b ∧ Q (.bl (!decide (a = b))) H) (fun (a b : Bool) (P : Bool → Prop) => P (!decide (a = b))) (fun b : Bool => fro b) := fun F H x y a b Q P e hx hy p Kk => by
  cases hx; cases hy
  exact ⟨a, b, rfl, rfl, Kk _ _ F H (fun _ => False) p (New.refl e) ⟨fun _ h => h, .bl _⟩ fun _ h => h.elim⟩
theorem de_isB {e : Expr} {c : Bool} {wa wb : W Bool} {k : Nat} {p pos : Pos} (ha : DE X pl G e wa) (hb : DE X pl G (.Constant (.bool c) k p) wb) : DE X pl G (.Compare e [.Is] [.Constant (.bool c) k p] pos) (fun P => wa fun x => wb fun y => P (decide (x = y))) := de_cmp op_isBl vr_isB ha hb
theorem dt_isB {e : Expr} {c : Bool} {wa wb : W Bool} {k : Nat} {p pos : Pos} (ha : DE X pl G e wa) (hb : DE X pl G (.Constant (.bool c) k p) wb) : DT X pl G (.Compare e [.Is] [.Constant (.bool c) k p] pos) (fun P => wa fun x => wb fun y => P (decide (x = y))) := dt_cmp op_isBl vr_isB ha hb
theorem de_notB {e : Expr} {c : Bool} {wa wb : W Bool} {k : Nat} {p pos : Pos} (ha : DE X pl G e wa) (hb : DE X pl G (.Constant (.bool c) k p) wb) : DE X pl G (.Compare e [.IsNot] [.Constant (.bool c) k p] pos) (fun P => wa fun x => wb fun y => P (!decide (x = y))) := de_cmp op_notBl vr_notB ha hb
theorem dt_notB {e : Expr} {c : Bool} {wa wb : W Bool} {k : Nat} {p pos : Pos} (ha : DE X pl G e wa) (hb : DE X pl G (.Constant (.bool c) k p) wb) : DT X pl G (.Compare e [.IsNot] [.Constant (.bool c) k p] pos) (fun P => wa fun x => wb fun y => P (!decide (x = y))) := dt_cmp op_notBl vr_notB ha hb
section
variable {α β : Type} [Enc α] [Enc β]
theorem de_lp0 {e : Expr} {w : W (Lp α β)} {pos pos' : Pos} {j : Nat} (ha : DE X pl G e w) : DE X pl G (.Subscript e (.Constant (.int 0) j pos') pos) (fun P => w fun p => P p.a) := PE.wk (pe_ix ix_list ha pe_int (fun _ _ => rfl)) fun s H Q ⟨F, fp, at_, P, w, K⟩ =>
  ⟨F, fp, at_, _, w, fun a v F1 H1 fp1 S1 w1 a1 g1 b1 _ => by
    obtain ⟨_, b1⟩ := b1
    cases b1 with
    | lst h1 h2 => cases h2 with
      | cons x y => exact ⟨_, _, _, _, rfl, rfl, SqL.of (a1.ex _ _ h1), atI_nat (j := 0) rfl, K.pure a1 g1 w1 x⟩⟩
theorem de_lp1 {e : Expr} {w : W (Lp α β)} {pos pos' : Pos} {j : Nat} (ha : DE X pl G e w) : DE X pl G (.Subscript e (.Constant (.int 1) j pos') pos) (fun P => w fun p => P p.b) := PE.wk (pe_ix ix_list ha pe_int (fun _ _ => rfl)) fun s H Q ⟨F, fp, at_, P, w, K⟩ =>
  ⟨F, fp, at_, _, w, fun a v F1 H1 fp1 S1 w1 a1 g1 b1 _ => by
    obtain ⟨_, b1⟩ := b1
    cases b1 with
    | lst h1 h2 => cases h2 with
      | cons x y => cases y with
        | cons y z => cases z with
          | nil => exact ⟨_, _, _, _, rfl, rfl, SqL.of (a1.ex _ _ h1), atI_nat (j := 1) rfl, K.pure a1 g1 w1 y⟩⟩
end
end
end Dm

set_option Elab.async false
set_option linter.all false
set_option maxRecDepth 100000
set_option maxHeartbeats 4000000
/-! Dm: part W: x[i], x[j] = a, b, x an owned list. -/
namespace Dm
open PySem PySem.Spec PyProof.Rows L2
variable [TabC]
/-- a way on, named -/
abbrev wCps {α : Type} (B : (α → Prop) → Prop) (k : α → Prop) : Prop := B k
theorem cps {α : Type} {B : (α → Prop) → Prop} {k : α → Prop} (I : α → Prop) (hB : ∀ nx : α → Prop, (∀ y, I y → nx y) → B nx) (hk : ∀ y, I y → k y) : wCps B k := hB k hk
theorem cpsE {α : Type} {B : (α → Prop) → Prop} {k : α → Prop} (v : α) (hB : ∀ nx : α → Prop, nx v → B nx) (hk : k v) : wCps B k := hB k hk
section
variable {X : Cx} {pl : Pl} {G : Env} {κ ρ : Type} {B : Rt ρ} {α : Type} [Enc α]
theorem ds_swapI (i : Nat) {as : List α} {x : Str} {es : List Expr} {e1 e2 : Expr} {w : W (List α)} {w1 w2 : W Int} {p sp p' sp' pt pv pos : Pos} {kt kv : Nat} (hc : X.calm = true) (hal : DAh X pl G es 2 w) (hb1 : DQ X pl G e1 w1) (hb2 : ∀ as1 : List α, DQ X pl (G.set i (some (own as1))) e2 w2)
    (h : G[i]? = some (some (own as)) := by rfl) (hN : X.N[i]? = some x := by rfl) (hv : Vis X.env.scope x := by first | exact Or.inl rfl | exact Or.inr (Or.inl rfl) | exact Or.inr (Or.inr rfl)) (hd : (x == ("__debug__" : Str)) = false := by decide) (hcd : (x == ("__classdict__" : Str)) = false := by decide)
    (ha1 : ∀ v, assign (.Subscript (.Name x p) e1 sp) X.env v = (do
          let ov ← holding [v] (eval (.Name x p) X.env)
          let iv ← holding [v, ov] (eval e1 X.env)
          standAt sp
          holding [v, ov, iv] (setItem ov iv v)
          release [v, ov, iv] []) := by intro _; rfl)
    (ha2 : ∀ v, assign (.Subscript (.Name x p') e2 sp') X.env v = (do
          let ov ← holding [v] (eval (.Name x p') X.env)
          let iv ← holding [v, ov] (eval e2 X.env)
          standAt sp'
          holding [v, ov, iv] (setItem ov iv v)
          release [v, ov, iv] []) := by intro _; rfl)
    (hsB : (assignEach (Expr.Subscript (.Name x p) e1 sp :: [.Subscript (.Name x p') e2 sp']) X.env).map (·.2) = assign (.Subscript (.Name x p) e1 sp) X.env :: (assignEach [.Subscript (.Name x p') e2 sp'] X.env).map (·.2) := by rfl) (hsA : (assignEach (Expr.Subscript (.Name x p') e2 sp' :: []) X.env).map (·.2) = assign (.Subscript (.Name x p') e2 sp') X.env :: (assignEach [] X.env).map (·.2) := by rfl)
    (hn : (assignEach [.Subscript (.Name x p) e1 sp, .Subscript (.Name x p') e2 sp'] X.env).length = 2 := by rfl) (hst : (assignEach [.Subscript (.Name x p) e1 sp, .Subscript (.Name x p') e2 sp'] X.env).findIdx? (·.1) = none := by rfl)
    (hs1 : swapsWithSole [.Tuple [.Subscript (.Name x p) e1 sp, .Subscript (.Name x p') e2 sp'] kt pt] (.Tuple es kv pv) pos.line X.env = pure false := by rfl) (hs2 : swappedStores [.Tuple [.Subscript (.Name x p) e1 sp, .Subscript (.Name x p') e2 sp'] kt pt] (.Tuple es kv pv) X.env = pure none := by rfl) :
    DS X pl G B (.Assign [.Tuple [.Subscript (.Name x p) e1 sp, .Subscript (.Name x p') e2 sp'] kt pt] (.Tuple es kv pv) pos) (fun nx _ => w fun vs => ∃ a b, vs = [a, b] ∧ w1 fun j => wSet as j a fun as1 => w2 fun m => wSet as1 m b nx) (fun as' : List α => G.set i (some (own as'))) :=
  PS.wk (ps_asg (pe_tup hal) (pg_tup hc (pgs_cons (pg_sub (pe_var hN hv hd hcd) hb1 set_list ha1) (pgs_cons (pg_sub (pe_var hN hv hd hcd) (PE.exi hb2) set_list ha2) pgs_nil hsA) hsB) hn hst) hs1 hs2) fun D s H ⟨F, fp, at_, Pn, Pr, w, K1, K2⟩ => by
    refine ⟨F, fp, at_, _, w, fun bs us F1 H1 fp1 pw lb a1 g1 hb => ?_⟩
    obtain ⟨a, b, rfl, wi1⟩ := pw
    cases hb with
    | cons u1 hb' => cases hb' with
      | cons u2 hb'' => cases hb'' with
        | nil =>
          rename_i ua ub
          refine ⟨by show 2 ≤ sizeLine; exact lineOf (by decide), fun q hq => ⟨q, _, rfl, SqT.of upd_same, rfl, ua, [ub], rfl, ?_⟩⟩
          have nw : New F1 H1 F1 (upd H1 q (.tup [ua, ub])) := New.own a1.ex hq
          have a2 := a1.new nw
          obtain ⟨_, v0, hv0, l, vs, rfl, hS, hF, hH, hA⟩ := a2.sl i _ h
          refine ⟨.ref l, hv0, F1, fp1, a2, _, wi1, fun j z ⟨n, hn', w2'⟩ bj => ?_⟩
          cases bj
          have lv := hA.length
          rw [List.length_map] at lv
          refine ⟨l, vs, j, n, rfl, rfl, hH, by rw [lv]; exact hn', ?_⟩
          obtain ⟨a3, g3⟩ := a2.mut (A := own (as.set n a)) (q := l) (o := .lst (vs.set n ua)) (v := .ref l) (a2.lt h) ((hS l).mpr rfl) hv0 (good_own _) ⟨l, _, rfl, hS, hF, upd_same, by rw [List.map_set]; exact hA.set u1 n⟩
          refine ⟨ub, [], rfl, ?_⟩
          have h2 : (G.set i (some (own (as.set n a))))[i]? = some (some (own (as.set n a))) := List.getElem?_set_self (a2.lt h)
          obtain ⟨_, v1, hv1, l1, vs1, rfl, hS1, hF1, hH1, hA1⟩ := a3.sl i _ h2
          refine ⟨.ref l1, hv1, as.set n a, F1, fp1, a3, _, w2', fun m z ⟨n2, hn2, p2⟩ bj => ?_⟩
          cases bj
          have lv1 := hA1.length
          rw [List.length_map] at lv1
          refine ⟨l1, vs1, m, n2, rfl, rfl, hH1, by rw [lv1]; exact hn2, ?_⟩
          obtain ⟨a4, g4⟩ := a3.mut (A := own ((as.set n a).set n2 b)) (q := l1) (o := .lst (vs1.set n2 ub)) (v := .ref l1) (a3.lt h2) ((hS1 l1).mpr rfl) hv1 (good_own _) ⟨l1, _, rfl, hS1, hF1, upd_same, by rw [List.map_set]; exact hA1.set u2 n2⟩
          rw [List.set_set] at a4
          exact ⟨rfl, K1 _ s F1 _ fp1 p2 a4 (((g1.trans (.new nw)).trans g3).trans g4)⟩
/-- a tuple as a test -/
theorem dt_truT {e : Expr} {w : W (Tup α)} (h : DE X pl G e w) (he : ∀ whole, isTrue e X.env whole = (do let v ← whole; standAt e.pos; holding [v] (truthy v)) := by intro _; rfl) : DT X pl G e (fun P => w fun l => P (!l.l.isEmpty)) := PT.wk (pt_truth h he) fun s H Q ⟨F, fp, at_, P, w, K⟩ =>
  ⟨F, fp, at_, _, w, fun l v F1 H1 fp1 S1 w1 a1 g1 b1 _ => by
    obtain ⟨_, b1⟩ := b1
    cases b1 with
    | tup h1 h2 =>
      rename_i a xs
      refine ⟨!xs.isEmpty, .inr (.inl ⟨_, TupAt.sq (TupAt.mono a1.ex h1), rfl⟩), ?_⟩
      have e : xs.isEmpty = l.l.isEmpty := by
        have := h2.length
        rw [List.length_map] at this
        cases xs <;> cases hl : l.l <;> simp_all
      rw [e]
      exact K _ F1 H1 fp1 w1 a1 g1⟩
end
end Dm

set_option Elab.async false
set_option linter.all false
set_option maxRecDepth 100000
set_option maxHeartbeats 2000000
/-! Dm: part R: defs that raise an error of the program with one field. -/
namespace Dm
open PySem PySem.Spec PyProof.Rows L2
variable [TabC]
/-- an error on its way: its class's name, its field's name and data -/
structure Xc where
  cls : Str
  fld : Str
  d : D
/-- the program's classes of errors without a field -/
def bareX (c : Str) : Bool := [("Unfit" : Str), "BadLooks", "BadNaming", "BadBatch", "TooManyEdits", "NothingToUndo", "NothingToRedo"].contains c
def xAsrt (x : Xc) : Asrt := fun F H v S => (bareX x.cls = true → ∀ q, ¬ S q) ∧ (bareX x.cls = false → ∃ dd fv, v = V.ref dd ∧ (∀ q, S q ↔ q = dd) ∧ F dd = none ∧ H dd = some (.xd [(x.fld, fv)]) ∧ Has F fv x.d)
/-- the ways out of a def that may raise -/
def exB {ρ : Type} (B : ρ → Asrt) (mg : Str → Option Value) (E : XK) : Rt (ρ ⊕ Xc) where
  a := fun r => match r with
    | .inl r => B r
    | .inr x => xAsrt x
  out := fun q r v H => match r with
    | .inl _ => q v H
    | .inr x => ∀ C, mg x.cls = some (.ref C) → (bareX x.cls = true → E (.ref C) none H) ∧ (bareX x.cls = false → ∃ dd, v = .ref dd ∧ E (.ref C) (some dd) H)
/-- the facts of a class whose __init__ keeps its one argument -/
structure OwnX (P : Program) (w : World) (K : Fr) (mg : Str → Option Value) (base : Heap) (cls fld : Str) (C : Addr) : Prop where
  gC : mg cls = some (.ref C)
  T : OexC K C
  nf : PySem.W.findIn K (.ref C) fld = some none
  init : ∃ (fI : Addr) (fd : FuncData), PySem.W.findIn K (.ref C) "__init__" = some (some (.ref fI)) ∧ PySem.W.typeIn K (.ref fI) = some (.type "function") ∧ Binds K fd ["self", fld] [] ∧
    FnOk P w K mg base CX0 1 fI fd ["self", fld] (fun vs H Q _ => ∃ (a : Addr) (y : V), vs = [.ref a, y] ∧ H a = some (exo a C none) ∧ ∀ dx, H dx = none → dx ≠ a → Q .non (upd (upd H dx (exd dx [(fld, y)])) a (exo a C (some dx))))
section
variable {P : Program} {w : World} {K : Fr} {mg : Str → Option Value} {base : Heap}
theorem ok_xinit {C : Addr} {fld qual : Str} {st : Stmt} {f : Addr} {fd : FuncData} {e : Expr} {p1 p2 p3 p4 pos : Pos} (Fn : Fun K "__init__" qual st f fd) (S : FnScope ["self", fld] ["self", fld] (defScope st)) (hb : defBody st = [.Assign [.Attribute (.Name "self" p1) fld p2] (.Name fld p3) pos]) (T : OexC K C) (nf : PySem.W.findIn K (.ref C) fld = some none)
    (hv0 : Vis (defScope st) "self") (hv1 : Vis (defScope st) fld) (hd : (fld == ("__debug__" : Str)) = false) (hcd : (fld == ("__classdict__" : Str)) = false) (hs : ∀ env : PySem.Env, swapsWith (.Name fld p3) (some (.Attribute (.Name "self" p1) fld p2)) pos.line env = pure false) :
    FnOk P w K mg base CX0 1 f fd ["self", fld] (fun vs H Q _ => ∃ (a : Addr) (y : V), vs = [.ref a, y] ∧ H a = some (exo a C none) ∧ ∀ dx, H dx = none → dx ≠ a → Q .non (upd (upd H dx (exd dx [(fld, y)])) a (exo a C (some dx)))) := by
  refine Fn.ok S (fun vs H Q E ⟨a, y, ev, _⟩ => by rw [ev]; rfl) fun cdv A outer s H vs Q E hr ⟨a, y, ev, h1, h2⟩ => ?_
  subst ev
  rw [hb]
  refine ⟨_, pss_one (ps_ost (pe_var (i := 0) (by rfl) hv0 (by decide) (by decide)) (pe_var (i := 1) (by rfl) hv1 hd hcd) (hs _)), ?_⟩
  exact ⟨y, rfl, .ref a, rfl, a, C, rfl, T, nf, .inl ⟨h1, fun dx hx hn => h2 dx hx hn⟩⟩
end
section
variable {X : Cx} {pl : Pl} {G : Env} {κ ρ : Type} {B : ρ → Asrt} {α : Type} [Enc α]
theorem ds_retE {E : XK} {e : Expr} {w : W ρ} {pos : Pos} {G' : κ → Env} (h : DX X pl G e B w) : DS X pl G (exB B X.mg E) (.Return (some e) pos) (fun _ rt => w fun a => rt (.inl a)) G' := PS.wk (ps_ret h) fun D s H ⟨F, fp, at_, Pn, Pr, w, K1, K2⟩ =>
  ⟨F, fp, at_, _, w, fun r v F1 H1 fp1 S1 p a1 g1 b1 hS => K2 (.inl r) v F1 H1 fp1 S1 p a1.ex a1.pool g1 b1 fun q m => .inr (hS q m).1⟩
theorem ds_raise {E : XK} {cls fld : Str} {C : Addr} {e : Expr} {w : W α} {p pos pos2 : Pos} {G' : κ → Env} {k : Nat} (hc : X.calm = true) (hk : Takes X (fun c d _ H => E c d H)) (O : OwnX X.prog X.w X.K X.mg X.base cls fld C) (hr : Room (k + 2) X.A) (h : DE X pl G e w) (hg : Gl X cls := by rfl) (hdb : (cls == ("__debug__" : Str)) = false := by decide) (hbx : bareX cls = false := by decide)
    (he : starEach [e] X.env = (false, eval e X.env) :: starEach [] X.env := by rfl) (hpl : (backTo pos (starEach [] X.env)).any (·.1) = false := by rfl) :
    DS X pl G (exB B X.mg E) (.Raise (some (.Call (.Name cls p) [e] [] pos)) none pos2) (fun _ rt => w fun a => rt (.inr ⟨cls, fld, enc a⟩)) G' := by
  obtain ⟨fI, fd, iC, tI, hb, F1⟩ := O.init
  refine PS.wk (ps_raise hc hk (pmk_oex O.T iC tI F1 (hr.mono (by omega)) hb .nil pass0 hg O.gC (pa_cons h pa_nil he) hdb he hpl)) fun D s H ⟨F, fp, at_, Pn, Pr, wp, K1, K2⟩ => ?_
  refine ⟨F, fp, at_, _, wp, fun a v F1 H1 fp1 S1 p a1 g1 b1 _ => ⟨by show 1 ≤ 1000; decide, fun ad hd => ⟨ad, v, rfl, upd_same, fun dx hx hn => ⟨rfl, dx, [(fld, v)], upd_same, ?_, ?_, ?_⟩⟩⟩⟩
  · rw [upd_ne hn, upd_same]
  · rw [upd_ne hn] at hx; exact hx
  · have hx1 : H1 dx = none := by rw [upd_ne hn] at hx; exact hx
    have eH : upd (del (upd (upd (upd H1 ad (exo ad C none)) dx (exd dx [(fld, v)])) ad (exo ad C (some dx))) ad) dx (.xd [(fld, v)]) = upd H1 dx (.xd [(fld, v)]) := by
      funext q
      by_cases z : q = dx
      · rw [z, upd_same, upd_same]
      · rw [upd_ne z, upd_ne z]
        unfold del
        by_cases z2 : q = ad
        · rw [if_pos z2, z2, hd]
        · rw [if_neg z2, upd_ne z2, upd_ne z, upd_ne z2]
    rw [eH]
    have n : New F1 H1 F1 (upd H1 dx (.xd [(fld, v)])) := New.own a1.ex hx1
    obtain ⟨dd, edd, q⟩ := (K2 (.inr ⟨cls, fld, enc a⟩) (.ref dx) F1 _ fp1 (fun q => q = dx) p n.ex (a1.new n).pool (g1.trans (.new n)) ⟨fun z => (by rw [show bareX cls = false from hbx] at z; cases z), fun _ => ⟨dx, v, rfl, fun _ => Iff.rfl, a1.fnone hx1, upd_same, b1.2⟩⟩ (fun q m => .inr (by rw [m]; exact g1.back hx1)) C O.gC).2 hbx
    cases edd
    exact q
end
end Dm

set_option Elab.async false
set_option linter.all false
set_option maxRecDepth 100000
set_option maxHeartbeats 2000000
/-! Dm: part S: calls of defs that may raise, in a try. -/
namespace Dm
open PySem PySem.Spec PyProof.Rows L2
variable [TabC]
def PromX {ρ : Type} (mg : Str → Option Value) (B : ρ → Asrt) (w : W (ρ ⊕ Xc)) (F H : Hp) (Q : VK) (E : XK) : Prop := ∃ P : ρ ⊕ Xc → Prop, w P ∧ ∀ r v F' H' S, P r → Ex F' H' → PoolOk none F' H' → Go none F H noF F' H' noF → (exB B mg E).a r F' H' v S → (∀ q, S q → H q = none) → (exB B mg E).out Q r v H'
def spX {ρ : Type} (mg : Str → Option Value) (M : List D → W (ρ ⊕ Xc) → Prop) (B : ρ → Asrt) : Sp := fun vs H Q E => ∃ F ds w, ExT F H ∧ HasAll F vs ds ∧ M ds w ∧ PromX mg B w F H Q E
section
variable {P : Program} {w : World} {K : Fr} {mg : Str → Option Value} {base : Heap} {CX : CXT} {ρ : Type} {B : ρ → Asrt}
theorem prom_endX {F H : Hp} {Q : VK} {E : XK} {wr : W (ρ ⊕ Xc)} {κ : Type} {w' : WS κ (ρ ⊕ Xc)} {G : Env} {G' : κ → Env} {s : L2.St} (a : At none G F H s noF) (pr : PromX mg B wr F H Q E) (hw : ∀ Pr, wr Pr → w' (fun _ => False) Pr) : tS none G (exB B mg E) w' G' { nx := fun _ H' => Q .non H', rt := Q } s H := by
  obtain ⟨Pr, h, K⟩ := pr
  refine ⟨F, noF, a, fun _ => False, Pr, hw Pr h, fun _ _ _ _ _ z => z.elim, fun r v F' H' fp' S p e po g b hS => K r v F' H' S p e po (g.own fun i q m => m.elim) b fun q m => ?_⟩
  exact (hS q m).elim (fun ⟨_, z⟩ => z.elim) fun z => z
theorem Fun.bodyX {k : Nat} {x qual : Str} {st : Stmt} {f : Addr} {fd : FuncData} {N ps : List Str} {M : List D → W (ρ ⊕ Xc) → Prop} (Fn : Fun K x qual st f fd) (S : FnScope N ps (defScope st)) (hlen : ∀ ds w, M ds w → ds.length = ps.length)
    (hb : ∀ (cdv : Value) (A : Around) (outer : List PySem.Env) (s : Shared) (H : Hp) (E : XK), Room k (A.deeper (envOfC qual (defScope st) s.heap.objs.size f cdv)) → A.guards = some [] → ∀ ds wr, M ds wr →
      ∃ (κ : Type) (w' : WS κ (ρ ⊕ Xc)) (G' : κ → Env), DSs (cxOf CX P w K mg base N qual (defScope st) f cdv A outer s H E) none (G0 (ds.map fun d => fro d) N.length) (exB B mg E) (defBody st) w' G' ∧ ∀ Pr, wr Pr → w' (fun _ => False) Pr) : FnG P w K mg base CX (k + 1) f fd ps (spX mg M B) := by
  refine FnG.body Fn S (fun vs H Q E ⟨F, ds, wr, _, ha, hM, _⟩ => by rw [ha.length, hlen ds wr hM]) fun cdv A outer s H vs Q E hr hg ⟨F, ds, wr, e, ha, hM, pr⟩ => ?_
  obtain ⟨κ, w', G', h, hw⟩ := hb cdv A outer s H E hr hg ds wr hM
  have hl : ds.length ≤ N.length := by
    have h1 := congrArg List.length S.pre
    rw [List.length_take] at h1
    rw [hlen ds wr hM]; omega
  exact ⟨_, h, prom_endX (at_start (Args0.fro ha) e.ex (PoolOk.none e.tab) (by rw [List.length_map]; exact hl)) pr hw⟩
end
section
variable {X : Cx} {CX : CXT} {k : Nat} {f : Addr} {fd : FuncData} {ps ks : List Str} {sp : Sp} {x : Str} {p pos : Pos} {e : Expr} {es : List Expr} {kws : List Keyword} {t tk : TA} {Wx : WX}
theorem pe_gS (G : FnG X.prog X.w X.K X.mg X.base CX k f fd ps sp) (hr : Room k X.A) (hgu : X.A.guards = some []) (hm : X.mg x = some (.ref f)) (hk : PySem.W.keepIn X.K (.ref f) = true) (hb : Binds X.K fd ps []) (hx : ∀ s, PassesAt CX X s (WE Wx s)) (ha : PA X (e :: es) t) (hg : Gl X x := by rfl)
    (hdb : (x == ("__debug__" : Str)) = false := by decide) (he : starEach (e :: es) X.env = (false, eval e X.env) :: starEach es X.env := by rfl) (hpl : (backTo pos (starEach es X.env)).any (·.1) = false := by rfl) : PE X (.Call (.Name x p) (e :: es) [] pos) (fun s H Q => t s H fun vs H1 => sp vs H1 Q (WE Wx s)) := by
  refine ⟨fun pins sh s H Q I h => wpAny_Call_Name_kw (ld_glob I hg hm ?_ hdb)⟩
  refine PySem.W.callWith_K (h₀ := X.base) I.ok.mod.kin hk (thn (ha.run pos pins sh s H _ I h) fun us s1 ⟨vs, H1, I1, r1, q1⟩ => ⟨I1.kIn, ?_⟩) he hpl
  have ln := G.len _ _ _ _ q1
  have b := hb s1 us I1.kIn (by rw [List.append_nil, ← r1.length]; exact ln)
  rw [List.append_nil] at b
  refine wpAny_call (codeAny_mono (G.go X.A X.stack s1 H1 ⟨us, []⟩ us vs Q (WE Wx s) hr hgu I1.env0 b r1 q1) fun r s' hq => ?_)
  match r, hq with
  | .error e, hq => exact hx s pins H1 s1 e s' I1 hq
  | .ok (.ret u), hq => exact I1.after hq
theorem pe_gKS {g : {α : Type} → List α → List α} (G : FnG X.prog X.w X.K X.mg X.base CX k f fd ps sp) (hr : Room k X.A) (hgu : X.A.guards = some []) (hm : X.mg x = some (.ref f)) (hk : PySem.W.keepIn X.K (.ref f) = true) (hb : KwB fd ps ks g) (hx : ∀ s, PassesAt CX X s (WE Wx s)) (hkw : PK X kws tk) (hg : Gl X x := by rfl)
    (hall : (backToKw pos (keywordEach kws X.env)).all (·.1.isSome) = true := by rfl) (hks : (backToKw pos (keywordEach kws X.env)).filterMap (·.1) = ks := by rfl) (hdb : (x == ("__debug__" : Str)) = false := by decide)
    (hpl : ((backTo pos (starEach [] X.env)).any (·.1) || (backToKw pos (keywordEach kws X.env)).any (·.1.isNone)) = false := by rfl) : PE X (.Call (.Name x p) [] kws pos) (fun s H Q => tk s H fun vs H1 => vs.length = ks.length ∧ sp (g vs) H1 Q (WE Wx s)) := by
  refine ⟨fun pins sh s H Q I h => wpAny_Call_Name_kw (ld_glob I hg hm ?_ hdb)⟩
  refine PySem.W.callWith_KW0 (h₀ := X.base) I.ok.mod.kin hk hall (thn (hkw.run pos pins sh s H _ I h) fun us s1 ⟨vs, H1, I1, r1, q1, q2⟩ => ⟨I1.kIn, ?_⟩) hpl
  rw [hks]
  refine wpAny_call (codeAny_mono (G.go X.A X.stack s1 H1 ⟨[], ks.zip us⟩ _ (g vs) Q (WE Wx s) hr hgu I1.env0 (.of_eq (hb.to us (by rw [← r1.length]; exact q1))) (hb.rel r1 q1) q2) fun r s' hq => ?_)
  match r, hq with
  | .error e, hq => exact hx s pins H1 s1 e s' I1 hq
  | .ok (.ret u), hq => exact I1.after hq
end
/-- an expression that may raise -/
def KX (pl : Pl) (G : Env) (mg : Str → Option Value) (Wx : WX) (s : L2.St) (F H : Hp) (fp : Foot) (P : Xc → Prop) : Prop := (∀ x C dd fv F' H' fp', P x → bareX x.cls = false → At pl G F' H' s fp' → Go pl F H fp F' H' fp' → mg x.cls = some (.ref C) → F' dd = none → H' dd = some (.xd [(x.fld, fv)]) → Has F' fv x.d → (H dd = none ∧ (∀ i, ¬ fp' i dd) ∧ ¬ isPool pl dd) → Wx (.ref C) (some dd) s H') ∧
  (∀ x C F' H' fp', P x → bareX x.cls = true → At pl G F' H' s fp' → Go pl F H fp F' H' fp' → mg x.cls = some (.ref C) → Wx (.ref C) none s H')
def tXr {α : Type} (pl : Pl) (G : Env) (B : α → Asrt) (mg : Str → Option Value) (Wx : WX) (w : W (α ⊕ Xc)) : TE := fun s H Q => ∃ F fp, At pl G F H s fp ∧ ∃ P : α ⊕ Xc → Prop, w P ∧ Wish pl G B s F H fp (fun a => P (.inl a)) Q ∧ KX pl G mg Wx s F H fp fun x => P (.inr x)
abbrev DXr {α : Type} (X : Cx) (pl : Pl) (G : Env) (Wx : WX) (e : Expr) (B : α → Asrt) (w : W (α ⊕ Xc)) : Prop := PE X e (tXr pl G B X.mg Wx w)
section
variable {X : Cx} {pl : Pl} {G : Env} {Wx : WX} {CX : CXT} {α β ρ κ : Type} [Enc α] [Enc β] {k : Nat} {x : Str} {st : Stmt} {ps : List Str} {B : ρ → Asrt}
theorem KX.go {s : L2.St} {F H F1 H1 : Hp} {fp fp1 : Foot} {P : Xc → Prop} {mg : Str → Option Value} (k : KX pl G mg Wx s F H fp P) (g : Go pl F H fp F1 H1 fp1) : KX pl G mg Wx s F1 H1 fp1 P := ⟨fun x C dd fv F' H' fp' p hb a g' m f h hs n => k.1 x C dd fv F' H' fp' p hb a (g.trans g') m f h hs ⟨g.back n.1, n.2⟩, fun x C F' H' fp' p hb a g' m => k.2 x C F' H' fp' p hb a (g.trans g') m⟩
theorem dxr_of {B : ρ → Asrt} {e : Expr} {w : W ρ} (h : DX X pl G e B w) : DXr X pl G Wx e B (fun P => w fun a => P (.inl a)) := PE.wk h fun s H Q ⟨F, fp, at_, P, w, K, _⟩ => ⟨F, fp, at_, _, w, K⟩
theorem dxr_if {B : ρ → Asrt} {c a b : Expr} {wc : W Bool} {wa wb : W (ρ ⊕ Xc)} {pos : Pos} (hc : DT X pl G c wc) (ha : DXr X pl G Wx a B wa) (hb : DXr X pl G Wx b B wb) : DXr X pl G Wx (.IfExp c a b pos) B (fun P => wc fun x => wIf x (wa P) (wb P)) := PE.wk (pe_ifExp hc ha hb) fun s H Q ⟨F, fp, at_, P, w, K, K2⟩ => by
  refine ⟨F, fp, at_, _, w, fun b F' H' fp' p a1 g => ?_⟩
  have go : ∀ w' : W (ρ ⊕ Xc), w' P → tXr pl G B X.mg Wx w' s H' Q := fun w' hw => ⟨F', fp', a1, P, hw, fun c z F2 H2 fp2 S2 p2 a2 g2 b2 hS => K c z F2 H2 fp2 S2 p2 a2 (g.trans g2) b2 fun q m => ⟨g.back (hS q m).1, (hS q m).2⟩, K2.go g⟩
  cases b with
  | true => exact go wa (p.1 rfl)
  | false => exact go wb (p.2 rfl)
theorem dxr_callF {M : List D → W (ρ ⊕ Xc) → Prop} {m : κ → W (ρ ⊕ Xc)} {w : W κ} {ds : κ → List D} {e : Expr} {es : List Expr} {p pos : Pos} (d : DefX X CX k x st ps (spX X.mg M B)) (hr : Room k X.A) (hgu : X.A.guards = some []) (ha : AQ X pl G (e :: es) w ds) (hM : ∀ k, M (ds k) (m k)) (hx : ∀ s, PassesAt CX X s (WE Wx s)) (hg : Gl X x := by rfl)
    (hdb : (x == ("__debug__" : Str)) = false := by decide) (he : starEach (e :: es) X.env = (false, eval e X.env) :: starEach es X.env := by rfl) (hpl : (backTo pos (starEach es X.env)).any (·.1) = false := by rfl) : DXr X pl G Wx (.Call (.Name x p) (e :: es) [] pos) B (fun P => w fun k => m k P) := by
  obtain ⟨f, fd, qual, Fn, FG, hm, hb⟩ := d.ex
  refine PE.wk (pe_gS FG hr hgu hm Fn.kp hb hx ha hg hdb he hpl) fun s H Q ⟨F, fp, at_, P, w, K, K2⟩ => ⟨F, fp, at_, _, w, fun k vs F1 H1 fp1 p a1 g1 b1 => ⟨F1, ds k, m k, a1.exT, b1, hM k, P, p, fun r v F' H' S pr e po g b hS => ?_⟩⟩
  obtain ⟨a2, g2⟩ := a1.back (.inl rfl) e po g
  cases r with
  | inl r => exact K r v F' H' fp1 S pr a2 (g1.trans g2) b fun q m => ⟨g1.back (hS q m), a1.nofp (hS q m), a1.nopl (hS q m)⟩
  | inr x =>
    exact fun C hC => ⟨fun hb => K2.2 x C F' H' fp1 pr hb a2 (g1.trans g2) hC, fun hb => by
      obtain ⟨dd, fv, rfl, hSS, hF, hH, ha⟩ := b.2 hb
      exact ⟨dd, rfl, K2.1 x C dd fv F' H' fp1 pr hb a2 (g1.trans g2) hC hF hH ha (have z := hS dd ((hSS dd).mpr rfl); ⟨g1.back z, a1.nofp z, a1.nopl z⟩)⟩⟩
theorem dxr_callK {M : List D → W (ρ ⊕ Xc) → Prop} {m : κ → W (ρ ⊕ Xc)} {w : W κ} {ds : κ → List D} {kws : List Keyword} {p pos : Pos} {ks : List Str} (g : {α : Type} → List α → List α) (d : DefX X CX k x st ps (spX X.mg M B)) (hr : Room k X.A) (hgu : X.A.guards = some []) (ha : KQ X pl G kws w ds)
    (hkw : ∀ (qual : Str) (kV doc pm : Value) (an : Option Addr) (cdv ct : Value) (us : List Value), us.length = ks.length → bindArgs (PySem.W.fnOf x qual (defArgs st) (defBody st) (defScope st) .none kV doc pm an cdv ct) ⟨[], ks.zip us⟩ = pure (ps.zip (g us)))
    (hrel : ∀ {vs : List V} {us : List Value}, Vals vs us → vs.length = ks.length → Vals (g vs) (g us)) (hlen : ∀ k, (ds k).length = ks.length) (hM : ∀ k, M (g (ds k)) (m k)) (hgd : ∀ (F : Hp) (vs : List V) (ds : List D), HasAll F vs ds → ds.length = ks.length → HasAll F (g vs) (g ds)) (hx : ∀ s, PassesAt CX X s (WE Wx s)) (hg : Gl X x := by rfl)
    (hall : (backToKw pos (keywordEach kws X.env)).all (·.1.isSome) = true := by rfl) (hks : (backToKw pos (keywordEach kws X.env)).filterMap (·.1) = ks := by rfl) (hdb : (x == ("__debug__" : Str)) = false := by decide)
    (hpl : ((backTo pos (starEach [] X.env)).any (·.1) || (backToKw pos (keywordEach kws X.env)).any (·.1.isNone)) = false := by rfl) : DXr X pl G Wx (.Call (.Name x p) [] kws pos) B (fun P => w fun k => m k P) := by
  obtain ⟨f, fd, qual, Fn, FG, hm, hb⟩ := d.ex
  refine PE.wk (pe_gKS FG hr hgu hm Fn.kp (Fun.kw Fn (hkw qual) hrel) hx ha hg hall hks hdb hpl) fun s H Q ⟨F, fp, at_, P, w, K, K2⟩ => ⟨F, fp, at_, _, w, fun k vs F1 H1 fp1 p a1 g1 b1 => ⟨by rw [b1.length, hlen], F1, g (ds k), m k, a1.exT, hgd F1 vs (ds k) b1 (hlen k), hM k, P, p, fun r v F' H' S pr e po g b hS => ?_⟩⟩
  obtain ⟨a2, g2⟩ := a1.back (.inl rfl) e po g
  cases r with
  | inl r => exact K r v F' H' fp1 S pr a2 (g1.trans g2) b fun q m => ⟨g1.back (hS q m), a1.nofp (hS q m), a1.nopl (hS q m)⟩
  | inr x =>
    exact fun C hC => ⟨fun hb => K2.2 x C F' H' fp1 pr hb a2 (g1.trans g2) hC, fun hb => by
      obtain ⟨dd, fv, rfl, hSS, hF, hH, ha⟩ := b.2 hb
      exact ⟨dd, rfl, K2.1 x C dd fv F' H' fp1 pr hb a2 (g1.trans g2) hC hF hH ha (have z := hS dd ((hSS dd).mpr rfl); ⟨g1.back z, a1.nofp z, a1.nopl z⟩)⟩⟩
/-- [a, b], b may raise -/
theorem dxr_lst2 {e1 e2 : Expr} {pos : Pos} {w1 : W D} {w2 : W (D ⊕ Xc)} (h1 : DE X pl G e1 w1) (h2 : DXr X pl G Wx e2 (fun d : D => fro d) w2) (hs2 : starEach [e2] X.env = (false, eval e2 X.env) :: starEach [] X.env := by rfl) (hs1 : starEach [e1, e2] X.env = (false, eval e1 X.env) :: starEach [e2] X.env := by rfl) :
    DXr X pl G Wx (.List [e1, e2] pos) (fun l : List D => own l) (fun P => w1 fun a => w2 fun r => match r with | .inl b => P (.inl [a, b]) | .inr x => P (.inr x)) := PE.wk (pe_lst (pa_cons h1 (pa_cons h2 pa_nil hs2) hs1)) fun s H Q ⟨F, fp, at_, P, w, K, K2⟩ =>
  ⟨F, fp, at_, _, w, fun a v1 F1 H1 fp1 S1 p1 a1 g1 b1 _ => ⟨F1, fp1, a1, _, p1, fun b v2 F2 H2 fp2 S2 p2 a2 g2 b2 _ => ⟨by show 2 ≤ sizeLine; decide, fun q hq => K.fin (S := fun x => x = q) a2 (g1.trans g2) p2 (New.own a2.ex hq) (own_new (a2.fnone hq) (.cons (b1.2.mono g2.exF) (.cons b2.2 .nil))) fun x e => by rw [e]; exact hq⟩, (K2.go g1)⟩⟩
/-- .. made to one kind -/
theorem dxr_enc {e : Expr} {w : W (α ⊕ Xc)} (h : DXr X pl G Wx e (fun a : α => fro a) w) : DXr X pl G Wx e (fun d : D => fro d) (fun P => w fun r => match r with | .inl a => P (.inl (enc a)) | .inr x => P (.inr x)) := PE.wk h fun s H Q ⟨F, fp, at_, P, w, K, K2⟩ => ⟨F, fp, at_, _, w, fun a v F1 H1 fp1 S1 p a1 g1 b1 hS => K (enc a) v F1 H1 fp1 S1 p a1 g1 b1 hS, K2⟩
end
end Dm

set_option Elab.async false
set_option linter.all false
set_option maxRecDepth 100000
set_option maxHeartbeats 2000000
/-! Dm: part T: try: x = e except C as n: .. -/
namespace Dm
open PySem PySem.Spec PyProof.Rows L2
variable [TabC]
/-- the error in hand, its dict standing still -/
def xA (a dd : Addr) (x : Xc) : Asrt := fun F _ v S => (∀ q, ¬ S q) ∧ v = V.ref a ∧ ∃ fv, F dd = some (.xd [(x.fld, fv)]) ∧ Has F fv x.d
theorem good_xA {a dd : Addr} {x : Xc} : Good (xA a dd x) := ⟨fun h q s => (h.1 q s).elim, fun ⟨h, e, fv, hf, ha⟩ x _ => ⟨h, e, fv, x _ _ hf, ha.mono x⟩⟩
section
variable {X : Cx} {pl : Pl} {G : Env} {κ ρ δ : Type} {B : Rt ρ}
theorem ds_tryAs (i j : Nat) {x n cn : Str} {C : Addr} {e : Expr} {B' : δ → Asrt} {w : W (δ ⊕ Xc)} {wS : Xc → WS κ ρ} {G' : κ → Env} {b₀ : Stmt} {suite : List Stmt} {px np pos pos1 pos' : Pos} (hn : δ → κ) (hN : X.N.Nodup) (gC : X.mg cn = some (.ref C)) (te : PySem.W.exmOne X.K (.ref C) (.ref C) = some true) (hBd : ∀ a, Good (B' a))
    (hbody : ∀ (W : WX) (pn : List (Addr × Obj)) (xe : Value → Shared → Prop), Takes (X.tr pn xe) W → DXr (X.tr pn xe) pl G W e B' w)
    (hG' : ∀ a, G.set j (some (B' a)) = G' (hn a)) (hGi : ∀ k, (G' k)[i]? = some none)
    (hsuite : ∀ (a : Addr) (oe : Obj) (dd : Addr) (pn : List (Addr × Obj)) (x : Xc), Zc (.ref C) (some dd) oe → (∃ vs, oe.data = .fields vs) → DSs (X.suite a ((a, oe) :: pn)) pl (G.set i (some (xA a dd x))) B (b₀ :: suite) (wS x) G')
    (hs : X.stack = X.env :: X.outer := by rfl) (hf : X.env.frame = some X.env.locals := by rfl) (hi : X.N[i]? = some n := by rfl) (hj : X.N[j]? = some x := by rfl) (hln : X.env.kindOf n = some .local := by rfl) (hgc : Gl X cn := by rfl) (hdc : (cn == ("__debug__" : Str)) = false := by decide)
    (hl : Nat.blt j G.length = true := by rfl) (hli : Nat.blt i G.length = true := by rfl) (hx : Loc X.env.scope x := by first | exact Or.inl rfl | exact Or.inr rfl) (hsw : swapsWith e (some (.Name x px)) pos1.line X.env = pure false := by rfl) (hbx : bareX cn = false := by decide) (hfn : X.fn x = true ∨ X.env.scope.names.lookup x = some .local := by first | exact .inl rfl | exact .inr rfl) :
    DS X pl G B (.Try [.Assign [.Name x px] e pos1] [.ExceptHandler (some (.Name cn np)) (some n) (b₀ :: suite) pos'] [] [] pos) (fun nx rt => w fun r => match r with | .inl a => nx (hn a) | .inr y => y.cls = cn ∧ wS y nx rt) G' := by
  refine PS.wk (ps_try_as (c := .ref C) (tb := fun W => tAsg (tXr pl G B' X.mg W w) (gName j)) (ts := fun a cls d D s H => ∃ y dd, cls = .ref C ∧ d = some dd ∧ tS pl (G.set i (some (xA a dd y))) B (wS y) G' D s H) (Wout := fun _ _ _ _ => False) hs hf hN hi hln ⟨hgc, hdc, .inl gC⟩ (fun _ _ h => ?_) (fun W pn xe tk _ => pss_one (ps_set hN hj hx (hbody W pn xe tk) hsw hfn)) (fun a oe cls d pn hz hfd => ⟨fun pins sh s H D I ⟨y, dd, ec, ed, t⟩ => ?_⟩)) fun D s H ⟨F, fp, at_, Pn, Pr, wp, K1, K2⟩ => ?_
  · obtain ⟨_, _, _, _, _, _, _, _, _, _, _, _, _, _, _, _, z⟩ := h
    exact z.elim
  · subst ec; subst ed
    exact (hsuite a oe dd pn y hz hfd).run pins sh s H D I t
  · refine ⟨F, fp, at_, _, wp, fun a v F1 H1 fp1 S1 p a1 g1 b1 hS => ?_, ⟨fun y C' dd fv F1 H1 fp1 ⟨ec, p⟩ _ a1 g1 hC hF hH ha ⟨h0, hnf, hnp⟩ => ?_, fun y C' F1 H1 fp1 ⟨ec, p⟩ hb => by rw [ec, hbx] at hb; cases hb⟩⟩
    · refine K1 (hn a) _ F1 H1 _ p (by rw [← hG' a]; exact a1.set (blt_lt hl) (hBd a) b1 fun q m => (hS q m).2) (g1.own fun k q m => ?_)
      by_cases hk : k = j
      · rw [if_pos hk] at m; exact .inr (hS q m).1
      · rw [if_neg hk] at m; exact .inl ⟨k, m⟩
    · have eC : C' = C := by
        rw [ec, gC] at hC
        cases hC; rfl
      subst eC
      refine ⟨true, te, fun _ ad had => ?_, fun z => by cases z⟩
      obtain ⟨F2, x2, a2, e1, e2⟩ := a1.frz (S := fun q => q = dd) (fun q m => by rw [m]; exact ⟨hF, by rw [hH]; simp⟩) (fun q m => by rw [m]; exact ⟨hnf, hnp⟩)
      have hdd : F2 dd = some (.xd [(y.fld, fv)]) := by rw [e1 dd rfl, hH]
      have g2 : Go pl F H fp F2 H1 fp1 := ⟨g1.exF.trans x2, fun q h n p => by
        have k := g1.keep q h n p
        refine ⟨k.1, fun z => ?_⟩
        have qd : ¬ q = dd := fun w => h (by rw [w]; exact h0)
        rw [e2 q qd]; exact k.2 z, g1.foot, g1.grow⟩
      have a3 := a2.set (A := xA ad dd y) (v := .ref ad) (S := fun _ => False) (blt_lt hli) good_xA ⟨fun _ z => z, rfl, fv, hdd, ha.mono x2⟩ fun _ z => z.elim
      have g3 : Go pl F H fp F2 H1 (fun k q => if k = i then False else fp1 k q) := g2.own fun k q m => by
        by_cases hk : k = i
        · exact ((if_pos hk).mp m).elim
        · exact .inl ⟨k, (if_neg hk).mp m⟩
      refine ⟨y, dd, rfl, rfl, F2, _, a3, Pn, Pr, p, fun k s4 F4 H4 fp4 p4 a4 g4 => K1 k _ F4 H4 fp4 p4 (a4.conv (fun m A em => ?_) (by rw [List.length_set])) (g3.trans g4), fun r v F4 H4 fp4 S p4 e4 po4 g4 b4 hS => K2 r v F4 H4 fp4 S p4 e4 po4 (g3.trans g4) b4 fun q m => ?_⟩
      · have : m ≠ i := fun z => by
          rw [z, hGi k] at em; cases em
        rw [List.getElem?_set_ne (Ne.symm this)]
      · rcases hS q m with ⟨k, z⟩ | z
        · exact g3.foot k q z
        · exact .inr (g3.back z)
end
end Dm

set_option Elab.async false
set_option linter.all false
set_option maxRecDepth 100000
set_option maxHeartbeats 2000000
/-! Dm: part X: the error in hand: its field, whose it is; a raising def where it does not raise. -/
namespace Dm
open PySem PySem.Spec PyProof.Rows L2
variable [TabC]
/-- what the class of an error in hand must say -/
structure XiC (K : Fr) (C : Addr) : Prop where
  ga : PySem.W.findIn K (.ref C) "__getattribute__" = some (some (.builtin "BaseException.__getattribute__"))
  gg : PySem.W.findIn K (.ref C) "__getattr__" = some none
  exC : PySem.W.subIn K (.ref C) (.type "BaseException") = some true
  hdC : PySem.W.hasDictIn K C = true
  ha : PySem.W.findIn K (.ref C) "__class__" = some (some (.builtin "object.__class__"))
  hn : PySem.W.specialIn K (.builtin "object.__class__") "__get__" = some (some (.builtin "getset_descriptor.__get__"))
  ht : PySem.W.takesIn K (.builtin "object.__class__") = some true
  hm : PySem.W.mroIn K C (.type "object") = some true
  cl : (PySem.W.clsIn K C).isSome = true
theorem XiC.xf {K : Fr} {C : Addr} (h : XiC K C) : XfC K C := ⟨h.ga, h.gg, h.exC, h.hdC⟩
/-- isinstance(the error in hand, c) -/
def rIsX (K : Fr) (D a dd : Addr) : List V → Hp → VK → Prop := fun xs H Q => ∃ (c : V) (cv : Value) (b : Bool) (fs : List (Str × V)), xs = [.ref a, c] ∧ H dd = some (.xd fs) ∧ (∀ u, RelV c u → u = cv) ∧ PySem.W.kitOne K (.ref D) cv = some b ∧ Q (.bl b) H
theorem cr_isX {X : Cx} {a D dd : Addr} {oe : Obj} {pn : List (Addr × Obj)} (C : XiC X.K D) (hz : Zc (.ref D) (some dd) oe) (hf : ∃ vs, oe.data = .fields vs) : CallR (X.suite a ((a, oe) :: pn)) (.builtin "isinstance") (rIsX X.K D a dd) := by
  intro pins s σ H xs us Q I r ⟨c, cv, b, fs, exs, hd, hcv, e, q⟩
  subst exs
  cases r with
  | cons rx r => cases r with
    | cons rc r =>
      cases r; cases rx
      have ec := hcv _ rc; subst ec
      have pin := (I.pin (a, oe) (List.mem_append_left _ List.mem_cons_self)).1
      obtain ⟨vs, hv⟩ := hf
      obtain ⟨m, hns, _⟩ := I.hok dd _ hd
      obtain ⟨od, ho, _⟩ := lookIn_ns hns
      have at_ : PySem.W.InstAt s.heap a oe D (some od) := ⟨pin, hz.1, by unfold PySem.W.notCls; rw [hv], by rw [hz.2]; exact ho⟩
      exact PySem.W.kia_one (PySem.W.kitx_exc C.cl C.ga C.gg C.exC C.ha C.hn C.ht C.hm) I.kIn at_ e (fun z => nomatch z) fun tk => ⟨.bl b, H, I.kept (t' := tk) fun _ _ z => z, rfl, q⟩
section
variable {X : Cx} {pl : Pl} {G : Env} {a dd D : Addr} {oe : Obj} {pn : List (Addr × Obj)} {x : Xc}
theorem de_xfld (i : Nat) {n fld : Str} {p pos : Pos} (C : XiC X.K D) (nf : PySem.W.findIn X.K (.ref D) fld = some none) (hz : Zc (.ref D) (some dd) oe) (hf : ∃ vs, oe.data = .fields vs) (hG : G[i]? = some (some (xA a dd x)) := by rfl) (hN : X.N[i]? = some n := by rfl)
    (hv : Vis X.env.scope n := by first | exact Or.inl rfl | exact Or.inr (Or.inl rfl) | exact Or.inr (Or.inr rfl)) (hd : (n == ("__debug__" : Str)) = false := by decide) (hcd : (n == ("__classdict__" : Str)) = false := by decide)
    (hb : attributeBase (.Name n p) fld X.env (eval (.Name n p) X.env) = eval (.Name n p) X.env := by rfl) : DE (X.suite a ((a, oe) :: pn)) pl G (.Attribute (.Name n p) fld pos) (fun P => x.fld = fld ∧ P x.d) :=
  PE.wk (pe_xf C.xf nf hz hf (pe_var (X := X.suite a ((a, oe) :: pn)) hN hv hd hcd) hb) fun s H Q ⟨F, fp, at_, P, ⟨ef, w⟩, K⟩ => by
    obtain ⟨_, v, hv, _, rfl, fv, hF, ha⟩ := at_.sl i _ hG
    refine ⟨_, hv, rfl, rfl, dd, [(x.fld, fv)], fv, rfl, at_.ex _ _ hF, ?_, K.pure at_ .refl w ha⟩
    rw [ef]; simp [List.lookup]
theorem de_isX (i : Nat) {n Y : Str} {cv : V} {u0 : Value} {b : Bool} {p p1 p2 pos : Pos} (C : XiC X.K D) (hz : Zc (.ref D) (some dd) oe) (hf : ∃ vs, oe.data = .fields vs) (hm : X.mg "isinstance" = none) (hY : PE (X.suite a ((a, oe) :: pn)) (.Name Y p2) (tC cv)) (hc : ∀ u, RelV cv u → u = u0) (hk : PySem.W.kitOne X.K (.ref D) u0 = some b)
    (hG : G[i]? = some (some (xA a dd x)) := by rfl) (hN : X.N[i]? = some n := by rfl) (hv : Vis X.env.scope n := by first | exact Or.inl rfl | exact Or.inr (Or.inl rfl) | exact Or.inr (Or.inr rfl)) (hd : (n == ("__debug__" : Str)) = false := by decide) (hcd : (n == ("__classdict__" : Str)) = false := by decide)
    (hg : Gl X "isinstance" := by rfl) (he : starEach [.Name n p1, .Name Y p2] X.env = (false, eval (.Name n p1) X.env) :: starEach [.Name Y p2] X.env := by rfl) (he2 : starEach [.Name Y p2] X.env = (false, eval (.Name Y p2) X.env) :: starEach [] X.env := by rfl) (hpl : (backTo pos (starEach [.Name Y p2] X.env)).any (·.1) = false := by rfl) :
    DE (X.suite a ((a, oe) :: pn)) pl G (.Call (.Name "isinstance" p) [.Name n p1, .Name Y p2] [] pos) (fun P => P b) :=
  PE.wk (pe_callB (cr_isX C hz hf) hg hm (by decide +kernel) (pa_cons (pe_var (X := X.suite a ((a, oe) :: pn)) hN hv hd hcd) (pa_cons hY pa_nil he2) he) (by decide) (by decide) he hpl) fun s H Q ⟨F, fp, at_, P, w, K⟩ => by
    obtain ⟨_, v, hv, _, rfl, fv, hF, ha⟩ := at_.sl i _ hG
    exact ⟨_, hv, cv, u0, b, _, rfl, at_.ex _ _ hF, hc, hk, K.pure at_ .refl w (.bl b)⟩
end
/-- a raising def, where it does not raise -/
theorem never_takes {X : Cx} : Takes X (fun _ _ _ _ => False) := fun u s' h => by
  obtain ⟨_, _, _, _, _, _, _, _, _, _, _, _, _, _, _, _, z⟩ := h
  exact z.elim
theorem dx_noR {X : Cx} {pl : Pl} {G : Env} {α : Type} {B : α → Asrt} {e : Expr} {w : W (α ⊕ Xc)} (h : DXr X pl G (fun _ _ _ _ => False) e B w) : DX X pl G e B (fun P => w fun r => match r with | .inl a => P a | .inr _ => False) := PE.wk h fun s H Q ⟨F, fp, at_, P, wp, K⟩ =>
  ⟨F, fp, at_, _, wp, K, ⟨fun x C dd fv F' H' fp' p => p.elim, fun x C F' H' fp' p => p.elim⟩⟩
end Dm
namespace Dm
open PySem PySem.Spec PyProof.Rows L2
variable [TabC]
def wInl {α : Type} (P : α → Prop) : α ⊕ Xc → Prop
  | .inl a => P a
  | .inr _ => False
def wEi {α : Type} (f : α → Prop) (g : Xc → Prop) : α ⊕ Xc → Prop
  | .inl a => f a
  | .inr x => g x
theorem dx_inl {X : Cx} {pl : Pl} {G : Env} {α : Type} {B : α → Asrt} {e : Expr} {w : W (α ⊕ Xc)} (h : DXr X pl G (fun _ _ _ _ => False) e B w) : DX X pl G e B (fun P => w (wInl P)) := PE.wk h fun s H Q ⟨F, fp, at_, P, wp, K⟩ =>
  ⟨F, fp, at_, _, wp, K, ⟨fun x C dd fv F' H' fp' p => p.elim, fun x C F' H' fp' p => p.elim⟩⟩
/-- the class whose body's one statement is __init__ -/
def initS (s : Stmt) : Stmt := match s with
  | .ClassDef (body := b) .. => b.getD 0 (.Pass ⟨0, 0, 0, 0⟩)
  | s => s
theorem exm_own {K : Fr} {S : Addr} (h1 : PySem.W.subIn K (.ref S) (.type "BaseException") = some true) (h2 : (PySem.W.clsIn K S).isSome = true) (h3 : PySem.W.typeIn K (.ref S) = some (.type "type")) (h4 : PySem.W.subIn K (.ref S) (.ref S) = some true) : PySem.W.exmOne K (.ref S) (.ref S) = some true := by
  unfold PySem.W.exmOne PySem.W.kitCls
  simp [h1, h2, h3, h4]
end Dm
namespace Dm
open PySem PySem.Spec PyProof.Rows L2
variable [TabC]
theorem kit_own {K : Fr} {C Y : Addr} {b : Bool} (i : (PySem.W.clsIn K Y).isSome = true) (t : PySem.W.typeIn K (.ref Y) = some (.type "type")) (u : PySem.W.subIn K (.ref C) (.ref Y) = some b) (s : PySem.W.subIn K (.ref C) (.ref C) = some true) : PySem.W.kitOne K (.ref C) (.ref Y) = some b := by
  unfold PySem.W.kitOne
  split
  · rename_i h
    have e : C = Y := by simpa using h
    subst e
    exact s.symm.trans u
  · unfold PySem.W.kitCls
    simp [i, t, u]
end Dm

set_option Elab.async false
set_option linter.all false
set_option maxRecDepth 100000
set_option maxHeartbeats 2000000
/-! Dm: part Y: sorted(xs, key=f), f a def whose body is one return of (len(x), x). -/
namespace Dm
open PySem PySem.Spec PyProof.Rows L2
variable [TabC]
/-- such a def's body -/
structure PlaceBody (y : Str) (b : List Stmt) : Prop where
  ex : ∃ (p1 p2 p3 p4 p5 p6 : Pos) (k : Nat), b = [.Return (some (.Tuple [.Call (.Name "len" p1) [.Name y p2] [] p3, .Name y p4] k p5)) p6]
theorem readsAll_ints {h : Heap} : ∀ {vs : List Value} {ns : List Int}, IntsAre vs ns → ReadsAll h vs (ns.map PyData.int) []
  | _, _, .nil => .nil
  | _, _, .cons n t r => ReadsAll.cons (as := []) (bs := []) (.int n t) (readsAll_ints r)
theorem isTup_keep {h h' : Heap} {t : Addr} {vs : Array Value} (k : ∀ b o, h.get? b = some o → h'.get? b = some o) (x : IsTup h t vs) : IsTup h' t vs := by
  obtain ⟨o, e, c⟩ := x
  exact ⟨o, k _ _ e, c⟩
theorem place_body {P : Program} {w : World} {mg : Str → Option Value} {A : Around} {s s1 : Shared} {y : Str} {t : Addr} {vs : List Value} {ns : List Int} {m cm : Str → Option Value} {env : PySem.Env} {p1 p2 p3 p4 p5 p6 : Pos} {k : Nat}
    (x : InCallC s env.locals m env.cells cm s1) (hk : env.scope.kind = .function) (hl : env.kindOf y = some .local) (hg : env.kindOf ("len" : Str) = some .globalImplicit) (gg : env.globals = mainGlobals) (gb : env.builtins = builtinsNs) (hv : m y = some (.ref t))
    (hyd : (y == ("__debug__" : Str)) = false) (hglob : s.heap.Ns mainGlobals mg) (hblt : ∃ mb, s.heap.Ns builtinsNs mb ∧ ∀ x : Str, x ≠ "__name__" → mb x = bootBuiltins x) (hm : mg "len" = none) (ht : IsTup s.heap t vs.toArray) (hi : IntsAre vs ns) (hz : vs.length ≤ sizeLine) :
    wpAny (model P w) A (execs [.Return (some (.Tuple [.Call (.Name "len" p1) [.Name y p2] [] p3, .Name y p4] k p5)) p6] env) (fun f s' => ∃ v, f = .ret v ∧ PySem.W.KeyPure (.tuple [.int ns.length, .tuple (ns.map .int)]) s v s') (fun _ _ => False) s1 := by
  obtain ⟨mb, hb1, hb2⟩ := hblt
  have keep := x.toInCall.keep
  refine wpAny_execs_cons (wpAny_Return_some (wpAny_Tuple_spliced ?_))
  refine Calls.spliced_cons (wpAny_Call_Name_kw (Calls.Name_function_global hk hg (Calls.loadGlobal_builtin (by rw [gg]; exact hglob.keeps keep) hm (by rw [gb]; exact hb1.keeps keep) ((hb2 "len" (by decide)).trans rfl) ?_)))
  refine PyProof.Rows.callWith_builtin1 (Calls.spliced_cons (NameLC x hk hl hv (Calls.spliced_nil ?_) hyd)) rfl rfl
  have zz : vs.length ≤ 16777216 := by rw [← sizeLine_eq]; exact hz
  refine len_tuple (isTup_keep keep ht) (by rw [List.size_toArray]; omega) ?_
  refine Calls.spliced_cons (NameLC (x.tok _) hk hl hv (Calls.spliced_nil ⟨by show 2 ≤ sizeLine; rw [sizeLine_eq]; omega, ?_⟩) hyd)
  refine ⟨_, rfl, ?_⟩
  obtain ⟨h1, tk, e, kp⟩ := x.done
  subst e
  refine ⟨_, _, rfl, fun b o q => Heap.get?_push_of_some _ (kp b o q), ?_⟩
  have k2 : ∀ b o, s.heap.get? b = some o → (h1.push { cls := .type "tuple", data := .seq [Value.int (vs.toArray.size : Nat) (tk + 1), Value.ref t].toArray }).get? b = some o := fun b o q => Heap.get?_push_of_some _ (kp b o q)
  obtain ⟨o, e1, e2, n, e3⟩ := isTup_keep k2 ht
  refine Reads.tuple (Heap.get?_push_size _ rfl) rfl rfl (ReadsAll.cons (as := []) (bs := []) ?_ (ReadsAll.cons (as := []) (bs := []) (Reads.tuple e1 e2 e3 (readsAll_ints hi)) .nil))
  have : ((vs.toArray.size : Nat) : Int) = ns.length := by rw [List.size_toArray, hi.length]
  rw [← this]
  exact .int _ _
theorem place_pure {P : Program} {w : World} {K : Fr} {mg : Str → Option Value} {base : Heap} {A : Around} {s : Shared} {x y qual : Str} {st : Stmt} {f t : Addr} {fd : FuncData} {N : List Str} {vs : List Value} {ns : List Int}
    (Fn : Fun K x qual st f fd) (S : FnScope N [y] (defScope st)) (hB : PlaceBody y (defBody st)) (hb : Binds K fd [y] []) (hy : (defScope st).names.lookup y = some .local) (hlen : (defScope st).names.lookup ("len" : Str) = some .globalImplicit) (hyd : (y == ("__debug__" : Str)) = false)
    (M : Mod K mg base) (kp : ∀ b o, base.get? b = some o → s.heap.get? b = some o) (hm : mg "len" = none) (hroom : A.depth < recursionLimit)
    (ht : IsTup s.heap t vs.toArray) (hi : IntsAre vs ns) (hz : vs.length ≤ sizeLine) :
    wpAny (model P w) A (call (.ref f) [.ref t]) (PySem.W.KeyPure (.tuple [.int ns.length, .tuple (ns.map .int)]) s) (fun _ _ => False) s := by
  obtain ⟨oc, od, kV, doc, pm, an, cdv, ct, osl, rfl, lk, hcd⟩ := Fn.ex
  obtain ⟨p1, p2, p3, p4, p5, p6, k, hbody⟩ := hB.ex
  have inK : K.In s.heap := M.kin.keeps kp
  have nl : s.heap.NoLimit := M.nolimit.keeps kp
  refine wpAny_call (codeAny_mono (R := fun r s' => ∃ v, r = .ok (.ret v) ∧ PySem.W.KeyPure (.tuple [.int ns.length, .tuple (ns.map .int)]) s v s') ?_ fun r s' hq => ?_)
  · refine codeAny_call_function hroom (inK _ _ lk) rfl S.co S.gen rfl (PySem.W.codeRec_of inK hcd) (hb s [.ref t] inK rfl _ _ _ _ ?_)
    refine wpAny_newFunctionEnv_cells S.kind ?_ fun env he s1 x => ?_
    · intro z hz
      have := List.mem_singleton.mp hz
      exact .inl (by rw [this]; exact hy)
    subst he
    refine ⟨nl.keeps x.toInCall.keep, codeAny_func ?_⟩
    show wpAny _ _ (execs (defBody st) _) _ _ _
    rw [hbody]
    refine wpAny_mono (place_body x S.kind hy hlen rfl rfl ?_ hyd (M.glob.keeps kp) ?_ hm ht hi hz) (fun fl s' hs => ?_) fun _ _ e => e.elim
    · show bindL _ [(y, Value.ref t)] _ y = _
      unfold bindL bindL
      exact (congrFun (if_pos hy) y).trans (if_pos rfl)
    · obtain ⟨mb, h1, h2⟩ := M.blt
      exact ⟨mb, h1.keeps kp, h2⟩
    · obtain ⟨v, rfl, h⟩ := hs
      exact ⟨v, rfl, h⟩
  · obtain ⟨v, rfl, hq⟩ := hq
    exact hq
/-- the key of a lot -/
def placeK (ns : List Int) : PyData := .tuple [.int ns.length, .tuple (ns.map .int)]
def sortP (l : List (Tup Int)) : List (Tup Int) := l.mergeSort (PySem.W.dataLe false fun t : Tup Int => placeK t.l)
def rSortP (K : Fr) (f : Addr) : List V → List V → Hp → VK → Prop := fun vs zs H Q => ∃ (a : Addr) (bs : List (Addr × List Int)), vs = [V.ref a] ∧ zs = [V.ref f] ∧ SqL K H a (bs.map fun b => V.ref b.1) ∧ (∀ b ∈ bs, SqT K H b.1 (b.2.map V.int)) ∧
  ∀ p, H p = none → Q (.ref p) (upd H p (.lst ((bs.mergeSort (PySem.W.dataLe false fun b => placeK b.2)).map fun b => V.ref b.1)))
theorem alike_place (m n : List Int) : PySem.W.alike (placeK m) (placeK n) = true := by
  simp [PySem.W.alike, PySem.W.alikeAll, placeK, PySem.W.alike_ints]
theorem depth_place (m : List Int) : (placeK m).depth ≤ 2 := by
  simp [placeK, PyData.depth, PyData.depthAll, PySem.W.depth_ints]
theorem each_refs : ∀ {bs : List (Addr × List Int)} {vs : List Value}, Vals (bs.map fun b => V.ref b.1) vs → PySem.W.EachIs (fun v (b : Addr × List Int) => v = Value.ref b.1) vs bs
  | [], _, h => by cases h; exact .nil
  | b :: bs, _, h => by
    cases h with
    | cons r t => exact .cons r (each_refs t)
theorem refs_each : ∀ {bs : List (Addr × List Int)} {vs : List Value}, PySem.W.EachIs (fun v (b : Addr × List Int) => v = Value.ref b.1) vs bs → Vals (bs.map fun b => V.ref b.1) vs
  | _, _, .nil => .nil
  | _, _, .cons r t => .cons r (refs_each t)
theorem cr_sortP {X : Cx} {x y qual : Str} {st : Stmt} {f : Addr} {fd : FuncData} {N : List Str} {k : Nat} (Fn : Fun X.K x qual st f fd) (S : FnScope N [y] (defScope st)) (hB : PlaceBody y (defBody st)) (hb : Binds X.K fd [y] []) (hy : (defScope st).names.lookup y = some .local) (hlen : (defScope st).names.lookup ("len" : Str) = some .globalImplicit)
    (hyd : (y == ("__debug__" : Str)) = false) (hm : X.mg "len" = none) (hr : Room k X.A) : CallRK X (.builtin "sorted") [Str.ofString "key"] (rSortP X.K f) := by
  intro pins s σ H vs zs us ws Q I r rz h
  obtain ⟨a, bs, rfl, rfl, hs, ht, q⟩ := h
  obtain ⟨its, rv, hl, hz⟩ := I.list hs
  rw [Vals.ref1 r, Vals.ref1 rz]
  have hlen' : its.length = bs.length := by rw [← rv.length, List.length_map]
  have hz' : bs.length ≤ sizeLine := by rw [List.length_map] at hz; exact hz
  have h1 := hr.un
  have h2 := hr.dp
  refine PySem.W.sorted_key_data (b := false) (fun b : Addr × List Int => placeK b.2) hl.isList (each_refs rv) (PySem.W.AllAlike.of fun _ _ => alike_place _ _) (PySem.W.Sortable.tuples fun _ => ⟨_, _, rfl⟩) hz' (fun b _ => ?_) (ksk_s1 _ _) (fun _ => ksk_l1 _ _) (fun _ => ksk_t1 _ _)
    (fun v b hv hb' h' tk kp => ?_) fun out c h' tk kp _ hD hlo eo => ?_
  · have := depth_place b.2; omega
  · subst hv
    obtain ⟨its2, rv2, p2, hz2⟩ := I.tuple (ht b hb')
    have hi := Vals.ints rv2
    have hl2 := rv2.length
    rw [List.length_map] at hl2 hz2
    exact place_pure (s := { s with heap := h', toks := tk }) Fn S hB hb hy hlen hyd I.ok.mod (fun b o e => kp b o (I.bk b o e)) hm (by show X.A.depth < _; omega) (isTup_keep kp p2) hi (by omega)
  · refine ⟨.ref (s.heap.objs.size + 1), upd H (s.heap.objs.size + 1) (.lst ((bs.mergeSort (PySem.W.dataLe false fun b => placeK b.2)).map fun b => V.ref b.1)), I.laid (t' := tk) kp (Nat.le_succ _) ⟨?_, out, c, refs_each eo, ?_⟩, rfl, q _ (I.hok.fresh (Nat.le_succ _))⟩
    · rw [List.length_map, List.length_mergeSort]; exact hz'
    · exact hD
theorem has_lots {F : Hp} : ∀ {l : List (Tup Int)} {xs : List V}, HasAll F xs (l.map Enc.enc) → ∃ bs : List (Addr × List Int), xs = bs.map (fun b => V.ref b.1) ∧ l = bs.map (fun b => Tup.mk b.2) ∧ ∀ b ∈ bs, TupAt F b.1 (b.2.map V.int)
  | [], _, h => by cases h; exact ⟨[], rfl, rfl, fun b hb => (by cases hb)⟩
  | t :: l, _, h => by
    cases h with
    | cons h1 h2 =>
      obtain ⟨bs, e1, e2, e3⟩ := has_lots h2
      cases h1 with
      | tup g1 g2 =>
        rename_i a ys
        have ev := HasAll.ofInts (ns := t.l) g2
        refine ⟨(a, t.l) :: bs, by rw [e1]; rfl, by rw [e2]; rfl, fun b hb => ?_⟩
        rcases List.mem_cons.mp hb with e | e
        · rw [e, ← ev]; exact g1
        · exact e3 b e
theorem lots_has {F : Hp} : ∀ {bs : List (Addr × List Int)}, (∀ b ∈ bs, TupAt F b.1 (b.2.map V.int)) → HasAll F (bs.map fun b => V.ref b.1) ((bs.map fun b => Tup.mk b.2).map Enc.enc)
  | [], _ => .nil
  | b :: bs, h => .cons (.tup (h b (List.mem_cons_self ..)) (HasAll.ints b.2)) (lots_has fun c hc => h c (List.mem_cons_of_mem _ hc))
theorem sortP_map (bs : List (Addr × List Int)) : (bs.mergeSort (PySem.W.dataLe false fun b => placeK b.2)).map (fun b => Tup.mk b.2) = sortP (bs.map fun b => Tup.mk b.2) := List.map_mergeSort fun _ _ _ _ => rfl
theorem dx_sortP {X : Cx} {CX : CXT} {pl : Pl} {G : Env} {e : Expr} {w : W (List (Tup Int))} {p p2 pos kpos : Pos} {x y : Str} {st : Stmt} {N : List Str} {j k : Nat} {sp : Sp} (hm : X.mg "sorted" = none) (hml : X.mg "len" = none) (d : DefX X CX j x st [y] sp) (S : FnScope N [y] (defScope st)) (hr : Room k X.A) (h : DE X pl G e w)
    (hB : PlaceBody y (defBody st) := by exact ⟨_, _, _, _, _, _, _, rfl⟩) (hy : (defScope st).names.lookup y = some .local := by rfl) (hlen : (defScope st).names.lookup ("len" : Str) = some .globalImplicit := by rfl) (hyd : (y == ("__debug__" : Str)) = false := by decide) (hxd : (x == ("__debug__" : Str)) = false := by decide)
    (hg : Gl X "sorted" := by rfl) (hgx : Gl X x := by rfl)
    (he : backTo pos (starEach [e] X.env) = (false, eval e X.env) :: backTo pos (starEach [] X.env) := by rfl) (hpl : (backTo pos (starEach [e] X.env)).any (·.1) = false := by rfl)
    (he' : starEach [e] X.env = (false, eval e X.env) :: starEach [] X.env := by rfl)
    (hall : (backToKw pos (keywordEach [⟨some (Str.ofString "key"), .Name x p2, kpos⟩] X.env)).all (·.1.isSome) = true := by rfl) (hnone : (backToKw pos (keywordEach [⟨some (Str.ofString "key"), .Name x p2, kpos⟩] X.env)).any (·.1.isNone) = false := by rfl) (hks : (backToKw pos (keywordEach [⟨some (Str.ofString "key"), .Name x p2, kpos⟩] X.env)).filterMap (·.1) = [Str.ofString "key"] := by rfl) :
    DX X pl G (.Call (.Name "sorted" p) [e] [⟨some (Str.ofString "key"), .Name x p2, kpos⟩] pos) (fun a : List (Tup Int) => own a) (fun P => w fun l => P (sortP l)) := by
  obtain ⟨f, fd, qual, Fn, FG, hmx, hb⟩ := d.ex
  refine PE.wk (pe_callBK (cr_sortP Fn S hB hb hy hlen hyd hml hr) hg hm (by decide +kernel) (pa_cons h pa_nil he') (pk_cons (pe_glob (v := V.ref f) hgx hmx rfl hxd) pk_nil) (by decide) (by decide) he hpl hall hnone hks) fun s H Q ⟨F, fp, at_, P, w, K⟩ =>
    ⟨F, fp, at_, _, w, fun l v F1 H1 fp1 S1 w1 a1 g1 b1 _ => ?_⟩
  obtain ⟨_, b1⟩ := b1
  cases b1 with
  | lst h1 h2 =>
    obtain ⟨bs, e1, e2, e3⟩ := has_lots h2
    subst e1
    subst e2
    refine ⟨_, bs, rfl, rfl, SqL.of (a1.ex _ _ h1), fun b hb => TupAt.sq (TupAt.mono a1.ex (e3 b hb)), fun q hq => K.fin (S := fun x => x = q) a1 g1 w1 (New.own a1.ex hq) (own_new (a1.fnone hq) ?_) fun x e => by rw [e]; exact hq⟩
    rw [← sortP_map]
    exact lots_has fun b hb => e3 b ((List.mergeSort_perm _ _).mem_iff.mp hb)
end Dm

set_option Elab.async false
set_option linter.all false
set_option maxRecDepth 100000
set_option maxHeartbeats 2000000
/-! Dm: part Z: a dict whose keys are whole numbers, as the lot of its keys; | and ^. -/
namespace Dm
open PySem PySem.Spec PyProof.Rows L2
variable [TabC]
def dset (ks : List Int) : Asrt := fun F H v S => ∃ l kvs, v = .ref l ∧ (∀ q, S q ↔ q = l) ∧ F l = none ∧ H l = some (.dK kvs) ∧ (∀ k : Int, (valV kvs (.inl k)).isSome = decide (k ∈ ks)) ∧ kvs.length ≤ ks.length
theorem good_dset (ks : List Int) : Good (dset ks) := ⟨fun ⟨l, vs, _, s, f, h, _⟩ q m => by
    have e := (s q).mp m
    subst e
    exact ⟨f, by rw [h]; simp⟩,
  fun ⟨l, vs, e, s, f, h, a⟩ x k => ⟨l, vs, e, s, (k l ((s l).mpr rfl)).1, (k l ((s l).mpr rfl)).2.trans h, a⟩⟩
section
variable {X : Cx} {pl : Pl} {G : Env} {κ ρ : Type} {B : Rt ρ} {e e' : Expr}
theorem dx_dset {pos : Pos} : DX X pl G (.Dict [] [] pos) (fun ks : List Int => dset ks) (fun P => P []) := PE.wk pe_dnewK fun s H Q ⟨F, fp, at_, P, w, K⟩ => fun p hp =>
  K.fin (S := fun x => x = p) at_ .refl w (New.own at_.ex hp) ⟨p, [], rfl, fun _ => Iff.rfl, at_.fnone hp, upd_same, fun k => by simp [valV], Nat.le_refl _⟩ fun x e => by rw [e]; exact hp
theorem de_inK {ks : List Int} {k : Nat} (i : Nat) {x : Str} {w : W Int} {p pos : Pos} (hr : Room k X.A) (ha : DE X pl G e w) (h : G[i]? = some (some (dset ks)) := by rfl) (hN : X.N[i]? = some x := by rfl) (hv : Vis X.env.scope x := by first | exact Or.inl rfl | exact Or.inr (Or.inl rfl) | exact Or.inr (Or.inr rfl)) (hd : (x == ("__debug__" : Str)) = false := by decide)
    (hcd : (x == ("__classdict__" : Str)) = false := by decide) (hm : behindInMarks .In (.Name x p) = false := by first | exact nomark _ | rfl) : DE X pl G (.Compare e [.In] [.Name x p] pos) (fun P => w fun a => P (decide (a ∈ ks))) := PE.wk (pe_cmp (pc_din (by have := hr.un; omega) ha (pe_var hN hv hd hcd)) hm) fun s H Q ⟨F, fp, at_, P, w, K⟩ =>
  ⟨F, fp, at_, _, w, fun a v F' H' fp' S p a1 g b1 _ => by
    obtain ⟨_, v', hv', l, kvs, rfl, hS, hF, hH, hk, hl⟩ := a1.sl i _ h
    cases b1.2
    refine ⟨_, hv', l, _, rfl, DGet.k (k := .inl a) hH, ?_⟩
    rw [hk]
    exact Wish.pure K a1 g p (.bl _)⟩
theorem de_ninK {ks : List Int} {k : Nat} (i : Nat) {x : Str} {w : W Int} {p pos : Pos} (hr : Room k X.A) (ha : DE X pl G e w) (h : G[i]? = some (some (dset ks)) := by rfl) (hN : X.N[i]? = some x := by rfl) (hv : Vis X.env.scope x := by first | exact Or.inl rfl | exact Or.inr (Or.inl rfl) | exact Or.inr (Or.inr rfl)) (hd : (x == ("__debug__" : Str)) = false := by decide)
    (hcd : (x == ("__classdict__" : Str)) = false := by decide) (hm : behindInMarks .NotIn (.Name x p) = false := by first | exact nomark _ | rfl) : DE X pl G (.Compare e [.NotIn] [.Name x p] pos) (fun P => w fun a => P (!decide (a ∈ ks))) := PE.wk (pe_cmp (pc_dnotin (by have := hr.un; omega) ha (pe_var hN hv hd hcd)) hm) fun s H Q ⟨F, fp, at_, P, w, K⟩ =>
  ⟨F, fp, at_, _, w, fun a v F' H' fp' S p a1 g b1 _ => by
    obtain ⟨_, v', hv', l, kvs, rfl, hS, hF, hH, hk, hl⟩ := a1.sl i _ h
    cases b1.2
    refine ⟨_, hv', l, _, rfl, DGet.k (k := .inl a) hH, ?_⟩
    rw [hk]
    exact Wish.pure K a1 g p (.bl _)⟩
theorem dt_inK {ks : List Int} {k : Nat} (i : Nat) {x : Str} {w : W Int} {p pos : Pos} (hr : Room k X.A) (ha : DE X pl G e w) (h : G[i]? = some (some (dset ks)) := by rfl) (hN : X.N[i]? = some x := by rfl) (hv : Vis X.env.scope x := by first | exact Or.inl rfl | exact Or.inr (Or.inl rfl) | exact Or.inr (Or.inr rfl)) (hd : (x == ("__debug__" : Str)) = false := by decide)
    (hcd : (x == ("__classdict__" : Str)) = false := by decide) (hm : behindInMarks .In (.Name x p) = false := by first | exact nomark _ | rfl) : DT X pl G (.Compare e [.In] [.Name x p] pos) (fun P => w fun a => P (decide (a ∈ ks))) := PT.wk (pt_cmp (pc_din (by have := hr.un; omega) ha (pe_var hN hv hd hcd)) hm) fun s H Q ⟨F, fp, at_, P, w, K⟩ =>
  ⟨F, fp, at_, _, w, fun a v F' H' fp' S p a1 g b1 _ => by
    obtain ⟨_, v', hv', l, kvs, rfl, hS, hF, hH, hk, hl⟩ := a1.sl i _ h
    cases b1.2
    refine ⟨_, hv', l, _, rfl, DGet.k (k := .inl a) hH, _, rfl, ?_⟩
    rw [hk]
    exact K _ F' H' fp' p a1 g⟩
theorem dt_ninK {ks : List Int} {k : Nat} (i : Nat) {x : Str} {w : W Int} {p pos : Pos} (hr : Room k X.A) (ha : DE X pl G e w) (h : G[i]? = some (some (dset ks)) := by rfl) (hN : X.N[i]? = some x := by rfl) (hv : Vis X.env.scope x := by first | exact Or.inl rfl | exact Or.inr (Or.inl rfl) | exact Or.inr (Or.inr rfl)) (hd : (x == ("__debug__" : Str)) = false := by decide)
    (hcd : (x == ("__classdict__" : Str)) = false := by decide) (hm : behindInMarks .NotIn (.Name x p) = false := by first | exact nomark _ | rfl) : DT X pl G (.Compare e [.NotIn] [.Name x p] pos) (fun P => w fun a => P (!decide (a ∈ ks))) := PT.wk (pt_cmp (pc_dnotin (by have := hr.un; omega) ha (pe_var hN hv hd hcd)) hm) fun s H Q ⟨F, fp, at_, P, w, K⟩ =>
  ⟨F, fp, at_, _, w, fun a v F' H' fp' S p a1 g b1 _ => by
    obtain ⟨_, v', hv', l, kvs, rfl, hS, hF, hH, hk, hl⟩ := a1.sl i _ h
    cases b1.2
    refine ⟨_, hv', l, _, rfl, DGet.k (k := .inl a) hH, _, rfl, ?_⟩
    rw [hk]
    exact K _ F' H' fp' p a1 g⟩
/-- d[k] = v -/
theorem ds_setK {δ : Type} [Enc δ] {ks : List Int} {k : Nat} (i : Nat) {x : Str} {w : W δ} {wi : W Int} {p sp pos : Pos} (hr : Room k X.A) (he : DE X pl G e w) (hb : DE X pl G e' wi) (h : G[i]? = some (some (dset ks)) := by rfl) (hN : X.N[i]? = some x := by rfl) (hv : Vis X.env.scope x := by first | exact Or.inl rfl | exact Or.inr (Or.inl rfl) | exact Or.inr (Or.inr rfl)) (hd : (x == ("__debug__" : Str)) = false := by decide)
    (hcd : (x == ("__classdict__" : Str)) = false := by decide)
    (hs : swapsWith e (some (.Subscript (.Name x p) e' sp)) pos.line X.env = pure false := by rfl) :
    DS X pl G B (.Assign [.Subscript (.Name x p) e' sp] e pos) (fun nx _ => w fun _ => wi fun j => ks.length ≤ 100000 ∧ nx (ks ++ [j])) (fun ks' : List Int => G.set i (some (dset ks'))) :=
  PS.wk (ps_dput (by have := hr.un; omega) (pe_var hN hv hd hcd) hb he hs) fun D s H ⟨F, fp, at_, Pn, Pr, w, K1, K2⟩ => by
    refine ⟨F, fp, at_, _, w, fun a u F1 H1 fp1 S1 wi1 a1 g1 b1 _ => ?_⟩
    obtain ⟨_, v, hv, l, kvs, rfl, hS, hF, hH, hk, hl⟩ := a1.sl i _ h
    refine ⟨.ref l, hv, F1, fp1, a1, _, wi1, fun j z F2 H2 fp2 S2 p2 a2 g2 b2 _ => ?_⟩
    obtain ⟨_, v', hv', l', kvs', rfl, hS', hF', hH', hk', hl'⟩ := a2.sl i _ h
    rw [hv] at hv'; cases hv'
    cases b2.2
    obtain ⟨ln, p2⟩ := p2
    refine ⟨l, _, rfl, DPut.k (k := .inl j) hH' (by rw [sizeLine_eq]; omega), ?_⟩
    have hA : dset (ks ++ [j]) F2 (upd H2 l (.dK (putK kvs' (.inl j) u))) (.ref l) (fp2 i) := by
      refine ⟨l, _, rfl, hS', hF', upd_same, fun m => ?_, ?_⟩
      · rw [valV_put]
        by_cases z : m = j
        · rw [if_pos (by rw [z])]; simp [z]
        · rw [if_neg (by simpa using z), hk']; simp [z]
      · have := length_putK kvs' (.inl j : Key) u
        rw [List.length_append]; show _ ≤ ks.length + 1; omega
    obtain ⟨a3, g3⟩ := a2.mut (a2.lt h) ((hS' l).mpr rfl) hv (good_dset _) hA
    exact K1 _ s F2 _ fp2 p2 a3 ((g1.trans g2).trans g3)
theorem de_bor {wa wb : W Int} {pos : Pos} (ha : DE X pl G e wa) (hb : DE X pl G e' wb) : DE X pl G (.BinOp e .BitOr e' pos) (fun P => wa fun x => wb fun y => P (Builtin.bitOr x y)) := dx_op2 op_or vr_II ha hb
theorem de_bxor {wa wb : W Int} {pos : Pos} (ha : DE X pl G e wa) (hb : DE X pl G e' wb) : DE X pl G (.BinOp e .BitXor e' pos) (fun P => wa fun x => wb fun y => P (Builtin.bitXor x y)) := dx_op2 op_xor vr_II ha hb
end
end Dm

set_option Elab.async false
set_option linter.all false
set_option maxRecDepth 100000
set_option maxHeartbeats 2000000
/-! Dm: part Za: dicts from whole numbers to whole numbers; data in lists and tuples of data; t.index(x). -/
namespace Dm
open PySem PySem.Spec PyProof.Rows L2
variable [TabC]
structure Mp where
  l : List (Int × Int)
instance : Enc Mp := ⟨fun m => PyData.dict (m.l.map fun p => (PyData.int p.1, PyData.int p.2))⟩
def mV (l : List (Int × Int)) : List (Key × V) := l.map fun p => (.inl p.1, V.int p.2)
def getM (l : List (Int × Int)) (k : Int) : Option Int := (l.find? fun p => decide (p.1 = k)).map (·.2)
def putM (l : List (Int × Int)) (k v : Int) : List (Int × Int) := if (l.any fun p => decide (p.1 = k)) = true then l.map (fun p => if p.1 = k then (p.1, v) else p) else l ++ [(k, v)]
theorem valV_mV {k : Int} : ∀ {l : List (Int × Int)}, valV (mV l) (.inl k) = (getM l k).map V.int
  | [] => rfl
  | p :: l => by
    by_cases e : p.1 = k
    · have e2 : getM (p :: l) k = some p.2 := by unfold getM; simp [e]
      rw [e2]
      exact valV_pos (p := (Sum.inl p.1, V.int p.2)) (by show (Sum.inl p.1 : Key) = Sum.inl k; rw [e])
    · have e2 : getM (p :: l) k = getM l k := by unfold getM; simp [e]
      rw [e2, ← valV_mV]
      exact valV_neg (p := (Sum.inl p.1, V.int p.2)) (fun z => e (Sum.inl.inj z))
theorem any_mV {k : Int} {l : List (Int × Int)} : ((mV l).any fun kv => decide (kv.1 = (.inl k : Key))) = l.any fun p => decide (p.1 = k) := by
  unfold mV
  rw [List.any_map]
  congr 1
  funext p
  exact decide_eq_decide.mpr ⟨fun z => Sum.inl.inj z, fun z => congrArg Sum.inl z⟩
theorem putK_mV {k v : Int} {l : List (Int × Int)} : putK (mV l) (.inl k) (V.int v) = mV (putM l k v) := by
  unfold putK putM
  rw [any_mV]
  split
  · unfold mV
    rw [List.map_map, List.map_map]
    refine List.map_congr_left fun p _ => ?_
    show (if (Sum.inl p.1 : Key) = Sum.inl k then ((Sum.inl p.1 : Key), V.int v) else ((Sum.inl p.1 : Key), V.int p.2)) = (Sum.inl (if p.1 = k then (p.1, v) else p).1, V.int (if p.1 = k then (p.1, v) else p).2)
    by_cases e : p.1 = k
    · rw [if_pos (congrArg Sum.inl e), if_pos e]
    · rw [if_neg (fun z => e (Sum.inl.inj z)), if_neg e]
  · unfold mV
    rw [List.map_append]; rfl
theorem getM_put {l : List (Int × Int)} {k v j : Int} : getM (putM l k v) j = if j = k then some v else getM l j := by
  have h := valV_put (mV l) (.inl k : Key) (.inl j) (V.int v)
  rw [putK_mV, valV_mV, valV_mV] at h
  by_cases e : j = k
  · rw [if_pos e]
    rw [if_pos (congrArg Sum.inl e)] at h
    cases q : getM (putM l k v) j with
    | none => rw [q] at h; cases h
    | some x => rw [q] at h; cases h; rfl
  · rw [if_neg e]
    rw [if_neg (fun z => e (Sum.inl.inj z))] at h
    cases q : getM (putM l k v) j <;> cases r : getM l j <;> rw [q, r] at h <;> first | rfl | (cases h; rfl) | cases h
theorem putM_len {l : List (Int × Int)} {k v : Int} : (putM l k v).length ≤ l.length + 1 := by
  unfold putM
  split
  · rw [List.length_map]; omega
  · rw [List.length_append]; exact Nat.le_refl _
def dmap (m : Mp) : Asrt := fun F H v S => ∃ a, v = .ref a ∧ (∀ q, S q ↔ q = a) ∧ F a = none ∧ H a = some (.dK (mV m.l))
theorem good_dmap (m : Mp) : Good (dmap m) := ⟨fun ⟨l, _, s, f, h⟩ q m => by
    have e := (s q).mp m
    subst e
    exact ⟨f, by rw [h]; simp⟩,
  fun ⟨l, e, s, f, h⟩ x k => ⟨l, e, s, (k l ((s l).mpr rfl)).1, (k l ((s l).mpr rfl)).2.trans h⟩⟩
theorem hasKv_mV {F : Hp} : ∀ {l : List (Int × Int)}, HasKv F (mV l) (l.map fun p => (PyData.int p.1, PyData.int p.2))
  | [] => .nil
  | p :: l => .cons (.int p.1) (.int p.2) hasKv_mV
theorem frz_dmap : Frz (fun m : Mp => dmap m) := fun m F H v S b e => ⟨(good_dmap m).own b, fun F' e' k => by
  obtain ⟨l, rfl, hs, hF, hH⟩ := b
  exact .dct ((k l ((hs l).mpr rfl)).trans hH) hasKv_mV⟩
theorem hasKv_inv {F : Hp} : ∀ {l : List (Int × Int)} {kvs : List (Key × V)}, HasKv F kvs (l.map fun p => (PyData.int p.1, PyData.int p.2)) → kvs = mV l
  | [], _, h => by cases h; rfl
  | p :: l, _, h => by
    cases h with
    | cons h1 h2 h3 =>
      rename_i k v kvs
      rw [hasKv_inv h3]
      cases h2
      cases k with
      | inl i => cases h1; rfl
      | inr x => cases h1
section
variable {X : Cx} {pl : Pl} {G : Env} {κ ρ : Type} {B : Rt ρ} {e e' : Expr}
theorem dx_dmap {pos : Pos} : DX X pl G (.Dict [] [] pos) (fun m : Mp => dmap m) (fun P => P (Mp.mk [])) := PE.wk pe_dnewK fun s H Q ⟨F, fp, at_, P, w, K⟩ => fun p hp =>
  K.fin (S := fun x => x = p) at_ .refl w (New.own at_.ex hp) ⟨p, rfl, fun _ => Iff.rfl, at_.fnone hp, upd_same⟩ fun x e => by rw [e]; exact hp
theorem dss_frzM (i : Nat) {a : Mp} {sts : List Stmt} {w : WS κ ρ} {G' : κ → Env} (h : DSs X pl (G.set i (some (fro a))) B sts w G') (hi : G[i]? = some (some (dmap a)) := by rfl) : DSs X pl G B sts w G' := dss_frz i frz_dmap hi h
/-- d[k] = v -/
theorem ds_setM {m : Mp} {k : Nat} (i : Nat) {x : Str} {w wi : W Int} {p sp pos : Pos} (hr : Room k X.A) (he : DE X pl G e w) (hb : DE X pl G e' wi) (h : G[i]? = some (some (dmap m)) := by rfl) (hN : X.N[i]? = some x := by rfl) (hv : Vis X.env.scope x := by first | exact Or.inl rfl | exact Or.inr (Or.inl rfl) | exact Or.inr (Or.inr rfl)) (hd : (x == ("__debug__" : Str)) = false := by decide)
    (hcd : (x == ("__classdict__" : Str)) = false := by decide)
    (hs : swapsWith e (some (.Subscript (.Name x p) e' sp)) pos.line X.env = pure false := by rfl) :
    DS X pl G B (.Assign [.Subscript (.Name x p) e' sp] e pos) (fun nx _ => w fun a => wi fun j => m.l.length ≤ 100000 ∧ nx (Mp.mk (putM m.l j a))) (fun m' : Mp => G.set i (some (dmap m'))) :=
  PS.wk (ps_dput (by have := hr.un; omega) (pe_var hN hv hd hcd) hb he hs) fun D s H ⟨F, fp, at_, Pn, Pr, w, K1, K2⟩ => by
    refine ⟨F, fp, at_, _, w, fun a u F1 H1 fp1 S1 wi1 a1 g1 b1 _ => ?_⟩
    obtain ⟨_, v, hv, l, rfl, hS, hF, hH⟩ := a1.sl i _ h
    refine ⟨.ref l, hv, F1, fp1, a1, _, wi1, fun j z F2 H2 fp2 S2 p2 a2 g2 b2 _ => ?_⟩
    obtain ⟨_, v', hv', l', rfl, hS', hF', hH'⟩ := a2.sl i _ h
    rw [hv] at hv'; cases hv'
    cases b2.2
    cases b1.2
    obtain ⟨ln, p2⟩ := p2
    have hml : (mV m.l).length = m.l.length := List.length_map ..
    refine ⟨l, _, rfl, DPut.k (k := .inl j) hH' (by rw [sizeLine_eq, hml]; omega), ?_⟩
    have hA : dmap (Mp.mk (putM m.l j a)) F2 (upd H2 l (.dK (putK (mV m.l) (.inl j) (V.int a)))) (.ref l) (fp2 i) := ⟨l, rfl, hS', hF', by rw [upd_same, putK_mV]⟩
    obtain ⟨a3, g3⟩ := a2.mut (a2.lt h) ((hS' l).mpr rfl) hv (good_dmap _) hA
    exact K1 _ s F2 _ fp2 p2 a3 ((g1.trans g2).trans g3)
def wGetM (m : Mp) (k : Int) (P : Int → Prop) : Prop := ∃ v, getM m.l k = some v ∧ P v
/-- d[k], d one's own -/
theorem de_getM {m : Mp} {k : Nat} (i : Nat) {x : Str} {wi : W Int} {p pos : Pos} (hr : Room k X.A) (hb : DE X pl G e' wi) (h : G[i]? = some (some (dmap m)) := by rfl) (hN : X.N[i]? = some x := by rfl) (hv : Vis X.env.scope x := by first | exact Or.inl rfl | exact Or.inr (Or.inl rfl) | exact Or.inr (Or.inr rfl)) (hd : (x == ("__debug__" : Str)) = false := by decide)
    (hcd : (x == ("__classdict__" : Str)) = false := by decide) (hs : NoSl e' := by intro _ _; rfl) : DE X pl G (.Subscript (.Name x p) e' pos) (fun P => wi fun j => wGetM m j P) := PE.wk (pe_dget (by have := hr.un; omega) (pe_var hN hv hd hcd) hb hs) fun s H Q ⟨F, fp, at_, P, w, K⟩ => by
  obtain ⟨_, v, hv, l, rfl, hS, hF, hH⟩ := at_.sl i _ h
  refine ⟨.ref l, hv, F, fp, at_, _, w, fun j z F1 H1 fp1 S1 ⟨r, hr1, p1⟩ a1 g1 b1 _ => ?_⟩
  obtain ⟨_, v', hv', l', rfl, hS', hF', hH'⟩ := a1.sl i _ h
  rw [hv] at hv'; cases hv'
  cases b1.2
  refine ⟨l, V.int r, rfl, ?_, Wish.pure K a1 g1 p1 (.int r)⟩
  have := DGet.k (k := .inl j) hH'
  rw [valV_mV, hr1] at this
  exact this
theorem HasPr.noInt {F : Hp} {x y : V} {P : Prop} : ∀ {l : List (Int × Int)}, HasPr F x y (l.map fun p => (PyData.int p.1, PyData.int p.2)) → P
  | [], h => by cases h
  | p :: l, h => by cases h
/-- d[k], d standing still -/
theorem de_getF {k : Nat} {wd : W Mp} {wi : W Int} {pos : Pos} (hr : Room k X.A) (ha : DE X pl G e wd) (hb : DE X pl G e' wi) (hs : NoSl e' := by intro _ _; rfl) : DE X pl G (.Subscript e e' pos) (fun P => wd fun m => wi fun j => wGetM m j P) := PE.wk (pe_dget (by have := hr.un; omega) ha hb hs) fun s H Q ⟨F, fp, at_, P, w, K⟩ => by
  refine ⟨F, fp, at_, _, w, fun m v F1 H1 fp1 S1 wi1 a1 g1 b1 _ => ?_⟩
  refine ⟨F1, fp1, a1, _, wi1, fun j z F2 H2 fp2 S2 ⟨r, hr1, p2⟩ a2 g2 b2 _ => ?_⟩
  have hb1 : Has F2 v (PyData.dict (m.l.map fun p => (PyData.int p.1, PyData.int p.2))) := (b1.2).mono g2.exF
  cases b2.2
  cases hb1 with
  | dct h1 h2 =>
    rename_i l kvs
    rw [hasKv_inv h2] at h1
    refine ⟨l, V.int r, rfl, ?_, Wish.pure K a2 (g1.trans g2) p2 (.int r)⟩
    have := DGet.k (k := .inl j) (a2.ex _ _ h1)
    rw [valV_mV, hr1] at this
    exact this
  | prs h1 h2 => exact HasPr.noInt h2
end
/-! ### data among data -/
section
variable {X : Cx} {pl : Pl} {G : Env} {e e' : Expr} {α : Type} [Enc α] {wa : W α}
theorem vr_inD : VR2 (rInD X.K) (fun (x : α) (l : List α) (P : Bool → Prop) => EqOk (enc x) ∧ EqOk (enc l) ∧ P (l.any fun z => PyData.eqv (enc z) (enc x))) (fun b : Bool => fro b) := fun F H x y a l Q P e hx hy ⟨p1, p2, p⟩ K => by
  refine ⟨_, _, Has.dp e hx p1.2, Has.dp e hy p2.2, p1.1, p2.1, ?_⟩
  rw [List.any_map]
  exact K _ _ F H (fun _ => False) p (New.refl e) ⟨fun _ h => h, .bl _⟩ fun _ h => h.elim
theorem vr_ninD : VR2 (rNotInD X.K) (fun (x : α) (l : List α) (P : Bool → Prop) => EqOk (enc x) ∧ EqOk (enc l) ∧ P (!(l.any fun z => PyData.eqv (enc z) (enc x)))) (fun b : Bool => fro b) := fun F H x y a l Q P e hx hy ⟨p1, p2, p⟩ K => by
  refine ⟨_, _, Has.dp e hx p1.2, Has.dp e hy p2.2, p1.1, p2.1, ?_⟩
  rw [List.any_map]
  exact K _ _ F H (fun _ => False) p (New.refl e) ⟨fun _ h => h, .bl _⟩ fun _ h => h.elim
theorem de_inDL {k : Nat} {wb : W (List α)} {pos : Pos} (hr : Room k X.A) (ha : DE X pl G e wa) (hb : DE X pl G e' wb) (hm : behindInMarks .In e' = false := by first | exact nomark _ | rfl) : DE X pl G (.Compare e [.In] [e'] pos) (fun P => wa fun x => wb fun l => EqOk (enc x) ∧ EqOk (enc l) ∧ P (l.any fun z => PyData.eqv (enc z) (enc x))) := de_cmp (op_inD (by have := hr.un; omega)) vr_inD ha hb hm
theorem dt_inDL {k : Nat} {wb : W (List α)} {pos : Pos} (hr : Room k X.A) (ha : DE X pl G e wa) (hb : DE X pl G e' wb) (hm : behindInMarks .In e' = false := by first | exact nomark _ | rfl) : DT X pl G (.Compare e [.In] [e'] pos) (fun P => wa fun x => wb fun l => EqOk (enc x) ∧ EqOk (enc l) ∧ P (l.any fun z => PyData.eqv (enc z) (enc x))) := dt_cmp (op_inD (by have := hr.un; omega)) vr_inD ha hb hm
theorem de_ninDL {k : Nat} {wb : W (List α)} {pos : Pos} (hr : Room k X.A) (ha : DE X pl G e wa) (hb : DE X pl G e' wb) (hm : behindInMarks .NotIn e' = false := by first | exact nomark _ | rfl) : DE X pl G (.Compare e [.NotIn] [e'] pos) (fun P => wa fun x => wb fun l => EqOk (enc x) ∧ EqOk (enc l) ∧ P (!(l.any fun z => PyData.eqv (enc z) (enc x)))) := de_cmp (op_notInD (by have := hr.un; omega)) vr_ninD ha hb hm
theorem dt_ninDL {k : Nat} {wb : W (List α)} {pos : Pos} (hr : Room k X.A) (ha : DE X pl G e wa) (hb : DE X pl G e' wb) (hm : behindInMarks .NotIn e' = false := by first | exact nomark _ | rfl) : DT X pl G (.Compare e [.NotIn] [e'] pos) (fun P => wa fun x => wb fun l => EqOk (enc x) ∧ EqOk (enc l) ∧ P (!(l.any fun z => PyData.eqv (enc z) (enc x)))) := dt_cmp (op_notInD (by have := hr.un; omega)) vr_ninD ha hb hm
end
end Dm

set_option Elab.async false
set_option linter.all false
set_option maxRecDepth 100000
set_option maxHeartbeats 2000000
/-! Dm: part Zb: a raising def called for its error alone: as a statement in a raising def, in a try; a raising def that ends without a return. -/
namespace Dm
open PySem PySem.Spec PyProof.Rows L2
variable [TabC]
section
variable {X : Cx} {pl : Pl} {G : Env} {κ ρ δ : Type} {B : ρ → Asrt}
/-- f(..), whose error is this def's own -/
theorem ds_exprX {E : XK} {e : Expr} {B' : δ → Asrt} {w : W (δ ⊕ Xc)} {pos : Pos} (h : DXr X pl G (fun c d _ H => E c d H) e B' w) (hsw : swapsWith e none pos.line X.env = pure false := by rfl) :
    DS X pl G (exB B X.mg E) (.Expr e pos) (fun nx rt => w fun r => match r with | .inl _ => nx () | .inr x => rt (.inr x)) (fun _ : Unit => G) := PS.wk (ps_expr h hsw) fun D s H ⟨F, fp, at_, Pn, Pr, wp, K1, K2⟩ => by
  refine ⟨F, fp, at_, _, wp, fun a v F1 H1 fp1 S1 p a1 g1 b1 hS => K1 () s F1 H1 fp1 p a1 g1, ⟨fun x C dd fv F1 H1 fp1 p hb a1 g1 hC hF hH ha hn => ?_, fun x C F1 H1 fp1 p hb a1 g1 hC => (K2 (.inr x) .non F1 H1 fp1 (fun _ => False) p a1.ex a1.pool g1 ⟨fun _ _ h => h, fun z => by rw [hb] at z; cases z⟩ (fun q m => m.elim) C hC).1 hb⟩⟩
  obtain ⟨d2, e2, q⟩ := (K2 (.inr x) (.ref dd) F1 H1 fp1 (fun q => q = dd) p a1.ex a1.pool g1 ⟨fun z => (by rw [hb] at z; cases z), fun _ => ⟨dd, fv, rfl, fun _ => Iff.rfl, hF, hH, ha⟩⟩ (fun q m => .inr (by rw [m]; exact hn.1)) C hC).2 hb
  cases e2
  exact q
end
section
variable {P : Program} {w : World} {K : Fr} {mg : Str → Option Value} {base : Heap} {CX : CXT}
theorem prom_endXN {F H : Hp} {Q : VK} {E : XK} {wr : W (Unit ⊕ Xc)} {κ : Type} {w' : WS κ (Unit ⊕ Xc)} {G : Env} {G' : κ → Env} {s : L2.St} (a : At none G F H s noF) (pr : PromX mg (fun u : Unit => fro u) wr F H Q E) (hw : ∀ Pr : Unit ⊕ Xc → Prop, wr Pr → w' (fun _ => Pr (.inl ())) Pr) : tS none G (exB (fun u : Unit => fro u) mg E) w' G' { nx := fun _ H' => Q .non H', rt := Q } s H := by
  obtain ⟨Pr, h, K⟩ := pr
  refine ⟨F, noF, a, fun _ => Pr (.inl ()), Pr, hw Pr h, fun k s' F' H' fp' p a' g' => K (.inl ()) .non F' H' (fun _ => False) p a'.ex a'.pool (g'.own fun i q m => m.elim) ⟨fun _ h => h, .non⟩ (fun _ h => h.elim), fun r v F' H' fp' S p e po g b hS => K r v F' H' S p e po (g.own fun i q m => m.elim) b fun q m => ?_⟩
  exact (hS q m).elim (fun ⟨_, z⟩ => z.elim) fun z => z
theorem Fun.bodyXN {k : Nat} {x qual : Str} {st : Stmt} {f : Addr} {fd : FuncData} {N ps : List Str} {M : List D → W (Unit ⊕ Xc) → Prop} (Fn : Fun K x qual st f fd) (S : FnScope N ps (defScope st)) (hlen : ∀ ds w, M ds w → ds.length = ps.length)
    (hb : ∀ (cdv : Value) (A : Around) (outer : List PySem.Env) (s : Shared) (H : Hp) (E : XK), Room k (A.deeper (envOfC qual (defScope st) s.heap.objs.size f cdv)) → A.guards = some [] → ∀ ds wr, M ds wr →
      ∃ (κ : Type) (w' : WS κ (Unit ⊕ Xc)) (G' : κ → Env), DSs (cxOf CX P w K mg base N qual (defScope st) f cdv A outer s H E) none (G0 (ds.map fun d => fro d) N.length) (exB (fun u : Unit => fro u) mg E) (defBody st) w' G' ∧ ∀ Pr : Unit ⊕ Xc → Prop, wr Pr → w' (fun _ => Pr (.inl ())) Pr) : FnG P w K mg base CX (k + 1) f fd ps (spX mg M (fun u : Unit => fro u)) := by
  refine FnG.body Fn S (fun vs H Q E ⟨F, ds, wr, _, ha, hM, _⟩ => by rw [ha.length, hlen ds wr hM]) fun cdv A outer s H vs Q E hr hg ⟨F, ds, wr, e, ha, hM, pr⟩ => ?_
  obtain ⟨κ, w', G', h, hw⟩ := hb cdv A outer s H E hr hg ds wr hM
  have hl : ds.length ≤ N.length := by
    have h1 := congrArg List.length S.pre
    rw [List.length_take] at h1
    rw [hlen ds wr hM]; omega
  exact ⟨_, h, prom_endXN (at_start (Args0.fro ha) e.ex (PoolOk.none e.tab) (by rw [List.length_map]; exact hl)) pr hw⟩
end
section
variable {X : Cx} {pl : Pl} {G : Env} {ρ δ : Type} {B : Rt ρ}
/-- try: f(..) except C as n: .. -/
theorem ds_tryE (i : Nat) {n cn : Str} {C : Addr} {e : Expr} {B' : δ → Asrt} {w : W (δ ⊕ Xc)} {wS : Xc → WS Unit ρ} {b₀ : Stmt} {suite : List Stmt} {np pos pos1 pos' : Pos} (hN : X.N.Nodup) (gC : X.mg cn = some (.ref C)) (te : PySem.W.exmOne X.K (.ref C) (.ref C) = some true)
    (hbody : ∀ (W : WX) (pn : List (Addr × Obj)) (xe : Value → Shared → Prop), Takes (X.tr pn xe) W → DXr (X.tr pn xe) pl G W e B' w)
    (hsuite : ∀ (a : Addr) (oe : Obj) (dd : Addr) (pn : List (Addr × Obj)) (x : Xc), Zc (.ref C) (some dd) oe → (∃ vs, oe.data = .fields vs) → DSs (X.suite a ((a, oe) :: pn)) pl (G.set i (some (xA a dd x))) B (b₀ :: suite) (wS x) (fun _ => G)) (hGi : G[i]? = some none := by rfl)
    (hs : X.stack = X.env :: X.outer := by rfl) (hf : X.env.frame = some X.env.locals := by rfl) (hi : X.N[i]? = some n := by rfl) (hln : X.env.kindOf n = some .local := by rfl) (hgc : Gl X cn := by rfl) (hdc : (cn == ("__debug__" : Str)) = false := by decide)
    (hli : Nat.blt i G.length = true := by rfl) (hbx : bareX cn = false := by decide) (hsw : ∀ (pn : List (Addr × Obj)) (xe : Value → Shared → Prop), swapsWith e none pos1.line (X.tr pn xe).env = pure false := by intro _ _; rfl) :
    DS X pl G B (.Try [.Expr e pos1] [.ExceptHandler (some (.Name cn np)) (some n) (b₀ :: suite) pos'] [] [] pos) (fun nx rt => w fun r => match r with | .inl _ => nx () | .inr y => y.cls = cn ∧ wS y nx rt) (fun _ => G) := by
  refine PS.wk (ps_try_as (c := .ref C) (tb := fun W => tDrop (tXr pl G B' X.mg W w)) (ts := fun a cls d D s H => ∃ y dd, cls = .ref C ∧ d = some dd ∧ tS pl (G.set i (some (xA a dd y))) B (wS y) (fun _ => G) D s H) (Wout := fun _ _ _ _ => False) hs hf hN hi hln ⟨hgc, hdc, .inl gC⟩ (fun _ _ h => ?_) (fun W pn xe tk _ => pss_one (ps_expr (hbody W pn xe tk) (hsw pn xe))) (fun a oe cls d pn hz hfd => ⟨fun pins sh s H D I ⟨y, dd, ec, ed, t⟩ => ?_⟩)) fun D s H ⟨F, fp, at_, Pn, Pr, wp, K1, K2⟩ => ?_
  · obtain ⟨_, _, _, _, _, _, _, _, _, _, _, _, _, _, _, _, z⟩ := h
    exact z.elim
  · subst ec; subst ed
    exact (hsuite a oe dd pn y hz hfd).run pins sh s H D I t
  · refine ⟨F, fp, at_, _, wp, fun a v F1 H1 fp1 S1 p a1 g1 b1 hS => K1 () _ F1 H1 _ p a1 g1, ⟨fun y C' dd fv F1 H1 fp1 ⟨ec, p⟩ _ a1 g1 hC hF hH ha ⟨h0, hnf, hnp⟩ => ?_, fun y C' F1 H1 fp1 ⟨ec, p⟩ hb => by rw [ec, hbx] at hb; cases hb⟩⟩
    have eC : C' = C := by
      rw [ec, gC] at hC
      cases hC; rfl
    subst eC
    refine ⟨true, te, fun _ ad had => ?_, fun z => by cases z⟩
    obtain ⟨F2, x2, a2, e1, e2⟩ := a1.frz (S := fun q => q = dd) (fun q m => by rw [m]; exact ⟨hF, by rw [hH]; simp⟩) (fun q m => by rw [m]; exact ⟨hnf, hnp⟩)
    have hdd : F2 dd = some (.xd [(y.fld, fv)]) := by rw [e1 dd rfl, hH]
    have g2 : Go pl F H fp F2 H1 fp1 := ⟨g1.exF.trans x2, fun q h n p => by
      have k := g1.keep q h n p
      refine ⟨k.1, fun z => ?_⟩
      have qd : ¬ q = dd := fun w => h (by rw [w]; exact h0)
      rw [e2 q qd]; exact k.2 z, g1.foot, g1.grow⟩
    have a3 := a2.set (A := xA ad dd y) (v := .ref ad) (S := fun _ => False) (blt_lt hli) good_xA ⟨fun _ z => z, rfl, fv, hdd, ha.mono x2⟩ fun _ z => z.elim
    have g3 : Go pl F H fp F2 H1 (fun k q => if k = i then False else fp1 k q) := g2.own fun k q m => by
      by_cases hk : k = i
      · exact ((if_pos hk).mp m).elim
      · exact .inl ⟨k, (if_neg hk).mp m⟩
    refine ⟨y, dd, rfl, rfl, F2, _, a3, Pn, Pr, p, fun k s4 F4 H4 fp4 p4 a4 g4 => K1 () _ F4 H4 fp4 p4 (a4.conv (fun m A em => ?_) (by rw [List.length_set])) (g3.trans g4), fun r v F4 H4 fp4 S p4 e4 po4 g4 b4 hS => K2 r v F4 H4 fp4 S p4 e4 po4 (g3.trans g4) b4 fun q m => ?_⟩
    · have : m ≠ i := fun z => by
        rw [z, hGi] at em; cases em
      rw [List.getElem?_set_ne (Ne.symm this)]
    · rcases hS q m with ⟨k, z⟩ | z
      · exact g3.foot k q z
      · exact .inr (g3.back z)
end
end Dm

set_option Elab.async false
set_option linter.all false
set_option maxRecDepth 100000
set_option maxHeartbeats 2000000
/-! Dm: part Zc: zip of two lists, of two tuples. -/
namespace Dm
open PySem PySem.Spec PyProof.Rows L2
variable [TabC]
def zipA {α β : Type} (as : List α) (bs : List β) : List (Pq α β) := (as.zip bs).map fun p => Pq.mk p.1 p.2
section
variable {α β : Type} [Enc α] [Enc β]
theorem zipA_get {as : List α} {bs : List β} {i : Nat} {p : Pq α β} (h : (zipA as bs)[i]? = some p) : as[i]? = some p.a ∧ bs[i]? = some p.b := by
  unfold zipA at h
  rw [List.getElem?_map] at h
  cases e : (as.zip bs)[i]? with
  | none => rw [e] at h; cases h
  | some q =>
    rw [e] at h
    cases h
    exact List.getElem?_zip_eq_some.mp e
theorem zipA_len {as : List α} {bs : List β} : (zipA as bs).length = min as.length bs.length := by unfold zipA; rw [List.length_map, List.length_zip]
theorem iters_zip {K : Fr} {p q : Addr} {vs us : List V} {as : List α} {bs : List β} {F0 : Hp} (h : F0 p = some (.lst vs)) (hv : HasAll F0 vs (as.map Enc.enc)) (h2 : F0 q = some (.lst us)) (hu : HasAll F0 us (bs.map Enc.enc)) : Iters (Itz K p q) (zipA as bs) F0 where
  turn := fun F H i a e1 e2 ha => by
    obtain ⟨ea, eb⟩ := zipA_get ha
    obtain ⟨x, hx, hb⟩ := hv.get (i := i) (d := enc a.a) (by rw [List.getElem?_map, ea]; rfl)
    obtain ⟨y, hy, hc⟩ := hu.get (i := i) (d := enc a.b) (by rw [List.getElem?_map, eb]; rfl)
    have hS : SqL K H p vs := SqL.of (e2 _ _ (e1 _ _ h))
    have hS2 : SqL K H q us := SqL.of (e2 _ _ (e1 _ _ h2))
    refine ⟨⟨vs, us, x, y, hS, hS2, hx, hy⟩, fun v H' ⟨T, x', y', ey, hT, eH, k1, k2⟩ => ?_⟩
    have e := (k1 vs hS).symm.trans hx
    cases e
    have e := (k2 us hS2).symm.trans hy
    cases e
    subst ey
    subst eH
    exact ⟨_, New.fro e2 hT, .prs upd_same (.mk ((hb.mono e1).mono (Ex.new (e2.fnone hT))) ((hc.mono e1).mono (Ex.new (e2.fnone hT))))⟩
  stop := fun F H e1 e2 => ⟨vs, us, SqL.of (e2 _ _ (e1 _ _ h)), SqL.of (e2 _ _ (e1 _ _ h2)), by
    have l1 := hv.length
    have l2 := hu.length
    rw [List.length_map] at l1 l2
    rw [zipA_len]; omega⟩
theorem iters_zipT {K : Fr} {p q : Addr} {vs us : List V} {as : List α} {bs : List β} {F0 : Hp} (h : TupAt F0 p vs) (hv : HasAll F0 vs (as.map Enc.enc)) (h2 : TupAt F0 q us) (hu : HasAll F0 us (bs.map Enc.enc)) : Iters (RZ.ItzT K p q) (zipA as bs) F0 where
  turn := fun F H i a e1 e2 ha => by
    obtain ⟨ea, eb⟩ := zipA_get ha
    obtain ⟨x, hx, hb⟩ := hv.get (i := i) (d := enc a.a) (by rw [List.getElem?_map, ea]; rfl)
    obtain ⟨y, hy, hc⟩ := hu.get (i := i) (d := enc a.b) (by rw [List.getElem?_map, eb]; rfl)
    have hS : SqT K H p vs := TupAt.sq (TupAt.mono e2 (TupAt.mono e1 h))
    have hS2 : SqT K H q us := TupAt.sq (TupAt.mono e2 (TupAt.mono e1 h2))
    refine ⟨⟨vs, us, x, y, hS, hS2, hx, hy⟩, fun v H' ⟨T, x', y', ey, hT, eH, k1, k2⟩ => ?_⟩
    have e := (k1 vs hS).symm.trans hx
    cases e
    have e := (k2 us hS2).symm.trans hy
    cases e
    subst ey
    subst eH
    exact ⟨_, New.fro e2 hT, .prs upd_same (.mk ((hb.mono e1).mono (Ex.new (e2.fnone hT))) ((hc.mono e1).mono (Ex.new (e2.fnone hT))))⟩
  stop := fun F H e1 e2 => ⟨vs, us, TupAt.sq (TupAt.mono e2 (TupAt.mono e1 h)), TupAt.sq (TupAt.mono e2 (TupAt.mono e1 h2)), by
    have l1 := hv.length
    have l2 := hu.length
    rw [List.length_map] at l1 l2
    rw [zipA_len]; omega⟩
end
section
variable {X : Cx} {pl : Pl} {G : Env} {e e2 : Expr} {α β : Type} [Enc α] [Enc β] {elts : List Expr} {kk : Nat} {tpos p pos : Pos}
theorem di_zipL {w : W (List α)} {u : W (List β)} (hm : X.mg "zip" = none) (h : DE X pl G e w) (h2 : DE X pl G e2 u) (hg : Gl X "zip" := by rfl) (hs : starEach [e, e2] X.env = (false, eval e X.env) :: starEach [e2] X.env := by rfl) (hs2 : starEach [e2] X.env = (false, eval e2 X.env) :: starEach [] X.env := by rfl) (hpl : (backTo pos (starEach [e2] X.env)).any (·.1) = false := by rfl) :
    DI X pl G (.Tuple elts kk tpos) (.Call (.Name "zip" p) [e, e2] [] pos) (fun P => w fun as => u fun bs => P (zipA as bs)) := PI.wk (RZ.pi_zipA hg hm (pa_cons h (pa_cons h2 pa_nil hs2) hs) hs hpl) fun s H R ⟨F, fp, at_, P, w, K⟩ => ⟨F, fp, at_, _, w, fun as v F1 H1 fp1 S1 p1 a1 g1 b1 _ => ⟨F1, fp1, a1, _, p1, fun bs v2 F2 H2 fp2 S2 p2 a2 g2 b2 _ => by
  have hb1 := (b1.2).mono g2.exF
  have hb2 := b2.2
  cases hb1 with
  | lst h1 hv =>
    cases hb2 with
    | lst h3 hu => exact ⟨_, _, _, _, rfl, .inl ⟨SqL.of (a2.ex _ _ h1), SqL.of (a2.ex _ _ h3), K (zipA as bs) F2 H2 fp2 _ p2 a2 (g1.trans g2) (iters_zip h1 hv h3 hu)⟩⟩⟩⟩
theorem di_zipT {w : W (Tup α)} {u : W (Tup β)} (hm : X.mg "zip" = none) (h : DE X pl G e w) (h2 : DE X pl G e2 u) (hg : Gl X "zip" := by rfl) (hs : starEach [e, e2] X.env = (false, eval e X.env) :: starEach [e2] X.env := by rfl) (hs2 : starEach [e2] X.env = (false, eval e2 X.env) :: starEach [] X.env := by rfl) (hpl : (backTo pos (starEach [e2] X.env)).any (·.1) = false := by rfl) :
    DI X pl G (.Tuple elts kk tpos) (.Call (.Name "zip" p) [e, e2] [] pos) (fun P => w fun as => u fun bs => P (zipA as.l bs.l)) := PI.wk (RZ.pi_zipA hg hm (pa_cons h (pa_cons h2 pa_nil hs2) hs) hs hpl) fun s H R ⟨F, fp, at_, P, w, K⟩ => ⟨F, fp, at_, _, w, fun as v F1 H1 fp1 S1 p1 a1 g1 b1 _ => ⟨F1, fp1, a1, _, p1, fun bs v2 F2 H2 fp2 S2 p2 a2 g2 b2 _ => by
  have hb1 := (b1.2).mono g2.exF
  have hb2 := b2.2
  cases hb1 with
  | tup h1 hv =>
    cases hb2 with
    | tup h3 hu => exact ⟨_, _, _, _, rfl, .inr ⟨TupAt.sq (TupAt.mono a2.ex h1), TupAt.sq (TupAt.mono a2.ex h3), K (zipA as.l bs.l) F2 H2 fp2 _ p2 a2 (g1.trans g2) (iters_zipT h1 hv h3 hu)⟩⟩⟩⟩
end
end Dm

set_option Elab.async false
set_option linter.all false
set_option maxRecDepth 100000
set_option maxHeartbeats 2000000
/-! Dm: part Zd: an if-expression as a test; repr of what may be None. -/
namespace Dm
open PySem PySem.Spec PyProof.Rows L2
variable [TabC]
section
variable {X : Cx} {pl : Pl} {G : Env}
theorem pt_ifT {c a b : Expr} {tc ta tb : TT} {pos : Pos} (hc : PT X c tc) (ha : PT X a ta) (hb : PT X b tb) : PT X (.IfExp c a b pos) (fun σ H Q => tc σ H fun x H1 => if x = true then ta σ H1 Q else tb σ H1 Q) := by
  refine ⟨fun pins s σ H Q I h => isTrue_IfExp (thn (hc.run pins s σ H _ I h) fun x s1 ⟨H1, I1, q⟩ => ?_)⟩
  cases x with
  | true => exact ha.run pins s1 σ H1 Q I1 q
  | false => exact hb.run pins s1 σ H1 Q I1 q
theorem dt_ifE {c a b : Expr} {wc wa wb : W Bool} {pos : Pos} (hc : DT X pl G c wc) (ha : DT X pl G a wa) (hb : DT X pl G b wb) : DT X pl G (.IfExp c a b pos) (fun P => wc fun x => wIf x (wa P) (wb P)) := PT.wk (pt_ifT hc ha hb) fun s H Q ⟨F, fp, at_, P, w, K⟩ => ⟨F, fp, at_, _, w, fun x F1 H1 fp1 p a1 g1 => by
  cases x with
  | true => exact ⟨F1, fp1, a1, P, p.1 rfl, fun b F2 H2 fp2 p2 a2 g2 => K b F2 H2 fp2 p2 a2 (g1.trans g2)⟩
  | false => exact ⟨F1, fp1, a1, P, p.2 rfl, fun b F2 H2 fp2 p2 a2 g2 => K b F2 H2 fp2 p2 a2 (g1.trans g2)⟩⟩
theorem call_reprO (hgu : X.A.guards = some []) (hu : X.A.units + 200 < cLine) : CallR X (.builtin "repr") (fun xs H Q => (xs = [.non] ∧ Q (.str PyData.none.shown) H) ∨ ∃ a d, xs = [.ref a] ∧ Dp X.K H (.ref a) d ∧ ShowOk d ∧ Q (.str d.shown) H) := by
  intro pins sh s H xs us Q I r h
  rcases h with ⟨rfl, q⟩ | h
  · cases r with
    | cons r1 r2 =>
      cases r2
      cases r1
      exact PySem.P.repr_of_none ⟨.str PyData.none.shown, H, I.tok _, ⟨sh.toks, rfl⟩, q⟩
  · exact call_repr hgu hu pins sh s H xs us Q I r h
theorem de_reprO {α : Type} [Enc α] {e : Expr} {w : W (Option α)} {p pos : Pos} (hm : X.mg "repr" = none) (hgu : X.A.guards = some []) (hu : X.A.units + 200 < cLine) (h : DE X pl G e w) (hbx : ∀ a : α, boxed (enc a) = true := by intro _; rfl) (hg : Gl X "repr" := by rfl)
    (he : starEach [e] X.env = (false, eval e X.env) :: starEach [] X.env := by rfl) (hpl : (backTo pos (starEach [] X.env)).any (·.1) = false := by rfl) : DE X pl G (.Call (.Name "repr" p) [e] [] pos) (fun P => w fun a => ShowOk (enc a) ∧ P (PyData.shown (enc a))) := PE.wk (pe_callB (call_reprO hgu hu) hg hm PyProof.Rows.boot_repr (pa_cons h pa_nil he) (by decide) (by decide) he hpl) fun s H Q ⟨F, fp, at_, P, w, K⟩ =>
  ⟨F, fp, at_, _, w, fun o v F1 H1 fp1 S1 ⟨ok, w1⟩ a1 g1 b1 _ => by
    cases o with
    | none =>
      have b2 := b1.2
      cases b2
      exact .inl ⟨rfl, K.pure a1 g1 w1 (.str _)⟩
    | some a =>
      have hd : Dp X.K H1 v (enc a) := Has.dp a1.ex b1.2 ok.nod
      have hv : ∃ q, v = .ref q := by
        have hb := hbx a
        have b2 : Has F1 v (enc a) := b1.2
        generalize enc a = d at hb b2
        cases b2 <;> first | exact ⟨_, rfl⟩ | (cases hb)
      obtain ⟨q, rfl⟩ := hv
      exact .inr ⟨q, enc a, rfl, hd, ok, K.pure a1 g1 w1 (.str _)⟩⟩
end
end Dm

set_option Elab.async false
set_option linter.all false
set_option maxRecDepth 100000
set_option maxHeartbeats 2000000
/-! Dm: part Ze: name = f(..) in a def that may raise, whose error is this def's own. -/
namespace Dm
open PySem PySem.Spec PyProof.Rows L2
variable [TabC]
section
variable {X : Cx} {pl : Pl} {G : Env} {κ ρ δ : Type} {B : ρ → Asrt}
theorem ds_setX {E : XK} (i : Nat) {x : Str} {e : Expr} {B' : δ → Asrt} {w : W (δ ⊕ Xc)} {pos pos' : Pos} (hN : X.N.Nodup) (hB : ∀ a, Good (B' a)) (h : DXr X pl G (fun c d _ H => E c d H) e B' w) (hl : Nat.blt i G.length = true := by rfl) (hi : X.N[i]? = some x := by rfl) (hx : Loc X.env.scope x := by first | exact Or.inl rfl | exact Or.inr rfl)
    (hs : swapsWith e (some (.Name x pos')) pos.line X.env = pure false := by rfl) (hf : X.fn x = true ∨ X.env.scope.names.lookup x = some .local := by first | exact .inl rfl | exact .inr rfl) :
    DS X pl G (exB B X.mg E) (.Assign [.Name x pos'] e pos) (fun nx rt => w fun r => match r with | .inl a => nx a | .inr x => rt (.inr x)) (fun a : δ => G.set i (some (B' a))) := PS.wk (ps_set hN hi hx h hs hf) fun D s H ⟨F, fp, at_, Pn, Pr, wp, K1, K2⟩ => by
  refine ⟨F, fp, at_, _, wp, fun a v F1 H1 fp1 S1 p a1 g1 b1 hS => ?_, ⟨fun x C dd fv F1 H1 fp1 p hb a1 g1 hC hF hH ha hn => ?_, fun x C F1 H1 fp1 p hb a1 g1 hC => (K2 (.inr x) .non F1 H1 fp1 (fun _ => False) p a1.ex a1.pool g1 ⟨fun _ _ h => h, fun z => by rw [hb] at z; cases z⟩ (fun q m => m.elim) C hC).1 hb⟩⟩
  · refine K1 a _ F1 H1 _ p (a1.set (blt_lt hl) (hB a) b1 fun q m => (hS q m).2) (g1.own fun j q m => ?_)
    by_cases hj : j = i
    · rw [if_pos hj] at m; exact .inr (hS q m).1
    · rw [if_neg hj] at m; exact .inl ⟨j, m⟩
  · obtain ⟨d2, e2, q⟩ := (K2 (.inr x) (.ref dd) F1 H1 fp1 (fun q => q = dd) p a1.ex a1.pool g1 ⟨fun z => (by rw [hb] at z; cases z), fun _ => ⟨dd, fv, rfl, fun _ => Iff.rfl, hF, hH, ha⟩⟩ (fun q m => .inr (by rw [m]; exact hn.1)) C hC).2 hb
    cases e2
    exact q
end
end Dm

set_option Elab.async false
set_option linter.all false
set_option maxRecDepth 100000
set_option maxHeartbeats 2000000
/-! Dm: part Zf: min of a list of whole numbers, of a list of tuples of whole numbers. -/
namespace Dm
open PySem PySem.Spec PyProof.Rows L2
variable [TabC]
def wMinI (l : List Int) (P : Int → Prop) : Prop := 0 < l.length ∧ ∀ m, m ∈ l → (∀ y, y ∈ l → m ≤ y) → P m
theorem vr_minI {K : Fr} : VR1 (fun x => rMin K [x]) wMinI (fun b : Int => fro b) := fun F H x a Q P e hx p Kk => by
  cases hx with
  | lst h1 h2 =>
    have ev : _ = a.map V.int := HasAll.ofInts (ns := a) h2
    rw [ev] at h1
    exact ⟨_, a, rfl, SqL.of (e _ _ h1), p.1, fun m h3 h4 => Kk _ _ F H (fun _ => False) (p.2 m h3 h4) (New.refl e) ⟨fun _ h => h, .int _⟩ fun _ h => h.elim⟩
theorem de_minI {X : Cx} {pl : Pl} {G : Env} {e : Expr} {w : W (List Int)} {p pos : Pos} (hc : X.calm = true) (hm : X.mg "min" = none) (h : DE X pl G e w) (hg : Gl X "min" := by rfl) (he : starEach [e] X.env = (false, eval e X.env) :: starEach [] X.env := by rfl) (hpl : (backTo pos (starEach [] X.env)).any (·.1) = false := by rfl) : DE X pl G (.Call (.Name "min" p) [e] [] pos) (fun P => w fun l => wMinI l P) := de_b1 (cr_min hc) hm (by decide +kernel) h vr_minI hg (by decide) (by decide) he hpl
/-! ### tuples of whole numbers -/
def tupD (ns : List Int) : PyData := .tuple (ns.map .int)
def rMinP (K : Fr) : List V → Hp → VK → Prop := fun vs H Q => ∃ (a : Addr) (b0 : Addr × List Int) (bs : List (Addr × List Int)), vs = [V.ref a] ∧ SqL K H a ((b0 :: bs).map fun b => V.ref b.1) ∧ (∀ b ∈ b0 :: bs, SqT K H b.1 (b.2.map V.int)) ∧
  ∀ b ∈ b0 :: bs, PySem.W.minD (tupD b0.2) (bs.map fun b => tupD b.2) = tupD b.2 → Q (.ref b.1) H
theorem alike_tupD (m n : List Int) : PySem.W.alike (tupD m) (tupD n) = true := by
  simp [PySem.W.alike, PySem.W.alikeAll, tupD, PySem.W.alike_ints]
theorem depth_tupD (m : List Int) : (tupD m).depth ≤ 2 := by
  simp [tupD, PyData.depth, PyData.depthAll, PySem.W.depth_ints]
theorem depthAll_tupD : ∀ bs : List (Addr × List Int), PyData.depthAll (bs.map fun b => tupD b.2) ≤ 2
  | [] => by simp [PyData.depthAll]
  | b :: bs => by
    have h1 := depth_tupD b.2
    have h2 := depthAll_tupD bs
    rw [List.map_cons, PyData.depthAll]
    omega
section
variable {X : Cx} {pins : List (Addr × Obj)} {σ : L2.St} {H : Hp} {s : Shared}
theorem reads_lots (I : Inv X pins σ H s) : ∀ {bs : List (Addr × List Int)} {us : List Value}, Vals (bs.map fun b => V.ref b.1) us → (∀ b ∈ bs, SqT X.K H b.1 (b.2.map V.int)) → ∃ as, ReadsAll s.heap us (bs.map fun b => tupD b.2) as
  | [], _, h, _ => by cases h; exact ⟨_, .nil⟩
  | b :: bs, _, h, ht => by
    cases h with
    | cons r t =>
      obtain ⟨its2, rv2, ⟨o, e1, e2, n, e3⟩, _⟩ := I.tuple (ht b (List.mem_cons_self ..))
      obtain ⟨as, hr⟩ := reads_lots I t fun c hc => ht c (List.mem_cons_of_mem _ hc)
      cases r
      exact ⟨_, ReadsAll.cons (Reads.tuple e1 e2 e3 (readsAll_ints (Vals.ints rv2))) hr⟩
theorem reads_lot (I : Inv X pins σ H s) : ∀ {bs : List (Addr × List Int)} {us : List Value}, Vals (bs.map fun b => V.ref b.1) us → (∀ b ∈ bs, SqT X.K H b.1 (b.2.map V.int)) → ∀ v ∈ us, ∃ b ∈ bs, v = .ref b.1 ∧ ∃ as, Reads s.heap v (tupD b.2) as
  | [], _, h, _ => fun v hv => by cases h; cases hv
  | b :: bs, _, h, ht => fun v hv => by
    cases h with
    | cons r t =>
      rcases List.mem_cons.mp hv with e | e
      · obtain ⟨its2, rv2, ⟨o, e1, e2, n, e3⟩, _⟩ := I.tuple (ht b (List.mem_cons_self ..))
        cases r
        subst e
        exact ⟨b, List.mem_cons_self .., rfl, _, Reads.tuple e1 e2 e3 (readsAll_ints (Vals.ints rv2))⟩
      · obtain ⟨c, hc, x⟩ := reads_lot I t (fun c hc => ht c (List.mem_cons_of_mem _ hc)) v e
        exact ⟨c, List.mem_cons_of_mem _ hc, x⟩
end
theorem cr_minP {X : Cx} {k : Nat} (hc : X.calm = true) (hr : Room k X.A) : CallR X (.builtin "min") (rMinP X.K) := by
  intro pins s σ H vs us Q I r h
  obtain ⟨a, b0, bs, rfl, hs, ht, q⟩ := h
  obtain ⟨its, rv, hl, hz⟩ := I.list hs
  rw [Vals.ref1 r]
  obtain ⟨as, hR⟩ := reads_lots I rv ht
  rw [List.map_cons] at hR
  have h1 := hr.un
  have h2 := depthAll_tupD (b0 :: bs)
  rw [List.map_cons] at h2
  refine PySem.W.min_list_data (I.ok.hd hc) hl.isList hR ⟨fun x hx y hy => ?_, fun x hx e => ?_⟩ (by omega) fun i v h' tk bs' hv hM hk => ?_
  · have hx : x ∈ (b0 :: bs).map fun b => tupD b.2 := hx
    have hy : y ∈ (b0 :: bs).map fun b => tupD b.2 := hy
    obtain ⟨b, _, rfl⟩ := List.mem_map.mp hx
    obtain ⟨c, _, rfl⟩ := List.mem_map.mp hy
    exact alike_tupD _ _
  · have hx : x ∈ (b0 :: bs).map fun b => tupD b.2 := hx
    obtain ⟨b, _, rfl⟩ := List.mem_map.mp hx
    cases e
  · have hv' : its[i]? = some v := by simpa using hv
    obtain ⟨b, hb, rfl, as2, hR2⟩ := reads_lot I rv ht v (List.mem_of_getElem? hv')
    have e := (PyProof.Rows.reads_det (fun a o e _ => hk a o e) hR2 hM).1
    exact ⟨.ref b.1, H, I.kept hk, rfl, q b hb e⟩
/-- min of a list of lots -/
def wMinT (l : List (Tup Int)) (P : Tup Int → Prop) : Prop := ∃ t0 ts, l = t0 :: ts ∧ ∀ t ∈ l, PySem.W.minD (tupD t0.l) (ts.map fun t => tupD t.l) = tupD t.l → P t
theorem de_minT {X : Cx} {pl : Pl} {G : Env} {k : Nat} {e : Expr} {w : W (List (Tup Int))} {p pos : Pos} (hc : X.calm = true) (hr : Room k X.A) (hm : X.mg "min" = none) (h : DE X pl G e w) (hg : Gl X "min" := by rfl) (he : starEach [e] X.env = (false, eval e X.env) :: starEach [] X.env := by rfl) (hpl : (backTo pos (starEach [] X.env)).any (·.1) = false := by rfl) : DE X pl G (.Call (.Name "min" p) [e] [] pos) (fun P => w fun l => wMinT l P) :=
  de_b1 (cr_minP hc hr) hm (by decide +kernel) h (fun F H x a Q P e hx p Kk => by
    obtain ⟨t0, ts, e0, pm⟩ := p
    cases hx with
    | lst h1 h2 =>
      obtain ⟨bs, e1, e2, e3⟩ := has_lots h2
      subst e1
      cases bs with
      | nil => rw [e0] at e2; cases e2
      | cons b0 bs =>
        have e4 : t0 = Tup.mk b0.2 ∧ ts = bs.map fun b => Tup.mk b.2 := by
          rw [e2, List.map_cons] at e0
          cases e0; exact ⟨rfl, rfl⟩
        refine ⟨_, b0, bs, rfl, SqL.of (e _ _ h1), fun b hb => TupAt.sq (TupAt.mono e (e3 b hb)), fun b hb em => ?_⟩
        have hm : Tup.mk b.2 ∈ a := by rw [e2]; exact List.mem_map.mpr ⟨b, hb, rfl⟩
        refine Kk (Tup.mk b.2) _ F H (fun _ => False) (pm _ hm ?_) (New.refl e) ⟨fun _ h => h, .tup (e3 b hb) (HasAll.ints b.2)⟩ fun _ h => h.elim
        rw [e4.1, e4.2, List.map_map]; exact em) hg (by decide) (by decide) he hpl
end Dm

set_option Elab.async false
set_option linter.all false
set_option maxRecDepth 100000
set_option maxHeartbeats 4000000
/-! Dm: part Zg: the place of an item, the other way round, the greatest. -/
namespace Dm
open PySem PySem.Spec PyProof.Rows L2 HT
variable [TabC]
/-! ### x[::-1] -/
theorem adjust_rev (n : Nat) : Builtin.Slice.sliceAdjust none none (-1) (n : Int) = ((n : Int) - 1, -1) := by
  unfold Builtin.Slice.sliceAdjust
  have h1 : ((-1 : Int) < 0) := by omega
  simp only [h1, if_true]
theorem places_rev (n : Nat) : Builtin.Slice.slicePlaces ((n : Int) - 1) (-1) (-1) = n := by
  unfold Builtin.Slice.slicePlaces
  have h1 : ¬ ((-1 : Int) > 0) := by omega
  simp only [h1, if_false]
  by_cases h : (n : Int) - 1 > -1
  · rw [if_pos h]
    have e : (- (-1 : Int)) = 1 := by decide
    rw [e, Int.ediv_one]; omega
  · rw [if_neg h]; omega
section
variable {prog : Program} {w : World} {A : Around} {E : Value → Shared → Prop} {s : Shared}
theorem sliceApplied_rev {sl : Addr} {vk : Value} {n : Nat} {Q : Int × Int × Nat → Shared → Prop} (hs : s.heap.IsSliceOf sl .none .none vk) (pk : IsPart vk (some (-1)))
    (h : Q ((n : Int) - 1, -1, n) s) : wpAny (model prog w) A (Builtin.Slice.sliceApplied (.ref sl) (pure (n : Int))) Q E s := by
  obtain ⟨os, hos, hcs, hds⟩ := id hs
  unfold Builtin.Slice.sliceApplied Builtin.Slice.sliceFields
  refine wpAny_bind (wpAny_bind (wpAny_field hos hds (x := .none) rfl (wpAny_bind (wpAny_field hos hds (x := .none) rfl (wpAny_bind (wpAny_field hos hds (x := vk) rfl (wpAny_pure ?_)))))))
  refine wpAny_bind (slicePart_ pk ?_)
  show wpAny _ _ (if ((-1 : Int) == 0) = true then _ else _) _ _ s
  rw [if_neg (by decide)]
  refine wpAny_bind (slicePart_none (wpAny_bind (slicePart_none (wpAny_bind (wpAny_pure ?_)))))
  show wpAny _ _ (match Builtin.Slice.sliceAdjust none none (-1) (n : Int) with | (lo, hi) => pure (lo, (-1 : Int), Builtin.Slice.slicePlaces lo hi (-1))) _ _ s
  rw [adjust_rev n]
  show wpAny _ _ (pure ((n : Int) - 1, (-1 : Int), Builtin.Slice.slicePlaces ((n : Int) - 1) (-1) (-1))) _ _ s
  rw [places_rev]
  exact wpAny_pure h
theorem fm_congr {α β : Type} {f g : α → Option β} : ∀ (l : List α), (∀ a ∈ l, f a = g a) → l.filterMap f = l.filterMap g
  | [], _ => rfl
  | a :: l, h => by rw [List.filterMap_cons, List.filterMap_cons, h a List.mem_cons_self, fm_congr l fun b hb => h b (List.mem_cons_of_mem _ hb)]
theorem pick_rev (xs : Array Value) : ((List.range xs.size).filterMap fun (m : Nat) => xs[(((xs.size : Nat) : Int) - 1 + (m : Int) * (-1)).toNat]?).toArray = xs.toList.reverse.toArray := by
  have e : ((List.range xs.size).filterMap fun (m : Nat) => xs[(((xs.size : Nat) : Int) - 1 + (m : Int) * (-1)).toNat]?) = (((List.range xs.size).map fun k => xs.size - 1 - k).filterMap (xs[·]?)) := by
    rw [List.filterMap_map]
    refine fm_congr _ fun m hm => ?_
    have := List.mem_range.mp hm
    show xs[(((xs.size : Nat) : Int) - 1 + (m : Int) * (-1)).toNat]? = xs[xs.size - 1 - m]?
    have e2 : (((xs.size : Nat) : Int) - 1 + (m : Int) * (-1)).toNat = xs.size - 1 - m := by omega
    rw [e2]
  rw [e, PySem.W.krv_range, List.filterMap_reverse, PySem.W.krv_all]
theorem getItem_tuple_rev {t sl : Addr} {items : Array Value} {vk : Value} {Q : Value → Shared → Prop} (ht : IsTup s.heap t items) (hs : s.heap.IsSliceOf sl .none .none vk) (pk : IsPart vk (some (-1)))
    (h : Q (.ref s.heap.objs.size) { s with heap := s.heap.push { cls := .type "tuple", data := .seq items.toList.reverse.toArray } })
    (hsz : items.size ≤ sizeLine) : wpAny (model prog w) A (getItem (.ref t) (.ref sl)) Q E s := by
  have htake : sizeOk (.seq items.toList.reverse.toArray) := by
    show items.toList.reverse.toArray.size ≤ sizeLine
    rw [List.size_toArray, List.length_reverse, Array.length_toList]
    exact hsz
  obtain ⟨os, hos, hcs, hds⟩ := id hs
  have hTs : s.TypeIs (.ref sl) "slice" := ⟨os, hos, hcs⟩
  unfold getItem
  try with_reducible refine wpAny_holding ?_
  first | refine wpAny_bind (wpAny_pure ?_) | skip
  refine wpAny_bind (wpAny_sequenceKey ht.typeIs (by decide) ?_)
  refine wpAny_bind (wpAny_callSpecial?_slot (name := Str.ofString "__getitem__") ht.typeIs PyProof.Rows.slot_tuple_getitem
    (wpAny_call_entry PyProof.Rows.slot_tuple_getitem ht.typeIs entry_tuple_getitem ?_ (args_tuple_getitem _ _)))
  show wpAny _ _ (Builtin.Tuple.tupleItemsOf (.ref t) >>= _) _ _ s
  refine wpAny_bind (tupleItemsOf_ ht ?_)
  refine wpAny_bind (wpAny_typeOf hTs ?_)
  rw [if_pos (by decide)]
  refine wpAny_bind (sliceApplied_rev hs pk ?_)
  have hno : ¬ ((((items.size : Nat) : Int) - 1 == 0 && (-1 : Int) == 1 && items.size == items.size) = true) := by
    intro q
    rw [Bool.and_eq_true, Bool.and_eq_true] at q
    exact absurd q.1.2 (by decide)
  show wpAny _ _ (if (((items.size : Nat) : Int) - 1 == 0 && (-1 : Int) == 1 && items.size == items.size) = true then _ else _) _ _ s
  rw [if_neg hno, pick_rev]
  first
    | exact wpAny_bind (m := Builtin.Tuple.tupleExact _) (wpAny_newObj_type (wpAny_pure ⟨_, rfl, wpAny_pure h⟩) htake)
    | exact wpAny_bind (m := Builtin.Tuple.tupleExact _) (wpAny_newObj_type (wpAny_bind (wpAny_pure (wpAny_pure ⟨_, rfl, wpAny_pure h⟩))) htake)
    | exact wpAny_bind (wpAny_bind (m := Builtin.Tuple.tupleExact _) (wpAny_newObj_type (wpAny_pure (wpAny_pure ⟨_, rfl, wpAny_pure h⟩)) htake))
    | exact wpAny_bind (wpAny_bind (m := Builtin.Tuple.tupleExact _) (wpAny_newObj_type (wpAny_pure ⟨_, rfl, wpAny_pure h⟩) htake))
end
section
variable {X : Cx} {e st : Expr} {te : TE} {pos p2 : Pos}
def rRev (K : PySem.W.Frag) (x : V) (H : Hp) (Q : VK) : Prop := ∃ a xs, x = .ref a ∧
  ((SqL K H a xs ∧ ∀ p, H p = none → Q (.ref p) (upd H p (.lst xs.reverse))) ∨ (SqT K H a xs ∧ ∀ p ob, H p = none → TN ob → Q (.ref p) (upd H p (.frz ob (.tup xs.reverse)))))
def tRev (K : PySem.W.Frag) (te : TE) : TE := fun σ H Q => te σ H fun x H1 => rRev K x H1 Q
theorem pe_rev (he : PE X e te) (hk : PO X (some st) (fun σ H Q => Q (some (-1)) H)) : PE X (.Subscript e (.Slice none none (some st) p2) pos) (tRev X.K te) := by
  refine ⟨fun pins s σ H Q I h => ?_⟩
  refine Subscript_ (thn (he.run pins s σ H _ I h) fun v s1 ⟨x, H1, I1, r1, q1⟩ => ?_)
  refine wpAny_Slice ?_
  rw [evalPart_none]
  refine wpAny_pure (wpAny_pure ?_)
  refine thn (hk.run pins s1 σ H1 (fun o H2 => o = some (-1) ∧ rRev X.K x H2 Q) I1 ⟨rfl, q1⟩) fun vk s3 ⟨o, H3, I3, pk, eo, q3⟩ => ?_
  subst eo
  have I4 : Inv X pins σ H3 { s3 with heap := s3.heap.push { cls := .type "slice", data := .fields #[.none, .none, vk] } } := I3.kept (t' := s3.toks) fun b ob q => Heap.get?_push_of_some _ q
  obtain ⟨a, xs, ex, q⟩ := q3
  subst ex
  cases r1
  rcases q with ⟨hs, q⟩ | ⟨hs, q⟩
  · obtain ⟨its, r, ht, hz⟩ := I4.list hs
    have hlen := r.length
    refine tail_any (ops := [.ref a, .ref s3.heap.objs.size]) (T := "list") ht.isList.typeIs slot_list_getitem.lookup ?_ (by with_unfolding_all rfl)
    refine wpAny_getItem_list_slice ht.isList (Heap.IsSliceOf.new ..) .none .none pk (by decide) ?_ (by rw [List.size_toArray] <;> omega)
    rw [PySem.W.krv_pick]
    refine ⟨.ref _, _, I4.laid (t' := s3.toks) (o := .lst xs.reverse) (fun b ob q => Heap.get?_push_of_some _ q) (Nat.le_refl _) ?_, rfl, q _ (I4.hok.fresh (Nat.le_refl _))⟩
    exact ⟨by rw [List.length_reverse]; exact hz, _, 0, r.reverse, Heap.get?_push_size _ rfl⟩
  · obtain ⟨its, r, ht, hz⟩ := I4.tuple hs
    have hlen := r.length
    refine tail_any (ops := [.ref a, .ref s3.heap.objs.size]) (T := "tuple") ht.typeIs PyProof.Rows.slot_tuple_getitem.lookup ?_ (by with_unfolding_all rfl)
    refine getItem_tuple_rev ht (Heap.IsSliceOf.new ..) pk ?_ (by rw [List.size_toArray] <;> omega)
    refine ⟨.ref _, _, I4.laid (t' := s3.toks) (o := .frz { cls := .type "tuple", data := .seq its.reverse.toArray } (.tup xs.reverse)) (fun b ob q => Heap.get?_push_of_some _ q) (Nat.le_refl _) ?_, rfl, q _ _ (I4.hok.fresh (Nat.le_refl _)) ⟨rfl, rfl⟩⟩
    exact ⟨Heap.get?_push_size _ rfl, by rw [List.length_reverse]; exact hz, _, r.reverse, IsTup.new _ _⟩
end
end Dm
namespace Dm
open PySem PySem.Spec PyProof.Rows L2
variable [TabC]
section
variable {X : Cx} {pl : Pl} {G : Env} {α β : Type} [Enc α] [Enc β] {e e' : Expr}
theorem HasAll.rev {F : Hp} {vs : List V} {as : List α} (h : HasAll F vs (as.map Enc.enc)) : HasAll F vs.reverse (as.reverse.map Enc.enc) := by
  rw [List.map_reverse]; exact h.reverse
theorem minus1 {p1 pos : Pos} {j : _} : PO X (some (.UnaryOp .USub (.Constant (.int 1) j p1) pos)) (fun σ H Q => Q (some (-1)) H) := PO.wk (po_some (pe_un un_neg pe_int)) fun s H Q h => ⟨_, rfl, -1, rfl, h⟩
theorem dx_revL {w : W (List α)} {p1 p2 p3 pos : Pos} {j : _} (h : DE X pl G e w) : DX X pl G (.Subscript e (.Slice none none (some (.UnaryOp .USub (.Constant (.int 1) j p1) p3)) p2) pos) (fun a : List α => own a) (fun P => w fun a => P a.reverse) := PE.wk (pe_rev h minus1) fun s H Q ⟨F, fp, at_, P, w, K⟩ =>
  ⟨F, fp, at_, _, w, fun a v F1 H1 fp1 S1 w1 a1 g1 b1 _ => by
    obtain ⟨_, b1⟩ := b1
    cases b1 with
    | lst h1 h2 => exact ⟨_, _, rfl, .inl ⟨SqL.of (a1.ex _ _ h1), fun q hq => K.fin (S := fun x => x = q) a1 g1 w1 (New.own a1.ex hq) (own_new (a1.fnone hq) h2.rev) fun x e => by rw [e]; exact hq⟩⟩⟩
theorem de_revT {w : W (Tup α)} {p1 p2 p3 pos : Pos} {j : _} (h : DE X pl G e w) : DE X pl G (.Subscript e (.Slice none none (some (.UnaryOp .USub (.Constant (.int 1) j p1) p3)) p2) pos) (fun P => w fun a => P (Tup.mk a.l.reverse)) := PE.wk (pe_rev h minus1) fun s H Q ⟨F, fp, at_, P, w, K⟩ =>
  ⟨F, fp, at_, _, w, fun a v F1 H1 fp1 S1 w1 a1 g1 b1 _ => by
    obtain ⟨_, b1⟩ := b1
    obtain ⟨a⟩ := a
    cases b1 with
    | tup h1 h2 => exact ⟨_, _, rfl, .inr ⟨TupAt.sq (TupAt.mono a1.ex h1), fun q ob hq hn => K.fro a1 g1 w1 (New.fro a1.ex hq) (.tup (TupAt.new hn) (HasAll.mono (Ex.new (a1.fnone hq)) h2.rev))⟩⟩⟩
/-! ### the place of an item -/
def wIx (l : List Int) (x : Int) (P : Int → Prop) : Prop := x ∈ l ∧ P ((l.idxOf x : Nat) : Int)
theorem ix_ints {l : List Int} {x : Int} (h : x ∈ l) : (l.map V.int)[l.idxOf x]? = some (V.int x) ∧ (∀ (m : Nat) (z' : V), m < l.idxOf x → (l.map V.int)[m]? = some z' → eqV z' (V.int x) = false) := by
  have hl := List.idxOf_lt_length_of_mem h
  refine ⟨by rw [List.getElem?_map, List.getElem?_eq_getElem hl, List.getElem_idxOf]; rfl, fun m z hm hz => ?_⟩
  have hml : m < l.length := Nat.lt_trans hm hl
  rw [List.getElem?_map, List.getElem?_eq_getElem hml] at hz
  cases hz
  show (l[m] == x) = false
  have := List.not_of_lt_findIdx (p := (· == x)) (xs := l) hm
  simpa using this
theorem de_indexT {wa : W (Tup Int)} {wb : W Int} {apos cpos : Pos} (ha : DE X pl G e wa) (hb : DE X pl G e' wb)
    (hbase : attributeBase e "index" X.env (eval e X.env) = eval e X.env := by rfl)
    (hfew : ((backTo cpos (starEach [e'] X.env)).all (fun x => !x.1) && (backToKw cpos (keywordEach [] X.env)).all (fun x => x.1.isSome)
      && decide ([e'].length + ([] : List Keyword).length + (if ([] : List Keyword).isEmpty then 0 else 1) < 30)) = true := by rfl)
    (hline : (apos.endLine == cpos.line) = true := by rfl) (hs : starEach [e'] X.env = (false, eval e' X.env) :: starEach [] X.env := by rfl) (hplain : (backTo cpos (starEach [] X.env)).any (·.1) = false := by rfl) :
    DE X pl G (.Call (.Attribute e "index" apos) [e'] [] cpos) (fun P => wa fun t => wb fun x => wIx t.l x P) :=
  PE.wk (pe_bmT PySem.F.plainAttrs_tuple PySem.F.slot_tuple_index PySem.F.type_tuple_index mt_indexT ha (pa_cons hb pa_nil hs) hbase hfew hline hs hplain) fun s H Q ⟨F, fp, at_, P, w, K⟩ =>
  ⟨F, fp, at_, _, w, fun t v F1 H1 fp1 S1 w1 a1 g1 b1 _ => by
    obtain ⟨_, b1⟩ := b1
    obtain ⟨t⟩ := t
    cases b1 with
    | tup h1 h2 =>
      have ev := HasAll.ofInts (ns := t) h2
      rw [ev] at h1
      refine ⟨⟨_, _, rfl, TupAt.mono a1.ex h1⟩, F1, fp1, a1, _, w1, fun x u F2 H2 fp2 S2 ⟨mem, p2⟩ a2 g2 b2 _ => ?_⟩
      cases b2.2
      have := ix_ints mem
      exact ⟨_, _, _, _, _, rfl, rfl, TupAt.sq (TupAt.mono a2.ex (TupAt.mono g2.exF h1)), rfl, flat_ints t, this.1, beq_self_eq_true x, this.2, K.pure a2 (g1.trans g2) p2 (.int _)⟩⟩
theorem de_indexL {wa : W (List Int)} {wb : W Int} {apos cpos : Pos} (ha : DE X pl G e wa) (hb : DE X pl G e' wb)
    (hbase : attributeBase e "index" X.env (eval e X.env) = eval e X.env := by rfl)
    (hfew : ((backTo cpos (starEach [e'] X.env)).all (fun x => !x.1) && (backToKw cpos (keywordEach [] X.env)).all (fun x => x.1.isSome)
      && decide ([e'].length + ([] : List Keyword).length + (if ([] : List Keyword).isEmpty then 0 else 1) < 30)) = true := by rfl)
    (hline : (apos.endLine == cpos.line) = true := by rfl) (hs : starEach [e'] X.env = (false, eval e' X.env) :: starEach [] X.env := by rfl) (hplain : (backTo cpos (starEach [] X.env)).any (·.1) = false := by rfl) :
    DE X pl G (.Call (.Attribute e "index" apos) [e'] [] cpos) (fun P => wa fun t => wb fun x => wIx t x P) :=
  PE.wk (pe_bm PySem.F.plainAttrs_list PySem.F.slot_list_index PySem.F.type_list_index mt_index ha (pa_cons hb pa_nil hs) hbase hfew hline hs hplain) fun s H Q ⟨F, fp, at_, P, w, K⟩ =>
  ⟨F, fp, at_, _, w, fun t v F1 H1 fp1 S1 w1 a1 g1 b1 _ => by
    obtain ⟨_, b1⟩ := b1
    cases b1 with
    | lst h1 h2 =>
      have ev := HasAll.ofInts (ns := t) h2
      rw [ev] at h1
      refine ⟨.inl ⟨rfl, _, SqL.of (a1.ex _ _ h1)⟩, F1, fp1, a1, _, w1, fun x u F2 H2 fp2 S2 ⟨mem, p2⟩ a2 g2 b2 _ => ?_⟩
      cases b2.2
      have := ix_ints mem
      exact ⟨_, _, _, _, _, rfl, rfl, SqL.of (a2.ex _ _ (g2.exF _ _ h1)), rfl, flat_ints t, this.1, beq_self_eq_true x, this.2, K.pure a2 (g1.trans g2) p2 (.int _)⟩⟩
/-- xs.index(x), data: xs a list -/
def wIxD (l : List α) (x : α) (P : Int → Prop) : Prop := EqOk (enc x) ∧ EqOk (enc l) ∧ ∃ j : Nat, (∃ z, l[j]? = some z ∧ PyData.eqv (enc z) (enc x) = true) ∧ (∀ (m : Nat) (z' : α), m < j → l[m]? = some z' → PyData.eqv (enc z') (enc x) = false) ∧ P (j : Int)
theorem de_indexD {k : Nat} {wa : W (List α)} {wb : W α} {apos cpos : Pos} (hr : Room k X.A) (ha : DE X pl G e wa) (hb : DE X pl G e' wb)
    (hbase : attributeBase e "index" X.env (eval e X.env) = eval e X.env := by rfl)
    (hfew : ((backTo cpos (starEach [e'] X.env)).all (fun x => !x.1) && (backToKw cpos (keywordEach [] X.env)).all (fun x => x.1.isSome)
      && decide ([e'].length + ([] : List Keyword).length + (if ([] : List Keyword).isEmpty then 0 else 1) < 30)) = true := by rfl)
    (hline : (apos.endLine == cpos.line) = true := by rfl) (hs : starEach [e'] X.env = (false, eval e' X.env) :: starEach [] X.env := by rfl) (hplain : (backTo cpos (starEach [] X.env)).any (·.1) = false := by rfl) :
    DE X pl G (.Call (.Attribute e "index" apos) [e'] [] cpos) (fun P => wa fun t => wb fun x => wIxD t x P) :=
  PE.wk (pe_bm PySem.F.plainAttrs_list PySem.F.slot_list_index PySem.F.type_list_index (mt_indexD (by have := hr.un; omega)) ha (pa_cons hb pa_nil hs) hbase hfew hline hs hplain) fun s H Q ⟨F, fp, at_, P, w, K⟩ =>
  ⟨F, fp, at_, _, w, fun t v F1 H1 fp1 S1 w1 a1 g1 b1 _ => by
    obtain ⟨_, b1⟩ := b1
    cases b1 with
    | lst h1 h2 =>
      refine ⟨.inl ⟨rfl, _, SqL.of (a1.ex _ _ h1)⟩, F1, fp1, a1, _, w1, fun x u F2 H2 fp2 S2 ⟨ox, ol, j, ⟨z, hz, ez⟩, hno, p2⟩ a2 g2 b2 _ => ?_⟩
      have hl : Has F2 (V.ref _) (enc t) := Has.mono g2.exF (Has.lst h1 h2)
      refine ⟨_, _, _, _, j, enc z, rfl, rfl, Has.dp a2.ex hl ol.2, Has.dp a2.ex b2.2 ox.2, ol.1, ox.1, by rw [List.getElem?_map, hz]; rfl, ez, fun m z' hm hz' => ?_, K.pure a2 (g1.trans g2) p2 (.int _)⟩
      rw [List.getElem?_map] at hz'
      cases e3 : t[m]? with
      | none => rw [e3] at hz'; cases hz'
      | some y => rw [e3] at hz'; cases hz'; exact hno m y hm e3⟩
/-! ### max of a list -/
def wMaxI (l : List Int) (P : Int → Prop) : Prop := 0 < l.length ∧ ∀ m, m ∈ l → (∀ y, y ∈ l → y ≤ m) → P m
theorem vr_maxI {K : Fr} : VR1 (fun x => rMax K [x]) wMaxI (fun b : Int => fro b) := fun F H x a Q P e hx p Kk => by
  cases hx with
  | lst h1 h2 =>
    have ev : _ = a.map V.int := HasAll.ofInts (ns := a) h2
    rw [ev] at h1
    exact ⟨_, a, rfl, SqL.of (e _ _ h1), p.1, fun m h3 h4 => Kk _ _ F H (fun _ => False) (p.2 m h3 h4) (New.refl e) ⟨fun _ h => h, .int _⟩ fun _ h => h.elim⟩
theorem de_maxI {w : W (List Int)} {p pos : Pos} (hc : X.calm = true) (hm : X.mg "max" = none) (h : DE X pl G e w) (hg : Gl X "max" := by rfl) (he : starEach [e] X.env = (false, eval e X.env) :: starEach [] X.env := by rfl) (hpl : (backTo pos (starEach [] X.env)).any (·.1) = false := by rfl) : DE X pl G (.Call (.Name "max" p) [e] [] pos) (fun P => w fun l => wMaxI l P) := de_b1 (cr_max hc) hm (by decide +kernel) h vr_maxI hg (by decide) (by decide) he hpl
theorem de_max2 {e e2 : Expr} {w u : W Int} {p pos : Pos} (hc : X.calm = true) (hm : X.mg "max" = none) (h : DE X pl G e w) (h2 : DE X pl G e2 u) (hg : Gl X "max" := by rfl) (na : starEach [e, e2] X.env = (false, eval e X.env) :: starEach [e2] X.env := by rfl) (nb : starEach [e2] X.env = (false, eval e2 X.env) :: starEach [] X.env := by rfl) (hpl : (backTo pos (starEach [e2] X.env)).any (·.1) = false := by rfl) :
    DE X pl G (.Call (.Name "max" p) [e, e2] [] pos) (fun P => w fun i => u fun j => P (if j > i then j else i)) := PE.wk (pe_callB (call_max2 hc) hg hm (by decide +kernel) (pa_cons h (pa_cons h2 pa_nil nb) na) (by decide) (by decide) na hpl) fun s H Q ⟨F, fp, at_, P, w, K⟩ =>
  ⟨F, fp, at_, _, w, fun i v F1 H1 fp1 S1 p a1 g1 b1 _ => ⟨F1, fp1, a1, _, p, fun j v F2 H2 fp2 S2 p a2 g2 b2 _ => by
    cases b1.2
    cases b2.2
    exact ⟨i, j, rfl, K.pure a2 (g1.trans g2) p (.int _)⟩⟩⟩
theorem de_abs {w : W Int} {p pos : Pos} (hm : X.mg "abs" = none) (h : DE X pl G e w) (hg : Gl X "abs" := by rfl) (he : starEach [e] X.env = (false, eval e X.env) :: starEach [] X.env := by rfl) (hpl : (backTo pos (starEach [] X.env)).any (·.1) = false := by rfl) : DE X pl G (.Call (.Name "abs" p) [e] [] pos) (fun P => w fun i => P (if i < 0 then -i else i)) :=
  de_b1 (r := fun xs H Q => ∃ i, xs = [V.int i] ∧ Q (.int (if i < 0 then -i else i)) H) call_abs hm (by decide +kernel) h (fun F H x a Q P e hx p Kk => by
    cases hx
    exact ⟨a, rfl, Kk _ _ F H (fun _ => False) p (New.refl e) ⟨fun _ h => h, .int _⟩ fun _ h => h.elim⟩) hg (by decide) (by decide) he hpl
/-! ### data in a tuple -/
def rInDT (K : PySem.W.Frag) : R2 := fun x y H Q => ∃ d ds, Dp K H x d ∧ Dp K H y (.tuple ds) ∧ SeqAt.shaped d = true ∧ SeqAt.shaped (.tuple ds) = true ∧ Q (.bl (ds.any fun z => PyData.eqv z d)) H
def rNotInDT (K : PySem.W.Frag) : R2 := fun x y H Q => ∃ d ds, Dp K H x d ∧ Dp K H y (.tuple ds) ∧ SeqAt.shaped d = true ∧ SeqAt.shaped (.tuple ds) = true ∧ Q (.bl (!ds.any fun z => PyData.eqv z d)) H
theorem op_inDT (hu : X.A.units + 65 < cLine) : OpR X (compareOp .In) (rInDT X.K) := by
  intro pins s σ H x y v u Q I rx ry h
  obtain ⟨d, ds, hd, he, sd, se, q⟩ := h
  obtain ⟨as, r1⟩ := Dp.reads I d x v hd rx
  obtain ⟨bs, r2⟩ := Dp.reads I (.tuple ds) y u he ry
  exact SeqAt.in_tuple_reads r2 r1 (SeqAt.canLay_of_shaped se) (SeqAt.canLay_of_shaped sd) (room_in_shaped sd hu) ⟨.bl _, H, I, rfl, q⟩
theorem op_notInDT (hu : X.A.units + 65 < cLine) : OpR X (compareOp .NotIn) (rNotInDT X.K) := by
  intro pins s σ H x y v u Q I rx ry h
  obtain ⟨d, ds, hd, he, sd, se, q⟩ := h
  obtain ⟨as, r1⟩ := Dp.reads I d x v hd rx
  obtain ⟨bs, r2⟩ := Dp.reads I (.tuple ds) y u he ry
  exact SeqAt.notIn_tuple_reads r2 r1 (SeqAt.canLay_of_shaped se) (SeqAt.canLay_of_shaped sd) (room_in_shaped sd hu) ⟨.bl _, H, I, rfl, q⟩
theorem vr_inDT : VR2 (rInDT X.K) (fun (x : α) (l : Tup α) (P : Bool → Prop) => EqOk (enc x) ∧ EqOk (enc l) ∧ P (l.l.any fun z => PyData.eqv (enc z) (enc x))) (fun b : Bool => fro b) := fun F H x y a l Q P e hx hy ⟨p1, p2, p⟩ K => by
  refine ⟨_, _, Has.dp e hx p1.2, Has.dp e hy p2.2, p1.1, p2.1, ?_⟩
  rw [List.any_map]
  exact K _ _ F H (fun _ => False) p (New.refl e) ⟨fun _ h => h, .bl _⟩ fun _ h => h.elim
theorem vr_ninDT : VR2 (rNotInDT X.K) (fun (x : α) (l : Tup α) (P : Bool → Prop) => EqOk (enc x) ∧ EqOk (enc l) ∧ P (!(l.l.any fun z => PyData.eqv (enc z) (enc x)))) (fun b : Bool => fro b) := fun F H x y a l Q P e hx hy ⟨p1, p2, p⟩ K => by
  refine ⟨_, _, Has.dp e hx p1.2, Has.dp e hy p2.2, p1.1, p2.1, ?_⟩
  rw [List.any_map]
  exact K _ _ F H (fun _ => False) p (New.refl e) ⟨fun _ h => h, .bl _⟩ fun _ h => h.elim
section
variable {k : Nat} {wa : W α} {wb : W (Tup α)} {pos : Pos} (hr : Room k X.A)
theorem de_inDT (hr : Room k X.A) (ha : DE X pl G e wa) (hb : DE X pl G e' wb) (hm : behindInMarks .In e' = false := by first | exact nomark _ | rfl) : DE X pl G (.Compare e [.In] [e'] pos) (fun P => wa fun x => wb fun l => EqOk (enc x) ∧ EqOk (enc l) ∧ P (l.l.any fun z => PyData.eqv (enc z) (enc x))) := de_cmp (op_inDT (by have := hr.un; omega)) vr_inDT ha hb hm
theorem dt_inDT (hr : Room k X.A) (ha : DE X pl G e wa) (hb : DE X pl G e' wb) (hm : behindInMarks .In e' = false := by first | exact nomark _ | rfl) : DT X pl G (.Compare e [.In] [e'] pos) (fun P => wa fun x => wb fun l => EqOk (enc x) ∧ EqOk (enc l) ∧ P (l.l.any fun z => PyData.eqv (enc z) (enc x))) := dt_cmp (op_inDT (by have := hr.un; omega)) vr_inDT ha hb hm
theorem de_ninDT (hr : Room k X.A) (ha : DE X pl G e wa) (hb : DE X pl G e' wb) (hm : behindInMarks .NotIn e' = false := by first | exact nomark _ | rfl) : DE X pl G (.Compare e [.NotIn] [e'] pos) (fun P => wa fun x => wb fun l => EqOk (enc x) ∧ EqOk (enc l) ∧ P (!(l.l.any fun z => PyData.eqv (enc z) (enc x)))) := de_cmp (op_notInDT (by have := hr.un; omega)) vr_ninDT ha hb hm
theorem dt_ninDT (hr : Room k X.A) (ha : DE X pl G e wa) (hb : DE X pl G e' wb) (hm : behindInMarks .NotIn e' = false := by first | exact nomark _ | rfl) : DT X pl G (.Compare e [.NotIn] [e'] pos) (fun P => wa fun x => wb fun l => EqOk (enc x) ∧ EqOk (enc l) ∧ P (!(l.l.any fun z => PyData.eqv (enc z) (enc x)))) := dt_cmp (op_notInDT (by have := hr.un; omega)) vr_ninDT ha hb hm
end
end
end Dm

set_option Elab.async false
set_option linter.all false
set_option maxRecDepth 100000
set_option maxHeartbeats 4000000
/-! Dm: part Zh: a list of one's own, shown to a def that draws. -/
namespace Dm
open PySem PySem.Spec PyProof.Rows L2
variable [TabC]
/-- no list in it -/
inductive NoL : D → Prop
  | non : NoL .none
  | bl (b : Bool) : NoL (.bool b)
  | int (i : Int) : NoL (.int i)
  | str (x : Str) : NoL (.str x)
  | tup {ds : List D} : (∀ d ∈ ds, NoL d) → NoL (.tuple ds)
open Classical in
noncomputable def dropL (F : Hp) (l : Addr) : Hp := fun q => if q = l then none else F q
theorem dropL_ne {F : Hp} {l q : Addr} (h : q ≠ l) : dropL F l q = F q := by unfold dropL; rw [if_neg h]
theorem dropL_eq {F : Hp} {l : Addr} : dropL F l l = none := by unfold dropL; rw [if_pos rfl]
mutual
theorem Has.dropN {F : Hp} {l : Addr} {ws : List V} (hl : F l = some (.lst ws)) : ∀ {d : D} {v : V}, NoL d → Has F v d → Has (dropL F l) v d
  | .none, _, _, h => by cases h; exact .non
  | .bool b, _, _, h => by cases h; exact .bl b
  | .int i, _, _, h => by cases h; exact .int i
  | .str x, _, _, h => by cases h; exact .str x
  | .list ds, _, n, h => by cases n
  | .tuple ds, _, n, h => by
    cases h with
    | tup a b =>
      cases n with
      | tup n =>
        obtain ⟨ob, h1, h2⟩ := a
        refine .tup ⟨ob, ?_, h2⟩ (HasAll.dropN hl n b)
        rw [dropL_ne fun z => by rw [z, hl] at h1; cases h1]; exact h1
  | .dict ds, _, n, h => by cases n
theorem HasAll.dropN {F : Hp} {l : Addr} {ws : List V} (hl : F l = some (.lst ws)) : ∀ {ds : List D} {vs : List V}, (∀ d ∈ ds, NoL d) → HasAll F vs ds → HasAll (dropL F l) vs ds
  | [], _, _, h => by cases h; exact .nil
  | d :: ds, _, n, h => by
    cases h with
    | cons a b => exact .cons (Has.dropN hl (n d List.mem_cons_self) a) (HasAll.dropN hl (fun e he => n e (List.mem_cons_of_mem _ he)) b)
end
theorem TabOk.drop {l : Addr} {F H : Hp} {vs : List V} (t : TabOk F H) (hl : F l = some (.lst vs)) : TabOk (dropL F l) H := fun x hx => by
  obtain ⟨a, ps, b, c, d⟩ := t x hx
  refine ⟨?_, ps, b, c, fun pos cv hc => ?_⟩
  · by_cases z : x.1 = l
    · rw [z]; exact dropL_eq
    · rw [dropL_ne z]; exact a
  · obtain ⟨c1, e1, e2⟩ := d pos cv hc
    refine ⟨c1, e1, ?_⟩
    rw [dropL_ne fun z => by
      rw [z, hl] at e2
      unfold LamX.CodeO at e2
      cases e2]
    exact e2
theorem PoolAt.drop {p f l : Addr} {F H : Hp} {vs : List V} (po : PoolAt p f F H) (hl : F l = some (.lst vs)) {v : V} (hv : v ∈ vs) (hi : ∀ i, v ≠ .int i) : PoolAt p f (dropL F l) H := by
  obtain ⟨ne, np, nf, far, wh, tn, hp, hf, z⟩ := po
  refine ⟨ne, ?_, ?_, far, wh, tn, hp, hf, z⟩
  · by_cases e : p = l
    · rw [e]; exact dropL_eq
    · rw [dropL_ne e]; exact np
  · by_cases e : f = l
    · rw [e]; exact dropL_eq
    · rw [dropL_ne e]; exact nf
class NoLE (α : Type) [Enc α] : Prop where
  no : ∀ a : α, NoL (enc a)
class NoInt (α : Type) [Enc α] : Prop where
  no : ∀ (a : α) (F : Hp) (v : V) (i : Int), Has F v (enc a) → v ≠ .int i
instance : NoLE Int := ⟨fun a => .int a⟩
instance : NoLE Bool := ⟨fun a => .bl a⟩
instance {α : Type} [Enc α] [NoLE α] : NoLE (Tup α) := ⟨fun a => .tup fun d hd => by obtain ⟨b, _, rfl⟩ := List.mem_map.mp hd; exact NoLE.no b⟩
instance {α : Type} [Enc α] : NoInt (Tup α) := ⟨fun a F v i h => by
  obtain ⟨a⟩ := a
  cases h with
  | tup h1 h2 => intro e; cases e⟩
instance {α : Type} [Enc α] : NoInt (List α) := ⟨fun a F v i h => by
  cases h with
  | lst h1 h2 => intro e; cases e⟩
section
variable {X : Cx} {pl : Pl} {G : Env} {α ρ : Type} [Enc α] [Enc ρ] [NoInt α] [NoLE ρ] {CX : CXT} {k : Nat} {x : Str} {st : Stmt} {ps : List Str}
theorem dx_callPO {M : List D → W ρ → Prop} {m : List α → W ρ} {as : List α} {p pos p1 p2 : Pos} {y z : Str} {pp pf : Addr} (i j : Nat) (d : DefX X CX k x st ps (spP M (fun r : ρ => fro r))) (hr : Room k X.A) (hgu : X.A.guards = some []) (hM : M [enc as] (m as)) (hx : Passes CX X E0 := by exact pass0) (hi : G[i]? = some (some (raw (.ref pp))) := by rfl) (hj : G[j]? = some (some (own as)) := by rfl)
    (hN : X.N[i]? = some y := by rfl) (hv : Vis X.env.scope y := by first | exact Or.inl rfl | exact Or.inr (Or.inl rfl) | exact Or.inr (Or.inr rfl)) (hd1 : (y == ("__debug__" : Str)) = false := by decide) (hcd : (y == ("__classdict__" : Str)) = false := by decide)
    (hN2 : X.N[j]? = some z := by rfl) (hv2 : Vis X.env.scope z := by first | exact Or.inl rfl | exact Or.inr (Or.inl rfl) | exact Or.inr (Or.inr rfl)) (hd2 : (z == ("__debug__" : Str)) = false := by decide) (hcd2 : (z == ("__classdict__" : Str)) = false := by decide)
    (hg : Gl X x := by rfl) (hdb : (x == ("__debug__" : Str)) = false := by decide) (he : starEach [.Name y p1, .Name z p2] X.env = (false, eval (.Name y p1) X.env) :: starEach [.Name z p2] X.env := by rfl) (he2 : starEach [.Name z p2] X.env = (false, eval (.Name z p2) X.env) :: starEach [] X.env := by rfl) (hpl : (backTo pos (starEach [.Name z p2] X.env)).any (·.1) = false := by rfl) :
    DE X (some (pp, pf)) G (.Call (.Name x p) [.Name y p1, .Name z p2] [] pos) (fun P => as ≠ [] ∧ m as P) := by
  obtain ⟨f, fd, qual, Fn, FG, hm, hb⟩ := d.ex
  refine PE.wk (pe_g FG hr hgu hm Fn.kp hb hx (pa_cons (pe_var hN hv hd1 hcd) (pa_cons (pe_var hN2 hv2 hd2 hcd2) pa_nil he2) he) hg hdb he hpl) fun s H Q ⟨F, fp, at_, P, ⟨ne, w⟩, K⟩ => ?_
  obtain ⟨_, v, hvv, _, rfl⟩ := at_.sl i _ hi
  obtain ⟨_, u, huu, l, vs, rfl, hS, hF, hH, ha⟩ := at_.sl j _ hj
  have exF1 : Ex F (upd F l (.lst vs)) := Ex.new hF
  have ex1 : Ex (upd F l (.lst vs)) H := fun q o e => by
    by_cases z : q = l
    · rw [z, upd_same] at e; rw [z, hH]; exact e
    · rw [upd_ne z] at e; exact at_.ex q o e
  have np : ∀ q, isPool (some (pp, pf)) q → q ≠ l := fun q m e => at_.pdis j l ((hS l).mpr rfl) (by rw [← e]; exact m)
  have po1 : PoolOk (some (pp, pf)) (upd F l (.lst vs)) H := at_.pool.frame exF1 fun q m => ⟨by rw [upd_ne (np q m)]; exact (at_.pool.there m).1, rfl⟩
  have hex : ∃ v ∈ vs, ∀ i, v ≠ V.int i := by
    cases as with
    | nil => exact absurd rfl ne
    | cons a r =>
      cases ha with
      | cons h1 h2 => exact ⟨_, List.mem_cons_self, fun i => NoInt.no a _ _ i h1⟩
  obtain ⟨v0, hv0, hi0⟩ := hex
  refine ⟨_, hvv, _, huu, pp, pf, [.ref l], upd F l (.lst vs), [enc as], m as, rfl, ex1, po1, .cons (.lst upd_same (ha.mono exF1)) .nil, hM, P, w, fun r v F2 H2 S p2 e2 po2 g2 b2 hS2 => ?_⟩
  have hl2 : F2 l = some (.lst vs) := g2.exF l _ upd_same
  have e3 : Ex (dropL F2 l) H2 := fun q o e => by
    by_cases z : q = l
    · rw [z, dropL_eq] at e; cases e
    · rw [dropL_ne z] at e; exact e2 q o e
  have po3 : PoolOk (some (pp, pf)) (dropL F2 l) H2 := ⟨fun p f e => (po2.at_ p f e).drop hl2 hv0 hi0, po2.tab.drop hl2⟩
  have g3 : Go (some (pp, pf)) F H noF (dropL F2 l) H2 noF := ⟨fun q o e => by
      have z : q ≠ l := fun z => by rw [z, hF] at e; cases e
      rw [dropL_ne z]; exact g2.exF q o (exF1 q o e), fun q h _ n => by
      have kq := g2.keep q h (fun _ z => z) n
      refine ⟨kq.1, fun f0 => ?_⟩
      by_cases z : q = l
      · rw [z]; exact dropL_eq
      · rw [dropL_ne z]; exact kq.2 (by rw [upd_ne z]; exact f0), fun i q m => m.elim, g2.grow⟩
  obtain ⟨a2, g4⟩ := at_.back (.inr rfl) e3 po3 g3
  exact K r v (dropL F2 l) H2 fp (fun _ => False) p2 a2 g4 ⟨fun _ h => h, Has.dropN hl2 (NoLE.no r) b2.2⟩ fun q m => m.elim
end
end Dm

set_option Elab.async false
set_option linter.all false
set_option maxRecDepth 100000
set_option maxHeartbeats 2000000
/-! Dm: part Zi: data taken as what they are; dicts as data and the texts of data with dicts. -/
namespace Dm
open PySem PySem.Spec PyProof.Rows L2
variable [TabC]
section
variable {X : Cx} {pl : Pl} {G : Env} {α β : Type} [Enc α] [Enc β]
/-- a datum, taken as of the kind β: that it is so is the reading's to show -/
theorem de_as {e : Expr} {w : W D} (h : DE X pl G e w) : DE X pl G e (fun P : β → Prop => w fun d => ∃ b : β, enc b = d ∧ P b) := PE.wk h fun s H Q ⟨F, fp, at_, P, w, K⟩ =>
  ⟨F, fp, at_, _, w, fun d v F1 H1 fp1 S1 ⟨b, hb, p⟩ a1 g1 b1 o1 => K b v F1 H1 fp1 S1 p a1 g1 (by subst hb; exact b1) o1⟩
/-- a tuple of one kind as a tuple of data -/
theorem de_tupAsD {e : Expr} {w : W (Tup α)} (h : DE X pl G e w) : DE X pl G e (fun P : Tup D → Prop => w fun t => P (Tup.mk (t.l.map enc))) := PE.wk h fun s H Q ⟨F, fp, at_, P, w, K⟩ =>
  ⟨F, fp, at_, _, w, fun t v F1 H1 fp1 S1 p a1 g1 b1 o1 => K _ v F1 H1 fp1 S1 p a1 g1 (by
    have h2 : (enc (Tup.mk (t.l.map enc) : Tup D) : D) = enc t := by
      show PyData.tuple ((t.l.map enc).map _) = PyData.tuple (t.l.map _)
      rw [List.map_map]; rfl
    refine ⟨b1.1, ?_⟩
    rw [h2]; exact b1.2) o1⟩
/-- a dict of its own -/
def oDct (d : D) : Asrt := fun F H v S => ∃ l kvs ds, d = .dict ds ∧ v = .ref l ∧ (∀ q, S q ↔ q = l) ∧ F l = none ∧ H l = some (.dK kvs) ∧ HasKv F kvs ds
theorem frz_dct : Frz (fun d : D => oDct d) := fun a F H v S ⟨l, kvs, ds, ed, ev, hs, hF, hH, hk⟩ e => by
  subst ed ev
  exact ⟨fun q m => by rw [(hs q).mp m, hH]; exact ⟨hF, fun z => nomatch z⟩, fun F' e' k => .dct ((k l ((hs l).mpr rfl)).trans hH) (hk.mono e')⟩
theorem dx_dct0 {pos : Pos} : DX X pl G (.Dict [] [] pos) (fun d : D => oDct d) (fun P : D → Prop => P (.dict [])) := PE.wk pe_dnewK fun s H Q ⟨F, fp, at_, P, w, K⟩ p hp =>
  K (.dict []) (.ref p) F _ fp (fun q => q = p) w (at_.new (New.own at_.ex hp)) (Go.new (New.own at_.ex hp)) ⟨p, [], [], rfl, rfl, fun _ => Iff.rfl, at_.fnone hp, upd_same, .nil⟩ fun q m => by rw [m]; exact ⟨hp, at_.nofp hp, at_.nopl hp⟩
theorem de_dct0 {pos : Pos} : DE X pl G (.Dict [] [] pos) (fun P : D → Prop => P (.dict [])) := de_frz frz_dct dx_dct0
/-- {k: v} with a whole number for its key -/
theorem dx_dct1 {e1 e2 : Expr} {w1 : W Int} {w2 : W D} {pos : Pos} (h1 : DE X pl G e1 w1) (h2 : DE X pl G e2 w2) : DX X pl G (.Dict [some e1] [e2] pos) (fun d : D => oDct d) (fun P : D → Prop => w1 fun i => w2 fun d => P (.dict [(.int i, d)])) :=
  PE.wk (pe_disp (pps_cons h1 h2 pps_nil) (by rfl) (by rfl) (fun z => by cases z) (Nat.le_of_ble_eq_true rfl)) fun s H Q ⟨F, fp, at_, P, w, K⟩ p hp => by
    have n0 : New F H F (upd H p (.dK [])) := New.own at_.ex hp
    refine ⟨F, fp, at_.new n0, _, w, fun i u F1 H1 fp1 S1 w1 a1 g1 b1 _ => ⟨F1, fp1, a1, _, w1, fun d z F2 H2 fp2 S2 p2 a2 g2 b2 _ => ?_⟩⟩
    have g12 := g1.trans g2
    have kp := g12.keep p (by rw [upd_same]; simp) (at_.nofp hp) (at_.nopl hp)
    have hp2 : H2 p = some (.dK []) := kp.1.trans upd_same
    have fp2p : F2 p = none := kp.2 (at_.fnone hp)
    have hu := b1.2
    cases hu
    refine ⟨hp2, [(.inl i, z)], rfl, Nat.le_of_ble_eq_true rfl, ?_⟩
    have nf : ∀ j, ¬ fp2 j p := fun j m => (g12.foot j p m).elim (fun ⟨j', m'⟩ => at_.nofp hp j' m') fun z => by rw [upd_same] at z; cases z
    have gg : Go pl F H fp F2 H2 fp2 := (Go.new n0).trans g12
    exact K _ (.ref p) F2 _ fp2 (fun q => q = p) p2 (a2.upd fp2p nf (at_.nopl hp)) (gg.upd hp) ⟨p, [(.inl i, z)], _, rfl, rfl, fun _ => Iff.rfl, fp2p, upd_same, .cons (.int i) b2.2 .nil⟩ fun q m => by rw [m]; exact ⟨hp, nf, at_.nopl hp⟩
theorem de_dct1 {e1 e2 : Expr} {w1 : W Int} {w2 : W D} {pos : Pos} (h1 : DE X pl G e1 w1) (h2 : DE X pl G e2 w2) : DE X pl G (.Dict [some e1] [e2] pos) (fun P : D → Prop => w1 fun i => w2 fun d => P (.dict [(.int i, d)])) := de_frz frz_dct (dx_dct1 h1 h2)
/-- str of a whole number -/
theorem vr_strI : VR1 (fun x H Q => ∃ i, [x] = [V.int i] ∧ i.natAbs.log2 < 1920 ∧ Q (.str (toString i)) H) (fun (i : Int) (P : Str → Prop) => i.natAbs.log2 < 1920 ∧ P (toString i : Str)) (fun x : Str => fro x) := fun F H x a Q P e hx ⟨h1, p⟩ K => by
  cases hx
  exact ⟨a, rfl, h1, K _ _ F H (fun _ => False) p (New.refl e) ⟨fun _ h => h, .str _⟩ fun _ h => h.elim⟩
theorem de_strI {e : Expr} {w : W Int} {p pos : Pos} (hm : X.mg "str" = none) (h : DE X pl G e w) (hg : Gl X "str" := by rfl) (he : starEach [e] X.env = (false, eval e X.env) :: starEach [] X.env := by rfl) (hpl : (backTo pos (starEach [] X.env)).any (·.1) = false := by rfl) : DE X pl G (.Call (.Name "str" p) [e] [] pos) (fun P => w fun i => i.natAbs.log2 < 1920 ∧ P (toString i : Str)) := de_ty1 call_str_int hm (by decide +kernel) h vr_strI hg (by decide) (by decide) he hpl

/-! ### texts of data with dicts -/
mutual
/-- no pair of a walk is in it -/
def noPq : D → Bool
  | .none | .bool _ | .int _ | .str _ => true
  | .list xs | .tuple xs => noPqA xs
  | .dict kvs => noPqK kvs
def noPqA : List D → Bool
  | [] => true
  | x :: xs => noPq x && noPqA xs
def noPqK : List (D × D) → Bool
  | [] => true
  | (k, v) :: r => !isNo k && (noPq v && noPqK r)
end
abbrev TxOk (P : Program) (w : World) (h : Heap) (u : Value) (d : D) : Prop := ∃ as bs, Reads h u d as ∧ ReadAtMost h d.depth bs ∧ ReprK P w bs h d.depth u d.shown
abbrev TxAll (P : Program) (w : World) (h : Heap) (us : List Value) (ds : List D) : Prop := ∃ as bs, ReadsAll h us ds as ∧ ReadAtMost h (PyData.depthAll ds) bs ∧ ReprAllK P w bs h (PyData.depthAll ds) us (PyData.shownAll ds)
theorem no_adr {h : Heap} {n : Nat} : ReadAtMost h n [] := fun _ z => nomatch z
theorem TxAll.cons {P : Program} {w : World} {h : Heap} {u : Value} {us : List Value} {d : D} {ds : List D} (a : TxOk P w h u d) (b : TxAll P w h us ds) : TxAll P w h (u :: us) (d :: ds) := by
  obtain ⟨as, bs, r, m, k⟩ := a
  obtain ⟨as', bs', r', m', k'⟩ := b
  have l1 : d.depth ≤ PyData.depthAll (d :: ds) := by rw [PyData.depthAll]; exact Nat.le_max_left _ _
  have l2 : PyData.depthAll ds ≤ PyData.depthAll (d :: ds) := by rw [PyData.depthAll]; exact Nat.le_max_right _ _
  refine ⟨_, bs ++ bs', .cons r r', (m.mono l1).append (m'.mono l2), ?_⟩
  rw [PyData.shownAll]
  exact .cons ((k.more fun b hb => List.mem_append_left _ hb).level_le l1) (k'.more_le (fun b hb => List.mem_append_right _ hb) l2)
end
section
variable {X : Cx} {pins : List (Addr × Obj)} {σ : L2.St} {F H : Hp} {s : Shared}
mutual
theorem Has.tx (I : Inv X pins σ H s) (e : Ex F H) : ∀ {d : D} {v : V} {u : Value}, Has F v d → RelV v u → d.showable = true → noPq d = true → d.shown.length ≤ sizeLine → TxOk X.prog X.w s.heap u d
  | .none, _, _, h, r, _, _, _ => by
    cases h; cases r
    exact ⟨_, [], .none, no_adr, by rw [PyData.shown]; exact .of_is .none _ _ _⟩
  | .bool b, _, _, h, r, _, _, _ => by
    cases h; cases r
    exact ⟨_, [], .bool b, no_adr, by rw [PyData.shown]; exact .of_is (.bool b) _ _ _⟩
  | .int i, _, _, h, r, hs, _, _ => by
    cases h; obtain ⟨t, rfl⟩ := r
    exact ⟨_, [], .int i t, no_adr, by rw [PyData.shown]; exact .of_is (.int t (by simpa [PyData.showable] using hs)) _ _ _⟩
  | .str x, _, _, h, r, _, _, hz => by
    cases h; obtain ⟨t, rfl⟩ := r
    exact ⟨_, [], .str x t, no_adr, by rw [PyData.shown] at hz ⊢; exact .of_is (.str x t hz) _ _ _⟩
  | .list ds, _, _, h, r, hs, hn, hz => by
    cases h with
    | @lst a xs _ ha hb =>
      cases r
      obtain ⟨its, rv, ⟨o, n, ho, hc, _, hd⟩, _⟩ := I.list (SqL.of (e _ _ ha))
      rw [PyData.shown] at hz
      obtain ⟨as, bs, r1, m1, k1⟩ := HasAll.tx I e hb rv (by simpa [PyData.showable] using hs) (by rw [noPq] at hn; exact hn) fun t ht => Nat.le_trans (listText_mem_le ht) hz
      have rd : Reads s.heap (.ref a) (.list ds) _ := .list ho hc hd r1
      have dp : PyData.depthAll ds < (PyData.list ds).depth := by simp only [PyData.depth]; omega
      have na : a ∉ bs := not_mem_of_deeper rd dp m1
      refine ⟨_, a :: bs, rd, ReadAtMost.cons rd (Nat.le_of_lt dp) m1, ?_⟩
      simp only [PyData.depth, PyData.shown]
      cases its with
      | nil =>
        have z : ReadsAll s.heap [] ds as := r1
        cases z
        rw [PyData.shownAll, listText_nil]
        exact ReprK.listEmpty ho hc hd
      | cons y ys => exact ReprK.list ho hc hd na (by rw [k1.length_eq]; rfl) fun i y q => k1.item i y (by rw [← List.getElem?_toArray]; exact q)
  | .tuple ds, _, _, h, r, hs, hn, hz => by
    cases h with
    | @tup a xs _ ha hb =>
      cases r
      obtain ⟨its, rv, ⟨o, ho, hc, n, hd⟩, _⟩ := I.tuple (TupAt.sq (TupAt.mono e ha))
      rw [PyData.shown] at hz
      obtain ⟨as, bs, r1, m1, k1⟩ := HasAll.tx I e hb rv (by simpa [PyData.showable] using hs) (by rw [noPq] at hn; exact hn) fun t ht => Nat.le_trans (tupleText_mem_le ht) hz
      have rd : Reads s.heap (.ref a) (.tuple ds) _ := .tuple ho hc hd r1
      have dp : PyData.depthAll ds < (PyData.tuple ds).depth := by simp only [PyData.depth]; omega
      refine ⟨_, a :: bs, rd, ReadAtMost.cons rd (Nat.le_of_lt dp) m1, ?_⟩
      simp only [PyData.depth, PyData.shown]
      exact ReprK.tuple ho hc hd (not_mem_of_deeper rd dp m1) k1
  | .dict ds, _, _, h, r, hs, hn, hz => by
    cases h with
    | prs ha hb => cases hb; rw [noPq, noPqK] at hn; cases hn
    | @dct a kvs _ ha hb =>
      cases r
      obtain ⟨_, hsys, vs, rel, o, es, ep, ho, hx, hd, _, hp, _⟩ := dk_of I.hok (e _ _ ha)
      rw [PyData.shown] at hz
      obtain ⟨s1, s2⟩ := PyData.showableKv_split ds (by simpa [PyData.showable] using hs)
      obtain ⟨⟨as1, bs1, r1, m1, k1⟩, as2, bs2, r2, m2, k2⟩ := HasKv.tx I e hb rel hp s1 s2 (by rw [noPq] at hn; exact hn)
        (fun t ht => let ⟨q, hq, hl⟩ := PyData.shownKv_key_le ds t ht; Nat.le_trans hl (Nat.le_trans (dictText_mem_le hq) hz))
        (fun t ht => let ⟨q, hq, hl⟩ := PyData.shownKv_val_le ds t ht; Nat.le_trans hl (Nat.le_trans (dictText_mem_le hq) hz))
      have rd : Reads s.heap (.ref a) (.dict ds) _ := .dict ho hx.1 hd r1 r2
      have q1 := PyData.depthAll_keys_le ds
      have q2 := PyData.depthAll_vals_le ds
      have mb : ReadAtMost s.heap (PyData.depthKv ds) (bs1 ++ bs2) := (m1.mono q1).append (m2.mono q2)
      have dp : PyData.depthKv ds < (PyData.dict ds).depth := by simp only [PyData.depth]; omega
      refine ⟨_, a :: (bs1 ++ bs2), rd, ReadAtMost.cons rd (Nat.le_of_lt dp) mb, ?_⟩
      simp only [PyData.depth, PyData.shown, PyData.shownKv_eq]
      exact ReprK.dict ho hx.1 hd hsys (not_mem_of_deeper rd dp mb) (.of_two es.toList _ _ (k1.more_le (fun b z => List.mem_append_left _ z) q1) (k2.more_le (fun b z => List.mem_append_right _ z) q2))
theorem HasAll.tx (I : Inv X pins σ H s) (e : Ex F H) : ∀ {ds : List D} {vs : List V} {us : List Value}, HasAll F vs ds → Vals vs us → PyData.showableAll ds = true → noPqA ds = true → (∀ t ∈ PyData.shownAll ds, t.length ≤ sizeLine) → TxAll X.prog X.w s.heap us ds
  | [], _, _, h, r, _, _, _ => by
    cases h; cases r
    exact ⟨_, [], .nil, no_adr, by rw [PyData.shownAll]; exact .nil⟩
  | d :: ds, _, _, h, r, hs, hn, hz => by
    cases h with
    | cons h1 h2 =>
      cases r with
      | cons r1 r2 =>
        rw [PyData.showableAll, Bool.and_eq_true] at hs
        rw [noPqA, Bool.and_eq_true] at hn
        rw [PyData.shownAll] at hz
        exact TxAll.cons (Has.tx I e h1 r1 hs.1 hn.1 (hz _ List.mem_cons_self)) (HasAll.tx I e h2 r2 hs.2 hn.2 fun t ht => hz t (List.mem_cons_of_mem _ ht))
theorem HasKv.tx (I : Inv X pins σ H s) (e : Ex F H) : ∀ {ds : List (D × D)} {kvs : List (Key × V)} {vs : List (Key × Value)} {es : List DictEntry}, HasKv F kvs ds → KV kvs vs → Pairs (mixKind X.prog X.w) es vs → PyData.showableAll (ds.map (·.1)) = true → PyData.showableAll (ds.map (·.2)) = true → noPqK ds = true →
    (∀ t ∈ PyData.shownAll (ds.map (·.1)), t.length ≤ sizeLine) → (∀ t ∈ PyData.shownAll (ds.map (·.2)), t.length ≤ sizeLine) → TxAll X.prog X.w s.heap (es.map (·.key)) (ds.map (·.1)) ∧ TxAll X.prog X.w s.heap (es.map (·.val)) (ds.map (·.2))
  | [], _, _, _, h, r, p, _, _, _, _, _ => by
    cases h; cases r; cases p
    exact ⟨⟨_, [], .nil, no_adr, by rw [List.map_nil, PyData.shownAll]; exact .nil⟩, ⟨_, [], .nil, no_adr, by rw [List.map_nil, PyData.shownAll]; exact .nil⟩⟩
  | (dk, dv) :: ds, _, _, _, h, r, p, s1, s2, hn, z1, z2 => by
    cases h with
    | cons hk hv ht =>
      cases r with
      | cons r1 r2 =>
        cases p with
        | cons p1 p2 p3 =>
          rw [List.map_cons, PyData.showableAll, Bool.and_eq_true] at s1 s2
          rw [noPqK, Bool.and_eq_true, Bool.and_eq_true] at hn
          rw [List.map_cons, PyData.shownAll] at z1 z2
          obtain ⟨q1, q2⟩ := r1
          obtain ⟨t1, t2⟩ := HasKv.tx I e ht r2 p3 s1.2 s2.2 hn.2.2 (fun t m => z1 t (List.mem_cons_of_mem _ m)) fun t m => z2 t (List.mem_cons_of_mem _ m)
          refine ⟨TxAll.cons ?_ t1, TxAll.cons (Has.tx I e hv (by show RelV _ (DictEntry.val _); rw [p2]; exact q2) s2.1 hn.2.1 (z2 _ List.mem_cons_self)) t2⟩
          have ky := keyIs_shape p1
          have zk := z1 _ List.mem_cons_self
          have sk := s1.1
          rcases ky with ⟨i, t, ea, eb⟩ | ⟨x, t, ea, eb⟩
          · rw [← q1] at ea
            show TxOk _ _ _ (DictEntry.key _) dk
            rw [eb]
            simp only at ea
            subst ea
            cases hk
            exact ⟨_, [], .int i t, no_adr, by rw [PyData.shown]; exact .of_is (.int t (by simpa [PyData.showable] using sk)) _ _ _⟩
          · rw [← q1] at ea
            show TxOk _ _ _ (DictEntry.key _) dk
            rw [eb]
            simp only at ea
            subst ea
            cases hk
            exact ⟨_, [], .str x t, no_adr, by rw [PyData.shown] at zk ⊢; exact .of_is (.str x t zk) _ _ _⟩
end
/-- its text can be made, dicts or not -/
structure TxtOk (d : D) : Prop where
  nums : d.showable = true
  nop : noPq d = true
  flat : d.depth ≤ 100
  fits : d.shown.length ≤ sizeLine
theorem call_reprL (hgu : X.A.guards = some []) (hu : X.A.units + 200 < cLine) : CallR X (.builtin "repr") (fun xs H Q => ∃ F a ds, xs = [.ref a] ∧ Ex F H ∧ Has F (.ref a) (.list ds) ∧ TxtOk (.list ds) ∧ Q (.str (PyData.shown (.list ds))) H) := by
  intro pins sh s H xs us Q I r h
  obtain ⟨F, a, ds, rfl, e, hb, ok, q⟩ := h
  rw [Vals.ref1 r]
  cases hb with
  | @lst _ xs _ ha hb =>
    obtain ⟨its, rv, ⟨o, n, ho, hc, _, hd⟩, _⟩ := I.list (SqL.of (e _ _ ha))
    have nums : PyData.showableAll ds = true := by have := ok.nums; rw [PyData.showable] at this; exact this
    have fl := ok.flat
    have fits := ok.fits
    rw [PyData.shown] at fits
    obtain ⟨as, bs, r1, m1, k1⟩ := HasAll.tx I e hb rv nums (by have := ok.nop; rw [noPq] at this; exact this) fun t ht => Nat.le_trans (listText_mem_le ht) fits
    have rd : Reads sh.heap (.ref a) (.list ds) _ := .list ho hc hd r1
    have na : a ∉ bs := not_mem_of_deeper rd (by simp only [PyData.depth]; omega) m1
    refine call_repr_slot (by omega) ⟨o, ho, hc⟩ PySem.F.slot_list_repr.toG ?_
    rw [PyData.shown] at q
    simp only [PyData.depth] at fl
    cases its with
    | nil =>
      have z : ReadsAll sh.heap [] ds as := r1
      cases z
      rw [PyData.shownAll, listText_nil] at q
      exact call_list_repr_empty ⟨o, ho, hc⟩ ho hd ⟨_, _, rfl, ⟨.str "[]", H, I.tok _, ⟨_, rfl⟩, q⟩⟩
    | cons y ys =>
      exact call_list_reprK (g := []) ho hc hd na (by rw [k1.length_eq]; rfl) (fun i y z => k1.item i y (by rw [← List.getElem?_toArray]; exact z)) hgu (fun b _ => Clear.nil b) (by show X.A.units + 1 + (_ + 1) < cLine; omega) (fun _ _ z => z) (fun h' u tk kp => ⟨_, _, rfl, ⟨.str _, H, I.kept kp, ⟨u, rfl⟩, q⟩⟩) fits
theorem de_reprL {pl : Pl} {G : Env} {α : Type} [Enc α] {e : Expr} {w : W (List α)} {p pos : Pos} (hm : X.mg "repr" = none) (hgu : X.A.guards = some []) (hu : X.A.units + 200 < cLine) (h : DE X pl G e w) (hg : Gl X "repr" := by rfl)
    (he : starEach [e] X.env = (false, eval e X.env) :: starEach [] X.env := by rfl) (hpl : (backTo pos (starEach [] X.env)).any (·.1) = false := by rfl) : DE X pl G (.Call (.Name "repr" p) [e] [] pos) (fun P => w fun a => TxtOk (enc a) ∧ P (PyData.shown (enc a))) := PE.wk (pe_callB (call_reprL hgu hu) hg hm PyProof.Rows.boot_repr (pa_cons h pa_nil he) (by decide) (by decide) he hpl) fun s H Q ⟨F, fp, at_, P, w, K⟩ =>
  ⟨F, fp, at_, _, w, fun a v F1 H1 fp1 S1 ⟨ok, w1⟩ a1 g1 b1 _ => by
    have hb : Has F1 v (.list (a.map Enc.enc)) := b1.2
    obtain ⟨q, rfl⟩ : ∃ q, v = .ref q := by cases hb; exact ⟨_, rfl⟩
    exact ⟨F1, q, a.map Enc.enc, rfl, a1.ex, hb, ok, K.pure a1 g1 w1 (.str _)⟩⟩
end
theorem kit_tuple {K : Fr} : ∀ d : D, PySem.W.kitOne K (.type (tyName d)) (.type "tuple") = some (isiD d "tuple") := by
  intro d
  cases d <;> first | rfl | (rename_i ds; cases ds with | nil => rfl | cons p ds => obtain ⟨k, v⟩ := p; cases k <;> rfl)
theorem kit_int {K : Fr} : ∀ d : D, PySem.W.kitOne K (.type (tyName d)) (.type "int") = some (isiD d "int") := by
  intro d
  cases d <;> first | rfl | (rename_i ds; cases ds with | nil => rfl | cons p ds => obtain ⟨k, v⟩ := p; cases k <;> rfl)
theorem kit_bool {K : Fr} : ∀ d : D, PySem.W.kitOne K (.type (tyName d)) (.type "bool") = some (isiD d "bool") := by
  intro d
  cases d <;> first | rfl | (rename_i ds; cases ds with | nil => rfl | cons p ds => obtain ⟨k, v⟩ := p; cases k <;> rfl)
theorem kit_str {K : Fr} : ∀ d : D, PySem.W.kitOne K (.type (tyName d)) (.type "str") = some (isiD d "str") := by
  intro d
  cases d <;> first | rfl | (rename_i ds; cases ds with | nil => rfl | cons p ds => obtain ⟨k, v⟩ := p; cases k <;> rfl)
/-- what the names hold, written out -/
theorem dss_norm {X : Cx} {pl : Pl} {κ ρ : Type} {G G2 : Env} {B : Rt ρ} {sts : List Stmt} {w : WS κ ρ} {G' : κ → Env} (e : G = G2) (h : DSs X pl G2 B sts w G') : DSs X pl G B sts w G' := e ▸ h
end Dm

set_option Elab.async false
set_option linter.all false
set_option maxRecDepth 100000
set_option maxHeartbeats 2000000
/-! Dm: part Zj: the text of any datum; an own list taken as one of data. -/
namespace Dm
open PySem PySem.Spec PyProof.Rows L2
variable [TabC]
section
variable {X : Cx} {pl : Pl} {G : Env} {α β : Type} [Enc α] [Enc β]
theorem call_reprA (hgu : X.A.guards = some []) (hu : X.A.units + 200 < cLine) : CallR X (.builtin "repr") (fun xs H Q => ∃ F v d, xs = [v] ∧ Ex F H ∧ Has F v d ∧ TxtOk d ∧ Q (.str (PyData.shown d)) H) := by
  intro pins sh s H xs us Q I r h
  obtain ⟨F, v, d, rfl, e, hb, ok, q⟩ := h
  have fl := ok.flat
  have fits := ok.fits
  have nums := ok.nums
  have nop := ok.nop
  cases r with
  | cons r1 r2 =>
  cases r2
  cases hb with
  | non =>
    cases r1
    exact PySem.P.repr_of_none ⟨.str PyData.none.shown, H, I.tok _, ⟨sh.toks, rfl⟩, q⟩
  | bl b =>
    cases r1
    exact PySem.P.repr_of_bool ⟨.str (PyData.bool b).shown, H, I.tok _, ⟨sh.toks, by rw [PyData.shown]⟩, q⟩
  | int i =>
    obtain ⟨t, rfl⟩ := r1
    exact PySem.P.repr_of_int (by simpa [PyData.showable] using nums) ⟨.str (PyData.int i).shown, H, I.tok _, ⟨sh.toks, by rw [PyData.shown]⟩, q⟩
  | str x =>
    obtain ⟨t, rfl⟩ := r1
    exact PySem.P.repr_of_str ⟨.str (PyData.str x).shown, H, I.tok _, ⟨sh.toks, by rw [PyData.shown]⟩, q⟩ (by rw [PyData.shown] at fits; exact fits)
  | @lst a xs ds ha hb =>
    cases r1
    exact call_reprL hgu hu pins sh s H [.ref a] [.ref a] Q I (.cons rfl .nil) ⟨F, a, ds, rfl, e, .lst ha hb, ok, q⟩
  | prs ha hb => cases hb; rw [noPq, noPqK] at nop; cases nop
  | @tup a xs ds ha hb =>
    cases r1
    obtain ⟨its, rv, ⟨o, ho, hc, n, hd⟩, _⟩ := I.tuple (TupAt.sq (TupAt.mono e ha))
    rw [PyData.shown] at fits
    obtain ⟨as, bs, t1, m1, k1⟩ := HasAll.tx I e hb rv (by rw [PyData.showable] at nums; exact nums) (by rw [noPq] at nop; exact nop) fun t ht => Nat.le_trans (tupleText_mem_le ht) fits
    have rd : Reads sh.heap (.ref a) (.tuple ds) _ := .tuple ho hc hd t1
    have na : a ∉ bs := not_mem_of_deeper rd (by simp only [PyData.depth]; omega) m1
    refine call_repr_slot (by omega) ⟨o, ho, hc⟩ PySem.F.slot_tuple_repr ?_
    rw [PyData.shown] at q
    simp only [PyData.depth] at fl
    exact call_tuple_reprK (g := []) ho hc hd na k1 hgu (fun b _ => Clear.nil b) (by show X.A.units + 1 + (_ + 1) < cLine; omega) (fun _ _ z => z) (fun h' u tk kp => ⟨_, _, rfl, ⟨.str _, H, I.kept kp, ⟨u, rfl⟩, q⟩⟩) fits
  | @dct a kvs ds ha hb =>
    cases r1
    obtain ⟨_, hsys, vs, rel, o, es, ep, ho, hx, hd, _, hp, _⟩ := dk_of I.hok (e _ _ ha)
    rw [PyData.shown] at fits
    obtain ⟨s1, s2⟩ := PyData.showableKv_split ds (by rw [PyData.showable] at nums; exact nums)
    obtain ⟨⟨as1, bs1, r1, m1, k1⟩, as2, bs2, r2, m2, k2⟩ := HasKv.tx I e hb rel hp s1 s2 (by rw [noPq] at nop; exact nop)
      (fun t ht => let ⟨q, hq, hl⟩ := PyData.shownKv_key_le ds t ht; Nat.le_trans hl (Nat.le_trans (dictText_mem_le hq) fits))
      (fun t ht => let ⟨q, hq, hl⟩ := PyData.shownKv_val_le ds t ht; Nat.le_trans hl (Nat.le_trans (dictText_mem_le hq) fits))
    have rd : Reads sh.heap (.ref a) (.dict ds) _ := .dict ho hx.1 hd r1 r2
    have q1 := PyData.depthAll_keys_le ds
    have q2 := PyData.depthAll_vals_le ds
    have mb : ReadAtMost sh.heap (PyData.depthKv ds) (bs1 ++ bs2) := (m1.mono q1).append (m2.mono q2)
    refine call_repr_slot (by omega) ⟨o, ho, hx.1⟩ PySem.F.slot_dict_repr ?_
    rw [PyData.shown, PyData.shownKv_eq] at q
    rw [PyData.shownKv_eq] at fits
    simp only [PyData.depth] at fl
    exact call_dict_reprK (g := []) ho hx.1 hd hsys (not_mem_of_deeper rd (by simp only [PyData.depth]; omega) mb) (.of_two es.toList _ _ (k1.more_le (fun b z => List.mem_append_left _ z) q1) (k2.more_le (fun b z => List.mem_append_right _ z) q2)) hgu (fun b _ => Clear.nil b) (by show X.A.units + 1 + (_ + 1) < cLine; omega) (fun _ _ z => z) (fun h' u tk kp => ⟨_, _, rfl, ⟨.str _, H, I.kept kp, ⟨u, rfl⟩, q⟩⟩) fits
theorem de_reprA {e : Expr} {w : W α} {p pos : Pos} (hm : X.mg "repr" = none) (hgu : X.A.guards = some []) (hu : X.A.units + 200 < cLine) (h : DE X pl G e w) (hg : Gl X "repr" := by rfl)
    (he : starEach [e] X.env = (false, eval e X.env) :: starEach [] X.env := by rfl) (hpl : (backTo pos (starEach [] X.env)).any (·.1) = false := by rfl) : DE X pl G (.Call (.Name "repr" p) [e] [] pos) (fun P => w fun a => TxtOk (enc a) ∧ P (PyData.shown (enc a))) := PE.wk (pe_callB (call_reprA hgu hu) hg hm PyProof.Rows.boot_repr (pa_cons h pa_nil he) (by decide) (by decide) he hpl) fun s H Q ⟨F, fp, at_, P, w, K⟩ =>
  ⟨F, fp, at_, _, w, fun a v F1 H1 fp1 S1 ⟨ok, w1⟩ a1 g1 b1 _ => ⟨F1, v, enc a, rfl, a1.ex, b1.2, ok, K.pure a1 g1 w1 (.str _)⟩⟩
/-- an own list, as one of data -/
theorem own_data {as : List α} {F H : Hp} {v : V} {S : Set'} (b : own as F H v S) : own (as.map enc) F H v S := by
  obtain ⟨l, vs, e, hs, f, h, ha⟩ := b
  refine ⟨l, vs, e, hs, f, h, ?_⟩
  have : (as.map enc).map (Enc.enc : D → D) = as.map Enc.enc := by rw [List.map_map]; rfl
  rw [this]; exact ha
theorem dx_asD {e : Expr} {w : W (List α)} (h : DX X pl G e (fun a : List α => own a) w) : DX X pl G e (fun a : List D => own a) (fun P => w fun l => P (l.map enc)) := PE.wk h fun s H Q ⟨F, fp, at_, P, w, K⟩ =>
  ⟨F, fp, at_, _, w, fun a v F1 H1 fp1 S1 p a1 g1 b1 o1 => K _ v F1 H1 fp1 S1 p a1 g1 (own_data b1) o1⟩
end
/-- powers of long numbers -/
def CPowB (i j : Int) : Prop := 0 ≤ j ∧ (Builtin.Int.intBits i : Int) * j ≤ 2 ^ 27
theorem op_powB {X : Cx} : OpR X (binaryOp .Pow) (rI CPowB fun i j => .int (i ^ j.toNat)) := opI fun _ _ _ _ _ _ _ hc q => PyProof.Rows.pow_int hc.1 hc.2 q
theorem de_powB {X : Cx} {pl : Pl} {G : Env} {e e' : Expr} {wa wb : W Int} {pos : Pos} (ha : DE X pl G e wa) (hb : DE X pl G e' wb) : DE X pl G (.BinOp e .Pow e' pos) (fun P => wa fun x => wb fun y => CPowB x y ∧ P (x ^ y.toNat)) := dx_op2 op_powB vr_IC ha hb
end Dm

set_option Elab.async false
set_option linter.all false
set_option maxRecDepth 100000
set_option maxHeartbeats 2000000
/-! Dm: part Zk: a walk whose body begins with `if c: break`. -/
namespace Dm
open PySem PySem.Spec PyProof.Rows L2
variable [TabC]
section
variable {X : Cx} {pl : Pl} {G : Env} {κ ρ α : Type} {B : Rt ρ} [Enc α]
theorem ds_forBrk {tg iter c : Expr} {body : List Stmt} {wi : W (List α)} {GL : κ → Env} {k0 : κ} {ts : List Nat} {gs : κ → α → Env} {wc : α → κ → W Bool} {wb : α → κ → WS κ ρ} {pos p2 p3 : Pos} (hp : PassesOwn (model X.prog X.w) X.A X.env X.xe) (hc : X.calm = true) (hi : DI X pl G tg iter wi) (h0 : Sub G (GL k0)) (hg : ∀ k, DG X pl (GL k) tg ts (gs k)) (ht : ∀ a k, DT X pl (gs k a) c (wc a k)) (hb : ∀ a k, DSs X pl (gs k a) B body (wb a k) GL) (back : ∀ a k, Sub (gs k a) (GL k))
    (hs : ∀ x, foldedSetIterable iter X.env x = pure x := by intro _; rfl) : DS X pl G B (.For tg iter (.If c [.Break p2] [] p3 :: body) [] pos) (fun nx rt => wi fun as => wFor as k0 (fun a k nx' => wc a k fun x => wIf x (nx k) (wb a k nx' rt)) nx) GL :=
  PS.wk (ps_for hp hc hi (PG.exi hg) (PSs.exi fun ak : α × κ => pss_cons (ps_if (ht ak.1 ak.2) (pss_one ps_break) pss_nil) (hb ak.1 ak.2)) hs) fun D s H ⟨F, fp, at_, Pn, Pr, w, K1, K2⟩ => by
  refine ⟨F, fp, at_, _, w, fun as F1 H1 fp1 J p a1 g1 it => ?_⟩
  let Inv := fun (i : Nat) (s2 : L2.St) (H2 : Hp) => ∃ F2 fp2 k, At pl (GL k) F2 H2 s2 fp2 ∧ Go pl F1 H1 fp1 F2 H2 fp2 ∧ wFor (as.drop i) k (fun a k nx' => wc a k fun x => wIf x (Pn k) (wb a k nx' Pr)) Pn
  refine ⟨fun i m s2 H2 => i + m = as.length ∧ Inv i s2 H2, ⟨as.length, by omega, ?_⟩, fun i m s2 H2 ⟨em, F2, fp2, k, a2, g2, wf⟩ => ?_⟩
  · obtain ⟨fp', a', l⟩ := a1.sub h0
    exact ⟨F1, fp', k0, a', Go.less l, p⟩
  · by_cases hi : i < as.length
    · refine .inr ?_
      obtain ⟨a, ea⟩ : ∃ a, as[i]? = some a := ⟨as[i], List.getElem?_eq_getElem hi⟩
      have ed : as.drop i = a :: as.drop (i + 1) := by
        rw [List.drop_eq_getElem_cons hi]
        rw [List.getElem?_eq_getElem hi] at ea
        cases ea; rfl
      rw [ed] at wf
      obtain ⟨go, yl⟩ := it.turn F2 H2 i a g2.exF a2.ex ea
      refine ⟨go, fun s' H' => Inv (i + 1) s' H', fun s' H' hI => ⟨m - 1, by omega, by omega, hI⟩, fun x H3 hy => ?_⟩
      obtain ⟨F3, n3, hx⟩ := yl x H3 hy
      refine ⟨k, F3, fp2, a, a2.new n3, hx, fun s3 fp3 a3 l3 _ => ⟨(a, k), F3, fp3, a3, _, wf, fun b F5 H5 fp5 pb a5 g5 => ?_⟩⟩
      have gg : Go pl F H fp F3 H3 fp3 := g1.trans (g2.trans ((Go.new n3).trans (Go.less l3)))
      cases b with
      | true =>
        obtain ⟨fp6, a6, l6⟩ := a5.sub (back a k)
        exact K1 k s3 F5 H5 fp6 (pb.1 rfl) a6 ((gg.trans g5).trans (Go.less l6))
      | false =>
        refine ⟨F5, fp5, a5, _, Pr, pb.2 rfl, fun k' s4 F4 H4 fp4 p4 a4 g4 => ?_, fun r v F4 H4 fp4 S p4 e4 po4 g4 b4 hS => ?_⟩
        · exact ⟨F4, fp4, k', a4, g2.trans ((((Go.new n3).trans (Go.less l3)).trans g5).trans g4), p4⟩
        · have gg5 := gg.trans g5
          exact K2 r v F4 H4 fp4 S p4 e4 po4 (gg5.trans g4) b4 fun q m => (hS q m).elim (fun ⟨i, y⟩ => gg5.foot i q y) fun y => .inr (gg5.back y)
    · refine .inl ?_
      have e : i = as.length := by omega
      refine ⟨by rw [e]; exact it.stop F2 H2 g2.exF a2.ex, ?_⟩
      rw [e, List.drop_length] at wf
      exact K1 k s2 F2 H2 fp2 wf a2 (g1.trans g2)
end
end Dm

set_option Elab.async false
set_option linter.all false
set_option maxRecDepth 100000
set_option maxHeartbeats 2000000
/-! Dm: part Zl: x in / not in an own list of whole numbers. -/
namespace Dm
open PySem PySem.Spec PyProof.Rows L2
variable [TabC]
section
variable {X : Cx} {pl : Pl} {G : Env} {e : Expr} {wa : W Int}
theorem inO_go (i : Nat) {neg : Bool} {as : List Int} {te : TE} (k : ∀ s H Q, tX pl G (fun a : Int => fro a) wa s H Q → te s H Q) (h : G[i]? = some (some (own as))) (s : L2.St) (H : Hp) (Q : VK) (z : tX pl G (fun b : Bool => fro b) (fun P => wa fun x => P (if neg = true then !decide (x ∈ as) else decide (x ∈ as))) s H Q) :
    te s H fun x H1 => ∃ v, s[i]? = some (some v) ∧ rIn X.K neg x v H1 Q := by
  obtain ⟨F, fp, at_, P, w, K⟩ := z
  refine k s H _ ⟨F, fp, at_, _, w, fun a v F1 H1 fp1 S1 p a1 g1 b1 _ => ?_⟩
  obtain ⟨_, u, hu, l, vs, rfl, _, _, hl, ha⟩ := a1.sl i _ h
  refine ⟨_, hu, ?_⟩
  cases b1.2
  have ev : vs = as.map V.int := HasAll.ofInts (ns := as) ha
  rw [ev] at hl
  refine ⟨_, _, rfl, .inl (SqL.of hl), rfl, flat_ints as, ?_⟩
  rw [inV_ints]
  exact K.pure a1 g1 p (by cases neg <;> exact .bl _)
theorem de_inO (i : Nat) {as : List Int} {x : Str} {pos pos' : Pos} (ha : DE X pl G e wa) (h : G[i]? = some (some (own as)) := by rfl) (hN : X.N[i]? = some x := by rfl) (hv : Vis X.env.scope x := by first | exact Or.inl rfl | exact Or.inr (Or.inl rfl) | exact Or.inr (Or.inr rfl)) (hd : (x == ("__debug__" : Str)) = false := by decide)
    (hcd : (x == ("__classdict__" : Str)) = false := by decide) (hm : behindInMarks .In (.Name x pos') = false := by first | exact nomark _ | rfl) : DE X pl G (.Compare e [.In] [.Name x pos'] pos) (fun P => wa fun a => P (decide (a ∈ as))) :=
  PE.wk (pe_cmpR op_in_seq ha (pe_var hN hv hd hcd) hm) (inO_go (X := X) (neg := false) i (fun _ _ _ z => z) h)
theorem dt_inO (i : Nat) {as : List Int} {x : Str} {pos pos' : Pos} (ha : DE X pl G e wa) (h : G[i]? = some (some (own as)) := by rfl) (hN : X.N[i]? = some x := by rfl) (hv : Vis X.env.scope x := by first | exact Or.inl rfl | exact Or.inr (Or.inl rfl) | exact Or.inr (Or.inr rfl)) (hd : (x == ("__debug__" : Str)) = false := by decide)
    (hcd : (x == ("__classdict__" : Str)) = false := by decide) (hm : behindInMarks .In (.Name x pos') = false := by first | exact nomark _ | rfl) : DT X pl G (.Compare e [.In] [.Name x pos'] pos) (fun P => wa fun a => P (decide (a ∈ as))) :=
  PT.wk (pt_cmpR op_in_seq ha (pe_var hN hv hd hcd) hm) (tTest_go (inO_go (X := X) (neg := false) i (fun _ _ _ z => z) h))
theorem de_ninO (i : Nat) {as : List Int} {x : Str} {pos pos' : Pos} (ha : DE X pl G e wa) (h : G[i]? = some (some (own as)) := by rfl) (hN : X.N[i]? = some x := by rfl) (hv : Vis X.env.scope x := by first | exact Or.inl rfl | exact Or.inr (Or.inl rfl) | exact Or.inr (Or.inr rfl)) (hd : (x == ("__debug__" : Str)) = false := by decide)
    (hcd : (x == ("__classdict__" : Str)) = false := by decide) (hm : behindInMarks .NotIn (.Name x pos') = false := by first | exact nomark _ | rfl) : DE X pl G (.Compare e [.NotIn] [.Name x pos'] pos) (fun P => wa fun a => P (!decide (a ∈ as))) :=
  PE.wk (pe_cmpR op_notIn_seq ha (pe_var hN hv hd hcd) hm) (inO_go (X := X) (neg := true) i (fun _ _ _ z => z) h)
theorem dt_ninO (i : Nat) {as : List Int} {x : Str} {pos pos' : Pos} (ha : DE X pl G e wa) (h : G[i]? = some (some (own as)) := by rfl) (hN : X.N[i]? = some x := by rfl) (hv : Vis X.env.scope x := by first | exact Or.inl rfl | exact Or.inr (Or.inl rfl) | exact Or.inr (Or.inr rfl)) (hd : (x == ("__debug__" : Str)) = false := by decide)
    (hcd : (x == ("__classdict__" : Str)) = false := by decide) (hm : behindInMarks .NotIn (.Name x pos') = false := by first | exact nomark _ | rfl) : DT X pl G (.Compare e [.NotIn] [.Name x pos'] pos) (fun P => wa fun a => P (!decide (a ∈ as))) :=
  PT.wk (pt_cmpR op_notIn_seq ha (pe_var hN hv hd hcd) hm) (tTest_go (inO_go (X := X) (neg := true) i (fun _ _ _ z => z) h))
end
end Dm

set_option Elab.async false
set_option linter.all false
set_option maxRecDepth 100000
set_option maxHeartbeats 2000000
/-! Dm: part Zm: a test in which an own list is only read. -/
namespace Dm
open PySem PySem.Spec PyProof.Rows L2
variable [TabC]
/-- nothing in it is owned -/
def NoS (G : Env) : Prop := ∀ (i : Nat) (A : Asrt), G[i]? = some (some A) → ∀ F H v S q, A F H v S → ¬ S q
theorem nos_nil : NoS [] := fun i A h => by cases h
theorem nos_none {G : Env} (h : NoS G) : NoS (none :: G) := fun i A e => by
  cases i with
  | zero => cases e
  | succ i => exact h i A e
theorem nos_fro {α : Type} [Enc α] {a : α} {G : Env} (h : NoS G) : NoS (some (fro a) :: G) := fun i A e => by
  cases i with
  | zero => cases e; exact fun F H v S q b => b.1 q
  | succ i => exact h i A e
section
variable {X : Cx} {pl : Pl} {G G2 : Env} {α : Type} [Enc α]
theorem dt_peek (j : Nat) {as : List α} {e : Expr} {w : W Bool} (hs : Sub G G2) (no : NoS G2) (h : DT X none (G2.set j (some (fro as))) e w) (hj : G[j]? = some (some (own as)) := by rfl) (hl : Nat.blt j G2.length = true := by rfl) : DT X pl G e w := PT.wk h fun s H Q ⟨F, fp, at_, P, w, K⟩ => by
  obtain ⟨_, u, huu, l, vs, rfl, hS, hF, hH, ha⟩ := at_.sl j _ hj
  have exF1 : Ex F (upd F l (.lst vs)) := Ex.new hF
  have ex1 : Ex (upd F l (.lst vs)) H := fun q o e => by
    by_cases z : q = l
    · rw [z, upd_same] at e; rw [z, hH]; exact e
    · rw [upd_ne z] at e; exact at_.ex q o e
  obtain ⟨fp1, a1, _⟩ := at_.sub hs
  have emp : ∀ i q, ¬ fp1 i q := fun i q m => by
    obtain ⟨A, eA⟩ := a1.out i q m
    obtain ⟨_, v, _, hA⟩ := a1.sl i A eA
    exact no i A eA _ _ _ _ q hA m
  have a2 : At none G2 (upd F l (.lst vs)) H s fp1 := ⟨ex1, a1.len, fun i A eA => by
    obtain ⟨g, v, hv, hA⟩ := a1.sl i A eA
    exact ⟨g, v, hv, g.frame hA exF1 fun q m => (emp i q m).elim⟩, a1.dis, a1.out, PoolOk.none (at_.pool.tab.frame exF1 fun q m => ⟨by
    rw [upd_ne fun z => at_.pdis j l ((hS l).mpr rfl) (by rw [← z]; exact .inr m)]; exact (at_.pool.tab.there m).1, rfl⟩), fun i q m => (emp i q m).elim⟩
  obtain ⟨fp3, a3, l3⟩ := a2.setF (i := j) (x := as) (blt_lt hl) (show Has (upd F l (.lst vs)) (.ref l) (enc as) from .lst upd_same (ha.mono exF1))
  have es : s.set j (some (.ref l)) = s := by
    apply List.ext_getElem?
    intro m
    by_cases z : j = m
    · subst z
      have : j < s.length := by
        by_cases c : j < s.length
        · exact c
        · rw [List.getElem?_eq_none (by omega)] at huu; cases huu
      rw [List.getElem?_set_self this]; exact huu.symm
    · rw [List.getElem?_set_ne z]
  rw [es] at a3
  refine ⟨_, fp3, a3, P, w, fun b F2 H2 fp5 pb a5 g5 => ?_⟩
  have hl2 : F2 l = some (.lst vs) := g5.exF l _ upd_same
  have e3 : Ex (dropL F2 l) H2 := fun q o e => by
    by_cases z : q = l
    · rw [z, dropL_eq] at e; cases e
    · rw [dropL_ne z] at e; exact a5.ex q o e
  have g3 : Go none F H noF (dropL F2 l) H2 noF := ⟨fun q o e => by
      have z : q ≠ l := fun z => by rw [z, hF] at e; cases e
      rw [dropL_ne z]; exact g5.exF q o (exF1 q o e), fun q h _ n => by
      have kq := g5.keep q h (fun i m => emp i q (l3 i q m)) n
      refine ⟨kq.1, fun f0 => ?_⟩
      by_cases z : q = l
      · rw [z]; exact dropL_eq
      · rw [dropL_ne z]; exact kq.2 (by rw [upd_ne z]; exact f0), fun i q m => m.elim, g5.grow⟩
  obtain ⟨a6, g6⟩ := at_.back (.inl rfl) e3 (PoolOk.none (a5.pool.tab.drop hl2)) g3
  exact K b (dropL F2 l) H2 fp pb a6 g6
end
end Dm

set_option Elab.async false
set_option linter.all false
set_option maxRecDepth 100000
set_option maxHeartbeats 2000000
/-! Dm: part Zn: try with several handlers, with names and without; what is behind the handler that takes the error is not looked at. -/
namespace Dm
open PySem PySem.Spec PyProof.Rows L2
variable [TabC]
abbrev HdT := Value × Option Nat × (Addr → Value → Option Addr → TS)
def outAs (i : Nat) (D : Ends) : Ends := { nx := fun σ' H' => D.nx (List.set σ' i none) H', rt := D.rt, bk := fun σ' H' => D.bk (List.set σ' i none) H', ct := fun σ' H' => D.ct (List.set σ' i none) H' }
def wMix (K : Fr) (D : Ends) : List HdT → WX
  | [] => fun _ _ _ _ => False
  | (c, none, ts) :: r => fun cls d σ H => ∃ b, PySem.W.exmOne K cls c = some b ∧ (b = true → ∀ a, H a = none → ts a cls d D σ H) ∧ (b = false → wMix K D r cls d σ H)
  | (c, some i, ts) :: r => fun cls d σ H => ∃ b, PySem.W.exmOne K cls c = some b ∧ (b = true → ∀ a, H a = none → ts a cls d (outAs i D) (List.set σ i (some (.ref a))) H) ∧ (b = false → wMix K D r cls d σ H)
inductive HdsM (X : Cx) : List ExceptHandler → List HdT → Prop
  | nil {hds : List ExceptHandler} : HdsM X hds []
  | bare {x : Str} {c : Value} {ts : Addr → Value → Option Addr → TS} {b₀ : Stmt} {suite : List Stmt} {np pos' : Pos} {hds : List ExceptHandler} {l : List HdT} : Names X x c →
      (∀ (a : Addr) (oe : Obj) (cls : Value) (d : Option Addr) (pn : List (Addr × Obj)), Zc cls d oe → (∃ vs, oe.data = .fields vs) → PSs (X.suite a ((a, oe) :: pn)) (b₀ :: suite) (ts a cls d)) →
      HdsM X hds l → HdsM X (.ExceptHandler (some (.Name x np)) none (b₀ :: suite) pos' :: hds) ((c, none, ts) :: l)
  | named {x n : Str} {i : Nat} {c : Value} {ts : Addr → Value → Option Addr → TS} {b₀ : Stmt} {suite : List Stmt} {np pos' : Pos} {hds : List ExceptHandler} {l : List HdT} : Names X x c → X.N[i]? = some n → X.env.kindOf n = some .local →
      (∀ (a : Addr) (oe : Obj) (cls : Value) (d : Option Addr) (pn : List (Addr × Obj)), Zc cls d oe → (∃ vs, oe.data = .fields vs) → PSs (X.suite a ((a, oe) :: pn)) (b₀ :: suite) (ts a cls d)) →
      HdsM X hds l → HdsM X (.ExceptHandler (some (.Name x np)) (some n) (b₀ :: suite) pos' :: hds) ((c, some i, ts) :: l)
theorem ps_try_mix {X : Cx} {body : List Stmt} {h₀ : ExceptHandler} {hds : List ExceptHandler} {l : List HdT} {pos : Pos} {tb : WX → TS} (hs : X.stack = X.env :: X.outer) (hf : X.env.frame = some X.env.locals) (hN : X.N.Nodup)
    (hb : ∀ (W : WX) (pn : List (Addr × Obj)) (xe : Value → Shared → Prop), Takes (X.tr pn xe) W → PSs (X.tr pn xe) body (tb W)) (hh : HdsM X (h₀ :: hds) l) : PS X (.Try body (h₀ :: hds) [] [] pos) (fun D σ H => tb (wMix X.K D l) D σ H) := ⟨fun pins s σ H D I h => by
  have ok := I.ok
  refine wpAny_Try_except (wpAny_mono ((hb (wMix X.K D l) (X.pn ++ pins) _ (fun u s' xx => ?_)).run [] s σ H D (Inv.toTry I _) h) ?_ (fun e s1 he => he))
  case refine_1 =>
    obtain ⟨a, B, sI, pins', σ', H', cls, d, eu, J', nb, up, sky, na, os, ag, w⟩ := xx
    subst eu
    have J := Inv.ofTry J' ok
    refine Sky.land Zc.steady (by rw [ok.frames, hs]) hf (by rw [← hs]; exact sky) fun h3 fl3 up3 => ?_
    have J3 : L2.Inv X pins σ' H' { heap := h3, gens := s'.gens, drawn := s'.drawn, toks := s'.toks, os := s'.os } := Inv.landed J nb fl3.left (Heap.UpToSlots.trans up up3) os ag
    obtain ⟨oe3, vs3, he3, hz3, hd3⟩ := HandSPX.FlyingZ.there fl3
    have notFr : ∀ {h : Heap} {o : Obj} {vs : Array Value} (ff : h.FunFrames B (X.env :: X.outer)), h.get? a = some o → o.data = .fields vs → ¬ a ∈ List.filterMap (fun x => x.frame) (X.env :: X.outer) := fun ff e dd hm => by
      obtain ⟨_, o', e', hnf⟩ := Heap.FunFrames.mem ff hm
      rw [e] at e'
      cases e'
      exact hnf _ dd
    have nfr := notFr fl3.right.right.left he3 hd3
    have nL : a ≠ X.env.locals := fun z => nfr (List.mem_filterMap.mpr ⟨X.env, List.mem_cons_self, by rw [hf, z]⟩)
    have nF : ¬ a ∈ X.fs := fun hm => by
      obtain ⟨e, he, q⟩ := List.mem_filterMap.mp hm
      exact nfr (List.mem_filterMap.mpr ⟨e, List.mem_cons_of_mem _ he, q⟩)
    have S3 := Inv.suite J3 he3 hd3 na nL nF
    show wpAny (model X.prog X.w) X.A (handleBy (Value.ref a) X.env (h₀ :: hds)) (SP X pins D) X.xe { heap := h3, gens := s'.gens, drawn := s'.drawn, toks := s'.toks, os := s'.os }
    generalize h₀ :: hds = hall at hh
    clear h hb
    induction hh with
    | nil => exact w.elim
    | @bare x c ts b₀ suite np pos' hds2 l2 hc hsu r ih =>
      obtain ⟨b, hb1, hyes, hno⟩ := w
      refine wpAny_handleBy_cons (codeAny_handlers_test ?_) (fun q => by cases q)
      have LT : PySem.W.Looks (model X.prog X.w) h3 (typeOf (Value.ref a)) cls := fun A Q E s k q => wpAny_typeOf_ref (k a oe3 he3) (by rw [hz3.left]; exact q)
      have LM := PySem.W.exm_one (Inv.kIn J3) LT hb1
      have test : ∀ {E : Value → Shared → Prop} {Q : Value → Shared → Prop}, Q c { heap := h3, gens := s'.gens, drawn := s'.drawn, toks := s'.toks, os := s'.os } → wpAny (model X.prog X.w) (X.A.mark (some (Value.ref a))) (eval (.Name x np) X.env) Q E { heap := h3, gens := s'.gens, drawn := s'.drawn, toks := s'.toks, os := s'.os } := fun {E Q} q => by
        obtain ⟨hg, hdb, hm | ⟨hm, hv, hnn⟩⟩ := hc
        · exact ld_glob S3 hg hm q hdb
        · exact ld_blt S3 hg hm hv q hnn hdb
      refine test (PySem.W.Looks.here LM ?_)
      cases b with
      | false => exact ih (hno rfl)
      | true =>
        refine codeAny_handlers_suite (HandSPX.lands_againZ fl3 fun h4 fl4 up4 => ?_)
        have J4 : L2.Inv X pins σ' H' { heap := h4, gens := s'.gens, drawn := s'.drawn, toks := s'.toks, os := s'.os } := Inv.landed J nb fl4.left (Heap.UpToSlots.trans (Heap.UpToSlots.trans up up3) up4) os ag
        obtain ⟨oe4, vs4, he4, hz4, hd4⟩ := HandSPX.FlyingZ.there fl4
        have S4 := Inv.suite J4 he4 hd4 na nL nF
        refine wpAny_mono ((hsu a oe4 cls d (X.pn ++ pins) hz4 ⟨vs4, hd4⟩).run [] _ σ' H' D S4 (hyes rfl a na)) (fun f s6 hsp => ?_) (fun _ _ z => z.elim)
        cases f with
        | next =>
          obtain ⟨σ6, H6, S6, q6⟩ := hsp
          exact ⟨σ6, H6, Inv.unsuite S6 ok, q6⟩
        | brk =>
          obtain ⟨σ6, H6, S6, q6⟩ := hsp
          exact ⟨σ6, H6, Inv.unsuite S6 ok, q6⟩
        | cont =>
          obtain ⟨σ6, H6, S6, q6⟩ := hsp
          exact ⟨σ6, H6, Inv.unsuite S6 ok, q6⟩
        | ret u =>
          obtain ⟨v6, σ6, H6, S6, r6, q6⟩ := hsp
          exact ⟨v6, σ6, H6, Inv.unsuite S6 ok, r6, q6⟩
    | @named x n i c ts b₀ suite np pos' hds2 l2 hc hi hln hsu r ih =>
      obtain ⟨b, hb1, hyes, hno⟩ := w
      refine wpAny_handleBy_cons (codeAny_handlers_test ?_) (fun q => by cases q)
      have LT : PySem.W.Looks (model X.prog X.w) h3 (typeOf (Value.ref a)) cls := fun A Q E s k q => wpAny_typeOf_ref (k a oe3 he3) (by rw [hz3.left]; exact q)
      have LM := PySem.W.exm_one (Inv.kIn J3) LT hb1
      have test : ∀ {E : Value → Shared → Prop} {Q : Value → Shared → Prop}, Q c { heap := h3, gens := s'.gens, drawn := s'.drawn, toks := s'.toks, os := s'.os } → wpAny (model X.prog X.w) (X.A.mark (some (Value.ref a))) (eval (.Name x np) X.env) Q E { heap := h3, gens := s'.gens, drawn := s'.drawn, toks := s'.toks, os := s'.os } := fun {E Q} q => by
        obtain ⟨hg, hdb, hm | ⟨hm, hv, hnn⟩⟩ := hc
        · exact ld_glob S3 hg hm q hdb
        · exact ld_blt S3 hg hm hv q hnn hdb
      refine test (PySem.W.Looks.here LM ?_)
      cases b with
      | false => exact ih (hno rfl)
      | true =>
        refine codeAny_handlers_suite_as (HandSPX.lands_againZ fl3 fun h4 fl4 up4 => ?_)
        have J4 : L2.Inv X pins σ' H' { heap := h4, gens := s'.gens, drawn := s'.drawn, toks := s'.toks, os := s'.os } := Inv.landed J nb fl4.left (Heap.UpToSlots.trans (Heap.UpToSlots.trans up up3) up4) os ag
        obtain ⟨oe4, vs4, he4, hz4, hd4⟩ := HandSPX.FlyingZ.there fl4
        have S4 := Inv.suite J4 he4 hd4 na nL nF
        refine store_ok (X := X.suite a ((a, oe4) :: (X.pn ++ pins))) (v := .ref a) S4 hN hi (.inl hln) rfl (fun s5 S5 => ?_) (.inr hln)
        refine wpAny_mono ((hsu a oe4 cls d (X.pn ++ pins) hz4 ⟨vs4, hd4⟩).run [] s5 (List.set σ' i (some (.ref a))) H' (outAs i D) S5 (hyes rfl a na)) (fun f s6 hsp => ?_) (fun _ _ z => z.elim)
        cases f with
        | next =>
          obtain ⟨σ6, H6, S6, q6⟩ := hsp
          exact gone_ok (Inv.unsuite S6 ok) hN hi hln fun s7 J7 => ⟨_, H6, J7, q6⟩
        | brk =>
          obtain ⟨σ6, H6, S6, q6⟩ := hsp
          exact gone_ok (Inv.unsuite S6 ok) hN hi hln fun s7 J7 => ⟨_, H6, J7, q6⟩
        | cont =>
          obtain ⟨σ6, H6, S6, q6⟩ := hsp
          exact gone_ok (Inv.unsuite S6 ok) hN hi hln fun s7 J7 => ⟨_, H6, J7, q6⟩
        | ret u =>
          obtain ⟨v6, σ6, H6, S6, r6, q6⟩ := hsp
          exact gone_ok (Inv.unsuite S6 ok) hN hi hln fun s7 J7 => ⟨v6, _, H6, J7, r6, q6⟩
  case refine_2 =>
    intro f s1 hsp
    cases f with
    | next =>
      obtain ⟨σ', H', J', q⟩ := hsp
      exact wpAny_execs_nil ⟨σ', H', Inv.ofTry J' ok, q⟩
    | brk =>
      obtain ⟨σ', H', J', q⟩ := hsp
      exact ⟨σ', H', Inv.ofTry J' ok, q⟩
    | cont =>
      obtain ⟨σ', H', J', q⟩ := hsp
      exact ⟨σ', H', Inv.ofTry J' ok, q⟩
    | ret u =>
      obtain ⟨v, σ', H', J', r, q⟩ := hsp
      exact ⟨v, σ', H', Inv.ofTry J' ok, r, q⟩⟩
end Dm

set_option Elab.async false
set_option linter.all false
set_option maxRecDepth 100000
set_option maxHeartbeats 2000000
/-! Dm: part Zo: range with a step, sums of tuples, a module's tuple of strings, rows joined and put in, lists unpacked. -/
namespace Dm
open PySem PySem.Spec PyProof.Rows L2
variable [TabC]
/-! ### range(a, b, c) -/
def rngC (lo c : Int) (n : Nat) : List Int := (List.range n).map fun i : Nat => lo + (i : Int) * c
theorem rngC_get {lo c : Int} {n i : Nat} : (rngC lo c n)[i]? = if i < n then some (lo + (i : Int) * c) else none := by
  unfold rngC
  rw [List.getElem?_map]
  by_cases h : i < n
  · rw [if_pos h, List.getElem?_range h]; rfl
  · rw [if_neg h, List.getElem?_eq_none (by rw [List.length_range]; omega)]; rfl
theorem rngC_len {lo c : Int} {n : Nat} : (rngC lo c n).length = n := by unfold rngC; rw [List.length_map, List.length_range]
theorem iters_rngC {lo c : Int} {n : Nat} {F0 : Hp} : Iters (Itc lo c n) (rngC lo c n) F0 where
  turn := fun F H i a e1 e2 ha => by
    rw [rngC_get] at ha
    by_cases h : i < n
    · rw [if_pos h] at ha
      cases ha
      refine ⟨h, fun x H' ⟨e, k⟩ => ⟨F, ?_, ?_⟩⟩
      · rw [e]; exact New.refl e2
      · rw [k]; exact .int _
    · rw [if_neg h] at ha; cases ha
  stop := fun F H e1 e2 => by
    show n ≤ (rngC lo c n).length
    rw [rngC_len]; exact Nat.le_refl _
def wRgC (a b c : Int) (P : List Int → Prop) : Prop := ∃ n : Nat, RgC a b c n ∧ P (rngC a c n)
section
variable {X : Cx} {pl : Pl} {G : Env} {κ κ' ρ : Type} {B : Rt ρ} {s : L2.St} {F H F1 H1 F' H' : Hp} {fp fp1 : Foot}
variable {α β γ : Type} [Enc α] [Enc β] [Enc γ]
theorem di_rng3 {tg a b c : Expr} {w u v : W Int} {p pos : Pos} (hm : X.mg "range" = none) (h : DE X pl G a w) (k : DE X pl G b u) (l : DE X pl G c v) (hg : Gl X "range" := by rfl) (hs : starEach [a, b, c] X.env = (false, eval a X.env) :: starEach [b, c] X.env := by rfl) (hs2 : starEach [b, c] X.env = (false, eval b X.env) :: starEach [c] X.env := by rfl) (hs3 : starEach [c] X.env = (false, eval c X.env) :: starEach [] X.env := by rfl) (hp : ((backTo pos (starEach [b, c] X.env)).any (·.1)) = false := by rfl) :
    DI X pl G tg (.Call (.Name "range" p) [a, b, c] [] pos) (fun P => w fun x => u fun y => v fun z => wRgC x y z P) := PI.wk (pi_range3 hg hm (pa_cons h (pa_cons k (pa_cons l pa_nil hs3) hs2) hs) hs hp) fun s H R ⟨F, fp, at_, P, w, K⟩ =>
  ⟨F, fp, at_, _, w, fun x v1 F1 H1 fp1 S1 p a1 g1 b1 _ => ⟨F1, fp1, a1, _, p, fun y v2 F2 H2 fp2 S2 p a2 g2 b2 _ => ⟨F2, fp2, a2, _, p, fun z v3 F3 H3 fp3 S3 ⟨n, hn, p⟩ a3 g3 b3 _ => by
    cases b1.2; cases b2.2; cases b3.2
    exact ⟨x, y, z, n, rfl, hn, K (rngC x z n) F3 H3 fp3 _ p a3 ((g1.trans g2).trans g3) iters_rngC⟩⟩⟩⟩
/-! ### sum(a tuple) -/
theorem sum_tup {prog : Program} {w : World} {A : Around} {E : Value → Shared → Prop} {s : Shared} {l : Addr} {its : List Value} {ns : List Int} {Q : Value → Shared → Prop} (hh : A.handled = none) (hl : IsTup s.heap l its.toArray) (hi : IntsAre its ns)
    (h : ∀ (h' : Heap) (tk : Nat) (t' : Tok), (∀ (b : Addr) (o : Obj), s.heap.get? b = some o → h'.get? b = some o) → Q (.int ns.sum t') { heap := h', gens := s.gens, drawn := s.drawn, toks := tk, os := s.os }) : wpAny (model prog w) A (call (.builtin "sum") [.ref l]) Q E s := by
  obtain ⟨xs, e⟩ := AllInts.items hi.allInts
  have hn : numsOf (intItems xs).toList = ns := by rw [← e]; exact hi.numsOf
  rw [e] at hl
  have hlt : l < s.heap.objs.size := by obtain ⟨o, ho, _⟩ := hl; exact Heap.lt_size ho
  have hne : l ≠ s.heap.objs.size := Nat.ne_of_lt hlt
  refine call_sum_walkG (iter_tuple hl ?_)
  obtain ⟨o, ho, hc, n, hd⟩ := hl
  refine ⟨s.heap.objs.size, [s.heap.objs.size, l], [s.heap.objs.size], (intItems xs).size, fun i v => (intItems xs)[i]? = some v, fun i h => h.IsTupleIter s.heap.objs.size l i ∧ h.IsTuple l (intItems xs), numAt xs, rfl, Walks.tuple (A := A.in1) hh s.heap.objs.size l hne (intItems xs), ⟨⟨_, Heap.get?_push_size _ rfl, rfl, rfl⟩, ⟨o, Heap.get?_push_of_some _ ho, hc, n, hd⟩⟩, fun b hb => ?_, fun i v => intItems_at, fun h' tk t' hk => ?_⟩
  · rw [show ∀ (h : Heap) (o : Obj), (h.push o).objs.size = h.objs.size + 1 from fun h o => Array.size_push ..]
    rcases List.mem_cons.mp hb with z | z
    · rw [z]; exact Nat.lt_succ_self _
    · rw [List.mem_singleton.mp z]; exact Nat.lt_succ_of_lt hlt
  · have e2 : preSum (numAt xs) (intItems xs).size = ns.sum := by
      rw [preSum_eq, List.take_of_length_le (by rw [List.length_map]; unfold intItems; rw [Array.size_map]; exact Nat.le_of_eq (by rw [Array.length_toList])), ← nums_intItems, hn]
    rw [e2]
    refine h h' tk t' fun b o q => hk b o (fun z => ?_) (Heap.get?_push_of_some _ q)
    rw [List.mem_singleton.mp z] at q
    exact Nat.lt_irrefl _ (Heap.lt_size q)
def rSumT (K : Fr) : List V → Hp → VK → Prop := fun vs H Q => ∃ (a : Addr) (ns : List Int), vs = [V.ref a] ∧ SqT K H a (ns.map V.int) ∧ Q (.int ns.sum) H
theorem cr_sumT (hc : X.calm = true) : CallR X (.builtin "sum") (rSumT X.K) := by
  intro pins s σ H vs us Q I r h
  obtain ⟨a, ns, rfl, hs, q⟩ := h
  obtain ⟨its, rv, p, hz⟩ := I.tuple hs
  rw [Vals.ref1 r]
  exact sum_tup (I.ok.hd hc) p (Vals.ints rv) fun h' tk t' hk => ⟨.int ns.sum, H, Inv.kept I hk, ⟨t', rfl⟩, q⟩
theorem intsT {F : Hp} {v : V} {l : List Int} (h : Has F v (enc (Tup.mk l))) : ∃ a, v = .ref a ∧ TupAt F a (l.map V.int) := by
  cases h with
  | tup h1 h2 =>
    refine ⟨_, rfl, ?_⟩
    rename_i a vs
    have : vs = l.map V.int := by
      clear h1
      induction l generalizing vs with
      | nil => cases h2; rfl
      | cons x l ih =>
        cases h2 with
        | cons hx hr => cases hx; rw [ih hr]; rfl
    rw [← this]; exact h1
theorem de_sumT {e : Expr} {w : W (Tup Int)} {p pos : Pos} (hc : X.calm = true) (hm : X.mg "sum" = none) (h : DE X pl G e w) (hg : Gl X "sum" := by rfl) (he : starEach [e] X.env = (false, eval e X.env) :: starEach [] X.env := by rfl) (hpl : (backTo pos (starEach [] X.env)).any (·.1) = false := by rfl) : DE X pl G (.Call (.Name "sum" p) [e] [] pos) (fun P => w fun l => P l.l.sum) := PE.wk (pe_callB (cr_sumT hc) hg hm (by decide +kernel) (pa_cons h pa_nil he) (by decide) (by decide) he hpl) fun s H Q ⟨F, fp, at_, P, w, K⟩ =>
  ⟨F, fp, at_, _, w, fun a v F1 H1 fp1 S1 w1 a1 g1 b1 _ => by
    obtain ⟨q, rfl, hq⟩ := intsT b1.2
    exact ⟨q, a.l, rfl, TupAt.sq (TupAt.mono a1.ex hq), K.pure a1 g1 w1 (.int _)⟩⟩
/-! ### a module's tuple of strings -/
def KStrs (K : Fr) (c : Addr) (xs : List Str) : Prop := ∃ o its n, List.lookup c K = some o ∧ o.cls = .type "tuple" ∧ o.data = .seq its n ∧ its.size ≤ sizeLine ∧ Vals (xs.map V.str) its.toList
theorem KStrs.sq {K : Fr} {c : Addr} {xs : List Str} (h : KStrs K c xs) (H : Hp) : SqT K H c (xs.map V.str) := .inr h
theorem iters_strs {K : Fr} {p : Addr} {xs : List Str} {F0 : Hp} (h : KStrs K p xs) : Iters (Itt K p) xs F0 where
  turn := fun F H i a e1 e2 ha => by
    have hx : (xs.map V.str)[i]? = some (.str a) := by rw [List.getElem?_map, ha]; rfl
    refine ⟨⟨_, _, h.sq H, hx⟩, fun y H' ⟨e, k⟩ => ⟨F, ?_, ?_⟩⟩
    · rw [e]; exact New.refl e2
    · have e := (k _ (h.sq H)).symm.trans hx
      cases e
      exact .str a
  stop := fun F H e1 e2 => ⟨_, h.sq H, by rw [List.length_map]; exact Nat.le_refl _⟩
theorem pe_globA {x : Str} {c : Addr} {pos : Pos} (hg : Gl X x) (hm : X.mg x = some (.ref c)) (hd : (x == ("__debug__" : Str)) = false := by decide) : PE X (.Name x pos) (tC (.ref c)) := pe_glob hg hm rfl hd
theorem di_strs {tg : Expr} {x : Str} {c : Addr} {xs : List Str} {pos : Pos} (hm : X.mg x = some (.ref c)) (hk : KStrs X.K c xs) (hg : Gl X x := by rfl) (hd : (x == ("__debug__" : Str)) = false := by decide) : DI X pl G tg (.Name x pos) (fun P => P xs) := PI.wk (pi_tup (pe_globA hg hm hd)) fun s H R ⟨F, fp, at_, P, w, K⟩ =>
  ⟨c, rfl, ⟨_, hk.sq H⟩, K xs F H fp _ w at_ .refl (iters_strs hk)⟩
/-! ### rows joined, a new row, rows put in -/
theorem Rws.app {ps qs : List Addr} {as bs : List (List α)} (h : Rws F H ps as) (k : Rws F H qs bs) : Rws F H (ps ++ qs) (as ++ bs) := by
  induction h with
  | nil => exact k
  | cons a b c r ih => exact .cons a b c ih
theorem dx_one2 {e : Expr} {pos : Pos} {w : W (List α)} (h : DX X pl G e (fun a : List α => own a) w) (hs : starEach [e] X.env = (false, eval e X.env) :: starEach [] X.env := by rfl) : DX X pl G (.List [e] pos) (fun a : List (List α) => own2 a) (fun P => w fun a => P [a]) := PE.wk (pe_lst (pa_cons h pa_nil hs)) fun s H Q ⟨F, fp, at_, P, w, K⟩ =>
  ⟨F, fp, at_, _, w, fun a v F1 H1 fp1 S1 p a1 g1 b1 hS => ⟨by show 1 ≤ sizeLine; decide, fun q hq => by
    obtain ⟨l, vs, rfl, hs, hF, hH, ha⟩ := b1
    have lq : l ≠ q := fun z => by rw [z] at hH; rw [hq] at hH; cases hH
    have n : New F1 H1 F1 (upd H1 q (.lst [.ref l])) := New.own a1.ex hq
    refine K [a] (.ref q) F1 _ fp1 (fun x => x ∈ [q, l]) p (a1.new n) (g1.trans (.new n)) ⟨q, [l], rfl, fun _ => Iff.rfl, ?_, a1.fnone hq, upd_same, .cons hF ((upd_ne lq).trans hH) ha .nil⟩ fun x m => ?_
    · exact List.nodup_cons.mpr ⟨fun m => lq (List.mem_singleton.mp m).symm, List.nodup_cons.mpr ⟨List.not_mem_nil, List.nodup_nil⟩⟩
    · rcases List.mem_cons.mp m with z | z
      · rw [z]; exact ⟨g1.back hq, a1.nofp hq, a1.nopl hq⟩
      · rw [List.mem_singleton.mp z]
        exact hS l ((hs l).mpr rfl)⟩⟩
theorem dx_cat2 {e e' : Expr} {wa wb : W (List (List α))} {pos : Pos} (ha : DX X pl G e (fun a : List (List α) => own2 a) wa) (hb : DX X pl G e' (fun a : List (List α) => own2 a) wb) : DX X pl G (.BinOp e .Add e' pos) (fun a : List (List α) => own2 a) (fun P => wa fun a => wb fun b => a.length + b.length ≤ 100000 ∧ P (a ++ b)) := PE.wk (pe_op op_cat ha hb) fun s H Q ⟨F, fp, at_, P, w, K⟩ =>
  ⟨F, fp, at_, _, w, fun a v F1 H1 fp1 S1 p a1 g1 b1 hS => ⟨F1, fp1, a1, _, p, fun b u F2 H2 fp2 S2 ⟨ln, p⟩ a2 g2 b2 hS2 => by
    obtain ⟨b1', o1⟩ := g2.float (good_own2 a) b1 fun q m => (hS q m).2
    obtain ⟨l1, ps1, rfl, hs1, nd1, hF1, hH1, r1⟩ := b1'
    obtain ⟨l2, ps2, rfl, hs2, nd2, hF2, hH2, r2⟩ := b2
    refine ⟨l1, l2, _, _, rfl, rfl, hH1, hH2, lineOf (by rw [List.length_map, List.length_map, r1.length, r2.length]; exact ln), fun q hq => ?_⟩
    have n : New F2 H2 F2 (upd H2 q (.lst (ps1.map V.ref ++ ps2.map V.ref))) := New.own a2.ex hq
    have q1 : ∀ x, x ∈ ps1 → x ≠ q := fun x m z => by
      obtain ⟨_, vs, h⟩ := r1.mem m
      rw [z, hq] at h; cases h
    have q2 : ∀ x, x ∈ ps2 → x ≠ q := fun x m z => by
      obtain ⟨_, vs, h⟩ := r2.mem m
      rw [z, hq] at h; cases h
    refine K (a ++ b) (.ref q) F2 _ fp2 (fun x => x ∈ q :: (ps1 ++ ps2)) p (a2.new n) ((g1.trans g2).trans (.new n)) ⟨q, ps1 ++ ps2, rfl, fun _ => Iff.rfl, ?_, a2.fnone hq, by rw [upd_same, List.map_append], ?_⟩ fun x m => ?_
    · refine List.nodup_cons.mpr ⟨fun m => ?_, List.nodup_append.mpr ⟨(List.nodup_cons.mp nd1).2, (List.nodup_cons.mp nd2).2, fun x hx y hy z => ?_⟩⟩
      · rcases List.mem_append.mp m with z | z
        · exact q1 q z rfl
        · exact q2 q z rfl
      · subst z
        exact absurd ((hS2 x ((hs2 x).mpr (List.mem_cons_of_mem _ hy))).1) (((good_own2 a).own b1 x ((hs1 x).mpr (List.mem_cons_of_mem _ hx))).2)
    · exact (r1.frame (Ex.refl _) fun x m => ⟨(r1.mem m).1, upd_ne (q1 x m)⟩).app (r2.frame (Ex.refl _) fun x m => ⟨(r2.mem m).1, upd_ne (q2 x m)⟩)
    · rcases List.mem_cons.mp m with z | m
      · rw [z]; exact ⟨g1.back (g2.back hq), a2.nofp hq, a2.nopl hq⟩
      · rcases List.mem_append.mp m with z | z
        · have m1 := (hs1 x).mpr (List.mem_cons_of_mem _ z)
          exact ⟨(hS x m1).1, o1 x m1⟩
        · have m2 := (hs2 x).mpr (List.mem_cons_of_mem _ z)
          exact ⟨g1.back (hS2 x m2).1, (hS2 x m2).2⟩⟩⟩
theorem Rws.row {r : Addr} {vs : List V} {b : List α} : ∀ {ps : List Addr} {ass : List (List α)} {n : Nat}, Rws F H ps ass → F r = none → H r = some (.lst vs) → HasAll F vs (b.map Enc.enc) → Rws F H (ps.set n r) (ass.set n b)
  | _, _, n, .nil, _, _, _ => by cases n <;> exact .nil
  | _, _, 0, .cons a1 b1 c1 rr, f, h, k => .cons f h k rr
  | _, _, n + 1, .cons a1 b1 c1 rr, f, h, k => .cons a1 b1 c1 (rr.row (n := n) f h k)
theorem mem_set' {x r : Addr} : ∀ {ps : List Addr} {n : Nat}, x ∈ ps.set n r → x = r ∨ x ∈ ps
  | [], n, h => by cases n <;> exact .inr h
  | p :: ps, 0, h => (List.mem_cons.mp h).elim .inl fun z => .inr (List.mem_cons_of_mem _ z)
  | p :: ps, n + 1, h => (List.mem_cons.mp h).elim (fun z => .inr (z ▸ List.mem_cons_self)) fun z => (mem_set' z).elim .inl fun y => .inr (List.mem_cons_of_mem _ y)
theorem nodup_set' {r : Addr} : ∀ {ps : List Addr} {n : Nat}, ps.Nodup → r ∉ ps → (ps.set n r).Nodup
  | [], n, h, _ => by cases n <;> exact h
  | p :: ps, 0, h, hr => List.nodup_cons.mpr ⟨fun m => hr (List.mem_cons_of_mem _ m), (List.nodup_cons.mp h).2⟩
  | p :: ps, n + 1, h, hr => List.nodup_cons.mpr ⟨fun m => (mem_set' m).elim (fun z => hr (z ▸ List.mem_cons_self)) (List.nodup_cons.mp h).1, nodup_set' (List.nodup_cons.mp h).2 fun m => hr (List.mem_cons_of_mem _ m)⟩
/-- x[i] = a new list, x rows -/
theorem ds_setRow (i : Nat) {ass : List (List α)} {x : Str} {e e' : Expr} {w : W (List α)} {wi : W Int} {p sp pos : Pos} (he : DX X pl G e (fun a : List α => own a) w) (hb : DQ X pl G e' wi) (h : G[i]? = some (some (own2 ass)) := by rfl) (hN : X.N[i]? = some x := by rfl) (hv : Vis X.env.scope x := by first | exact Or.inl rfl | exact Or.inr (Or.inl rfl) | exact Or.inr (Or.inr rfl)) (hd : (x == ("__debug__" : Str)) = false := by decide)
    (hcd : (x == ("__classdict__" : Str)) = false := by decide)
    (ha : ∀ v, assign (.Subscript (.Name x p) e' sp) X.env v = (do
          let ov ← holding [v] (eval (.Name x p) X.env)
          let iv ← holding [v, ov] (eval e' X.env)
          standAt sp
          holding [v, ov, iv] (setItem ov iv v)
          release [v, ov, iv] []) := by intro _; rfl)
    (hs1 : swapsWithSole [.Subscript (.Name x p) e' sp] e pos.line X.env = pure false := by rfl) (hs2 : swappedStores [.Subscript (.Name x p) e' sp] e X.env = pure none := by rfl) :
    DS X pl G B (.Assign [.Subscript (.Name x p) e' sp] e pos) (fun nx _ => w fun a => wi fun j => wSet ass j a nx) (fun as' : List (List α) => G.set i (some (own2 as'))) :=
  PS.wk (ps_asg he (pg_sub (pe_var hN hv hd hcd) hb set_list ha) hs1 hs2) fun D s H ⟨F, fp, at_, Pn, Pr, w, K1, K2⟩ => by
    refine ⟨F, fp, at_, _, w, fun b u F1 H1 fp1 S1 wi1 a1 g1 b1 hS => ?_⟩
    obtain ⟨_, v, hv, l, ps, rfl, hSS, nd, hF, hH, hr⟩ := a1.sl i _ h
    obtain ⟨r, vs, rfl, hs, rF, rH, ra⟩ := b1
    refine ⟨.ref l, hv, F1, fp1, a1, _, wi1, fun j z ⟨n, hn, p⟩ bj => ?_⟩
    cases bj
    refine ⟨l, _, j, n, rfl, rfl, hH, by rw [List.length_map, hr.length]; exact hn, ?_⟩
    have r0 := hS r ((hs r).mpr rfl)
    have li : fp1 i l := (hSS l).mpr List.mem_cons_self
    have lr : r ≠ l := fun z => r0.2.1 i (by rw [z]; exact li)
    have rps : r ∉ ps := fun m => r0.2.1 i ((hSS r).mpr (List.mem_cons_of_mem _ m))
    have hi := a1.lt h
    have rn : Rws F1 (upd H1 l (.lst ((ps.map V.ref).set n (.ref r)))) (ps.set n r) (ass.set n b) :=
      (hr.frame (Ex.refl _) fun q m => ⟨(hr.mem m).1, upd_ne fun z => (List.nodup_cons.mp nd).1 (by rw [← z]; exact m)⟩).row rF ((upd_ne lr).trans rH) ra
    have new : own2 (ass.set n b) F1 (upd H1 l (.lst ((ps.map V.ref).set n (.ref r)))) (.ref l) (fun q => q ∈ l :: ps.set n r) := ⟨l, ps.set n r, rfl, fun _ => Iff.rfl, List.nodup_cons.mpr ⟨fun m => (mem_set' m).elim (fun z => lr z.symm) (List.nodup_cons.mp nd).1, nodup_set' (List.nodup_cons.mp nd).2 rps⟩, hF, by rw [upd_same, List.map_set], rn⟩
    have sub : ∀ q, q ∈ l :: ps.set n r → q = r ∨ fp1 i q := fun q m => by
      rcases List.mem_cons.mp m with z | z
      · rw [z]; exact .inr li
      · exact (mem_set' z).elim .inl fun y => .inr ((hSS q).mpr (List.mem_cons_of_mem _ y))
    have a2 : At pl (G.set i (some (own2 (ass.set n b)))) F1 (upd H1 l (.lst ((ps.map V.ref).set n (.ref r)))) s (fun k q => if k = i then q ∈ l :: ps.set n r else fp1 k q) := by
      refine ⟨fun q o e => ?_, by rw [List.length_set]; exact a1.len, fun k A e => ?_, fun k m q hk hm => ?_, fun k q m => ?_, a1.pool.frame (Ex.refl _) fun q m => ⟨(a1.pool.there m).1, upd_ne fun z => a1.pdis i l li (by rw [← z]; exact m)⟩, fun k q m => ?_⟩
      · exact (upd_ne fun z => by rw [z, hF] at e; cases e).trans (a1.ex q o e)
      · by_cases hk : k = i
        · subst hk
          rw [List.getElem?_set_self hi] at e
          cases e
          refine ⟨good_own2 _, .ref l, hv, ?_⟩
          rw [show (fun q => if k = k then q ∈ l :: ps.set n r else fp1 k q) = fun q => q ∈ l :: ps.set n r by funext q; rw [if_pos rfl]]
          exact new
        · rw [List.getElem?_set_ne (Ne.symm hk)] at e
          obtain ⟨gd, v', hv', hB⟩ := a1.sl k A e
          refine ⟨gd, v', hv', ?_⟩
          rw [show (fun q => if k = i then q ∈ l :: ps.set n r else fp1 k q) = fp1 k by funext q; rw [if_neg hk]]
          exact gd.frame hB (Ex.refl _) fun q m => ⟨(gd.own hB q m).1, upd_ne fun z => hk (a1.dis k i l (z ▸ m) li)⟩
      · by_cases h1 : k = i
        · by_cases h2 : m = i
          · rw [h1, h2]
          · rw [if_pos h1] at hk
            rw [if_neg h2] at hm
            exact ((sub q hk).elim (fun z => r0.2.1 m (z ▸ hm)) fun y => h2 (a1.dis m i q hm y)).elim
        · by_cases h2 : m = i
          · rw [if_neg h1] at hk
            rw [if_pos h2] at hm
            exact ((sub q hm).elim (fun z => r0.2.1 k (z ▸ hk)) fun y => h1 (a1.dis k i q hk y)).elim
          · rw [if_neg h1] at hk
            rw [if_neg h2] at hm
            exact a1.dis k m q hk hm
      · by_cases hk : k = i
        · subst hk; exact ⟨_, List.getElem?_set_self hi⟩
        · rw [List.getElem?_set_ne (Ne.symm hk)]
          rw [if_neg hk] at m
          exact a1.out k q m
      · by_cases hk : k = i
        · rw [if_pos hk] at m
          exact (sub q m).elim (fun z => z ▸ r0.2.2) fun y => a1.pdis i q y
        · rw [if_neg hk] at m
          exact a1.pdis k q m
    have g2 : Go pl F1 H1 fp1 F1 (upd H1 l (.lst ((ps.map V.ref).set n (.ref r)))) fp1 := ⟨Ex.refl _, fun q h n' p' => ⟨upd_ne fun z => n' i (z ▸ li), fun z => z⟩, fun k q m => .inl ⟨k, m⟩, fun q h => by
      by_cases z : q = l
      · rw [z, upd_same]; simp
      · rw [upd_ne z]; exact h⟩
    refine K1 _ s F1 _ _ p a2 ((g1.trans g2).own fun k q m => ?_)
    by_cases hk : k = i
    · rw [if_pos hk] at m
      exact (sub q m).elim (fun z => .inr (z ▸ r0.1)) fun y => .inl ⟨i, y⟩
    · rw [if_neg hk] at m
      exact .inl ⟨k, m⟩
/-- a, b = e, e a list of two -/
theorem ds_unp2L {tgts : List Expr} {e : Expr} {kt : Nat} {pt pos : Pos} {w : W (List α)} {i j : Nat} (hc : X.calm = true) (h : DE X pl G e w) (hg : PGs X tgts (gNs [i, j]))
    (hlt : [i, j].all (fun i => Nat.blt i G.length) = true := by rfl)
    (hn : (assignEach tgts X.env).length = 2 := by rfl) (hst : (assignEach tgts X.env).findIdx? (·.1) = none := by rfl) (hs1 : swapsWithSole [.Tuple tgts kt pt] e pos.line X.env = pure false := by rfl) (hs2 : swappedStores [.Tuple tgts kt pt] e X.env = pure none := by rfl) :
    DS X pl G B (.Assign [.Tuple tgts kt pt] e pos) (fun nx _ => w fun l => ∃ k : P2 α α, l = [k.a, k.b] ∧ nx k) (fun k : P2 α α => setAll G [i, j] [fro k.a, fro k.b]) := PS.wk (ps_asg h (pg_lst hc hg hn hst) hs1 hs2) fun D s H ⟨F, fp, at_, Pn, Pr, w, K1, K2⟩ => by
  refine ⟨F, fp, at_, _, w, fun as v F1 H1 fp1 S1 ⟨k, el, p⟩ a1 g1 b1 _ => ?_⟩
  subst el
  obtain ⟨_, b1⟩ := b1
  cases b1 with
  | lst h1 h2 =>
    cases h2 with
    | cons x h2 => cases h2 with
      | cons y h2 => cases h2 with
        | nil =>
          rename_i q u1 u2
          refine ⟨q, _, rfl, SqL.of (a1.ex _ _ h1), rfl, ?_⟩
          let l : List Fl := [⟨u1, fro k.a, fun _ => False⟩, ⟨u2, fro k.b, fun _ => False⟩]
          have ok : ∀ f, f ∈ l → Good f.A ∧ f.A F1 H1 f.v f.S ∧ ∀ q, ¬ f.S q := fun f hf => by
            rcases List.mem_cons.mp hf with e | hf
            · rw [e]; exact ⟨good_fro _, ⟨fun _ h => h, x⟩, fun _ h => h⟩
            · have e : f = _ := List.mem_singleton.mp hf
              rw [e]; exact ⟨good_fro _, ⟨fun _ h => h, y⟩, fun _ h => h⟩
          refine gNs_go [i, j] l s _ _ rfl ?_
          have okk : FlOk pl F1 H1 fp1 l := ⟨fun f hf => ⟨(ok f hf).1, (ok f hf).2.1⟩, fun f hf q m => ((ok f hf).2.2 q m).elim, by
            refine List.Pairwise.imp_of_mem (R := fun _ _ => True) (fun {f g} hf _ _ q m => ((ok f hf).2.2 q m).elim) ?_
            exact List.pairwise_of_forall fun _ _ => trivial⟩
          refine asgN_go (As := fun k : P2 α α => [fro k.a, fro k.b]) (k := k) hlt (fun _ => rfl) rfl a1 okk fun s' fp' a2 l2 => K1 k s' F1 _ fp' p a2 (g1.own fun j x m => ?_)
          rcases l2 j x m with z | ⟨f, hf, z⟩
          · exact .inl z
          · exact ((ok f hf).2.2 x z).elim
end
end Dm

set_option Elab.async false
set_option linter.all false
set_option maxRecDepth 100000
set_option maxHeartbeats 2000000
/-! Dm: part Zp: the pool and a new list at once. -/
namespace Dm
open PySem PySem.Spec PyProof.Rows L2
variable [TabC]
section
variable {X : Cx} {CX : CXT} {G : Env} {κ ρ : Type} {B : Rt ρ} {α : Type} [Enc α]
theorem dss_pool2 {st : Stmt} {k : Nat} {ps : List Str} {ns : List Int} {x z y f : Str} {p p1 pos px pz pt pl pt2 pos0 : Pos} {kt k2 : Nat} {sts : List Stmt} {w : WS κ ρ} {G' : κ → Env} (i0 i1 i2 : Nat) (hc : X.calm = true) (hNd : X.N.Nodup) (d : DefX X CX k f st ps (spPool X.K)) (hr : Room k X.A) (hgu : X.A.guards = some []) (h : ∀ pp pf, DSs X (some (pp, pf)) ((G.set i1 (some (raw (.ref pp)))).set i2 (some (own ([] : List α)))) B sts w G') (hx : Passes CX X E0 := by exact pass0) (hi : G[i0]? = some (some (scr X.K ns)) := by rfl) (hN : X.N[i0]? = some y := by rfl) (hv : Vis X.env.scope y := by first | exact Or.inl rfl | exact Or.inr (Or.inl rfl) | exact Or.inr (Or.inr rfl)) (hd1 : (y == ("__debug__" : Str)) = false := by decide)
    (hcd : (y == ("__classdict__" : Str)) = false := by decide) (hl : Nat.blt i1 G.length = true := by rfl) (hl2 : Nat.blt i2 G.length = true := by rfl) (h12 : i1 ≠ i2 := by decide) (hN1 : X.N[i1]? = some x := by rfl) (hN2 : X.N[i2]? = some z := by rfl) (hx1 : X.env.scope.names.lookup x = some .local := by rfl) (hx2 : X.env.scope.names.lookup z = some .local := by rfl)
    (hg : Gl X f := by rfl) (hdb : (f == ("__debug__" : Str)) = false := by decide) (he : starEach [.Name y p1] X.env = (false, eval (.Name y p1) X.env) :: starEach [] X.env := by rfl) (hpl : (backTo pos (starEach [] X.env)).any (·.1) = false := by rfl)
    (hs1 : starEach [.Call (.Name f p) [.Name y p1] [] pos, .List [] pl] X.env = (false, eval (.Call (.Name f p) [.Name y p1] [] pos) X.env) :: starEach [.List [] pl] X.env := by rfl) (hs2 : starEach [.List [] pl] X.env = (false, eval (.List [] pl) X.env) :: starEach [] X.env := by rfl)
    (hw : swappedStores [.Tuple [.Name x px, .Name z pz] kt pt] (.Tuple [.Call (.Name f p) [.Name y p1] [] pos, .List [] pl] k2 pt2) X.env = pure (some [x, z]) := by rfl)
    (hs : swapsWithSole [.Tuple [.Name x px, .Name z pz] kt pt] (.Tuple [.Call (.Name f p) [.Name y p1] [] pos, .List [] pl] k2 pt2) pos0.line X.env = pure false := by rfl) :
    DSs X none G B (.Assign [.Tuple [.Name x px, .Name z pz] kt pt] (.Tuple [.Call (.Name f p) [.Name y p1] [] pos, .List [] pl] k2 pt2) pos0 :: sts) w G' := by
  obtain ⟨fa, fd, qual, Fn, FG, hm, hb⟩ := d.ex
  refine PSs.wk (pss_cons (ps_par hc hNd hN1 hN2 h12 hx1 hx2 (pa_cons (pe_g FG hr hgu hm Fn.kp hb hx (pa_cons (pe_var hN hv hd1 hcd) pa_nil he) hg hdb he hpl) (pa_cons (pe_lst pa_nil) pa_nil hs2) hs1) hw hs) (PSs.exi fun q : Addr × Addr => h q.1 q.2)) fun D s H ⟨F, fp, at_, Pn, Pr, w, K1, K2⟩ => ?_
  obtain ⟨_, v, hv2, _, a, rfl, hS⟩ := at_.sl i0 _ hi
  refine ⟨.ref a, hv2, F, ns, a, at_.exT, rfl, hS, fun _ => True, trivial, fun _ v F1 H1 S _ e1 pt g1 ⟨pp, pf, ev, hSS, pk⟩ hfr => ?_⟩
  subst ev
  refine ⟨Nat.zero_le _, fun q hq => ⟨.ref pp, .ref q, rfl, ?_⟩⟩
  obtain ⟨a1, g1'⟩ := at_.back (.inl rfl) e1 pt g1
  have hpp : H pp = none := hfr pp ((hSS pp).mpr (.inl rfl))
  have hpf : H pf = none := hfr pf ((hSS pf).mpr (.inr rfl))
  have aP : At (some (pp, pf)) G F1 H1 s fp := ⟨a1.ex, a1.len, a1.sl, a1.dis, a1.out, ⟨fun p' f' z => (by cases z; exact pk), pt.tab⟩, fun i q m hq => by
    rcases hq with ⟨p', f', z, hq⟩ | hq
    · cases z
      rcases hq with z | z
      · exact at_.nofp hpp i (by rw [← z]; exact m)
      · exact at_.nofp hpf i (by rw [← z]; exact m)
    · exact at_.pdis i q m (.inr hq)⟩
  have n1 : New F1 H1 F1 (upd H1 q (.lst [])) := New.own aP.ex hq
  have aQ := aP.new n1
  have a2 := aQ.set (A := raw (.ref pp)) (v := .ref pp) (S := fun _ => False) (blt_lt hl) (good_raw _) ⟨fun _ z => z, rfl⟩ fun _ z => z.elim
  have a3 := a2.set (i := i2) (A := own ([] : List α)) (v := .ref q) (S := fun x => x = q) (by rw [List.length_set]; exact blt_lt hl2) (good_own _) ⟨q, [], rfl, fun _ => Iff.rfl, aP.fnone hq, upd_same, .nil⟩ fun x m => by
    subst m
    refine ⟨fun i m => ?_, aP.nopl hq⟩
    by_cases hj : i = i1
    · have : False := (if_pos hj).mp m
      exact this.elim
    · exact aP.nofp hq i ((if_neg hj).mp m)
  have fpn : ∀ j x, (fun j x => if j = i2 then x = q else (fun j q => if j = i1 then False else fp j q) j x) j x → x = q ∨ fp j x := fun j x m => by
    by_cases h2 : j = i2
    · exact .inl ((if_pos h2).mp m)
    · have m := (if_neg h2).mp m
      by_cases hj : j = i1
      · have : False := (if_pos hj).mp m
        exact this.elim
      · exact .inr ((if_neg hj).mp m)
  have qn : H q = none := g1'.back hq
  have conv : ∀ {F2 H2 : Hp} {fp2 : Foot}, Go (some (pp, pf)) F1 (upd H1 q (.lst [])) (fun j x => if j = i2 then x = q else (fun j q => if j = i1 then False else fp j q) j x) F2 H2 fp2 → Go none F H fp F2 H2 fp2 := fun {F2 H2 fp2} g => by
    refine ⟨g1'.exF.trans g.exF, fun x hx n np => ?_, fun j x m => ?_, fun x hx => g.grow x ?_⟩
    · have xq : x ≠ q := fun e => hx (e ▸ qn)
      have k1 := g1'.keep x hx n np
      have k2 := g.keep x (by rw [upd_ne xq, k1.1]; exact hx) (fun j m => (fpn j x m).elim (fun e => xq e) fun m => n j m) fun hz => by
        rcases hz with ⟨p', f', z, hz⟩ | hz
        · cases z
          rcases hz with z | z
          · rw [z] at hx; exact hx hpp
          · rw [z] at hx; exact hx hpf
        · exact np (.inr hz)
      exact ⟨k2.1.trans ((upd_ne xq).trans k1.1), fun z => k2.2 (k1.2 z)⟩
    · rcases g.foot j x m with ⟨j', m'⟩ | z
      · rcases fpn j' x m' with e | m'
        · exact .inr (by rw [e]; exact qn)
        · exact .inl ⟨j', m'⟩
      · by_cases xq : x = q
        · exact .inr (by rw [xq]; exact qn)
        · rw [upd_ne xq] at z
          exact .inr (g1'.back z)
    · by_cases xq : x = q
      · rw [xq, upd_same]; simp
      · rw [upd_ne xq]; exact g1'.grow x hx
  refine ⟨(pp, pf), F1, _, a3, Pn, Pr, w, fun k s' F2 H2 fp2 pk' b2 g2 => K1 k s' F2 H2 fp2 pk' ⟨b2.ex, b2.len, b2.sl, b2.dis, b2.out, PoolOk.none b2.pool.tab, fun i q m z => z.elim (fun ⟨_, _, z, _⟩ => by cases z) fun z => b2.pdis i q m (.inr z)⟩ (conv g2), fun r v F2 H2 fp2 S2 pr e2 po2 g2 br hS2 => K2 r v F2 H2 fp2 S2 pr e2 (PoolOk.none po2.tab) (conv g2) br fun x m => ?_⟩
  rcases hS2 x m with ⟨j, z⟩ | z
  · rcases fpn j x z with e | z
    · exact .inr (by rw [e]; exact qn)
    · exact .inl ⟨j, z⟩
  · by_cases xq : x = q
    · exact .inr (by rw [xq]; exact qn)
    · rw [upd_ne xq] at z
      exact .inr (g1'.back z)
end
end Dm

set_option Elab.async false
set_option linter.all false
set_option maxRecDepth 100000
set_option maxHeartbeats 2000000
/-! Dm: part Zq: try whose body returns on every way, by expressions that may raise; its first handler takes the error under a name, what is behind it is not looked at. -/
namespace Dm
open PySem PySem.Spec PyProof.Rows L2
variable [TabC]
/-- wanted where a body returns (r), where it raises (x) -/
abbrev WX2 (ρ : Type) := (ρ → Prop) → (Xc → Prop) → Prop
def tSX {ρ : Type} (pl : Pl) (G : Env) (B : Rt ρ) (mg : Str → Option Value) (Wx : WX) (w : WX2 ρ) : TS := fun D s H => ∃ F fp, At pl G F H s fp ∧ ∃ (Pr : ρ → Prop) (Px : Xc → Prop), w Pr Px ∧
  (∀ r v F' H' fp' S, Pr r → Ex F' H' → PoolOk pl F' H' → Go pl F H fp F' H' fp' → B.a r F' H' v S → (∀ q, S q → (∃ i, fp i q) ∨ H q = none) → B.out D.rt r v H') ∧ KX pl G mg Wx s F H fp Px
section
variable {X : Cx} {pl : Pl} {G : Env} {Wx : WX} {κ ρ α : Type} {B : Rt ρ} [Enc α]
theorem dxr_frzO {e : Expr} {w : W (List α ⊕ Xc)} (h : DXr X pl G Wx e (fun l : List α => own l) w) : DXr X pl G Wx e (fun l : List α => fro l) w := PE.wk h fun s H Q ⟨F, fp, at_, P, w, K, K2⟩ => ⟨F, fp, at_, P, w, K.frz frz_own, K2⟩
theorem dsx_ret {B : ρ → Asrt} {e : Expr} {w : W (ρ ⊕ Xc)} {pos : Pos} (h : DXr X pl G Wx e B w) : PS X (.Return (some e) pos) (tSX pl G (nrm B) X.mg Wx (fun rt rx => w (wEi rt rx))) := PS.wk (ps_ret h) fun D s H ⟨F, fp, at_, Pr, Px, w, K2, K3⟩ =>
  ⟨F, fp, at_, wEi Pr Px, w, fun r v F1 H1 fp1 S1 p a1 g1 b1 hS => K2 r v F1 H1 fp1 S1 p a1.ex a1.pool g1 b1 fun q m => .inr (hS q m).1, K3⟩
theorem dsx_one {st : Stmt} {w : WX2 ρ} (h : PS X st (tSX pl G B X.mg Wx w)) : PSs X [st] (tSX pl G B X.mg Wx w) := pss_one h
/-- if c: what returns; the rest -/
theorem dsx_if {c : Expr} {a rest : List Stmt} {wc : W Bool} {w1 w2 : WX2 ρ} {pos : Pos} (hc : DT X pl G c wc) (h1 : PSs X a (tSX pl G B X.mg Wx w1)) (h2 : PSs X rest (tSX pl G B X.mg Wx w2)) : PSs X (.If c a [] pos :: rest) (tSX pl G B X.mg Wx (fun rt rx => wc fun x => wIf x (w1 rt rx) (w2 rt rx))) :=
  PSs.wk (pss_cons (ps_if hc h1 pss_nil) h2) fun D s H ⟨F, fp, at_, Pr, Px, w, K2, K3⟩ => by
    refine ⟨F, fp, at_, _, w, fun x F1 H1 fp1 p a1 g1 => ?_⟩
    have go : ∀ (D' : Ends) (w' : WX2 ρ), D'.rt = D.rt → w' Pr Px → tSX pl G B X.mg Wx w' D' s H1 := fun D' w' hD hw => ⟨F1, fp1, a1, Pr, Px, hw, fun r v F2 H2 fp2 S p2 e2 po2 g2 b2 hS => by
      rw [hD]
      exact K2 r v F2 H2 fp2 S p2 e2 po2 (g1.trans g2) b2 fun q m => (hS q m).elim (fun ⟨i, y⟩ => g1.foot i q y) fun y => .inr (g1.back y), K3.go g1⟩
    cases x with
    | true => exact go _ w1 rfl (p.1 rfl)
    | false => exact go D w2 rfl (p.2 rfl)
/-- try: .. except cn as n: .. -/
theorem ds_tryM (i : Nat) {n cn : Str} {C : Addr} {body : List Stmt} {hds : List ExceptHandler} {w : WX2 ρ} {wS : Xc → WS κ ρ} {G' : κ → Env} {b₀ : Stmt} {suite : List Stmt} {np pos pos' : Pos} (hN : X.N.Nodup) (gC : X.mg cn = some (.ref C)) (te : PySem.W.exmOne X.K (.ref C) (.ref C) = some true)
    (hbody : ∀ (W : WX) (pn : List (Addr × Obj)) (xe : Value → Shared → Prop), Takes (X.tr pn xe) W → PSs (X.tr pn xe) body (tSX pl G B X.mg W w))
    (hsuite : ∀ (a : Addr) (oe : Obj) (dd : Addr) (pn : List (Addr × Obj)) (x : Xc), Zc (.ref C) (some dd) oe → (∃ vs, oe.data = .fields vs) → DSs (X.suite a ((a, oe) :: pn)) pl (G.set i (some (xA a dd x))) B (b₀ :: suite) (wS x) G')
    (hGi : ∀ k, (G' k)[i]? = some none)
    (hs : X.stack = X.env :: X.outer := by rfl) (hf : X.env.frame = some X.env.locals := by rfl) (hi : X.N[i]? = some n := by rfl) (hln : X.env.kindOf n = some .local := by rfl) (hgc : Gl X cn := by rfl) (hdc : (cn == ("__debug__" : Str)) = false := by decide)
    (hli : Nat.blt i G.length = true := by rfl) (hbx : bareX cn = false := by decide) :
    DS X pl G B (.Try body (.ExceptHandler (some (.Name cn np)) (some n) (b₀ :: suite) pos' :: hds) [] [] pos) (fun nx rt => w rt fun y => y.cls = cn ∧ wS y nx rt) G' := by
  refine PS.wk (ps_try_mix (l := [(.ref C, some i, fun a cls d D s H => ∃ y dd, cls = .ref C ∧ d = some dd ∧ tS pl (G.set i (some (xA a dd y))) B (wS y) G' D s H)]) (tb := fun W => tSX pl G B X.mg W w) hs hf hN (fun W pn xe tk => hbody W pn xe tk) (.named ⟨hgc, hdc, .inl gC⟩ hi hln (fun a oe cls d pn hz hfd => ⟨fun pins sh s H D I ⟨y, dd, ec, ed, t⟩ => ?_⟩) .nil)) fun D s H ⟨F, fp, at_, Pn, Pr, wp, K1, K2⟩ => ?_
  · subst ec; subst ed
    exact (hsuite a oe dd pn y hz hfd).run pins sh s H D I t
  · refine ⟨F, fp, at_, Pr, _, wp, K2, ⟨fun y C' dd fv F1 H1 fp1 ⟨ec, p⟩ _ a1 g1 hC hF hH ha ⟨h0, hnf, hnp⟩ => ?_, fun y C' F1 H1 fp1 ⟨ec, p⟩ hb => by rw [ec, hbx] at hb; cases hb⟩⟩
    have eC : C' = C := by
      rw [ec, gC] at hC
      cases hC; rfl
    subst eC
    refine ⟨true, te, fun _ ad had => ?_, fun z => by cases z⟩
    obtain ⟨F2, x2, a2, e1, e2⟩ := a1.frz (S := fun q => q = dd) (fun q m => by rw [m]; exact ⟨hF, by rw [hH]; simp⟩) (fun q m => by rw [m]; exact ⟨hnf, hnp⟩)
    have hdd : F2 dd = some (.xd [(y.fld, fv)]) := by rw [e1 dd rfl, hH]
    have g2 : Go pl F H fp F2 H1 fp1 := ⟨g1.exF.trans x2, fun q h n p => by
      have k := g1.keep q h n p
      refine ⟨k.1, fun z => ?_⟩
      have qd : ¬ q = dd := fun w => h (by rw [w]; exact h0)
      rw [e2 q qd]; exact k.2 z, g1.foot, g1.grow⟩
    have a3 := a2.set (A := xA ad dd y) (v := .ref ad) (S := fun _ => False) (blt_lt hli) good_xA ⟨fun _ z => z, rfl, fv, hdd, ha.mono x2⟩ fun _ z => z.elim
    have g3 : Go pl F H fp F2 H1 (fun k q => if k = i then False else fp1 k q) := g2.own fun k q m => by
      by_cases hk : k = i
      · exact ((if_pos hk).mp m).elim
      · exact .inl ⟨k, (if_neg hk).mp m⟩
    refine ⟨y, dd, rfl, rfl, F2, _, a3, Pn, Pr, p, fun k s4 F4 H4 fp4 p4 a4 g4 => K1 k _ F4 H4 fp4 p4 (a4.conv (fun m A em => ?_) (by rw [List.length_set])) (g3.trans g4), fun r v F4 H4 fp4 S p4 e4 po4 g4 b4 hS => K2 r v F4 H4 fp4 S p4 e4 po4 (g3.trans g4) b4 fun q m => ?_⟩
    · have : m ≠ i := fun z => by
        rw [z, hGi k] at em; cases em
      rw [List.getElem?_set_ne (Ne.symm this)]
    · rcases hS q m with ⟨k, z⟩ | z
      · exact g3.foot k q z
      · exact .inr (g3.back z)
end
section
variable {X : Cx} {pl : Pl} {G : Env} {α β : Type} [Enc α] [Enc β]
theorem enc_lp {q : Lp α β} : enc ([enc q.a, enc q.b] : List D) = enc q := rfl
/-- a list of two of unlike kinds as a list of data -/
theorem de_lpL {e : Expr} {w : W (Lp α β)} (h : DE X pl G e w) : DE X pl G e (fun P => w fun q => P ([enc q.a, enc q.b] : List D)) := PE.wk h fun s H Q ⟨F, fp, at_, P, w, K⟩ => ⟨F, fp, at_, _, w, fun q v F1 H1 fp1 S1 p a1 g1 b1 hS => K ([enc q.a, enc q.b] : List D) v F1 H1 fp1 S1 p a1 g1 ⟨b1.1, by rw [enc_lp]; exact b1.2⟩ hS⟩
end
section
variable {X : Cx} {pl : Pl} {κ κ1 κ2 ρ : Type} {B : Rt ρ}
/-- what is behind, read twice: the names are of two sets of kinds -/
theorem dss_sum {sts : List Stmt} {GA : κ1 → Env} {GB : κ2 → Env} {wa : κ1 → WS κ ρ} {wb : κ2 → WS κ ρ} {G2 : κ → Env} (h1 : ∀ v, DSs X pl (GA v) B sts (wa v) G2) (h2 : ∀ v, DSs X pl (GB v) B sts (wb v) G2) : ∀ z : κ1 ⊕ κ2, DSs X pl (Sum.elim GA GB z) B sts (fun nx rt => Sum.elim (fun v => wa v nx rt) (fun v => wb v nx rt) z) G2 := fun z => match z with
  | .inl v => h1 v
  | .inr v => h2 v
end
theorem kit_type {K : Fr} {C : Addr} {T : String} {b : Bool} (m : PySem.W.kitMeta T = true) (u : PySem.W.subIn K (.ref C) (.type T) = some b) : PySem.W.kitOne K (.ref C) (.type T) = some b := by
  have e : (Value.ref C == Value.type T) = false := rfl
  unfold PySem.W.kitOne PySem.W.kitCls
  rw [if_neg (by rw [e]; exact Bool.false_ne_true)]
  show (if PySem.W.kitMeta T = true then _ else none) = _
  rw [if_pos m]
  exact u
theorem meta_VE : PySem.W.kitMeta "ValueError" = true := by decide +kernel
end Dm

set_option Elab.async false
set_option linter.all false
set_option maxRecDepth 100000
set_option maxHeartbeats 2000000
/-! Dm: part Zr: errors without a field. -/
namespace Dm
open PySem PySem.Spec PyProof.Rows L2
variable [TabC]
section
variable {X : Cx} {C : Addr} {bmB : List Value} {B newId initId : String}
/-- X() -/
theorem pmk_own0 {x : Str} {p pos : Pos} (F : ExcBaseFacts B newId initId bmB) (q : PySem.W.excIn X.K C bmB newId = true) (gC : X.mg x = some (.ref C)) (kC : PySem.W.keepIn X.K (.ref C) = true) (r : Raises X (.ref C)) (hg : Gl X x)
    (hdb : (x == ("__debug__" : Str)) = false := by decide) : PMk X (.Call (.Name x p) [] [] pos) (fun _ H Q => Q (.ref C) none H) := by
  intro pins s σ H Q I h
  refine wpAny_Call_Name_kw (ld_glob I hg gC ?_ hdb)
  refine PySem.W.callWith_K0 I.kIn kC ?_
  show wpAny _ _ (call (.ref C) []) _ _ _
  obtain ⟨bm, N, nm, qn, bs, hdct, sn, sub, ab, col, dd, k0, k1, k2, k3, k5, mN, hC, hN, hni, T⟩ := exc_obj I.kIn q
  refine wpAny_call_exc_subT F T hC hN hni (fun h' e hm => ?_) (by show 0 ≤ sizeLine; omega)
  exact mk_of I hm r h (I.hok.gone hm.new)
end
/-- the facts of a class without a field -/
structure BareX (K : Fr) (mg : Str → Option Value) (cls : Str) (C : Addr) : Prop where
  gC : mg cls = some (.ref C)
  q : PySem.W.excIn K C [.type "ValueError", .type "Exception", .type "BaseException", .type "object"] "ValueError.__new__" = true
  kC : PySem.W.keepIn K (.ref C) = true
  eC : PySem.W.subIn K (.ref C) (.type "BaseException") = some true
  tC : PySem.W.typeIn K (.ref C) = some (.type "type")
section
variable {X : Cx} {pl : Pl} {G : Env} {κ ρ : Type} {B : ρ → Asrt}
/-- raise X() -/
theorem ds_raise0 {E : XK} {cls : Str} {C : Addr} {p pos pos2 : Pos} {G' : κ → Env} (hc : X.calm = true) (hk : Takes X (fun c d _ H => E c d H)) (O : BareX X.K X.mg cls C) (hg : Gl X cls := by rfl) (hdb : (cls == ("__debug__" : Str)) = false := by decide) (hbx : bareX cls = true := by decide) :
    DS X pl G (exB B X.mg E) (.Raise (some (.Call (.Name cls p) [] [] pos)) none pos2) (fun _ rt => rt (.inr ⟨cls, "", .none⟩)) G' := by
  refine PS.wk (ps_raise hc hk (pmk_own0 PySem.F.excBase_ValueError O.q O.gC O.kC (raises_own O.eC O.tC) hg hdb)) fun D s H ⟨F, fp, at_, Pn, Pr, wp, K1, K2⟩ => ?_
  exact (K2 (.inr ⟨cls, "", .none⟩) .non F H fp (fun _ => False) wp at_.ex at_.pool .refl ⟨fun _ _ h => h, fun z => by rw [show bareX cls = true from hbx] at z; cases z⟩ (fun q m => m.elim) C O.gC).1 hbx
end
/-! ### several handlers -/
/-- the error in hand, without a dict -/
def xB (a : Addr) : Asrt := fun _ _ v S => (∀ q, ¬ S q) ∧ v = V.ref a
theorem good_xB {a : Addr} : Good (xB a) := ⟨fun h q s => (h.1 q s).elim, fun ⟨h, e⟩ x _ => ⟨h, e⟩⟩
section
variable {X : Cx} {pl : Pl} {G : Env} {κ ρ : Type} {B : Rt ρ}
/-- handlers by their readings; seen: the classes of those before -/
inductive HdD (X : Cx) (pl : Pl) (G : Env) (B : Rt ρ) (G' : κ → Env) : List Addr → List ExceptHandler → List HdT → (Xc → WS κ ρ) → Prop
  | nil {seen : List Addr} {hds : List ExceptHandler} : HdD X pl G B G' seen hds [] (fun _ _ _ => False)
  | fld {seen : List Addr} {n cn : Str} {i : Nat} {C : Addr} {wS wr : Xc → WS κ ρ} {b₀ : Stmt} {suite : List Stmt} {np pos' : Pos} {hds : List ExceptHandler} {l : List HdT} (gC : X.mg cn = some (.ref C)) (te : PySem.W.exmOne X.K (.ref C) (.ref C) = some true) (hno : ∀ A ∈ seen, PySem.W.exmOne X.K (.ref C) (.ref A) = some false)
      (hsuite : ∀ (a : Addr) (oe : Obj) (dd : Addr) (pn : List (Addr × Obj)) (x : Xc), Zc (.ref C) (some dd) oe → (∃ vs, oe.data = .fields vs) → DSs (X.suite a ((a, oe) :: pn)) pl (G.set i (some (xA a dd x))) B (b₀ :: suite) (wS x) G')
      (hGi : ∀ k, (G' k)[i]? = some none) (hi : X.N[i]? = some n) (hln : X.env.kindOf n = some .local) (hgc : Gl X cn) (hdc : (cn == ("__debug__" : Str)) = false) (hli : Nat.blt i G.length = true) (hbx : bareX cn = false) (r : HdD X pl G B G' (C :: seen) hds l wr) :
      HdD X pl G B G' seen (.ExceptHandler (some (.Name cn np)) (some n) (b₀ :: suite) pos' :: hds) ((.ref C, some i, fun a cls d D s H => ∃ y dd, cls = .ref C ∧ d = some dd ∧ tS pl (G.set i (some (xA a dd y))) B (wS y) G' D s H) :: l) (fun y nx rt => (y.cls = cn ∧ wS y nx rt) ∨ wr y nx rt)
  | bare {seen : List Addr} {n cn : Str} {i : Nat} {C : Addr} {wS : WS κ ρ} {wr : Xc → WS κ ρ} {b₀ : Stmt} {suite : List Stmt} {np pos' : Pos} {hds : List ExceptHandler} {l : List HdT} (gC : X.mg cn = some (.ref C)) (te : PySem.W.exmOne X.K (.ref C) (.ref C) = some true) (hno : ∀ A ∈ seen, PySem.W.exmOne X.K (.ref C) (.ref A) = some false)
      (hsuite : ∀ (a : Addr) (oe : Obj) (pn : List (Addr × Obj)), Zc (.ref C) none oe → (∃ vs, oe.data = .fields vs) → DSs (X.suite a ((a, oe) :: pn)) pl (G.set i (some (xB a))) B (b₀ :: suite) wS G')
      (hGi : ∀ k, (G' k)[i]? = some none) (hi : X.N[i]? = some n) (hln : X.env.kindOf n = some .local) (hgc : Gl X cn) (hdc : (cn == ("__debug__" : Str)) = false) (hli : Nat.blt i G.length = true) (hbx : bareX cn = true) (r : HdD X pl G B G' (C :: seen) hds l wr) :
      HdD X pl G B G' seen (.ExceptHandler (some (.Name cn np)) (some n) (b₀ :: suite) pos' :: hds) ((.ref C, some i, fun a cls d D s H => cls = .ref C ∧ d = none ∧ tS pl (G.set i (some (xB a))) B wS G' D s H) :: l) (fun y nx rt => (y.cls = cn ∧ wS nx rt) ∨ wr y nx rt)
theorem HdD.no {G' : κ → Env} {seen : List Addr} {hds : List ExceptHandler} {l : List HdT} {w : Xc → WS κ ρ} (h : HdD X pl G B G' seen hds l w) : ∀ {y : Xc} {nx : κ → Prop} {rt : ρ → Prop} {C' : Addr}, w y nx rt → X.mg y.cls = some (.ref C') → ∀ A ∈ seen, PySem.W.exmOne X.K (.ref C') (.ref A) = some false := by
  induction h with
  | nil => intro y nx rt C' h; exact h.elim
  | fld gC te hno hsuite hGi hi hln hgc hdc hli hbx r ih =>
    intro y nx rt C' h hC A hA
    rcases h with ⟨e, _⟩ | h
    · rw [e, gC] at hC
      cases hC
      exact hno A hA
    · exact ih h hC A (List.mem_cons_of_mem _ hA)
  | bare gC te hno hsuite hGi hi hln hgc hdc hli hbx r ih =>
    intro y nx rt C' h hC A hA
    rcases h with ⟨e, _⟩ | h
    · rw [e, gC] at hC
      cases hC
      exact hno A hA
    · exact ih h hC A (List.mem_cons_of_mem _ hA)
theorem HdD.hdsM {G' : κ → Env} {seen : List Addr} {hds : List ExceptHandler} {l : List HdT} {w : Xc → WS κ ρ} (h : HdD X pl G B G' seen hds l w) : HdsM X hds l := by
  induction h with
  | nil => exact .nil
  | fld gC te hno hsuite hGi hi hln hgc hdc hli hbx r ih =>
    exact .named ⟨hgc, hdc, .inl gC⟩ hi hln (fun a oe cls d pn hz hfd => ⟨fun pins sh s H D I ⟨y, dd, ec, ed, t⟩ => by
      subst ec; subst ed
      exact (hsuite a oe dd pn y hz hfd).run pins sh s H D I t⟩) ih
  | bare gC te hno hsuite hGi hi hln hgc hdc hli hbx r ih =>
    exact .named ⟨hgc, hdc, .inl gC⟩ hi hln (fun a oe cls d pn hz hfd => ⟨fun pins sh s H D I ⟨ec, ed, t⟩ => by
      subst ec; subst ed
      exact (hsuite a oe pn hz hfd).run pins sh s H D I t⟩) ih
theorem HdD.mixF {G' : κ → Env} {seen : List Addr} {hds : List ExceptHandler} {l : List HdT} {w : Xc → WS κ ρ} (h : HdD X pl G B G' seen hds l w) {D : Ends} {s : L2.St} {F H F1 H1 : Hp} {fp fp1 : Foot} {y : Xc} {C' dd : Addr} {fv : V} {Pn : κ → Prop} {Pr : ρ → Prop} (a1 : At pl G F1 H1 s fp1) (g1 : Go pl F H fp F1 H1 fp1) (hC : X.mg y.cls = some (.ref C')) (hb : bareX y.cls = false) (hF : F1 dd = none) (hH : H1 dd = some (.xd [(y.fld, fv)])) (ha : Has F1 fv y.d) (h0 : H dd = none) (hnf : ∀ i, ¬ fp1 i dd) (hnp : ¬ isPool pl dd)
    (K1 : ∀ k s' F' H' fp', Pn k → At pl (G' k) F' H' s' fp' → Go pl F H fp F' H' fp' → D.nx s' H')
    (K2 : ∀ r v F' H' fp' S, Pr r → Ex F' H' → PoolOk pl F' H' → Go pl F H fp F' H' fp' → B.a r F' H' v S → (∀ q, S q → (∃ i, fp i q) ∨ H q = none) → B.out D.rt r v H') : w y Pn Pr → wMix X.K D l (.ref C') (some dd) s H1 := by
  induction h with
  | nil => exact fun z => z.elim
  | @fld seen n cn i C wS wr b₀ suite np pos' hds l gC te hno hsuite hGi hi hln hgc hdc hli hbx r ih =>
    rintro (⟨ec, p⟩ | p)
    · have eC : C' = C := by
        rw [ec, gC] at hC
        cases hC; rfl
      subst eC
      refine ⟨true, te, fun _ ad had => ?_, fun z => by cases z⟩
      obtain ⟨F2, x2, a2, e1, e2⟩ := a1.frz (S := fun q => q = dd) (fun q m => by rw [m]; exact ⟨hF, by rw [hH]; simp⟩) (fun q m => by rw [m]; exact ⟨hnf, hnp⟩)
      have hdd : F2 dd = some (.xd [(y.fld, fv)]) := by rw [e1 dd rfl, hH]
      have g2 : Go pl F H fp F2 H1 fp1 := ⟨g1.exF.trans x2, fun q h n p => by
        have k := g1.keep q h n p
        refine ⟨k.1, fun z => ?_⟩
        have qd : ¬ q = dd := fun w => h (by rw [w]; exact h0)
        rw [e2 q qd]; exact k.2 z, g1.foot, g1.grow⟩
      have a3 := a2.set (A := xA ad dd y) (v := .ref ad) (S := fun _ => False) (blt_lt hli) good_xA ⟨fun _ z => z, rfl, fv, hdd, ha.mono x2⟩ fun _ z => z.elim
      have g3 : Go pl F H fp F2 H1 (fun k q => if k = i then False else fp1 k q) := g2.own fun k q m => by
        by_cases hk : k = i
        · exact ((if_pos hk).mp m).elim
        · exact .inl ⟨k, (if_neg hk).mp m⟩
      refine ⟨y, dd, rfl, rfl, F2, _, a3, Pn, Pr, p, fun k s4 F4 H4 fp4 p4 a4 g4 => K1 k _ F4 H4 fp4 p4 (a4.conv (fun m A em => ?_) (by rw [List.length_set])) (g3.trans g4), fun r v F4 H4 fp4 S p4 e4 po4 g4 b4 hS => K2 r v F4 H4 fp4 S p4 e4 po4 (g3.trans g4) b4 fun q m => ?_⟩
      · have : m ≠ i := fun z => by
          rw [z, hGi k] at em; cases em
        rw [List.getElem?_set_ne (Ne.symm this)]
      · rcases hS q m with ⟨k, z⟩ | z
        · exact g3.foot k q z
        · exact .inr (g3.back z)
    · exact ⟨false, r.no p hC C (List.mem_cons_self ..), fun z => (by cases z), fun _ => ih p⟩
  | @bare seen n cn i C wS wr b₀ suite np pos' hds l gC te hno hsuite hGi hi hln hgc hdc hli hbx r ih =>
    rintro (⟨ec, p⟩ | p)
    · rw [ec, hbx] at hb; cases hb
    · exact ⟨false, r.no p hC C (List.mem_cons_self ..), fun z => (by cases z), fun _ => ih p⟩
theorem HdD.mixB {G' : κ → Env} {seen : List Addr} {hds : List ExceptHandler} {l : List HdT} {w : Xc → WS κ ρ} (h : HdD X pl G B G' seen hds l w) {D : Ends} {s : L2.St} {F H F1 H1 : Hp} {fp fp1 : Foot} {y : Xc} {C' : Addr} {Pn : κ → Prop} {Pr : ρ → Prop} (a1 : At pl G F1 H1 s fp1) (g1 : Go pl F H fp F1 H1 fp1) (hC : X.mg y.cls = some (.ref C')) (hb : bareX y.cls = true)
    (K1 : ∀ k s' F' H' fp', Pn k → At pl (G' k) F' H' s' fp' → Go pl F H fp F' H' fp' → D.nx s' H')
    (K2 : ∀ r v F' H' fp' S, Pr r → Ex F' H' → PoolOk pl F' H' → Go pl F H fp F' H' fp' → B.a r F' H' v S → (∀ q, S q → (∃ i, fp i q) ∨ H q = none) → B.out D.rt r v H') : w y Pn Pr → wMix X.K D l (.ref C') none s H1 := by
  induction h with
  | nil => exact fun z => z.elim
  | @fld seen n cn i C wS wr b₀ suite np pos' hds l gC te hno hsuite hGi hi hln hgc hdc hli hbx r ih =>
    rintro (⟨ec, p⟩ | p)
    · rw [ec, hbx] at hb; cases hb
    · exact ⟨false, r.no p hC C (List.mem_cons_self ..), fun z => (by cases z), fun _ => ih p⟩
  | @bare seen n cn i C wS wr b₀ suite np pos' hds l gC te hno hsuite hGi hi hln hgc hdc hli hbx r ih =>
    rintro (⟨ec, p⟩ | p)
    · have eC : C' = C := by
        rw [ec, gC] at hC
        cases hC; rfl
      subst eC
      refine ⟨true, te, fun _ ad had => ?_, fun z => by cases z⟩
      have a3 := a1.set (A := xB ad) (v := .ref ad) (S := fun _ => False) (blt_lt hli) good_xB ⟨fun _ z => z, rfl⟩ fun _ z => z.elim
      have g3 : Go pl F H fp F1 H1 (fun k q => if k = i then False else fp1 k q) := g1.own fun k q m => by
        by_cases hk : k = i
        · exact ((if_pos hk).mp m).elim
        · exact .inl ⟨k, (if_neg hk).mp m⟩
      refine ⟨rfl, rfl, F1, _, a3, Pn, Pr, p, fun k s4 F4 H4 fp4 p4 a4 g4 => K1 k _ F4 H4 fp4 p4 (a4.conv (fun m A em => ?_) (by rw [List.length_set])) (g3.trans g4), fun r v F4 H4 fp4 S p4 e4 po4 g4 b4 hS => K2 r v F4 H4 fp4 S p4 e4 po4 (g3.trans g4) b4 fun q m => ?_⟩
      · have : m ≠ i := fun z => by
          rw [z, hGi k] at em; cases em
        rw [List.getElem?_set_ne (Ne.symm this)]
      · rcases hS q m with ⟨k, z⟩ | z
        · exact g3.foot k q z
        · exact .inr (g3.back z)
    · exact ⟨false, r.no p hC C (List.mem_cons_self ..), fun z => (by cases z), fun _ => ih p⟩
/-- try: what returns on every way; handlers -/
theorem ds_tryMM {body : List Stmt} {h₀ : ExceptHandler} {hds : List ExceptHandler} {l : List HdT} {w : WX2 ρ} {wS : Xc → WS κ ρ} {G' : κ → Env} {pos : Pos} (hN : X.N.Nodup)
    (hbody : ∀ (W : WX) (pn : List (Addr × Obj)) (xe : Value → Shared → Prop), Takes (X.tr pn xe) W → PSs (X.tr pn xe) body (tSX pl G B X.mg W w))
    (hh : HdD X pl G B G' [] (h₀ :: hds) l wS) (hs : X.stack = X.env :: X.outer := by rfl) (hf : X.env.frame = some X.env.locals := by rfl) :
    DS X pl G B (.Try body (h₀ :: hds) [] [] pos) (fun nx rt => w rt fun y => wS y nx rt) G' := by
  refine PS.wk (ps_try_mix (l := l) (tb := fun W => tSX pl G B X.mg W w) hs hf hN (fun W pn xe tk => hbody W pn xe tk) hh.hdsM) fun D s H ⟨F, fp, at_, Pn, Pr, wp, K1, K2⟩ => ?_
  exact ⟨F, fp, at_, Pr, _, wp, K2, fun y C' dd fv F1 H1 fp1 p hb a1 g1 hC hF hH ha ⟨h0, hnf, hnp⟩ => hh.mixF a1 g1 hC hb hF hH ha h0 hnf hnp K1 K2 p, fun y C' F1 H1 fp1 p hb a1 g1 hC => hh.mixB a1 g1 hC hb K1 K2 p⟩
end
section
variable {X : Cx} {pl : Pl} {G : Env} {ρ δ : Type} {B : Rt ρ}
/-- try: f(..), several handlers -/
theorem ds_tryEM {e : Expr} {B' : δ → Asrt} {w : W (δ ⊕ Xc)} {h₀ : ExceptHandler} {hds : List ExceptHandler} {l : List HdT} {wS : Xc → WS Unit ρ} {pos pos1 : Pos} (hN : X.N.Nodup)
    (hbody : ∀ (W : WX) (pn : List (Addr × Obj)) (xe : Value → Shared → Prop), Takes (X.tr pn xe) W → DXr (X.tr pn xe) pl G W e B' w)
    (hh : HdD X pl G B (fun _ : Unit => G) [] (h₀ :: hds) l wS) (hs : X.stack = X.env :: X.outer := by rfl) (hf : X.env.frame = some X.env.locals := by rfl)
    (hsw : ∀ (pn : List (Addr × Obj)) (xe : Value → Shared → Prop), swapsWith e none pos1.line (X.tr pn xe).env = pure false := by intro _ _; rfl) :
    DS X pl G B (.Try [.Expr e pos1] (h₀ :: hds) [] [] pos) (fun nx rt => w fun r => match r with | .inl _ => nx () | .inr y => wS y nx rt) (fun _ => G) := by
  refine PS.wk (ps_try_mix (l := l) (tb := fun W => tDrop (tXr pl G B' X.mg W w)) hs hf hN (fun W pn xe tk => pss_one (ps_expr (hbody W pn xe tk) (hsw pn xe))) hh.hdsM) fun D s H ⟨F, fp, at_, Pn, Pr, wp, K1, K2⟩ => ?_
  exact ⟨F, fp, at_, _, wp, fun a v F1 H1 fp1 S1 p a1 g1 b1 hS => K1 () _ F1 H1 _ p a1 g1, fun y C' dd fv F1 H1 fp1 p hb a1 g1 hC hF hH ha ⟨h0, hnf, hnp⟩ => hh.mixF a1 g1 hC hb hF hH ha h0 hnf hnp K1 K2 p, fun y C' F1 H1 fp1 p hb a1 g1 hC => hh.mixB a1 g1 hC hb K1 K2 p⟩
end
section
variable {X : Cx} {pl : Pl} {G : Env} {ρ α : Type} {B : Rt ρ} [Enc α]
/-- a, b = e, e a list of two of unlike kinds -/
theorem ds_unpLp {tgts : List Expr} {e : Expr} {kt : Nat} {pt pos : Pos} {β : Type} [Enc β] {w : W (Lp α β)} {i j : Nat} (hc : X.calm = true) (h : DE X pl G e w) (hg : PGs X tgts (gNs [i, j]))
    (hlt : [i, j].all (fun i => Nat.blt i G.length) = true := by rfl)
    (hn : (assignEach tgts X.env).length = 2 := by rfl) (hst : (assignEach tgts X.env).findIdx? (·.1) = none := by rfl) (hs1 : swapsWithSole [.Tuple tgts kt pt] e pos.line X.env = pure false := by rfl) (hs2 : swappedStores [.Tuple tgts kt pt] e X.env = pure none := by rfl) :
    DS X pl G B (.Assign [.Tuple tgts kt pt] e pos) (fun nx _ => w nx) (fun k : Lp α β => setAll G [i, j] [fro k.a, fro k.b]) := PS.wk (ps_asg h (pg_lst hc hg hn hst) hs1 hs2) fun D s H ⟨F, fp, at_, Pn, Pr, w, K1, K2⟩ => by
  refine ⟨F, fp, at_, _, w, fun k v F1 H1 fp1 S1 p a1 g1 b1 _ => ?_⟩
  obtain ⟨_, b1⟩ := b1
  cases b1 with
  | lst h1 h2 =>
    cases h2 with
    | cons x h2 => cases h2 with
      | cons y h2 => cases h2 with
        | nil =>
          rename_i q u1 u2
          refine ⟨q, _, rfl, SqL.of (a1.ex _ _ h1), rfl, ?_⟩
          let l : List Fl := [⟨u1, fro k.a, fun _ => False⟩, ⟨u2, fro k.b, fun _ => False⟩]
          have ok : ∀ f, f ∈ l → Good f.A ∧ f.A F1 H1 f.v f.S ∧ ∀ q, ¬ f.S q := fun f hf => by
            rcases List.mem_cons.mp hf with e | hf
            · rw [e]; exact ⟨good_fro _, ⟨fun _ h => h, x⟩, fun _ h => h⟩
            · have e : f = _ := List.mem_singleton.mp hf
              rw [e]; exact ⟨good_fro _, ⟨fun _ h => h, y⟩, fun _ h => h⟩
          refine gNs_go [i, j] l s _ _ rfl ?_
          have okk : FlOk pl F1 H1 fp1 l := ⟨fun f hf => ⟨(ok f hf).1, (ok f hf).2.1⟩, fun f hf q m => ((ok f hf).2.2 q m).elim, by
            refine List.Pairwise.imp_of_mem (R := fun _ _ => True) (fun {f g} hf _ _ q m => ((ok f hf).2.2 q m).elim) ?_
            exact List.pairwise_of_forall fun _ _ => trivial⟩
          refine asgN_go (As := fun k : Lp α β => [fro k.a, fro k.b]) (k := k) hlt (fun _ => rfl) rfl a1 okk fun s' fp' a2 l2 => K1 k s' F1 _ fp' p a2 (g1.own fun j x m => ?_)
          rcases l2 j x m with z | ⟨f, hf, z⟩
          · exact .inl z
          · exact ((ok f hf).2.2 x z).elim
end
/-! ### isinstance of an error without a dict, of a tuple of classes -/
def rIsB (K : Fr) (D a : Addr) : List V → Hp → VK → Prop := fun xs H Q => ∃ (c : V) (cv : Value) (b : Bool), xs = [.ref a, c] ∧ (∀ u, RelV c u → u = cv) ∧ PySem.W.kitOne K (.ref D) cv = some b ∧ Q (.bl b) H
def rIsBT (K : Fr) (D a : Addr) : List V → Hp → VK → Prop := fun xs H Q => ∃ (tp : Addr) (cs : List V) (us : List Value) (b : Bool), xs = [.ref a, .ref tp] ∧ H tp = some (.tup cs) ∧ Paired ClsV cs us ∧ PySem.W.kitAny K (.ref D) us = some b ∧ Q (.bl b) H
section
variable {X : Cx} {a D : Addr} {oe : Obj} {pn : List (Addr × Obj)}
theorem cr_isB (C : XiC X.K D) (hz : Zc (.ref D) none oe) (hf : ∃ vs, oe.data = .fields vs) : CallR (X.suite a ((a, oe) :: pn)) (.builtin "isinstance") (rIsB X.K D a) := by
  intro pins s σ H xs us Q I r ⟨c, cv, b, exs, hcv, e, q⟩
  subst exs
  cases r with
  | cons rx r => cases r with
    | cons rc r =>
      cases r; cases rx
      have ec := hcv _ rc; subst ec
      have pin := (I.pin (a, oe) (List.mem_append_left _ List.mem_cons_self)).1
      obtain ⟨vs, hv⟩ := hf
      have at_ : PySem.W.InstAt s.heap a oe D none := ⟨pin, hz.1, by unfold PySem.W.notCls; rw [hv], by rw [hz.2]; trivial⟩
      exact PySem.W.kia_one (PySem.W.kitx_exc C.cl C.ga C.gg C.exC C.ha C.hn C.ht C.hm) I.kIn at_ e (fun z => nomatch z) fun tk => ⟨.bl b, H, I.kept (t' := tk) fun _ _ z => z, rfl, q⟩
theorem cr_isBT (C : XiC X.K D) (hz : Zc (.ref D) none oe) (hf : ∃ vs, oe.data = .fields vs) : CallR (X.suite a ((a, oe) :: pn)) (.builtin "isinstance") (rIsBT X.K D a) := by
  intro pins s σ H xs us Q I r ⟨tp, cs, ws, b, exs, hT, k, e, q⟩
  subst exs
  cases r with
  | cons rx r => cases r with
    | cons rc r =>
      cases r; cases rx
      cases rc
      have pin := (I.pin (a, oe) (List.mem_append_left _ List.mem_cons_self)).1
      obtain ⟨vs, hv⟩ := hf
      have at_ : PySem.W.InstAt s.heap a oe D none := ⟨pin, hz.1, by unfold PySem.W.notCls; rw [hv], by rw [hz.2]; trivial⟩
      obtain ⟨_, its, rv, o, h1, h2, n, h3⟩ := (show ObjOk _ _ H s.heap tp (.tup cs) from I.hok tp _ hT)
      have e3 := ClsV.all k rv
      subst e3
      obtain ⟨oc, od, dt, sl⟩ := o
      simp only at h2 h3
      subst h2 h3
      exact PySem.W.kia_tup (PySem.W.kitx_exc C.cl C.ga C.gg C.exC C.ha C.hn C.ht C.hm) I.kIn at_ h1 e (fun z => nomatch z) fun tk => ⟨.bl b, H, I.kept (t' := tk) fun _ _ z => z, rfl, q⟩
variable {pl : Pl} {G : Env}
theorem de_isXB (i : Nat) {n Y : Str} {cv : V} {u0 : Value} {b : Bool} {p p1 p2 pos : Pos} (C : XiC X.K D) (hz : Zc (.ref D) none oe) (hf : ∃ vs, oe.data = .fields vs) (hm : X.mg "isinstance" = none) (hY : PE (X.suite a ((a, oe) :: pn)) (.Name Y p2) (tC cv)) (hc : ∀ u, RelV cv u → u = u0) (hk : PySem.W.kitOne X.K (.ref D) u0 = some b)
    (hG : G[i]? = some (some (xB a)) := by rfl) (hN : X.N[i]? = some n := by rfl) (hv : Vis X.env.scope n := by first | exact Or.inl rfl | exact Or.inr (Or.inl rfl) | exact Or.inr (Or.inr rfl)) (hd : (n == ("__debug__" : Str)) = false := by decide) (hcd : (n == ("__classdict__" : Str)) = false := by decide)
    (hg : Gl X "isinstance" := by rfl) (he : starEach [.Name n p1, .Name Y p2] X.env = (false, eval (.Name n p1) X.env) :: starEach [.Name Y p2] X.env := by rfl) (he2 : starEach [.Name Y p2] X.env = (false, eval (.Name Y p2) X.env) :: starEach [] X.env := by rfl) (hpl : (backTo pos (starEach [.Name Y p2] X.env)).any (·.1) = false := by rfl) :
    DE (X.suite a ((a, oe) :: pn)) pl G (.Call (.Name "isinstance" p) [.Name n p1, .Name Y p2] [] pos) (fun P => P b) :=
  PE.wk (pe_callB (cr_isB C hz hf) hg hm (by decide +kernel) (pa_cons (pe_var (X := X.suite a ((a, oe) :: pn)) hN hv hd hcd) (pa_cons hY pa_nil he2) he) (by decide) (by decide) he hpl) fun s H Q ⟨F, fp, at_, P, w, K⟩ => by
    obtain ⟨_, v, hv, _, rfl⟩ := at_.sl i _ hG
    exact ⟨_, hv, cv, u0, b, rfl, hc, hk, K.pure at_ .refl w (.bl b)⟩
/-- isinstance(the error, (Y, Z)) -/
theorem de_isXBT (i : Nat) {n Y Z : Str} {cy cz : V} {uy uz : Value} {b : Bool} {k : Nat} {p p1 p2 p3 p4 pos : Pos} (C : XiC X.K D) (hz : Zc (.ref D) none oe) (hf : ∃ vs, oe.data = .fields vs) (hm : X.mg "isinstance" = none) (hY : PE (X.suite a ((a, oe) :: pn)) (.Name Y p2) (tC cy)) (hZ : PE (X.suite a ((a, oe) :: pn)) (.Name Z p3) (tC cz)) (hcy : ClsV cy uy) (hcz : ClsV cz uz) (hk : PySem.W.kitAny X.K (.ref D) [uy, uz] = some b)
    (hG : G[i]? = some (some (xB a)) := by rfl) (hN : X.N[i]? = some n := by rfl) (hv : Vis X.env.scope n := by first | exact Or.inl rfl | exact Or.inr (Or.inl rfl) | exact Or.inr (Or.inr rfl)) (hd : (n == ("__debug__" : Str)) = false := by decide) (hcd : (n == ("__classdict__" : Str)) = false := by decide)
    (hg : Gl X "isinstance" := by rfl) (he : starEach [.Name n p1, .Tuple [.Name Y p2, .Name Z p3] k p4] X.env = (false, eval (.Name n p1) X.env) :: starEach [.Tuple [.Name Y p2, .Name Z p3] k p4] X.env := by rfl) (he2 : starEach [.Tuple [.Name Y p2, .Name Z p3] k p4] X.env = (false, eval (.Tuple [.Name Y p2, .Name Z p3] k p4) X.env) :: starEach [] X.env := by rfl) (hpl : (backTo pos (starEach [.Tuple [.Name Y p2, .Name Z p3] k p4] X.env)).any (·.1) = false := by rfl)
    (he3 : starEach [.Name Y p2, .Name Z p3] X.env = (false, eval (.Name Y p2) X.env) :: starEach [.Name Z p3] X.env := by rfl) (he4 : starEach [.Name Z p3] X.env = (false, eval (.Name Z p3) X.env) :: starEach [] X.env := by rfl) :
    DE (X.suite a ((a, oe) :: pn)) pl G (.Call (.Name "isinstance" p) [.Name n p1, .Tuple [.Name Y p2, .Name Z p3] k p4] [] pos) (fun P => P b) :=
  PE.wk (pe_callB (cr_isBT C hz hf) hg hm (by decide +kernel) (pa_cons (pe_var (X := X.suite a ((a, oe) :: pn)) hN hv hd hcd) (pa_cons (pe_tup (pa_cons hY (pa_cons hZ pa_nil he4) he3)) pa_nil he2) he) (by decide) (by decide) he hpl) fun s H Q ⟨F, fp, at_, P, w, K⟩ => by
    obtain ⟨_, v, hv, _, rfl⟩ := at_.sl i _ hG
    refine ⟨_, hv, by show 2 ≤ sizeLine; decide, fun tp htp => ?_⟩
    have nn : New F H F (upd H tp (.tup [cy, cz])) := New.own at_.ex htp
    exact ⟨tp, [cy, cz], [uy, uz], b, rfl, upd_same, .cons hcy (.cons hcz .nil), hk, K.pure (at_.new nn) (.new nn) w (.bl b)⟩
end
section
variable {X : Cx} {pl : Pl} {G : Env} {a dd D : Addr} {oe : Obj} {pn : List (Addr × Obj)} {x : Xc}
def rIsXT (K : Fr) (D a dd : Addr) : List V → Hp → VK → Prop := fun xs H Q => ∃ (tp : Addr) (cs : List V) (us : List Value) (b : Bool) (fs : List (Str × V)), xs = [.ref a, .ref tp] ∧ H dd = some (.xd fs) ∧ H tp = some (.tup cs) ∧ Paired ClsV cs us ∧ PySem.W.kitAny K (.ref D) us = some b ∧ Q (.bl b) H
theorem cr_isXT (C : XiC X.K D) (hz : Zc (.ref D) (some dd) oe) (hf : ∃ vs, oe.data = .fields vs) : CallR (X.suite a ((a, oe) :: pn)) (.builtin "isinstance") (rIsXT X.K D a dd) := by
  intro pins s σ H xs us Q I r ⟨tp, cs, ws, b, fs, exs, hd, hT, k, e, q⟩
  subst exs
  cases r with
  | cons rx r => cases r with
    | cons rc r =>
      cases r; cases rx
      cases rc
      have pin := (I.pin (a, oe) (List.mem_append_left _ List.mem_cons_self)).1
      obtain ⟨vs, hv⟩ := hf
      obtain ⟨m, hns, _⟩ := I.hok dd _ hd
      obtain ⟨od, ho, _⟩ := lookIn_ns hns
      have at_ : PySem.W.InstAt s.heap a oe D (some od) := ⟨pin, hz.1, by unfold PySem.W.notCls; rw [hv], by rw [hz.2]; exact ho⟩
      obtain ⟨_, its, rv, o, h1, h2, n, h3⟩ := (show ObjOk _ _ H s.heap tp (.tup cs) from I.hok tp _ hT)
      have e3 := ClsV.all k rv
      subst e3
      obtain ⟨oc, od', dt, sl⟩ := o
      simp only at h2 h3
      subst h2 h3
      exact PySem.W.kia_tup (PySem.W.kitx_exc C.cl C.ga C.gg C.exC C.ha C.hn C.ht C.hm) I.kIn at_ h1 e (fun z => nomatch z) fun tk => ⟨.bl b, H, I.kept (t' := tk) fun _ _ z => z, rfl, q⟩
/-- isinstance(the error, (Y, Z)), an error with a field -/
theorem de_isXT (i : Nat) {n Y Z : Str} {cy cz : V} {uy uz : Value} {b : Bool} {k : Nat} {p p1 p2 p3 p4 pos : Pos} (C : XiC X.K D) (hz : Zc (.ref D) (some dd) oe) (hf : ∃ vs, oe.data = .fields vs) (hm : X.mg "isinstance" = none) (hY : PE (X.suite a ((a, oe) :: pn)) (.Name Y p2) (tC cy)) (hZ : PE (X.suite a ((a, oe) :: pn)) (.Name Z p3) (tC cz)) (hcy : ClsV cy uy) (hcz : ClsV cz uz) (hk : PySem.W.kitAny X.K (.ref D) [uy, uz] = some b)
    (hG : G[i]? = some (some (xA a dd x)) := by rfl) (hN : X.N[i]? = some n := by rfl) (hv : Vis X.env.scope n := by first | exact Or.inl rfl | exact Or.inr (Or.inl rfl) | exact Or.inr (Or.inr rfl)) (hd : (n == ("__debug__" : Str)) = false := by decide) (hcd : (n == ("__classdict__" : Str)) = false := by decide)
    (hg : Gl X "isinstance" := by rfl) (he : starEach [.Name n p1, .Tuple [.Name Y p2, .Name Z p3] k p4] X.env = (false, eval (.Name n p1) X.env) :: starEach [.Tuple [.Name Y p2, .Name Z p3] k p4] X.env := by rfl) (he2 : starEach [.Tuple [.Name Y p2, .Name Z p3] k p4] X.env = (false, eval (.Tuple [.Name Y p2, .Name Z p3] k p4) X.env) :: starEach [] X.env := by rfl) (hpl : (backTo pos (starEach [.Tuple [.Name Y p2, .Name Z p3] k p4] X.env)).any (·.1) = false := by rfl)
    (he3 : starEach [.Name Y p2, .Name Z p3] X.env = (false, eval (.Name Y p2) X.env) :: starEach [.Name Z p3] X.env := by rfl) (he4 : starEach [.Name Z p3] X.env = (false, eval (.Name Z p3) X.env) :: starEach [] X.env := by rfl) :
    DE (X.suite a ((a, oe) :: pn)) pl G (.Call (.Name "isinstance" p) [.Name n p1, .Tuple [.Name Y p2, .Name Z p3] k p4] [] pos) (fun P => P b) :=
  PE.wk (pe_callB (cr_isXT C hz hf) hg hm (by decide +kernel) (pa_cons (pe_var (X := X.suite a ((a, oe) :: pn)) hN hv hd hcd) (pa_cons (pe_tup (pa_cons hY (pa_cons hZ pa_nil he4) he3)) pa_nil he2) he) (by decide) (by decide) he hpl) fun s H Q ⟨F, fp, at_, P, w, K⟩ => by
    obtain ⟨_, v, hv, _, rfl, fv, hF, ha⟩ := at_.sl i _ hG
    refine ⟨_, hv, by show 2 ≤ sizeLine; decide, fun tp htp => ?_⟩
    have nn : New F H F (upd H tp (.tup [cy, cz])) := New.own at_.ex htp
    have hdd : H dd = some (.xd [(x.fld, fv)]) := at_.ex _ _ hF
    have ne : dd ≠ tp := fun e => by rw [e, htp] at hdd; cases hdd
    exact ⟨tp, [cy, cz], [uy, uz], b, _, rfl, by rw [upd_ne ne]; exact hdd, upd_same, .cons hcy (.cons hcz .nil), hk, K.pure (at_.new nn) (.new nn) w (.bl b)⟩
end
theorem exm_to {K : Fr} {C S : Addr} {b : Bool} (h1 : PySem.W.subIn K (.ref S) (.type "BaseException") = some true) (h2 : (PySem.W.clsIn K S).isSome = true) (h3 : PySem.W.typeIn K (.ref S) = some (.type "type")) (h4 : PySem.W.subIn K (.ref C) (.ref S) = some b) : PySem.W.exmOne K (.ref C) (.ref S) = some b := by
  unfold PySem.W.exmOne PySem.W.kitCls
  simp [h1, h2, h3, h4]
end Dm

set_option Elab.async false
set_option linter.all false
set_option maxRecDepth 100000
set_option maxHeartbeats 2000000
/-! Dm: part Zs: a list of three of unlike kinds. -/
namespace Dm
open PySem PySem.Spec PyProof.Rows L2
variable [TabC]
structure Lt (α β γ : Type) where
  a : α
  b : β
  c : γ
instance {α β γ : Type} [Enc α] [Enc β] [Enc γ] : Enc (Lt α β γ) := ⟨fun p => PyData.list [Enc.enc p.a, Enc.enc p.b, Enc.enc p.c]⟩
theorem Sub.off3 {G : Env} {i j k : Nat} {x y z : Option Asrt} (h : G[i]? = some none) (h2 : G[j]? = some none) (h3 : G[k]? = some none) : Sub (((G.set i x).set j y).set k z) G := ⟨by rw [List.length_set, List.length_set, List.length_set], fun {m} {A} e => by
  by_cases hj : m = k
  · subst hj; rw [h3] at e; cases e
  · rw [List.getElem?_set_ne (Ne.symm hj)]
    exact (Sub.off2 h h2).get e⟩
section
variable {X : Cx} {pl : Pl} {G : Env} {α β γ : Type} [Enc α] [Enc β] [Enc γ]
theorem de_l3 {e e1 e2 : Expr} {pos : Pos} {wa : W α} {wb : W β} {wc : W γ} (ha : DE X pl G e wa) (hb : DE X pl G e1 wb) (hcc : DE X pl G e2 wc) (h1 : starEach [e, e1, e2] X.env = (false, eval e X.env) :: starEach [e1, e2] X.env := by rfl) (h2 : starEach [e1, e2] X.env = (false, eval e1 X.env) :: starEach [e2] X.env := by rfl) (h3 : starEach [e2] X.env = (false, eval e2 X.env) :: starEach [] X.env := by rfl) :
    DE X pl G (.List [e, e1, e2] pos) (fun P => wa fun a => wb fun b => wc fun c => P (Lt.mk a b c)) := PE.wk (pe_lst (pa_cons ha (pa_cons hb (pa_cons hcc pa_nil h3) h2) h1)) fun s H Q ⟨F, fp, at_, P, w, K⟩ =>
  ⟨F, fp, at_, _, w, fun a v F1 H1 fp1 S1 w1 a1 g1 b1 _ => ⟨F1, fp1, a1, _, w1, fun b u F2 H2 fp2 S2 w2 a2 g2 b2 _ => ⟨F2, fp2, a2, _, w2, fun c t F3 H3 fp3 S3 w3 a3 g3 b3 _ => ⟨lineOf (by decide : 3 ≤ 100000), fun q hq =>
    K.fro a3 ((g1.trans g2).trans g3) w3 (New.fro a3.ex hq) (.lst upd_same (HasAll.mono (Ex.new (a3.fnone hq)) (.cons (b1.2.mono (g2.trans g3).exF) (.cons (b2.2.mono g3.exF) (.cons b3.2 .nil)))))⟩⟩⟩⟩
theorem dg_l3 (i j m : Nat) {x y z : Str} {k : Nat} {pos p1 p2 p3 : Pos} (hc : X.calm = true) (hN : X.N.Nodup) (hl : Nat.blt i G.length = true := by rfl) (hl2 : Nat.blt j G.length = true := by rfl) (hl3 : Nat.blt m G.length = true := by rfl) (hi : X.N[i]? = some x := by rfl) (hj : X.N[j]? = some y := by rfl) (hm : X.N[m]? = some z := by rfl) (hx : Loc X.env.scope x := by first | exact Or.inl rfl | exact Or.inr rfl) (hy : Loc X.env.scope y := by first | exact Or.inl rfl | exact Or.inr rfl) (hz : Loc X.env.scope z := by first | exact Or.inl rfl | exact Or.inr rfl)
    (hf : X.fn x = true ∨ X.env.scope.names.lookup x = some .local := by first | exact .inl rfl | exact .inr rfl) (hf2 : X.fn y = true ∨ X.env.scope.names.lookup y = some .local := by first | exact .inl rfl | exact .inr rfl) (hf3 : X.fn z = true ∨ X.env.scope.names.lookup z = some .local := by first | exact .inl rfl | exact .inr rfl)
    (hn : (assignEach [.Name x p1, .Name y p2, .Name z p3] X.env).length = 3 := by rfl) (hst : (assignEach [.Name x p1, .Name y p2, .Name z p3] X.env).findIdx? (·.1) = none := by rfl)
    (hs : (assignEach (Expr.Name x p1 :: [.Name y p2, .Name z p3]) X.env).map (·.2) = assign (.Name x p1) X.env :: (assignEach [.Name y p2, .Name z p3] X.env).map (·.2) := by rfl) (hs2 : (assignEach (Expr.Name y p2 :: [.Name z p3]) X.env).map (·.2) = assign (.Name y p2) X.env :: (assignEach [.Name z p3] X.env).map (·.2) := by rfl) (hs3 : (assignEach (Expr.Name z p3 :: []) X.env).map (·.2) = assign (.Name z p3) X.env :: (assignEach [] X.env).map (·.2) := by rfl) :
    DG X pl G (.Tuple [.Name x p1, .Name y p2, .Name z p3] k pos) [i, j, m] (fun a : Lt α β γ => ((G.set i (some (fro a.a))).set j (some (fro a.b))).set m (some (fro a.c))) := PG.wk (pg_lst hc (pgs_cons (pg_name hN hi hx hf) (pgs_cons (pg_name hN hj hy hf2) (pgs_cons (pg_name hN hm hz hf3) pgs_nil hs3) hs2) hs) hn hst) fun v s H Q ⟨F, fp, a, at_, b, K⟩ => by
  cases b with
  | lst h1 h2 => cases h2 with
    | cons u1 h3 => cases h3 with
      | cons u2 h4 => cases h4 with
        | cons u3 h5 => cases h5 with
          | nil =>
            obtain ⟨fp1, a1, l1⟩ := at_.setF (blt_lt hl) u1
            obtain ⟨fp2, a2, l2⟩ := a1.setF (i := j) (by rw [List.length_set]; exact blt_lt hl2) u2
            obtain ⟨fp3, a3, l3⟩ := a2.setF (i := m) (by rw [List.length_set, List.length_set]; exact blt_lt hl3) u3
            exact ⟨_, _, rfl, SqL.of (at_.ex _ _ h1), rfl, _, _, rfl, _, _, rfl, _, _, rfl, rfl, K _ fp3 a3 (fun i q m => l1 i q (l2 i q (l3 i q m))) fun vs h => by
              rw [wipe_set (h m (List.mem_cons_of_mem _ (List.mem_cons_of_mem _ List.mem_cons_self))), wipe_set (h j (List.mem_cons_of_mem _ List.mem_cons_self)), wipe_set (h i List.mem_cons_self)]⟩
end
/-! ### a text among the module's texts -/
theorem inV_strs {a : Str} : ∀ {xs : List Str}, inV (.str a) (xs.map V.str) = decide (a ∈ xs)
  | [] => rfl
  | x :: xs => by
    have ih := inV_strs (a := a) (xs := xs)
    unfold inV at ih ⊢
    rw [List.map_cons, List.any_cons, ih, Bool.eq_iff_iff, Bool.or_eq_true, decide_eq_true_iff, decide_eq_true_iff, List.mem_cons]
    have : eqV (.str x) (.str a) = true ↔ a = x := by
      show (x == a) = true ↔ a = x
      rw [beq_iff_eq]; exact eq_comm
    rw [this]
theorem flat_strs : ∀ xs : List Str, (xs.map V.str).all flatV = true
  | [] => rfl
  | x :: xs => by rw [List.map_cons, List.all_cons, flat_strs xs]; rfl
section
variable {X : Cx} {pl : Pl} {G : Env} {e : Expr} {wa : W Str} {c : Addr} {xs : List Str} {x : Str} {pos pos' : Pos}
theorem inS_go {neg : Bool} {te : TE} (k : ∀ s H Q, tX pl G (fun a : Str => fro a) wa s H Q → te s H Q) (hk : KStrs X.K c xs) (s : L2.St) (H : Hp) (Q : VK) (z : tX pl G (fun b : Bool => fro b) (fun P => wa fun a => P (if neg = true then !decide (a ∈ xs) else decide (a ∈ xs))) s H Q) :
    te s H fun x H1 => rIn X.K neg x (.ref c) H1 Q := by
  obtain ⟨F, fp, at_, P, w, K⟩ := z
  refine k s H _ ⟨F, fp, at_, _, w, fun a v F1 H1 fp1 S1 p a1 g1 b1 _ => ?_⟩
  cases b1.2
  refine ⟨_, _, rfl, .inr (hk.sq H1), rfl, flat_strs xs, ?_⟩
  rw [inV_strs]
  exact K.pure a1 g1 p (by cases neg <;> exact .bl _)
theorem de_inS (hm : X.mg x = some (.ref c)) (hk : KStrs X.K c xs) (ha : DE X pl G e wa) (hg : Gl X x := by rfl) (hd : (x == ("__debug__" : Str)) = false := by decide) (hmk : behindInMarks .In (.Name x pos') = false := by first | exact nomark _ | rfl) : DE X pl G (.Compare e [.In] [.Name x pos'] pos) (fun P => wa fun a => P (decide (a ∈ xs))) :=
  PE.wk (pe_cmpR op_in_seq ha (pe_globA hg hm hd) hmk) (inS_go (neg := false) (fun _ _ _ z => z) hk)
theorem dt_inS (hm : X.mg x = some (.ref c)) (hk : KStrs X.K c xs) (ha : DE X pl G e wa) (hg : Gl X x := by rfl) (hd : (x == ("__debug__" : Str)) = false := by decide) (hmk : behindInMarks .In (.Name x pos') = false := by first | exact nomark _ | rfl) : DT X pl G (.Compare e [.In] [.Name x pos'] pos) (fun P => wa fun a => P (decide (a ∈ xs))) :=
  PT.wk (pt_cmpR op_in_seq ha (pe_globA hg hm hd) hmk) (tTest_go (inS_go (neg := false) (fun _ _ _ z => z) hk))
theorem de_ninS (hm : X.mg x = some (.ref c)) (hk : KStrs X.K c xs) (ha : DE X pl G e wa) (hg : Gl X x := by rfl) (hd : (x == ("__debug__" : Str)) = false := by decide) (hmk : behindInMarks .NotIn (.Name x pos') = false := by first | exact nomark _ | rfl) : DE X pl G (.Compare e [.NotIn] [.Name x pos'] pos) (fun P => wa fun a => P (!decide (a ∈ xs))) :=
  PE.wk (pe_cmpR op_notIn_seq ha (pe_globA hg hm hd) hmk) (inS_go (neg := true) (fun _ _ _ z => z) hk)
theorem dt_ninS (hm : X.mg x = some (.ref c)) (hk : KStrs X.K c xs) (ha : DE X pl G e wa) (hg : Gl X x := by rfl) (hd : (x == ("__debug__" : Str)) = false := by decide) (hmk : behindInMarks .NotIn (.Name x pos') = false := by first | exact nomark _ | rfl) : DT X pl G (.Compare e [.NotIn] [.Name x pos'] pos) (fun P => wa fun a => P (!decide (a ∈ xs))) :=
  PT.wk (pt_cmpR op_notIn_seq ha (pe_globA hg hm hd) hmk) (tTest_go (inS_go (neg := true) (fun _ _ _ z => z) hk))
end
/-! ### the script itself, read by the law -/
section
variable {X : Cx} {pl : Pl} {G : Env} {ns : List Int} {x : Str} {e' : Expr} {wi : W Int} {pos pos' pos2 : Pos}
theorem de_ixScr (i : Nat) (hb : DE X pl G e' wi) (h : G[i]? = some (some (scr X.K ns)) := by rfl) (hN : X.N[i]? = some x := by rfl) (hv : Vis X.env.scope x := by first | exact Or.inl rfl | exact Or.inr (Or.inl rfl) | exact Or.inr (Or.inr rfl)) (hd : (x == ("__debug__" : Str)) = false := by decide)
    (hcd : (x == ("__classdict__" : Str)) = false := by decide) (hs : PlainIx e' := by exact fun _ _ => rfl) : DE X pl G (.Subscript (.Name x pos') e' pos) (fun P => wi fun j => wIdx ns j P) := PE.wk (pe_ix ix_list (pe_var hN hv hd hcd) hb hs) fun s H Q ⟨F, fp, at_, P, w, K⟩ => by
  obtain ⟨_, v, hv2, _⟩ := at_.sl i _ h
  refine ⟨v, hv2, F, fp, at_, _, w, fun j z F1 H1 fp1 S1 ⟨n, en, p⟩ a1 g1 b1 _ => ?_⟩
  obtain ⟨_, v', hv', _, a, rfl, hs'⟩ := a1.sl i _ h
  rw [hv2] at hv'; cases hv'
  cases b1.2
  obtain ⟨u, e1, e2⟩ := atI_has (F := F1) (as := ns) (HasAll.ints ns) en
  exact ⟨_, _, _, u, rfl, rfl, sqL_ex a1.ex hs', e1, K.pure a1 g1 p e2⟩
theorem dp_sq {K : Fr} {H : Hp} {a : Addr} {ns : List Int} (h : SqL K H a (ns.map V.int)) : Dp K H (.ref a) (.list (ns.map PyData.int)) := .lst h (by
  have : ∀ ms : List Int, DpAll K H (ms.map V.int) (ms.map PyData.int) := fun ms => by
    induction ms with
    | nil => exact .nil
    | cons m ms ih => exact .cons (.int m) ih
  exact this ns)
theorem neScr_go (i : Nat) (h : G[i]? = some (some (scr X.K ns))) (s : L2.St) (H : Hp) (Q : VK) (z : tX pl G (fun b : Bool => fro b) (fun P => P (!ns.isEmpty)) s H Q) :
    ∃ v, s[i]? = some (some v) ∧ tLst tNil s H fun y H1 => rNeD X.K v y H1 Q := by
  obtain ⟨F, fp, at_, P, w, K⟩ := z
  obtain ⟨_, v, hv2, _, a, rfl, hs⟩ := at_.sl i _ h
  refine ⟨_, hv2, Nat.zero_le _, fun q hq => ?_⟩
  have nn : New F H F (upd H q (.lst [])) := New.own at_.ex hq
  have hs2 : SqL X.K (upd H q (.lst [])) a (ns.map V.int) := sqL_ex (at_.new nn).ex hs
  refine ⟨.list (ns.map PyData.int), .list [], dp_sq hs2, .lst (SqL.of upd_same) .nil, ints_shaped ns, ints_shaped [], ?_⟩
  rw [eqv_nil]
  exact K.pure (at_.new nn) (.new nn) w (.bl _)
theorem dt_neScr (i : Nat) (hu : X.A.units + 200 < cLine) (h : G[i]? = some (some (scr X.K ns)) := by rfl) (hN : X.N[i]? = some x := by rfl) (hv : Vis X.env.scope x := by first | exact Or.inl rfl | exact Or.inr (Or.inl rfl) | exact Or.inr (Or.inr rfl)) (hd : (x == ("__debug__" : Str)) = false := by decide)
    (hcd : (x == ("__classdict__" : Str)) = false := by decide) (hm : behindInMarks .NotEq (.List [] pos2) = false := by first | exact nomark _ | rfl) : DT X pl G (.Compare (.Name x pos') [.NotEq] [.List [] pos2] pos) (fun P => P (!ns.isEmpty)) :=
  PT.wk (pt_cmpR (op_neD (by omega)) (pe_var hN hv hd hcd) (pe_lst pa_nil) hm) (tTest_go (neScr_go i h))
end
end Dm

set_option Elab.async false
set_option linter.all false
set_option maxRecDepth 100000
set_option maxHeartbeats 2000000
/-! Dm: part Zt: a lambda as a sort key: key=lambda x: (len(x), x). -/
namespace Dm
open PySem PySem.Spec PyProof.Rows L2
variable [TabC]
/-- what a def that makes lambdas has: its code object, the table there, which is one of those known -/
structure LamT (mg : Str → Option Value) (base : Heap) (cdv : Value) (q : Str) : Prop where
  ex : ∃ c P, cdv = .ref c ∧ LamX.TabB base mg c P ∧ (P, q) ∈ TabC.tb ∧ ∀ t ∈ TabC.tb, t.1 = P → t.2 = q
/-- an evaluation that makes new things and writes in the tables -/
structure NewT (F H F' H' : Hp) : Prop where
  exF : Ex F F'
  ex : Ex F' H'
  tab : TabOk F' H'
  same : ∀ q, ¬ isTab q → H q ≠ none → H' q = H q
  src : ∀ q, F' q ≠ none → F q ≠ none ∨ H q = none
  grow : ∀ q, H q ≠ none → H' q ≠ none
theorem NewT.keepN {F H F' H' : Hp} (n : NewT F H F' H') {q : Addr} (h : H q ≠ none) (f : F q = none) : F' q = none := by
  by_cases z : F' q = none
  · exact z
  · exact (n.src q z).elim (fun y => absurd f y) fun y => absurd y h
theorem At.newT {pl : Pl} {G : Env} {F H F' H' : Hp} {s : L2.St} {fp : Foot} (a : At pl G F H s fp) (n : NewT F H F' H') : At pl G F' H' s fp ∧ Go pl F H fp F' H' fp := by
  have nt : ∀ i q, fp i q → ¬ isTab q := fun i q m z => a.pdis i q m (.inr z)
  refine ⟨⟨n.ex, a.len, fun i A e => ?_, a.dis, a.out, ⟨fun p f ep => ?_, n.tab⟩, a.pdis⟩, ⟨n.exF, fun q h _ np => ⟨n.same q (fun z => np (.inr z)) h, fun f => n.keepN h f⟩, fun i q m => .inl ⟨i, m⟩, n.grow⟩⟩
  · obtain ⟨g, v, hv, hA⟩ := a.sl i A e
    exact ⟨g, v, hv, g.frame hA n.exF fun q m => ⟨n.keepN (g.own hA q m).2 (g.own hA q m).1, n.same q (nt i q m) (g.own hA q m).2⟩⟩
  · have own := a.pool.at_ p f ep
    refine own.frame n.exF fun q m => ?_
    have th := a.pool.there (q := q) (.inl ⟨p, f, ep, m⟩)
    have ntq : ¬ isTab q := fun z => by
      obtain ⟨_, ps, y⟩ := a.pool.tab.there z
      exact own.seen m ps y
    exact ⟨n.keepN th.2 th.1, n.same q ntq th.2⟩
section
variable {X : Cx} {pins : List (Addr × Obj)} {σ : L2.St} {H F : Hp} {s : Shared}
/-- the lambda is made: its code is new, or in the table -/
theorem lam_new {params : Arguments} {body : Expr} {scope : Scope} {pos : Pos} {E : Value → Shared → Prop} {Q : Value → Shared → Prop} {q : Str} (I : Inv X pins σ H s) (TL : LamT X.mg X.base X.env.code q) (hq : X.env.qual ++ "<lambda>" = q) (e : Ex F H) (tk : TabOk F H) (hdef : defaultsOf params X.env = ([], [])) (hfree : ∀ y ∈ scope.names, y.2 ≠ .free)
    (h : ∀ (f c' : Addr) (pm ctv : Value) (F1 H1 : Hp) (s' : Shared), Inv X pins σ H1 s' → NewT F H F1 H1 →
      s'.heap.get? f = some (PySem.W.kla_obj "<lambda>" q params body scope (cloFrom X.env.cells scope.names []) pm c' ctv) → H1 c' = some (LamX.CodeO c' q) → Q (.ref f) s') :
    wpAny (model X.prog X.w) X.A (eval (.Lambda params body scope pos) X.env) Q E s := by
  obtain ⟨c, P, hc, TB, hm, hu⟩ := TL.ex
  subst hq
  obtain ⟨fP, ps, hP, ht, ha⟩ := tk _ hm
  have heapP : s.heap.get? P = some { cls := .none, data := .fields ps } := I.hok P _ hP
  have builtP : s.heap.BuiltinsAt X.mg P := TB.bm.keeps I.bk
  have clo := closure_ok (env := X.env) (scope := scope) fun y hy z => absurd z (hfree y hy)
  refine PySem.W.kla_eval hdef ?_
  cases hk : codeAmong pos ps.toList with
  | some cv =>
    obtain ⟨c', rfl, hF⟩ := ha pos cv hk
    refine PySem.W.kla_makeFunctionHit (mg := X.mg) (c := c) (P := P) (ps := ps) clo I.ok.glob (I.mod.glob.keeps I.bk) hc (TB.code.keeps I.bk) heapP ht hk builtP fun ctv h' t' hx hsz => ?_
    have J := I.kept (t' := t') (h' := h'.push (PySem.W.kla_obj "<lambda>" (X.env.qual ++ "<lambda>") params body scope (cloFrom X.env.cells scope.names []) ((X.mg "__name__").getD .none) c' ctv)) fun b o z => Heap.get?_push_of_some _ (hx b o z)
    exact h h'.objs.size c' _ ctv F H _ J ⟨Ex.refl F, e, tk, fun _ _ _ => rfl, fun _ z => .inl z, fun _ z => z⟩ (Heap.get?_push_size _ rfl) (e _ _ hF)
  | none =>
    refine PySem.W.kla_makeFunction (mg := X.mg) (c := c) (P := P) (ps := ps) clo I.ok.glob (I.mod.glob.keeps I.bk) hc (TB.code.keeps I.bk) heapP ht hk TB.gP builtP fun c' ctv h' t' hx hge hlt hrec htb => ?_
    obtain ⟨c2, oc, vs, t, ec, hoc, hd, hv⟩ := hrec
    cases ec
    have newC : H c' = none := I.hok.fresh hge
    have newF : F c' = none := e.fnone newC
    have PC : P ≠ c' := fun z => by rw [← z, hP] at newC; cases newC
    have J := LamX.inv_table (t' := t') (q := X.env.qual ++ "<lambda>") (more := #[rawInt pos.line, rawInt pos.col, .ref c']) (h' := h'.push (PySem.W.kla_obj "<lambda>" (X.env.qual ++ "<lambda>") params body scope (cloFrom X.env.cells scope.names []) ((X.mg "__name__").getD .none) c' ctv)) I hP
      (fun b o hb z => Heap.get?_push_of_some _ (hx b o hb z)) (Heap.get?_push_of_some _ htb) hge ⟨oc, vs, t, Heap.get?_push_of_some _ hoc, hd, hv⟩
    generalize hH1 : upd (upd H P (.tbl (ps ++ #[rawInt pos.line, rawInt pos.col, .ref c']))) c' (LamX.CodeO c' (X.env.qual ++ "<lambda>")) = H1 at J
    have atC : H1 c' = some (LamX.CodeO c' (X.env.qual ++ "<lambda>")) := by rw [← hH1, upd_same]
    have atP : H1 P = some (.tbl (ps ++ #[rawInt pos.line, rawInt pos.col, .ref c'])) := by rw [← hH1, upd_ne PC, upd_same]
    have atB : ∀ b, b ≠ P → b ≠ c' → H1 b = H b := fun b h1 h2 => by rw [← hH1, upd_ne h2, upd_ne h1]
    have tabP : isTab P := ⟨_, hm, rfl⟩
    have exH : Ex (upd F c' (LamX.CodeO c' (X.env.qual ++ "<lambda>"))) H1 := fun b o z => by
      by_cases hb : b = c'
      · rw [hb, upd_same] at z; rw [hb, atC]; exact z
      · rw [upd_ne hb] at z
        rw [atB b (fun y => by rw [y, fP] at z; cases z) hb]
        exact e _ _ z
    have kpF : Ex F (upd F c' (LamX.CodeO c' (X.env.qual ++ "<lambda>"))) := Ex.new newF
    refine h h'.objs.size c' _ ctv (upd F c' (LamX.CodeO c' (X.env.qual ++ "<lambda>"))) H1 _ J ⟨kpF, exH, fun x hx => ?_, fun b nb hb => ?_, fun b z => ?_, fun b z => ?_⟩ (Heap.get?_push_size _ rfl) atC
    · by_cases xP : x.1 = P
      · rw [hu x hx xP, xP]
        refine ⟨(upd_ne PC).trans fP, _, atP, by rw [Array.toList_append]; exact PySem.TriplesOk_snoc _ _ _ _ ht, fun p' cv hcv => ?_⟩
        rw [Array.toList_append] at hcv
        rcases LamX.among_app _ ht hcv with z | z
        · obtain ⟨c0, e1, e2⟩ := ha p' cv z
          exact ⟨c0, e1, kpF _ _ e2⟩
        · exact ⟨c', z, upd_same⟩
      · obtain ⟨f1, ps1, h1, t1, a1⟩ := tk x hx
        have xc : x.1 ≠ c' := fun z => by rw [z, newC] at h1; cases h1
        refine ⟨(upd_ne xc).trans f1, ps1, (atB _ xP xc).trans h1, t1, fun p' cv hcv => ?_⟩
        obtain ⟨c0, e1, e2⟩ := a1 p' cv hcv
        exact ⟨c0, e1, kpF _ _ e2⟩
    · exact atB b (fun z => nb (z ▸ tabP)) fun z => hb (z ▸ newC)
    · by_cases hb : b = c'
      · exact .inr (hb ▸ newC)
      · rw [upd_ne hb] at z; exact .inl z
    · by_cases hb : b = P
      · rw [hb, atP]; simp
      · rw [atB b hb fun y => z (y ▸ newC)]; exact z
end
/-- (len(y), y), with y a lot -/
theorem place_ev {P : Program} {w : World} {mg : Str → Option Value} {A : Around} {s s1 : Shared} {y : Str} {t : Addr} {vs : List Value} {ns : List Int} {m cm : Str → Option Value} {env : PySem.Env} {p1 p2 p3 p4 p5 : Pos} {k : Nat}
    (x : InCallC s env.locals m env.cells cm s1) (hk : env.scope.kind = .function) (hl : env.kindOf y = some .local) (hg : env.kindOf ("len" : Str) = some .globalImplicit) (gg : env.globals = mainGlobals) (gb : env.builtins = builtinsNs) (hv : m y = some (.ref t))
    (hyd : (y == ("__debug__" : Str)) = false) (hglob : s.heap.Ns mainGlobals mg) (hblt : ∃ mb, s.heap.Ns builtinsNs mb ∧ ∀ x : Str, x ≠ "__name__" → mb x = bootBuiltins x) (hm : mg "len" = none) (ht : IsTup s.heap t vs.toArray) (hi : IntsAre vs ns) (hz : vs.length ≤ sizeLine) {E : Value → Shared → Prop} :
    wpAny (model P w) A (eval (.Tuple [.Call (.Name "len" p1) [.Name y p2] [] p3, .Name y p4] k p5) env) (fun v s' => PySem.W.KeyPure (.tuple [.int ns.length, .tuple (ns.map .int)]) s v s') E s1 := by
  obtain ⟨mb, hb1, hb2⟩ := hblt
  have keep := x.toInCall.keep
  refine wpAny_Tuple_spliced (Calls.spliced_cons (wpAny_Call_Name_kw (Calls.Name_function_global hk hg (Calls.loadGlobal_builtin (by rw [gg]; exact hglob.keeps keep) hm (by rw [gb]; exact hb1.keeps keep) ((hb2 "len" (by decide)).trans rfl) ?_))))
  refine PyProof.Rows.callWith_builtin1 (Calls.spliced_cons (NameLC x hk hl hv (Calls.spliced_nil ?_) hyd)) rfl rfl
  have zz : vs.length ≤ 16777216 := by rw [← sizeLine_eq]; exact hz
  refine len_tuple (isTup_keep keep ht) (by rw [List.size_toArray]; omega) (Calls.spliced_cons (NameLC (x.tok _) hk hl hv (Calls.spliced_nil ⟨by show 2 ≤ sizeLine; rw [sizeLine_eq]; omega, ?_⟩) hyd))
  obtain ⟨h1, tk, e, kp⟩ := x.done
  subst e
  refine ⟨_, _, rfl, fun b o q => Heap.get?_push_of_some _ (kp b o q), ?_⟩
  have k2 : ∀ b o, s.heap.get? b = some o → (h1.push { cls := .type "tuple", data := .seq [Value.int (vs.toArray.size : Nat) (tk + 1), Value.ref t].toArray }).get? b = some o := fun b o q => Heap.get?_push_of_some _ (kp b o q)
  obtain ⟨o, e1, e2, n, e3⟩ := isTup_keep k2 ht
  refine Reads.tuple (Heap.get?_push_size _ rfl) rfl rfl (ReadsAll.cons (as := []) (bs := []) ?_ (ReadsAll.cons (as := []) (bs := []) (Reads.tuple e1 e2 e3 (readsAll_ints hi)) .nil))
  have : ((vs.toArray.size : Nat) : Int) = ns.length := by rw [List.size_toArray, hi.length]
  rw [← this]
  exact .int _ _
/-- a lambda of one parameter y with such a body -/
structure LamPlace (y : Str) (params : Arguments) (body : Expr) (scope : Scope) : Prop where
  ex : ∃ (p1 p2 p3 p4 p5 : Pos) (k : Nat), body = .Tuple [.Call (.Name "len" p1) [.Name y p2] [] p3, .Name y p4] k p5
  kind : scope.kind = .function
  co : scope.isCoroutine = false
  gen : scope.isGenerator = false
  hy : scope.names.lookup y = some .local
  hlen : scope.names.lookup ("len" : Str) = some .globalImplicit
  clo : ∀ cells : List (Str × Addr), cloFrom cells scope.names [] = []
  free : ∀ z ∈ scope.names, z.2 ≠ .free
  bind : ∀ (q : Str) (pm cdv ctv u : Value), bindArgs (PySem.W.kla_fn "<lambda>" q params body scope [] pm cdv ctv) ⟨[u], []⟩ = pure [(y, u)]
  nd : (y == ("__debug__" : Str)) = false
theorem lam_pure {P : Program} {w : World} {K : Fr} {mg : Str → Option Value} {base : Heap} {A : Around} {s : Shared} {y q : Str} {params : Arguments} {body : Expr} {scope : Scope} {pm ctv : Value} {f c' t : Addr} {vs : List Value} {ns : List Int} (L : LamPlace y params body scope)
    (hf : s.heap.get? f = some (PySem.W.kla_obj "<lambda>" q params body scope [] pm c' ctv)) (hcd : s.heap.CodeRec (.ref c') q)
    (M : Mod K mg base) (kp : ∀ b o, base.get? b = some o → s.heap.get? b = some o) (hm : mg "len" = none) (hroom : A.depth < recursionLimit)
    (ht : IsTup s.heap t vs.toArray) (hi : IntsAre vs ns) (hz : vs.length ≤ sizeLine) :
    wpAny (model P w) A (call (.ref f) [.ref t]) (PySem.W.KeyPure (.tuple [.int ns.length, .tuple (ns.map .int)]) s) (fun _ _ => False) s := by
  obtain ⟨p1, p2, p3, p4, p5, k, rfl⟩ := L.ex
  have nl : s.heap.NoLimit := M.nolimit.keeps kp
  refine wpAny_call (codeAny_mono (R := fun r s' => ∃ v, r = .ok (.ret v) ∧ PySem.W.KeyPure (.tuple [.int ns.length, .tuple (ns.map .int)]) s v s') ?_ fun r s' hq => ?_)
  · refine PySem.W.kla_callFunE hroom hf rfl L.co L.gen rfl hcd ?_
    rw [L.bind]
    refine wpAny_pure (wpAny_newFunctionEnv_cells L.kind ?_ fun env he s1 x => ?_)
    · intro z hz
      have := List.mem_singleton.mp hz
      exact .inl (by rw [this]; exact L.hy)
    subst he
    refine ⟨nl.keeps x.toInCall.keep, PySem.W.kla_codeExpr ?_⟩
    refine wpAny_mono (place_ev (E := fun _ _ => False) x L.kind L.hy L.hlen rfl rfl ?_ L.nd (M.glob.keeps kp) ?_ hm ht hi hz) (fun v s' hs => ⟨v, rfl, hs⟩) fun _ _ e => e.elim
    · show bindL _ [(y, Value.ref t)] _ y = _
      unfold bindL bindL
      exact (congrFun (if_pos L.hy) y).trans (if_pos rfl)
    · obtain ⟨mb, h1, h2⟩ := M.blt
      exact ⟨mb, h1.keeps kp, h2⟩
  · obtain ⟨v, rfl, hq⟩ := hq
    exact hq
/-- sorted(e, key=lambda y: (len(y), y)) -/
theorem dx_sortPL {X : Cx} {pl : Pl} {G : Env} {e : Expr} {w : W (List (Tup Int))} {p pos kpos lpos : Pos} {y q : Str} {params : Arguments} {body : Expr} {scope : Scope} {k : Nat} (hm : X.mg "sorted" = none) (hml : X.mg "len" = none) (TL : LamT X.mg X.base X.env.code q) (hr : Room k X.A) (h : DE X pl G e w)
    (L : LamPlace y params body scope := by exact ⟨⟨_, _, _, _, _, _, rfl⟩, rfl, rfl, rfl, rfl, rfl, fun _ => rfl, by decide, fun _ _ _ _ _ => rfl, by decide⟩) (hq : X.env.qual ++ "<lambda>" = q := by rfl) (hdef : defaultsOf params X.env = ([], []) := by rfl)
    (hg : Gl X "sorted" := by rfl)
    (he : backTo pos (starEach [e] X.env) = (false, eval e X.env) :: backTo pos (starEach [] X.env) := by rfl) (hpl : (backTo pos (starEach [e] X.env)).any (·.1) = false := by rfl)
    (he' : starEach [e] X.env = (false, eval e X.env) :: starEach [] X.env := by rfl)
    (hall : (backToKw pos (keywordEach [⟨some (Str.ofString "key"), .Lambda params body scope lpos, kpos⟩] X.env)).all (·.1.isSome) = true := by rfl) (hnone : (backToKw pos (keywordEach [⟨some (Str.ofString "key"), .Lambda params body scope lpos, kpos⟩] X.env)).any (·.1.isNone) = false := by rfl) (hks : (backToKw pos (keywordEach [⟨some (Str.ofString "key"), .Lambda params body scope lpos, kpos⟩] X.env)).filterMap (·.1) = [Str.ofString "key"] := by rfl) :
    DX X pl G (.Call (.Name "sorted" p) [e] [⟨some (Str.ofString "key"), .Lambda params body scope lpos, kpos⟩] pos) (fun a : List (Tup Int) => own a) (fun P => w fun l => P (sortP l)) := by
  refine ⟨fun pins sh s H Q I ⟨F, fp, at_, P, w, K⟩ => wpAny_Call_Name_kw (ld_blt I hg hm (show bootBuiltins ("sorted" : Str) = some (.builtin "sorted") from by decide +kernel) ?_ (by decide) (by decide))⟩
  refine PyProof.Rows.callWith_kw (thn ((pa_cons h pa_nil he').run pos pins sh s H (fun xs H1 => ∃ l v F1 fp1, xs = [v] ∧ P (sortP l) ∧ At pl G F1 H1 s fp1 ∧ Go pl F H fp F1 H1 fp1 ∧ Has F1 v (enc l)) I ⟨F, fp, at_, _, w, fun l v F1 H1 fp1 S1 w1 a1 g1 b1 _ => ⟨l, v, F1, fp1, rfl, w1, a1, g1, b1.2⟩⟩) fun us s1 ⟨xs, H1, I1, r1, l, v, F1, fp1, ex, w1, a1, g1, b1⟩ => ?_) he hpl hall hnone
  subst ex
  rw [hks]
  show wpAny _ _ (evalAll ((do let v ← eval (.Lambda params body scope lpos) X.env; standAt pos; pure v) :: [])) _ _ s1
  refine wpAny_evalAll_cons (wpAny_bind (lam_new I1 TL hq a1.ex a1.pool.tab hdef L.free fun f c' pm ctv F2 H2 s2 I2 nt hf hco => wpAny_bind (wpAny_standAt (wpAny_pure (wpAny_evalAll_nil ?_)))))
  obtain ⟨a2, g2⟩ := a1.newT nt
  rw [L.clo] at hf
  have hcd : s2.heap.CodeRec (.ref c') q := by
    obtain ⟨oc, vs, t, h1, h2, h3⟩ := (I2.hok c' _ hco).1
    exact ⟨c', oc, vs, t, rfl, h1, h2, h3⟩
  have b2 := b1.mono nt.exF
  cases b2 with
  | lst h1 h2 =>
    obtain ⟨bs, e1, e2, e3⟩ := has_lots h2
    subst e1
    subst e2
    obtain ⟨u, rfl, ru⟩ := vals1 r1
    cases ru
    obtain ⟨its, rv, hl, hz⟩ := I2.list (SqL.of (a2.ex _ _ h1))
    have hz' : bs.length ≤ sizeLine := by rw [List.length_map] at hz; exact hz
    have r1u := hr.un
    have r2u := hr.dp
    refine PySem.W.sorted_key_data (b := false) (fun b : Addr × List Int => placeK b.2) hl.isList (each_refs rv) (PySem.W.AllAlike.of fun _ _ => alike_place _ _) (PySem.W.Sortable.tuples fun _ => ⟨_, _, rfl⟩) hz' (fun b _ => ?_) (ksk_s1 _ _) (fun _ => ksk_l1 _ _) (fun _ => ksk_t1 _ _)
      (fun v b hv hb' h' tk kp => ?_) fun out c h' tk kp _ hD hlo eo => ?_
    · have := depth_place b.2; omega
    · subst hv
      obtain ⟨its2, rv2, p2, hz2⟩ := I2.tuple (TupAt.sq (TupAt.mono a2.ex (e3 b hb')))
      have hi := Vals.ints rv2
      have hl2 := rv2.length
      rw [List.length_map] at hl2 hz2
      refine lam_pure (s := { s2 with heap := h', toks := tk }) L (kp _ _ hf) ?_ I2.ok.mod (fun b o e => kp b o (I2.bk b o e)) hml (by show X.A.depth < _; omega) (isTup_keep kp p2) hi (by omega)
      obtain ⟨c2, oc, vs, t, ec, z1, z2, z3⟩ := hcd
      exact ⟨c2, oc, vs, t, ec, kp _ _ z1, z2, z3⟩
    · have fr : H2 (s2.heap.objs.size + 1) = none := I2.hok.fresh (Nat.le_succ _)
      refine ⟨.ref (s2.heap.objs.size + 1), upd H2 (s2.heap.objs.size + 1) (.lst ((bs.mergeSort (PySem.W.dataLe false fun b => placeK b.2)).map fun b => V.ref b.1)), I2.laid (t' := tk) kp (Nat.le_succ _) ⟨?_, out, c, refs_each eo, ?_⟩, rfl, ?_⟩
      · rw [List.length_map, List.length_mergeSort]; exact hz'
      · exact hD
      · refine K.fin (S := fun x => x = s2.heap.objs.size + 1) a2 (g1.trans g2) w1 (New.own a2.ex fr) (own_new (a2.fnone fr) ?_) fun x e => by rw [e]; exact fr
        rw [← sortP_map]
        exact lots_has fun b hb => e3 b ((List.mergeSort_perm _ _).mem_iff.mp hb)
/-! ### bodies that know their code object -/
section
variable {P : Program} {w : World} {K : Fr} {mg : Str → Option Value} {base : Heap} {CX : CXT} {ρ : Type} {B : ρ → Asrt}
theorem FnG.bodyC {k : Nat} {x qual : Str} {st : Stmt} {f : Addr} {fd : FuncData} {N ps : List Str} {sp : Sp} (Fn : Fun K x qual st f fd) (S : FnScope N ps (defScope st)) (len : ∀ vs H Q E, sp vs H Q E → vs.length = ps.length)
    (hb : ∀ (A : Around) (outer : List PySem.Env) (s : Shared) (H : Hp) (vs : List V) (Q : VK) (E : XK), Room k (A.deeper (envOfC qual (defScope st) s.heap.objs.size f fd.code)) → A.guards = some [] → sp vs H Q E →
      ∃ t, PSs (cxOf CX P w K mg base N qual (defScope st) f fd.code A outer s H E) (defBody st) t ∧ t { nx := fun _ H' => Q .non H', rt := Q } (L2.start N vs) H) : FnG P w K mg base CX (k + 1) f fd ps sp := by
  obtain ⟨oc, od, kV, doc, pm, an, cdv, ct, osl, rfl, lk, hcd⟩ := Fn.ex
  refine ⟨len, fun A outer s H args us vs Q E hr hg e0 bd rv hsp => ?_⟩
  have ll := len vs H Q E hsp
  have inK : K.In s.heap := e0.mod.kin.keeps fun b o e => (e0.bs b o e).1
  have nl : s.heap.NoLimit := e0.mod.nolimit.keeps fun b o e => (e0.bs b o e).1
  refine codeAny_call_function hr.depth (inK _ _ lk) rfl S.co S.gen rfl (PySem.W.codeRec_of inK hcd) (bd _ _ _ _ ?_)
  refine wpAny_newFunctionEnv_cells S.kind ?_ fun env he s1 x => ?_
  · intro y hy
    have par := S.par y.1 (List.of_mem_zip (a := y.1) (b := y.2) hy).1
    exact par.elim .inl fun q => .inr ⟨q, PySem.W.cellsFrom_some _ _ _ (.inl q)⟩
  subst he
  refine ⟨nl.keeps x.toInCall.keep, codeAny_func ?_⟩
  obtain ⟨t, ht, hq⟩ := hb A outer s H vs Q E (hr.deeper _) hg hsp
  have I0 := inv_start (CX := CX) (P := P) (w := w) (K := K) (mg := mg) (base := base) (E := E) S hr.hd e0 ll rv x
  refine wpAny_mono (ht.run [] s1 _ H _ I0 hq) (fun fl s' hs => ?_) fun e s' he => he
  cases fl with
  | brk => obtain ⟨_, _, _, z⟩ := hs; exact z.elim
  | cont => obtain ⟨_, _, _, z⟩ := hs; exact z.elim
  | next =>
    obtain ⟨σ', H', J, q⟩ := hs
    exact ⟨V.non, H', J.os, J.bare, J.base, J.hok, rfl, q⟩
  | ret u =>
    obtain ⟨v, σ', H', J, rv, q⟩ := hs
    exact ⟨v, H', J.os, J.bare, J.base, J.hok, rv, q⟩
theorem Fun.bodyFC {k : Nat} {x qual : Str} {st : Stmt} {f : Addr} {fd : FuncData} {N ps : List Str} {M : List D → W ρ → Prop} (Fn : Fun K x qual st f fd) (S : FnScope N ps (defScope st)) (hlen : ∀ ds w, M ds w → ds.length = ps.length)
    (hb : ∀ (A : Around) (outer : List PySem.Env) (s : Shared) (H : Hp) (E : XK), Room k (A.deeper (envOfC qual (defScope st) s.heap.objs.size f fd.code)) → A.guards = some [] → ∀ ds wr, M ds wr →
      ∃ (κ : Type) (w' : WS κ ρ) (G' : κ → Env), DSs (cxOf CX P w K mg base N qual (defScope st) f fd.code A outer s H E).nox none (G0 (ds.map fun d => fro d) N.length) (nrm B) (defBody st) w' G' ∧ ∀ Pr, wr Pr → w' (fun _ => False) Pr) : FnG P w K mg base CX (k + 1) f fd ps (spF M B) := by
  refine FnG.bodyC Fn S (fun vs H Q E ⟨F, ds, wr, _, ha, hM, _⟩ => by rw [ha.length, hlen ds wr hM]) fun A outer s H vs Q E hr hg ⟨F, ds, wr, e, ha, hM, pr⟩ => ?_
  obtain ⟨κ, w', G', h, hw⟩ := hb A outer s H E hr hg ds wr hM
  have hl : ds.length ≤ N.length := by
    have h1 := congrArg List.length S.pre
    rw [List.length_take] at h1
    rw [hlen ds wr hM]; omega
  exact ⟨_, PSs.nox h, prom_end (at_start (Args0.fro ha) e.ex (PoolOk.none e.tab) (by rw [List.length_map]; exact hl)) pr hw⟩
theorem Fun.bodyPC {k : Nat} {x qual : Str} {st : Stmt} {f : Addr} {fd : FuncData} {N ps : List Str} {M : List D → W ρ → Prop} (Fn : Fun K x qual st f fd) (S : FnScope N ps (defScope st)) (hlen : ∀ ds w, M ds w → ds.length + 1 = ps.length)
    (hb : ∀ (A : Around) (outer : List PySem.Env) (s : Shared) (H : Hp) (E : XK) (pp pf : Addr), Room k (A.deeper (envOfC qual (defScope st) s.heap.objs.size f fd.code)) → A.guards = some [] → ∀ ds wr, M ds wr →
      ∃ (κ : Type) (w' : WS κ ρ) (G' : κ → Env), DSs (cxOf CX P w K mg base N qual (defScope st) f fd.code A outer s H E).nox (some (pp, pf)) (G0 (raw (.ref pp) :: ds.map fun d => fro d) N.length) (nrm B) (defBody st) w' G' ∧ ∀ Pr, wr Pr → w' (fun _ => False) Pr) : FnG P w K mg base CX (k + 1) f fd ps (spP M B) := by
  refine FnG.bodyC Fn S (fun vs H Q E ⟨pp, pf, vs', F, ds, wr, ev, _, _, ha, hM, _⟩ => by rw [ev, List.length_cons, ha.length, hlen ds wr hM]) fun A outer s H vs Q E hr hg ⟨pp, pf, vs', F, ds, wr, ev, e, po, ha, hM, pr⟩ => ?_
  subst ev
  obtain ⟨κ, w', G', h, hw⟩ := hb A outer s H E pp pf hr hg ds wr hM
  have hl : (raw (.ref pp) :: ds.map fun d => fro d).length ≤ N.length := by
    have h1 := congrArg List.length S.pre
    rw [List.length_take] at h1
    have := hlen ds wr hM
    rw [List.length_cons, List.length_map]; omega
  exact ⟨_, PSs.nox h, prom_end (at_start (Args0.cons (good_raw _) (fun _ => ⟨fun _ h => h, rfl⟩) (Args0.fro ha)) e po hl) pr hw⟩
end
end Dm

set_option Elab.async false
set_option linter.all false
set_option maxRecDepth 100000
set_option maxHeartbeats 2000000
/-! Dm: part Zu: dict(a list of pairs of whole numbers). -/
namespace Dm
open PySem PySem.Spec PyProof.Rows L2
variable [TabC]
/-- the dict of these pairs, later ones over former ones -/
def mpOf (l : List (P2 Int Int)) : Mp := ⟨l.foldl (fun m p => putM m p.a p.b) []⟩
theorem merge_mV : ∀ (l : List (P2 Int Int)) (m : List (Int × Int)), mergeK (mV m) (l.map fun p => ((.inl p.a : Key), V.int p.b)) = mV (l.foldl (fun m p => putM m p.a p.b) m)
  | [], m => rfl
  | p :: l, m => by
    have h := merge_mV l (putM m p.a p.b)
    rw [← putK_mV] at h
    exact h
theorem has_pairs {F : Hp} : ∀ {l : List (P2 Int Int)} {xs : List V}, HasAll F xs (l.map Enc.enc) → ∃ ps : List Addr, xs = ps.map V.ref ∧ Paired (fun p (kv : Key × V) => ∃ ob, F p = some (.frz ob (.tup [kV kv.1, kv.2]))) ps (l.map fun p => ((.inl p.a : Key), V.int p.b))
  | [], _, h => by cases h; exact ⟨[], rfl, .nil⟩
  | p :: l, _, h => by
    cases h with
    | cons h1 h2 =>
      obtain ⟨ps, e, r⟩ := has_pairs h2
      cases h1 with
      | tup g1 g2 =>
        rename_i a ys
        cases g2 with
        | cons u1 g2 => cases g2 with
          | cons u2 g2 =>
            cases g2
            cases u1
            cases u2
            obtain ⟨ob, g1, _⟩ := g1
            exact ⟨a :: ps, by rw [e]; rfl, .cons ⟨ob, g1⟩ r⟩
section
variable {X : Cx} {pl : Pl} {G : Env} {e : Expr}
theorem de_dictP {w : W (List (P2 Int Int))} {p pos : Pos} (hc : X.calm = true) (hm : X.mg "dict" = none) (h : DE X pl G e w) (hg : Gl X "dict" := by rfl) (hs : starEach [e] X.env = (false, eval e X.env) :: starEach [] X.env := by rfl) (hp : (backTo pos (starEach [] X.env)).any (·.1) = false := by rfl) :
    DE X pl G (.Call (.Name "dict" p) [e] [] pos) (fun P => w fun l => P (mpOf l)) := PE.wk (pe_callTy (call_dictP hc) hg hm (by decide +kernel) (pa_cons h pa_nil hs) (he := hs) (hpl := hp)) fun s H Q ⟨F, fp, at_, P, w, K⟩ =>
  ⟨F, fp, at_, _, w, fun l v F1 H1 fp1 S1 w1 a1 g1 b1 _ => by
    obtain ⟨_, b1⟩ := b1
    cases b1 with
    | lst h1 h2 =>
      obtain ⟨ps, rfl, r⟩ := has_pairs h2
      refine ⟨_, ps, _, rfl, SqL.of (a1.ex _ _ h1), L2.Paired.mapP r fun p kv ⟨ob, z⟩ => .inl (.inr ⟨ob, a1.ex _ _ z⟩), fun q hq => ?_⟩
      have em := merge_mV l []
      rw [show mV [] = [] from rfl] at em
      rw [em]
      exact K.fro a1 g1 w1 (New.fro a1.ex hq) (.dct upd_same hasKv_mV)⟩
end
end Dm

set_option Elab.async false
set_option linter.all false
set_option maxRecDepth 100000
set_option maxHeartbeats 4000000
namespace Kp
open PySem PySem.Spec PyProof.Rows L2 Dm
variable [TabC]
def topS (i : Nat) : Stmt := PySem.Challenge.pw_piecetrees_k20_firm_lots_by_parts_turned.main.body.getD i (.Pass ⟨0, 0, 0, 0⟩)
abbrev s_draw : Stmt := topS 21
theorem sc_draw : FnScope ["_law_deck_here", "_law_many", "_law_rest", "_law_mixed_here"] ["_law_deck_here", "_law_many"] (defScope s_draw) := ⟨rfl, rfl, rfl, by decide +kernel, rfl, by decide +kernel, by decide +kernel⟩
section
variable {P : Program} {w : World} {K : PySem.W.Frag} {mg : Str → Option Value} {base : Heap} {CX : CXT}
theorem mod_draw1 {a n : Int} (h : 1 ≤ n) : 0 ≤ a.fmod n ∧ a.fmod n < n := ⟨Int.fmod_nonneg_of_pos a (by omega), Int.fmod_lt_of_pos a (by omega)⟩
theorem ok_draw {f : Addr} {fd : FuncData} {qual : Str} (Fn : Fun K "_law_draw" qual s_draw f fd) (T : Blt mg) : FnG P w K mg base CX 1 f fd ["_law_deck_here", "_law_many"] (spP (M1 mDraw) (fun n : Int => fro n)) := by
  refine FnG.body Fn sc_draw (fun vs H Q E ⟨pp, pf, vs', F, ds, wr, ev, _, _, ha, ⟨a, ed, _⟩, _⟩ => by rw [ev, List.length_cons, ha.length, ed]; rfl) fun cdv A outer s H vs Q E hr hg ⟨p, f, vs', F, ds, wr, ev, e, po, ha, hM, pr⟩ => ?_
  obtain ⟨many, rfl, rfl⟩ := hM
  subst ev
  cases ha with
  | cons h1 h2 =>
  cases h2
  cases h1
  obtain ⟨Pn, ⟨⟨hz, hs⟩, hn⟩, Kn⟩ := pr
  have hu := hu_of hr
  have nd := sc_draw.nd
  have po' := po.at_ p f rfl
  have fin := fun n H' => draw_fin (n := n) (H' := H') Kn e po.tab po' hn
  refine ⟨_, PSs.nox (pss_cons (ps_if (pt_cmpR (op_neD hr.units) (pe_ix ix_list (pv 0) pe_int (fun _ _ => rfl)) (pe_lst pa_nil) (nomark _))
      (pss_cons (ps_set (i := 2) nd rfl (.inl rfl) (pe_ix ix_list (pe_ix ix_list (pv 0) pe_int (fun _ _ => rfl)) pe_int (fun _ _ => rfl)))
      (pss_cons (ps_asg (pe_op op_fdivN (pv 2) (pv 1)) (pg_sub (pe_ix ix_list (pv 0) pe_int (fun _ _ => rfl)) pe_int set_list))
      (pss_cons (ps_if (pt_cmpR op_lt (pv 2) (pv 1) (nomark _)) (pss_one (ps_expr (pe_bm PySem.F.plainAttrs_list PySem.F.slot_list_pop PySem.F.type_list_pop mt_popAt (pe_ix ix_list (pv 0) pe_int (fun _ _ => rfl)) (pa_cons pe_int pa_nil)))) pss_nil)
      (pss_one (ps_ret (pe_op op_modN (pe_callTy call_int1 (by rfl) T.int PyProof.Rows.boot_int (pa_cons (pv 2) pa_nil)) (pv 1))))))) pss_nil)
    (pss_cons (ps_asg (pe_op op_add (pe_ix ix_list (pv 0) pe_int (fun _ _ => rfl)) pe_int) (pg_sub (pv 0) pe_int set_list))
    (pss_cons (ps_set (i := 3) nd rfl (.inl rfl) (pe_op op_modN (pe_callTy call_int1 (by rfl) T.int PyProof.Rows.boot_int (pa_cons (pe_op op_add (pe_ix ix_list (pv 0) pe_int (fun _ _ => rfl)) (pe_op op_mul (pe_ix ix_list (pv 0) pe_int (fun _ _ => rfl)) pe_int)) pa_nil)) pe_int))
    (pss_cons (ps_set (i := 3) nd rfl (.inl rfl) (pe_op op_modN (pe_callTy call_int1 (by rfl) T.int PyProof.Rows.boot_int (pa_cons (pe_op op_add (pe_op L2.op_mulW (pv 3) (pv 3)) (pe_op op_mul (pe_ix ix_list (pv 0) pe_int (fun _ _ => rfl)) pe_int)) pa_nil)) pe_int))
    (pss_cons (ps_set (i := 3) nd rfl (.inl rfl) (pe_op op_modN (pe_callTy call_int1 (by rfl) T.int PyProof.Rows.boot_int (pa_cons (pe_op op_add (pe_op op_add (pe_op L2.op_mulW (pv 3) (pv 3)) (pe_op op_mul pe_int (pv 3))) (pe_ix ix_list (pv 0) pe_int (fun _ _ => rfl))) pa_nil)) pe_int))
    (pss_one (ps_ret (pe_op op_modN (pe_callTy call_int1 (by rfl) T.int PyProof.Rows.boot_int (pa_cons (pe_op op_fdivN (pv 3) pe_int) pa_nil)) (pv 1))))))))), ?_⟩
  obtain ⟨ne, np, nf, far, wh, tn, hp, hf, hfl⟩ := po'
  -- if deck[0] != []
  refine ⟨.ref p, rfl, p, _, _, _, rfl, rfl, SqL.of hp, atI_nat (j := 0) rfl, Nat.zero_le _, fun q hq => ⟨.list (far.map PyData.int), .list [], dp_ints ((upd_ne (ne_of_none hf hq)).trans hf), .lst (SqL.of upd_same) .nil, ints_shaped far, ints_shaped [], _, rfl, ?_⟩⟩
  have qp : p ≠ q := ne_of_none hp hq
  have qf : f ≠ q := ne_of_none hf hq
  rw [eqv_nil]
  have hp1 : (upd H q (.lst [])) p = some (.lst [.ref f, .int wh, .int tn]) := (upd_ne qp).trans hp
  cases hfe : far with
  | cons rest r0 =>
    subst hfe
    refine iteT ?_
    have hf1 : (upd H q (.lst [])) f = some (.lst ((rest :: r0).map V.int)) := (upd_ne qf).trans hf
    have lens : r0.length + 1 ≤ 64 := hfl
    -- rest = deck[0][0]
    refine ⟨.ref p, rfl, p, _, _, _, rfl, rfl, SqL.of hp1, atI_nat (j := 0) rfl, f, _, _, .int rest, rfl, rfl, SqL.of hf1, atI_nat (j := 0) rfl, ?_⟩
    -- deck[0][0] = rest // many
    refine ⟨_, rfl, _, rfl, rest, many, rfl, rfl, ⟨by omega, by omega⟩, .ref p, rfl, p, _, _, _, rfl, rfl, SqL.of hp1, atI_nat (j := 0) rfl, f, _, _, 0, rfl, rfl, hf1, Dm.ixN_in (Int.le_refl 0) (by rw [List.length_map, List.length_cons]; omega), ?_⟩
    have ends : ∀ far' : List Int, far'.length ≤ 64 → ∀ H', (∀ x, x ≠ p → x ≠ f → (H' x = H x ∨ H x = none)) → H' p = some (.lst [.ref f, .int wh, .int tn]) → H' f = some (.lst (far'.map V.int)) → Q (.int (rest.fmod many)) H' := fun far' h64 H' k a b => by
      obtain ⟨m0, m1⟩ := mod_draw1 (a := rest) hz
      exact fin _ H' m0 m1 k ⟨ne, np, nf, far', wh, tn, a, b, h64⟩
    have same : ∀ (H' : Hp), (∀ x, x ≠ f → H' x = (upd H q (.lst [])) x) → ∀ x, x ≠ p → x ≠ f → (H' x = H x ∨ H x = none) := fun H' k x _ h2 => by
      rw [k x h2]
      by_cases hx : x = q
      · exact .inr (by rw [hx]; exact hq)
      · exact .inl (upd_ne hx)
    have e1 : ((rest :: r0).map V.int).set 0 (.int (rest.fdiv many)) = ((rest.fdiv many) :: r0).map V.int := rfl
    rw [e1]
    have hf2 : (upd (upd H q (.lst [])) f (.lst (((rest.fdiv many) :: r0).map V.int))) f = some (.lst (((rest.fdiv many) :: r0).map V.int)) := upd_same
    have hp2 : (upd (upd H q (.lst [])) f (.lst (((rest.fdiv many) :: r0).map V.int))) p = some (.lst [.ref f, .int wh, .int tn]) := (upd_ne ne).trans hp1
    -- if rest < many: deck[0].pop(0)
    refine ⟨_, rfl, _, rfl, rest, many, rfl, rfl, _, rfl, ite2 (fun h3 => ?_) (fun h3 => ?_)⟩
    · refine ⟨.ref p, rfl, p, _, _, _, rfl, rfl, SqL.of hp2, atI_nat (j := 0) rfl, ?_⟩
      refine ⟨.inl ⟨rfl, _, SqL.of hf2⟩, f, _, 0, 0, _, rfl, rfl, hf2, by decide, by decide, ?_, rfl, ?_⟩
      · unfold PySem.seqIndex?
        simp
      · refine ⟨_, rfl, .inl ⟨rest, rfl, _, rfl, rest, many, rfl, rfl, by omega, ?_⟩⟩
        refine ends r0 (by omega) _ (same _ fun x hx => (upd_ne hx).trans (upd_ne hx)) ((upd_ne ne).trans hp2) upd_same
    · refine ⟨_, rfl, .inl ⟨rest, rfl, _, rfl, rest, many, rfl, rfl, by omega, ?_⟩⟩
      exact ends ((rest.fdiv many) :: r0) lens _ (same _ fun x hx => upd_ne hx) hp2 hf2
  | nil =>
    subst hfe
    refine iteF ?_
    -- deck[2] = deck[2] + 1
    refine ⟨.ref p, rfl, p, _, _, .int tn, rfl, rfl, SqL.of hp1, atI_nat (j := 2) rfl, tn, 1, rfl, rfl, .ref p, rfl, p, _, _, 2, rfl, rfl, hp1, rfl, ?_⟩
    have e1 : ([.ref f, .int wh, .int tn] : List V).set 2 (.int (tn + 1)) = [.ref f, .int wh, .int (tn + 1)] := rfl
    dsimp only
    generalize hH2 : upd (upd H q (.lst [])) p (.lst (([.ref f, .int wh, .int tn] : List V).set 2 (.int (tn + 1)))) = H2
    rw [e1] at hH2
    have hp2 : H2 p = some (.lst [.ref f, .int wh, .int (tn + 1)]) := by rw [← hH2, upd_same]
    have last : ∀ n : Int, 0 ≤ n → n < many → Q (.int n) H2 := fun n m0 m1 => by
      refine fin n H2 m0 m1 (fun x h1 h2 => ?_) ⟨ne, np, nf, [], wh, tn + 1, hp2, ?_, hfl⟩
      · rw [← hH2, upd_ne h1]
        by_cases hx : x = q
        · exact .inr (by rw [hx]; exact hq)
        · exact .inl (upd_ne hx)
      · rw [← hH2, upd_ne (Ne.symm ne), upd_ne qf]; exact hf
    refine ⟨.ref p, rfl, p, _, _, .int wh, rfl, rfl, SqL.of hp2, atI_nat (j := 1) rfl, .ref p, rfl, p, _, _, .int (tn + 1), rfl, rfl, SqL.of hp2, atI_nat (j := 2) rfl, tn + 1, 6364136223846793005, rfl, rfl, .inr (by decide), _, _, rfl, rfl, .inl ⟨_, rfl, _, 2305843009213693951, rfl, rfl, (show (2305843009213693951 : Int) ≠ 0 by decide), ?_⟩⟩
    dsimp only
    have b1 := mod_draw (a := wh + (tn + 1) * 6364136223846793005) (n := 2305843009213693951) (by decide)
    generalize (wh + (tn + 1) * 6364136223846793005).fmod 2305843009213693951 = m1 at b1 ⊢
    refine ⟨_, rfl, _, rfl, m1, m1, rfl, rfl, L2.wide_mul (a := 100) (b := 100) (by omega) (by omega) (by decide) (by decide) (by decide), .ref p, rfl, p, _, _, .int (tn + 1), rfl, rfl, SqL.of hp2, atI_nat (j := 2) rfl, tn + 1, 1442695040888963407, rfl, rfl, .inr (by decide), _, _, rfl, rfl, .inl ⟨_, rfl, _, 2305843009213693921, rfl, rfl, (show (2305843009213693921 : Int) ≠ 0 by decide), ?_⟩⟩
    dsimp only
    have b2 := mod_draw (a := m1 * m1 + (tn + 1) * 1442695040888963407) (n := 2305843009213693921) (by decide)
    generalize (m1 * m1 + (tn + 1) * 1442695040888963407).fmod 2305843009213693921 = m2 at b2 ⊢
    refine ⟨_, rfl, _, rfl, m2, m2, rfl, rfl, L2.wide_mul (a := 100) (b := 100) (by omega) (by omega) (by decide) (by decide) (by decide), _, rfl, 3, m2, rfl, rfl, .inl (by decide), _, _, rfl, rfl, .ref p, rfl, p, _, _, .int wh, rfl, rfl, SqL.of hp2, atI_nat (j := 1) rfl, _, _, rfl, rfl, .inl ⟨_, rfl, _, 2305843009213693951, rfl, rfl, (show (2305843009213693951 : Int) ≠ 0 by decide), ?_⟩⟩
    dsimp only
    have b3 := mod_draw (a := m2 * m2 + 3 * m2 + wh) (n := 2305843009213693951) (by decide)
    generalize (m2 * m2 + 3 * m2 + wh).fmod 2305843009213693951 = m3 at b3 ⊢
    refine ⟨_, rfl, m3, 8192, rfl, rfl, ⟨by decide, by decide⟩, .inl ⟨_, rfl, _, rfl, _, many, rfl, rfl, by omega, ?_⟩⟩
    obtain ⟨m0, m1⟩ := mod_draw1 (a := m3.fdiv 8192) hz
    exact last _ m0 m1
end
end Kp

set_option Elab.async false
set_option linter.all false
set_option maxRecDepth 100000
set_option maxHeartbeats 4000000
namespace Kp
open PySem PySem.Spec PyProof.Rows L2 Dm
variable [TabC]
abbrev m_draw : Int → W Int := mDraw
abbrev D_draw (P : Program) (w : World) (K : PySem.W.Frag) (mg : Str → Option Value) (base : Heap) : Prop := Def P w K mg base CX0 1 "_law_draw" s_draw ["_law_deck_here", "_law_many"] (spP (M1 mDraw) (fun n : Int => fro n))
abbrev s_Ppicked : Stmt := topS 1
theorem sc_Ppicked : FnScope ["table", "things", "rows", "x", "y"] ["table", "things"] (defScope s_Ppicked) := ⟨rfl, rfl, rfl, by decide +kernel, rfl, by decide +kernel, by decide +kernel⟩
theorem bk_Ppicked (qual : Str) (kV doc pm : Value) (an : Option Addr) (cdv ct : Value) (us : List Value) (hl : us.length = 2) : bindArgs (PySem.W.fnOf "picked" qual (defArgs s_Ppicked) (defBody s_Ppicked) (defScope s_Ppicked) .none kV doc pm an cdv ct) ⟨[], (["table", "things"] : List Str).zip us⟩ = pure ((["table", "things"] : List Str).zip us) := by
  match us, hl with | [_, _], _ => rfl
def m_Ppicked (table1 : (P2 Int (Tup (Tup Int)))) (things2 : (List Int)) : W (P2 Int (Tup (Tup Int))) := fun rt => wLet table1.b fun rows3 => (things2.length ≤ 100000 ∧ wFil things2 (fun a4 => wYes) (fun a4 => fun K : (Tup Int) → Prop => (things2.length ≤ 100000 ∧ wFil things2 (fun a5 => wYes) (fun a5 => fun K : Int → Prop => wIdx rows3.l a4 fun it8 => wIdx it8.l a5 fun it9 => K it9) fun l7 => K (Tup.mk l7))) fun l6 => rt (P2.mk (things2.length : Int) (Tup.mk l6)))
abbrev D_Ppicked (P : Program) (w : World) (K : PySem.W.Frag) (mg : Str → Option Value) (base : Heap) : Prop := Def P w K mg base CX0 1 "picked" s_Ppicked ["table", "things"] (spF (M2 m_Ppicked) (fun r : (P2 Int (Tup (Tup Int))) => fro r))
abbrev s_PpickedT : Stmt := topS 1
theorem sc_PpickedT : FnScope ["table", "things", "rows", "x", "y"] ["table", "things"] (defScope s_PpickedT) := ⟨rfl, rfl, rfl, by decide +kernel, rfl, by decide +kernel, by decide +kernel⟩
theorem bk_PpickedT (qual : Str) (kV doc pm : Value) (an : Option Addr) (cdv ct : Value) (us : List Value) (hl : us.length = 2) : bindArgs (PySem.W.fnOf "picked" qual (defArgs s_PpickedT) (defBody s_PpickedT) (defScope s_PpickedT) .none kV doc pm an cdv ct) ⟨[], (["table", "things"] : List Str).zip us⟩ = pure ((["table", "things"] : List Str).zip us) := by
  match us, hl with | [_, _], _ => rfl
def m_PpickedT (table1 : (P2 Int (Tup (Tup Int)))) (things2 : (Tup Int)) : W (P2 Int (Tup (Tup Int))) := fun rt => wLet table1.b fun rows3 => (things2.l.length ≤ 100000 ∧ wFil things2.l (fun a4 => wYes) (fun a4 => fun K : (Tup Int) → Prop => (things2.l.length ≤ 100000 ∧ wFil things2.l (fun a5 => wYes) (fun a5 => fun K : Int → Prop => wIdx rows3.l a4 fun it8 => wIdx it8.l a5 fun it9 => K it9) fun l7 => K (Tup.mk l7))) fun l6 => rt (P2.mk (things2.l.length : Int) (Tup.mk l6)))
abbrev D_PpickedT (P : Program) (w : World) (K : PySem.W.Frag) (mg : Str → Option Value) (base : Heap) : Prop := Def P w K mg base CX0 1 "picked" s_PpickedT ["table", "things"] (spF (M2 m_PpickedT) (fun r : (P2 Int (Tup (Tup Int))) => fro r))
abbrev s_Pturned : Stmt := topS 3
theorem sc_Pturned : FnScope ["table", "size", "rows", "x", "y"] ["table"] (defScope s_Pturned) := ⟨rfl, rfl, rfl, by decide +kernel, rfl, by decide +kernel, by decide +kernel⟩
theorem bk_Pturned (qual : Str) (kV doc pm : Value) (an : Option Addr) (cdv ct : Value) (us : List Value) (hl : us.length = 1) : bindArgs (PySem.W.fnOf "turned" qual (defArgs s_Pturned) (defBody s_Pturned) (defScope s_Pturned) .none kV doc pm an cdv ct) ⟨[], (["table"] : List Str).zip us⟩ = pure ((["table"] : List Str).zip us) := by
  match us, hl with | [_], _ => rfl
def m_Pturned (table1 : (P2 Int (Tup (Tup Int)))) : W (P2 Int (Tup (Tup Int))) := fun rt => wLet table1 fun k2 => (small k2.a ∧ ((rng 0 k2.a).length ≤ 100000 ∧ wFil (rng 0 k2.a) (fun a3 => wYes) (fun a3 => fun K : (Tup Int) → Prop => (small k2.a ∧ ((rng 0 k2.a).length ≤ 100000 ∧ wFil (rng 0 k2.a) (fun a4 => wYes) (fun a4 => fun K : Int → Prop => wIdx k2.b.l a4 fun it7 => wIdx it7.l a3 fun it8 => K it8) fun l6 => K (Tup.mk l6)))) fun l5 => rt (P2.mk k2.a (Tup.mk l5))))
abbrev D_Pturned (P : Program) (w : World) (K : PySem.W.Frag) (mg : Str → Option Value) (base : Heap) : Prop := Def P w K mg base CX0 1 "turned" s_Pturned ["table"] (spF (M1 m_Pturned) (fun r : (P2 Int (Tup (Tup Int))) => fro r))
abbrev s_Ppainted : Stmt := topS 5
theorem sc_Ppainted : FnScope ["table", "paints", "size", "rows", "x", "y"] ["table", "paints"] (defScope s_Ppainted) := ⟨rfl, rfl, rfl, by decide +kernel, rfl, by decide +kernel, by decide +kernel⟩
theorem bk_Ppainted (qual : Str) (kV doc pm : Value) (an : Option Addr) (cdv ct : Value) (us : List Value) (hl : us.length = 2) : bindArgs (PySem.W.fnOf "painted" qual (defArgs s_Ppainted) (defBody s_Ppainted) (defScope s_Ppainted) .none kV doc pm an cdv ct) ⟨[], (["table", "paints"] : List Str).zip us⟩ = pure ((["table", "paints"] : List Str).zip us) := by
  match us, hl with | [_, _], _ => rfl
def m_Ppainted (table1 : (P2 Int (Tup (Tup Int)))) (paints2 : Mp) : W (P2 Int (Tup (Tup Int))) := fun rt => wLet table1 fun k3 => (small k3.a ∧ ((rng 0 k3.a).length ≤ 100000 ∧ wFil (rng 0 k3.a) (fun a4 => wYes) (fun a4 => fun K : (Tup Int) → Prop => (small k3.a ∧ ((rng 0 k3.a).length ≤ 100000 ∧ wFil (rng 0 k3.a) (fun a5 => wYes) (fun a5 => fun K : Int → Prop => wCps (fun K : Int → Prop => wIf (decide (a4 = a5)) (K (0 : Int)) (wIdx k3.b.l a4 fun it9 => wIdx it9.l a5 fun it10 => wGetM paints2 it10 fun it6 => K it6)) fun b11 => K b11) fun l8 => K (Tup.mk l8)))) fun l7 => rt (P2.mk k3.a (Tup.mk l7))))
abbrev D_Ppainted (P : Program) (w : World) (K : PySem.W.Frag) (mg : Str → Option Value) (base : Heap) : Prop := Def P w K mg base CX0 1 "painted" s_Ppainted ["table", "paints"] (spF (M2 m_Ppainted) (fun r : (P2 Int (Tup (Tup Int))) => fro r))
abbrev s_Plots_of : Stmt := topS 7
theorem sc_Plots_of : FnScope ["size", "many", "lots", "_", "lot", "x"] ["size", "many"] (defScope s_Plots_of) := ⟨rfl, rfl, rfl, by decide +kernel, rfl, by decide +kernel, by decide +kernel⟩
theorem bk_Plots_of (qual : Str) (kV doc pm : Value) (an : Option Addr) (cdv ct : Value) (us : List Value) (hl : us.length = 2) : bindArgs (PySem.W.fnOf "lots_of" qual (defArgs s_Plots_of) (defBody s_Plots_of) (defScope s_Plots_of) .none kV doc pm an cdv ct) ⟨[], (["size", "many"] : List Str).zip us⟩ = pure ((["size", "many"] : List Str).zip us) := by
  match us, hl with | [_, _], _ => rfl
def m_Plots_of (size1 : Int) (many2 : Int) : W (List (Tup Int)) := fun rt => wLet ([(Tup.mk [] : Tup Int)] : List (Tup Int)) fun lots3 => (small many2 ∧ wFor (rng 0 many2) lots3 (fun a5 k4 nx6 => (k4.length ≤ 300 ∧ wCat k4 (wTwo (fun a8 => wYes) (fun a8 => fun K : (List Int) → Prop => wCps (fun K : Int → Prop => wIf (!a8.l.isEmpty) (wIdx a8.l (-(1 : Int)) fun it11 => K (it11 + (1 : Int))) (K (0 : Int))) fun b12 => ((small b12 ∧ small size1) ∧ K (rng b12 size1))) (fun a8 a9 => wYes) (fun a8 a9 => fun K : (Tup Int) → Prop => ((a8.l.length + (Tup.mk [a9] : Tup Int).l.length ≤ 100000) ∧ K (Tup.mk (a8.l ++ (Tup.mk [a9] : Tup Int).l))))) fun l10 => wLet l10 fun lots7 => nx6 lots7)) fun k13 => rt k13)
abbrev D_Plots_of (P : Program) (w : World) (K : PySem.W.Frag) (mg : Str → Option Value) (base : Heap) : Prop := Def P w K mg base CX0 1 "lots_of" s_Plots_of ["size", "many"] (spF (M2 m_Plots_of) (fun r : (List (Tup Int)) => fro r))
abbrev s_Poutside : Stmt := topS 9
theorem sc_Poutside : FnScope ["size", "lot", "x"] ["size", "lot"] (defScope s_Poutside) := ⟨rfl, rfl, rfl, by decide +kernel, rfl, by decide +kernel, by decide +kernel⟩
theorem bk_Poutside (qual : Str) (kV doc pm : Value) (an : Option Addr) (cdv ct : Value) (us : List Value) (hl : us.length = 2) : bindArgs (PySem.W.fnOf "outside" qual (defArgs s_Poutside) (defBody s_Poutside) (defScope s_Poutside) .none kV doc pm an cdv ct) ⟨[], (["size", "lot"] : List Str).zip us⟩ = pure ((["size", "lot"] : List Str).zip us) := by
  match us, hl with | [_, _], _ => rfl
def m_Poutside (size1 : Int) (lot2 : (Tup Int)) : W (Tup Int) := fun rt => (small size1 ∧ ((rng 0 size1).length ≤ 100000 ∧ wFil (rng 0 size1) (fun a3 => (fun K : Bool → Prop => K (!decide (a3 ∈ lot2.l)))) (fun a3 => fun K : Int → Prop => K a3) fun l4 => rt (Tup.mk l4)))
abbrev D_Poutside (P : Program) (w : World) (K : PySem.W.Frag) (mg : Str → Option Value) (base : Heap) : Prop := Def P w K mg base CX0 1 "outside" s_Poutside ["size", "lot"] (spF (M2 m_Poutside) (fun r : (Tup Int) => fro r))
abbrev s_Pjoined : Stmt := topS 10
theorem sc_Pjoined : FnScope ["lot", "other"] ["lot", "other"] (defScope s_Pjoined) := ⟨rfl, rfl, rfl, by decide +kernel, rfl, by decide +kernel, by decide +kernel⟩
theorem bk_Pjoined (qual : Str) (kV doc pm : Value) (an : Option Addr) (cdv ct : Value) (us : List Value) (hl : us.length = 2) : bindArgs (PySem.W.fnOf "joined" qual (defArgs s_Pjoined) (defBody s_Pjoined) (defScope s_Pjoined) .none kV doc pm an cdv ct) ⟨[], (["lot", "other"] : List Str).zip us⟩ = pure ((["lot", "other"] : List Str).zip us) := by
  match us, hl with | [_, _], _ => rfl
def m_Pjoined (lot1 : (Tup Int)) (other2 : (Tup Int)) : W (Tup Int) := fun rt => ((lot1.l.length + other2.l.length ≤ 100000) ∧ ((Tup.mk (lot1.l ++ other2.l)).l.length < 64 ∧ ∀ so3 : List Int, so3.Pairwise (· < ·) → (∀ k : Int, k ∈ so3 ↔ k ∈ (Tup.mk (lot1.l ++ other2.l)).l) → rt (Tup.mk so3)))
abbrev D_Pjoined (P : Program) (w : World) (K : PySem.W.Frag) (mg : Str → Option Value) (base : Heap) : Prop := Def P w K mg base CX0 1 "joined" s_Pjoined ["lot", "other"] (spF (M2 m_Pjoined) (fun r : (Tup Int) => fro r))
abbrev s_deck : Stmt := topS 20
theorem sc_deck : FnScope ["_law_script", "_law_folds", "_law_whole", "_law_fold", "_law_cell"] ["_law_script"] (defScope s_deck) := ⟨rfl, rfl, rfl, by decide +kernel, rfl, by decide +kernel, by decide +kernel⟩
def m_deck (ns : List Int) : W Unit := fun rt => ((cutA ns none (some (63 : Int))).length ≤ 100000 ∧ wFil (cutA ns none (some (63 : Int))) (fun a2 => wYes) (fun a2 => fun K : Int → Prop => wCps (fun K : Int → Prop => wIf (decide ((0 : Int) ≤ a2)) ((CMul (2 : Int) a2 ∧ K ((2 : Int) * a2))) ((CMul (-(2 : Int)) a2 ∧ K (((-(2 : Int)) * a2) - (1 : Int))))) fun b12 => K b12) fun l11 => wLet l11 fun folds1 => wLet ((12762 : Int) + (folds1.length : Int)) fun whole3 => wFor folds1 whole3 (fun a5 k4 nx6 => (CMul k4 (1000033 : Int) ∧ ((2305843009213693951 : Int) ≠ 0 ∧ wLet (Int.fmod ((k4 * (1000033 : Int)) + a5) (2305843009213693951 : Int)) fun whole7 => nx6 whole7))) fun k8 => (folds1.length ≤ 100000 ∧ wFil folds1 (fun a9 => (fun K : Bool → Prop => (CPow (10 : Int) (18 : Int) ∧ K (decide (((10 : Int) ^ (Int.toNat (18 : Int))) < a9))))) (fun a9 => fun K : Int → Prop => K a9) fun l10 => (l10.length ≤ 64 ∧ rt ())))
abbrev D_deck (P : Program) (w : World) (K : PySem.W.Frag) (mg : Str → Option Value) (base : Heap) : Prop := Def P w K mg base CX0 1 "_law_deck" s_deck ["_law_script"] (spPool K)
abbrev s_table : Stmt := topS 24
theorem sc_table : FnScope ["_law_rows_here", "_law_row"] ["_law_rows_here"] (defScope s_table) := ⟨rfl, rfl, rfl, by decide +kernel, rfl, by decide +kernel, by decide +kernel⟩
def m_table (rows1 : (List (List Int))) : W (P2 Int (Tup (Tup Int))) := fun rt => (rows1.length ≤ 100000 ∧ wFil rows1 (fun a2 => wYes) (fun a2 => fun K : (Tup Int) → Prop => K (Tup.mk a2)) fun l3 => rt (P2.mk (rows1.length : Int) (Tup.mk l3)))
abbrev D_table (P : Program) (w : World) (K : PySem.W.Frag) (mg : Str → Option Value) (base : Heap) : Prop := Def P w K mg base CX0 1 "_law_table" s_table ["_law_rows_here"] (spF (M1 m_table) (fun r : (P2 Int (Tup (Tup Int))) => fro r))
abbrev s_lots : Stmt := topS 25
theorem sc_lots : FnScope ["_law_size", "_law_many", "_law_found", "_law_level", "_law_longer", "_law_lot", "_law_begin", "_law_thing"] ["_law_size"] (defScope s_lots) := ⟨rfl, rfl, rfl, by decide +kernel, rfl, by decide +kernel, by decide +kernel⟩
def m_lots (size1 : Int) : W (List (Tup Int)) := fun rt => wLet ([(Tup.mk [] : Tup Int)] : List (Tup Int)) fun found3 => wLet ([(Tup.mk [] : Tup Int)] : List (Tup Int)) fun level4 => (small size1 ∧ wFor (rng 0 size1) (found3, level4) (fun a6 k5 nx7 => wLet ([] : List (Tup Int)) fun longer8 => wFor k5.2 longer8 (fun a10 k9 nx11 => wCps (fun K : Int → Prop => (EqOk (enc a10) ∧ EqOk (enc (Tup.mk [] : Tup Int)) ∧ wIf (!PyData.eqv (enc a10) (enc (Tup.mk [] : Tup Int))) (wIdx a10.l (-(1 : Int)) fun it16 => K (it16 + (1 : Int))) (K (0 : Int)))) fun b17 => wLet b17 fun begin12 => ((small begin12 ∧ small size1) ∧ ((rng begin12 size1).length ≤ 100000 ∧ wFil (rng begin12 size1) (fun a14 => wYes) (fun a14 => fun K : (Tup Int) → Prop => ((a10.l.length + (Tup.mk [a14] : Tup Int).l.length ≤ 100000) ∧ K (Tup.mk (a10.l ++ (Tup.mk [a14] : Tup Int).l)))) fun l15 => ((k9.length + l15.length ≤ 100000) ∧ wLet (k9 ++ l15) fun longer13 => nx11 longer13)))) fun k18 => wLet k18 fun level19 => ((k5.1.length + level19.length ≤ 100000) ∧ wLet (k5.1 ++ level19) fun found20 => nx7 (found20, level19))) fun k21 => rt k21.1)
abbrev D_lots (P : Program) (w : World) (K : PySem.W.Frag) (mg : Str → Option Value) (base : Heap) : Prop := Def P w K mg base CX0 1 "_law_lots" s_lots ["_law_size"] (spF (M1 m_lots) (fun r : (List (Tup Int)) => fro r))
abbrev s_spread : Stmt := topS 26
theorem sc_spread : FnScope ["_law_rows_here", "_law_lot", "_law_first", "_law_second", "_law_turn", "_law_found", "_law_rest", "_law_come", "_law_thing", "_law_look", "_law_back", "_law_own"] ["_law_rows_here", "_law_lot", "_law_first", "_law_second"] (defScope s_spread) := ⟨rfl, rfl, rfl, by decide +kernel, rfl, by decide +kernel, by decide +kernel⟩
def m_spread (rows1 : (List (List Int))) (lot2 : (Tup Int)) (first3 : Int) (second4 : Int) : W (List Int) := fun rt => wLet ([first3, second4] : List Int) fun found7 => (lot2.l.length ≤ 100000 ∧ wFil lot2.l (fun a6 => (fun K : Bool → Prop => K (!decide (a6 ∈ (Tup.mk [first3, second4] : Tup Int).l)))) (fun a6 => fun K : Int → Prop => K a6) fun l39 => wLet l39 fun restN8 => (small (lot2.l.length : Int) ∧ wFor (rng 0 (lot2.l.length : Int)) (found7, restN8) (fun a10 k9 nx11 => wLet ([] : List Int) fun come12 => wFor k9.2 come12 (fun a14 k13 nx15 => wIdx rows1 a14 fun it29 => wIdx it29 first3 fun it30 => wLet it30 fun look17 => wIdx rows1 first3 fun it31 => wIdx it31 a14 fun it32 => wLet it32 fun back18 => wCps (fun nx25 : (List Int) → Prop => (k9.1.length ≤ 100000 ∧ wFil k9.1 (fun a19 => (fun K : Bool → Prop => wCps (fun K : Bool → Prop => wIdx rows1 a14 fun it20 => wIdx it20 a19 fun it21 => wIf (!decide (it21 = look17)) (K true) (wIdx rows1 a19 fun it22 => wIdx it22 a14 fun it23 => K (!decide (it23 = back18)))) fun b24 => K b24)) (fun a19 => fun K : Int → Prop => K a19) fun l28 => (EqOk (enc l28) ∧ EqOk (enc ([] : List Int)) ∧ wIf (!PyData.eqv (enc l28) (enc ([] : List Int))) ((k13.length < 100000 ∧ wLet (k13 ++ [a14]) fun come27 => nx25 come27)) (nx25 k13)))) fun k26 => nx15 k26) fun k33 => (EqOk (enc k33) ∧ EqOk (enc ([] : List Int)) ∧ wIf (PyData.eqv (enc k33) (enc ([] : List Int))) (rt k9.1) (((k9.1.length + k33.length ≤ 100000) ∧ wLet (k9.1 ++ k33) fun found34 => (k9.2.length ≤ 100000 ∧ wFil k9.2 (fun a36 => (fun K : Bool → Prop => K (!decide (a36 ∈ k33)))) (fun a36 => fun K : Int → Prop => K a36) fun l37 => wLet l37 fun restN35 => nx11 (found34, restN35)))))) fun k38 => rt k38.1))
abbrev D_spread (P : Program) (w : World) (K : PySem.W.Frag) (mg : Str → Option Value) (base : Heap) : Prop := Def P w K mg base CX0 1 "_law_spread" s_spread ["_law_rows_here", "_law_lot", "_law_first", "_law_second"] (spF (M4 m_spread) (fun r : (List Int) => fro r))
abbrev s_named : Stmt := topS 31
theorem sc_named : FnScope ["_law_rows_here", "_law_naming", "_law_found", "_law_x", "_law_y", "_law_row"] ["_law_rows_here", "_law_naming"] (defScope s_named) := ⟨rfl, rfl, rfl, by decide +kernel, rfl, by decide +kernel, by decide +kernel⟩
def m_named (rows1 : (List (List Int))) (naming2 : (List Int)) : W (List (List Int)) := fun rt => (rows1.length ≤ 100000 ∧ wFil rows1 (fun a4 => wYes) (fun a4 => fun K : (List Int) → Prop => K a4) fun l18 => wLet l18 fun found3 => (small (rows1.length : Int) ∧ wFor (rng 0 (rows1.length : Int)) found3 (fun a6 k5 nx7 => (small (rows1.length : Int) ∧ wFor (rng 0 (rows1.length : Int)) k5 (fun a9 k8 nx10 => wIdx rows1 a6 fun it12 => wIdx it12 a9 fun it13 => wIdx naming2 a6 fun it14 => wSet2 k8 it14 (fun K : Int → Prop => wIdx naming2 a9 fun it15 => K it15) it13 fun found11 => nx10 found11) fun k16 => nx7 k16)) fun k17 => rt k17))
abbrev D_named (P : Program) (w : World) (K : PySem.W.Frag) (mg : Str → Option Value) (base : Heap) : Prop := Def P w K mg base CX0 1 "_law_named" s_named ["_law_rows_here", "_law_naming"] (spF (M2 m_named) (fun r : (List (List Int)) => own2 r))
abbrev s_set_in : Stmt := topS 32
theorem sc_set_in : FnScope ["_law_rows_here", "_law_thing", "_law_other", "_law_whole", "_law_found", "_law_x", "_law_own", "_law_y", "_law_its"] ["_law_rows_here", "_law_thing", "_law_other"] (defScope s_set_in) := ⟨rfl, rfl, rfl, by decide +kernel, rfl, by decide +kernel, by decide +kernel⟩
def m_set_in (rows1 : (List (List Int))) (thing2 : Int) (other3 : (List (List Int))) : W (List (List Int)) := fun rt => (small thing2 ∧ ((rng 0 thing2).length ≤ 100000 ∧ wFil (rng 0 thing2) (fun a8 => wYes) (fun a8 => fun K : (P2 Int Int) → Prop => K (P2.mk a8 (0 : Int))) fun l29 => (small (other3.length : Int) ∧ ((rng 0 (other3.length : Int)).length ≤ 100000 ∧ wFil (rng 0 (other3.length : Int)) (fun a9 => wYes) (fun a9 => fun K : (P2 Int Int) → Prop => K (P2.mk thing2 a9)) fun l30 => ((l29.length + l30.length ≤ 100000) ∧ wLet (l29 ++ l30) fun whole10 => wLet ([] : List (List Int)) fun found11 => ((small (thing2 + (1 : Int)) ∧ small (rows1.length : Int)) ∧ ((rng (thing2 + (1 : Int)) (rows1.length : Int)).length ≤ 100000 ∧ wFil (rng (thing2 + (1 : Int)) (rows1.length : Int)) (fun a14 => wYes) (fun a14 => fun K : (P2 Int Int) → Prop => K (P2.mk a14 (0 : Int))) fun l28 => ((whole10.length + l28.length ≤ 100000) ∧ wLet (whole10 ++ l28) fun whole12 => wFor whole12 found11 (fun a16 k15 nx17 => (whole12.length ≤ 100000 ∧ wFil whole12 (fun a18 => wYes) (fun a18 => fun K : Int → Prop => wCps (fun K : Int → Prop => wCps (fun K : Bool → Prop => wIf (decide (a16.a = thing2)) (K (decide (a18.a = thing2))) (K false)) fun b21 => wIf b21 (wIdx other3 a16.b fun it22 => wIdx it22 a18.b fun it23 => K it23) (wIdx rows1 a16.a fun it24 => wIdx it24 a18.a fun it25 => K it25)) fun b26 => K b26) fun l20 => (k15.length < 100000 ∧ wLet (k15 ++ [l20]) fun found19 => nx17 found19))) fun k27 => rt k27))))))))
abbrev D_set_in (P : Program) (w : World) (K : PySem.W.Frag) (mg : Str → Option Value) (base : Heap) : Prop := Def P w K mg base CX0 1 "_law_set_in" s_set_in ["_law_rows_here", "_law_thing", "_law_other"] (spF (M3 m_set_in) (fun r : (List (List Int)) => fro r))
abbrev s_led : Stmt := topS 37
theorem sc_led : FnScope ["_law_lots_here", "_law_naming", "_law_led_here", "_law_lot", "_law_thing"] ["_law_lots_here", "_law_naming"] (defScope s_led) := ⟨rfl, rfl, rfl, by decide +kernel, rfl, by decide +kernel, by decide +kernel⟩
def m_led (lots1 : (Tup (Tup Int))) (naming2 : (Tup Int)) : W (Tup (Tup Int)) := fun rt => (lots1.l.length ≤ 100000 ∧ wFil lots1.l (fun a4 => wYes) (fun a4 => fun K : (Tup Int) → Prop => (a4.l.length ≤ 100000 ∧ wFil a4.l (fun a5 => wYes) (fun a5 => fun K : Int → Prop => wIdx naming2.l a5 fun it9 => K it9) fun l8 => (∀ so6 : List Int, so6.Perm l8 → so6.Pairwise (· ≤ ·) → K (Tup.mk so6)))) fun l7 => wLet l7 fun led3 => rt (Tup.mk (sortP led3)))
abbrev D_led (P : Program) (w : World) (K : PySem.W.Frag) (mg : Str → Option Value) (base : Heap) : Prop := Def P w K mg base CX0 1 "_law_led" s_led ["_law_lots_here", "_law_naming"] (spF (M2 m_led) (fun r : (Tup (Tup Int)) => fro r))
abbrev s_Ppart : Stmt := topS 2
theorem sc_Ppart : FnScope ["table", "lot"] ["table", "lot"] (defScope s_Ppart) := ⟨rfl, rfl, rfl, by decide +kernel, rfl, by decide +kernel, by decide +kernel⟩
theorem bk_Ppart (qual : Str) (kV doc pm : Value) (an : Option Addr) (cdv ct : Value) (us : List Value) (hl : us.length = 2) : bindArgs (PySem.W.fnOf "part" qual (defArgs s_Ppart) (defBody s_Ppart) (defScope s_Ppart) .none kV doc pm an cdv ct) ⟨[], (["table", "lot"] : List Str).zip us⟩ = pure ((["table", "lot"] : List Str).zip us) := by
  match us, hl with | [_, _], _ => rfl
def m_Ppart (table1 : (P2 Int (Tup (Tup Int)))) (lot2 : (Tup Int)) : W (P2 Int (Tup (Tup Int))) := fun rt => m_PpickedT table1 lot2 fun r3 => rt r3
abbrev D_Ppart (P : Program) (w : World) (K : PySem.W.Frag) (mg : Str → Option Value) (base : Heap) : Prop := Def P w K mg base CX0 2 "part" s_Ppart ["table", "lot"] (spF (M2 m_Ppart) (fun r : (P2 Int (Tup (Tup Int))) => fro r))
abbrev s_Prenamed : Stmt := topS 4
theorem sc_Prenamed : FnScope ["table", "naming", "new"] ["table", "naming"] (defScope s_Prenamed) := ⟨rfl, rfl, rfl, by decide +kernel, rfl, by decide +kernel, by decide +kernel⟩
theorem bk_Prenamed (qual : Str) (kV doc pm : Value) (an : Option Addr) (cdv ct : Value) (us : List Value) (hl : us.length = 2) : bindArgs (PySem.W.fnOf "renamed" qual (defArgs s_Prenamed) (defBody s_Prenamed) (defScope s_Prenamed) .none kV doc pm an cdv ct) ⟨[], (["table", "naming"] : List Str).zip us⟩ = pure ((["table", "naming"] : List Str).zip us) := by
  match us, hl with | [_, _], _ => rfl
def m_Prenamed (table1 : (P2 Int (Tup (Tup Int)))) (naming2 : (Tup Int)) : W (P2 Int (Tup (Tup Int))) := fun rt => (small (naming2.l.length : Int) ∧ ((rng 0 (naming2.l.length : Int)).length ≤ 100000 ∧ wFil (rng 0 (naming2.l.length : Int)) (fun a5 => wYes) (fun a5 => fun K : Int → Prop => (wIx naming2.l a5 fun ix6 => K ix6)) fun l7 => m_Ppicked table1 l7 fun r8 => rt r8))
abbrev D_Prenamed (P : Program) (w : World) (K : PySem.W.Frag) (mg : Str → Option Value) (base : Heap) : Prop := Def P w K mg base CX0 2 "renamed" s_Prenamed ["table", "naming"] (spF (M2 m_Prenamed) (fun r : (P2 Int (Tup (Tup Int))) => fro r))
abbrev s_Pall_lots : Stmt := topS 8
theorem sc_Pall_lots : FnScope ["size", "many", "lot"] ["size"] (defScope s_Pall_lots) := ⟨rfl, rfl, rfl, by decide +kernel, rfl, by decide +kernel, by decide +kernel⟩
theorem bk_Pall_lots (qual : Str) (kV doc pm : Value) (an : Option Addr) (cdv ct : Value) (us : List Value) (hl : us.length = 1) : bindArgs (PySem.W.fnOf "all_lots" qual (defArgs s_Pall_lots) (defBody s_Pall_lots) (defScope s_Pall_lots) .none kV doc pm an cdv ct) ⟨[], (["size"] : List Str).zip us⟩ = pure ((["size"] : List Str).zip us) := by
  match us, hl with | [_], _ => rfl
def m_Pall_lots (size1 : Int) : W (List (Tup Int)) := fun rt => (small (size1 + (1 : Int)) ∧ ((rng 0 (size1 + (1 : Int))).length ≤ 300 ∧ wCat (rng 0 (size1 + (1 : Int))) (wTwo (fun a2 => wYes) (fun a2 => fun K : (List (Tup Int)) → Prop => m_Plots_of size1 a2 fun r5 => K r5) (fun a2 a3 => wYes) (fun a2 a3 => fun K : (Tup Int) → Prop => K a3)) fun l4 => rt l4))
abbrev D_Pall_lots (P : Program) (w : World) (K : PySem.W.Frag) (mg : Str → Option Value) (base : Heap) : Prop := Def P w K mg base CX0 2 "all_lots" s_Pall_lots ["size"] (spF (M1 m_Pall_lots) (fun r : (List (Tup Int)) => fro r))
abbrev s_Ptelling : Stmt := topS 12
theorem sc_Ptelling : FnScope ["table", "lot", "z", "size", "rows", "y", "x"] ["table", "lot"] (defScope s_Ptelling) := ⟨rfl, rfl, rfl, by decide +kernel, rfl, by decide +kernel, by decide +kernel⟩
theorem bk_Ptelling (qual : Str) (kV doc pm : Value) (an : Option Addr) (cdv ct : Value) (us : List Value) (hl : us.length = 2) : bindArgs (PySem.W.fnOf "telling" qual (defArgs s_Ptelling) (defBody s_Ptelling) (defScope s_Ptelling) .none kV doc pm an cdv ct) ⟨[], (["table", "lot"] : List Str).zip us⟩ = pure ((["table", "lot"] : List Str).zip us) := by
  match us, hl with | [_, _], _ => rfl
def m_Ptelling (table1 : (P2 Int (Tup (Tup Int)))) (lot2 : (Tup Int)) : W (Option (P3 Int Int Int)) := fun rt => wLet table1 fun k3 => m_Poutside k3.a lot2 fun r23 => wFor r23.l () (fun a5 k4 nx6 => wFor lot2.l () (fun a8 k7 nx9 => wIdx lot2.l (0 : Int) fun it20 => wLet it20 fun x10 => wCps (fun K : Bool → Prop => wIdx k3.b.l a5 fun it11 => wIdx it11.l x10 fun it12 => wIdx k3.b.l a5 fun it13 => wIdx it13.l a8 fun it14 => wIf (!decide (it12 = it14)) (K true) (wIdx k3.b.l x10 fun it15 => wIdx it15.l a5 fun it16 => wIdx k3.b.l a8 fun it17 => wIdx it17.l a5 fun it18 => K (!decide (it16 = it18)))) fun b19 => wIf b19 (rt (some (P3.mk a5 x10 a8))) (nx9 ())) fun k21 => nx6 ()) fun k22 => rt (none : (Option (P3 Int Int Int)))
abbrev D_Ptelling (P : Program) (w : World) (K : PySem.W.Frag) (mg : Str → Option Value) (base : Heap) : Prop := Def P w K mg base CX0 2 "telling" s_Ptelling ["table", "lot"] (spF (M2 m_Ptelling) (fun r : (Option (P3 Int Int Int)) => fro r))
abbrev s_one : Stmt := topS 22
theorem sc_one : FnScope ["_law_deck_here", "_law_items"] ["_law_deck_here", "_law_items"] (defScope s_one) := ⟨rfl, rfl, rfl, by decide +kernel, rfl, by decide +kernel, by decide +kernel⟩
def m_one (items1 : (List Int)) : W Int := fun rt => m_draw (items1.length : Int) fun r2 => wIdx items1 r2 fun it3 => rt it3
abbrev D_one (P : Program) (w : World) (K : PySem.W.Frag) (mg : Str → Option Value) (base : Heap) : Prop := Def P w K mg base CX0 2 "_law_one" s_one ["_law_deck_here", "_law_items"] (spP (M1 m_one) (fun r : Int => fro r))
abbrev s_oneL : Stmt := topS 22
theorem sc_oneL : FnScope ["_law_deck_here", "_law_items"] ["_law_deck_here", "_law_items"] (defScope s_oneL) := ⟨rfl, rfl, rfl, by decide +kernel, rfl, by decide +kernel, by decide +kernel⟩
def m_oneL (items1 : (List (List Int))) : W (List Int) := fun rt => m_draw (items1.length : Int) fun r2 => wIdx items1 r2 fun it3 => rt it3
abbrev D_oneL (P : Program) (w : World) (K : PySem.W.Frag) (mg : Str → Option Value) (base : Heap) : Prop := Def P w K mg base CX0 2 "_law_one" s_oneL ["_law_deck_here", "_law_items"] (spP (M1 m_oneL) (fun r : (List Int) => fro r))
abbrev s_mixed : Stmt := topS 23
theorem sc_mixed : FnScope ["_law_deck_here", "_law_items", "_law_turn", "_law_rest", "_law_found"] ["_law_deck_here", "_law_items"] (defScope s_mixed) := ⟨rfl, rfl, rfl, by decide +kernel, rfl, by decide +kernel, by decide +kernel⟩
def m_mixed (items1 : (List Int)) : W (List Int) := fun rt => wLet items1 fun restN3 => wLet ([] : List Int) fun found4 => (small (items1.length : Int) ∧ wFor (rng 0 (items1.length : Int)) (restN3, found4) (fun a6 k5 nx7 => m_draw (k5.1.length : Int) fun r12 => wPop k5.1 r12 fun it11 restN10 => (k5.2.length < 100000 ∧ wLet (k5.2 ++ [it11]) fun found9 => nx7 (restN10, found9))) fun k13 => rt k13.2)
abbrev D_mixed (P : Program) (w : World) (K : PySem.W.Frag) (mg : Str → Option Value) (base : Heap) : Prop := Def P w K mg base CX0 2 "_law_mixed" s_mixed ["_law_deck_here", "_law_items"] (spP (M1 m_mixed) (fun r : (List Int) => fro r))
abbrev s_is_firm : Stmt := topS 27
theorem sc_is_firm : FnScope ["_law_rows_here", "_law_lot", "_law_at", "_law_first", "_law_second"] ["_law_rows_here", "_law_lot"] (defScope s_is_firm) := ⟨rfl, rfl, rfl, by decide +kernel, rfl, by decide +kernel, by decide +kernel⟩
def m_is_firm (rows1 : (List (List Int))) (lot2 : (Tup Int)) : W Bool := fun rt => wFor (enumA lot2.l) () (fun a4 k3 nx5 => wFor ((Tup.mk (cutA lot2.l (some (a4.a + (1 : Int))) none)).l) () (fun a7 k6 nx8 => m_spread rows1 lot2 a4.b a7 fun r9 => wIf (decide ((r9.length : Int) < (lot2.l.length : Int))) (rt false) (nx8 ())) fun k10 => nx5 ()) fun k11 => rt (decide ((2 : Int) < (lot2.l.length : Int)))
abbrev D_is_firm (P : Program) (w : World) (K : PySem.W.Frag) (mg : Str → Option Value) (base : Heap) : Prop := Def P w K mg base CX0 2 "_law_is_firm" s_is_firm ["_law_rows_here", "_law_lot"] (spF (M2 m_is_firm) (fun r : Bool => fro r))
abbrev s_Pgrowing : Stmt := topS 14
theorem sc_Pgrowing : FnScope ["table", "lot", "steps", "told"] ["table", "lot"] (defScope s_Pgrowing) := ⟨rfl, rfl, rfl, by decide +kernel, rfl, by decide +kernel, by decide +kernel⟩
theorem bk_Pgrowing (qual : Str) (kV doc pm : Value) (an : Option Addr) (cdv ct : Value) (us : List Value) (hl : us.length = 2) : bindArgs (PySem.W.fnOf "growing" qual (defArgs s_Pgrowing) (defBody s_Pgrowing) (defScope s_Pgrowing) .none kV doc pm an cdv ct) ⟨[], (["table", "lot"] : List Str).zip us⟩ = pure ((["table", "lot"] : List Str).zip us) := by
  match us, hl with | [_, _], _ => rfl
def m_Pgrowing (table1 : (P2 Int (Tup (Tup Int)))) (lot2 : (Tup Int)) : W (Tup (P3 Int Int Int)) := fun rt => wLet ([] : List (P3 Int Int Int)) fun steps3 => m_Ptelling table1 lot2 fun r15 => wLet r15 fun told4 => wWhile (lot2, steps3, told4) (fun k5 => fun K : Bool → Prop => K (!isNo (enc k5.2.2))) (fun k5 nx6 => (∃ un7, k5.2.2 = some un7 ∧ (k5.2.1.length < 100000 ∧ wLet (k5.2.1 ++ [un7]) fun steps8 => (∃ un10, k5.2.2 = some un10 ∧ m_Pjoined k5.1 (Tup.mk (cutA (Tup.mk [un10.a, un10.b, un10.c]).l none (some (1 : Int)))) fun r13 => wLet r13 fun lot9 => m_Ptelling table1 lot9 fun r12 => wLet r12 fun told11 => nx6 (lot9, steps8, told11))))) fun k14 => rt (Tup.mk k14.2.1)
abbrev D_Pgrowing (P : Program) (w : World) (K : PySem.W.Frag) (mg : Str → Option Value) (base : Heap) : Prop := Def P w K mg base CX0 3 "growing" s_Pgrowing ["table", "lot"] (spF (M2 m_Pgrowing) (fun r : (Tup (P3 Int Int Int)) => fro r))
abbrev s_menu : Stmt := topS 28
theorem sc_menu : FnScope ["_law_deck_here", "_law_low"] ["_law_deck_here"] (defScope s_menu) := ⟨rfl, rfl, rfl, by decide +kernel, rfl, by decide +kernel, by decide +kernel⟩
def m_menu  : W (List Int) := fun rt => m_draw (99 : Int) fun r3 => wLet r3 fun low1 => m_oneL ([([(0 : Int), (1 : Int)] : List Int), ([(0 : Int), (1 : Int)] : List Int), ([(1 : Int), (0 : Int), (2 : Int)] : List Int), ([low1, (99 : Int)] : List Int), ([(0 : Int), (low1 + (1 : Int)), (7 : Int)] : List Int), ([(5 : Int), (6 : Int), (low1 + (1 : Int)), (0 : Int)] : List Int)] : List (List Int)) fun r2 => rt r2
abbrev D_menu (P : Program) (w : World) (K : PySem.W.Frag) (mg : Str → Option Value) (base : Heap) : Prop := Def P w K mg base CX0 3 "_law_menu" s_menu ["_law_deck_here"] (spP (M0 m_menu) (fun r : (List Int) => fro r))
abbrev s_rows : Stmt := topS 29
theorem sc_rows : FnScope ["_law_deck_here", "_law_size", "_law_menu_here", "_law_y", "_law_way", "_law_rows_here", "_law_one_here", "_law_other", "_law_x", "_law_pair", "_law_thing"] ["_law_deck_here", "_law_size", "_law_menu_here"] (defScope s_rows) := ⟨rfl, rfl, rfl, by decide +kernel, rfl, by decide +kernel, by decide +kernel⟩
def m_rows (size1 : Int) (menu2 : (List Int)) : W (List (List Int)) := fun rt => m_draw (5 : Int) fun r55 => wLet r55 fun way5 => (small size1 ∧ ((rng 0 size1).length ≤ 100000 ∧ wFil (rng 0 size1) (fun a4 => wYes) (fun a4 => fun K : (List Int) → Prop => ((-100000 ≤ size1 ∧ size1 ≤ 100000 ∧ ([(0 : Int)] : List Int).length * (Int.toNat size1) ≤ 100000) ∧ K (reps ([(0 : Int)] : List Int) size1))) fun l56 => wLet l56 fun rows6 => (small24 0 size1 ∧ m_mixed (rng 0 size1) fun r53 => wLet r53 fun one8 => (small24 0 size1 ∧ m_mixed (rng 0 size1) fun r54 => wLet r54 fun other9 => (small size1 ∧ wFor (rng 0 size1) rows6 (fun a11 k10 nx12 => (small a11 ∧ wFor (rng 0 a11) k10 (fun a14 k13 nx15 => m_one menu2 fun r49 => m_one menu2 fun r50 => wLet ([r49, r50] : List Int) fun pair16 => wCps (fun nx17 : (List Int) → Prop => wIf (decide (way5 = (1 : Int))) (wIdx pair16 (0 : Int) fun it20 => wIdx pair16 (0 : Int) fun it21 => wLet ([it20, it21] : List Int) fun pair19 => nx17 pair19) (nx17 pair16)) fun k18 => wCps (fun nx22 : (List Int) → Prop => wIf (decide (way5 = (2 : Int))) (wCps (fun K : (List Int) → Prop => wIdx k18 (0 : Int) fun it25 => wIdx menu2 (0 : Int) fun it26 => wIf (decide (it25 = it26)) (wIdx menu2 (0 : Int) fun it27 => wIdx menu2 (1 : Int) fun it28 => K ([it27, it28] : List Int)) (wIdx menu2 (1 : Int) fun it29 => wIdx menu2 (0 : Int) fun it30 => K ([it29, it30] : List Int))) fun b31 => wLet b31 fun pair24 => nx22 pair24) (nx22 k18)) fun k23 => wCps (fun nx32 : (List Int) → Prop => wIf (decide (way5 = (3 : Int))) (wCps (fun K : Bool → Prop => wIdx one8 a14 fun it35 => wIdx one8 a11 fun it36 => wIf (decide (it35 < it36)) (wIdx other9 a14 fun it37 => wIdx other9 a11 fun it38 => K (decide (it37 < it38))) (K false)) fun b39 => wCps (fun K : Bool → Prop => wIdx one8 a11 fun it40 => wIdx one8 a14 fun it41 => wIf (decide (it40 < it41)) (wIdx other9 a11 fun it42 => wIdx other9 a14 fun it43 => K (decide (it42 < it43))) (K false)) fun b44 => wLet ([(b2n b39), (b2n b44)] : List Int) fun pair34 => nx32 pair34) (nx32 k23)) fun k33 => wIdx k33 (0 : Int) fun it48 => wSet2 k13 a14 (fun K : Int → Prop => K a11) it48 fun rows45 => wIdx k33 (1 : Int) fun it47 => wSet2 rows45 a11 (fun K : Int → Prop => K a14) it47 fun rows46 => nx15 rows46) fun k51 => nx12 k51)) fun k52 => rt k52)))))
abbrev D_rows (P : Program) (w : World) (K : PySem.W.Frag) (mg : Str → Option Value) (base : Heap) : Prop := Def P w K mg base CX0 3 "_law_rows" s_rows ["_law_deck_here", "_law_size", "_law_menu_here"] (spP (M2 m_rows) (fun r : (List (List Int)) => own2 r))
abbrev s_paints : Stmt := topS 36
theorem sc_paints : FnScope ["_law_deck_here", "_law_rows_here", "_law_looks", "_law_x", "_law_look", "_law_kept", "_law_begin", "_law_y", "_law_at"] ["_law_deck_here", "_law_rows_here"] (defScope s_paints) := ⟨rfl, rfl, rfl, by decide +kernel, rfl, by decide +kernel, by decide +kernel⟩
def m_paints (rows1 : (List (List Int))) : W Mp := fun rt => wLet ([] : List Int) fun looks2 => (small (rows1.length : Int) ∧ wFor (rng 0 (rows1.length : Int)) looks2 (fun a4 k3 nx5 => (small (rows1.length : Int) ∧ ((rng 0 (rows1.length : Int)).length ≤ 100000 ∧ wFil (rng 0 (rows1.length : Int)) (fun a7 => (fun K : Bool → Prop => wCps (fun K : Bool → Prop => wIf (!decide (a7 = a4)) (wIdx rows1 a4 fun it8 => wIdx it8 a7 fun it9 => K (!decide (it9 ∈ k3))) (K false)) fun b10 => K b10)) (fun a7 => fun K : Int → Prop => wIdx rows1 a4 fun it12 => wIdx it12 a7 fun it13 => K it13) fun l11 => ((k3.length + l11.length ≤ 100000) ∧ wLet (k3 ++ l11) fun looks6 => nx5 looks6)))) fun k14 => wLet ([] : List Int) fun kept16 => m_draw (100 : Int) fun r28 => wLet r28 fun begin17 => m_mixed k14 fun r27 => wFor r27 kept16 (fun a19 k18 nx20 => wCps (fun nx21 : (List Int) → Prop => wIf (!decide (a19 ∈ k18)) ((k18.length < 100000 ∧ wLet (k18 ++ [a19]) fun kept23 => nx21 kept23)) (nx21 k18)) fun k22 => nx20 k22) fun k24 => ((enumA k24).length ≤ 100000 ∧ wFil (enumA k24) (fun a25 => wYes) (fun a25 => fun K : (P2 Int Int) → Prop => (CMul (37 : Int) a25.a ∧ ((100 : Int) ≠ 0 ∧ K (P2.mk a25.b (Int.fmod (begin17 + ((37 : Int) * a25.a)) (100 : Int)))))) fun l26 => rt (mpOf l26)))
abbrev D_paints (P : Program) (w : World) (K : PySem.W.Frag) (mg : Str → Option Value) (base : Heap) : Prop := Def P w K mg base CX0 3 "_law_paints" s_paints ["_law_deck_here", "_law_rows_here"] (spP (M1 m_paints) (fun r : Mp => fro r))
abbrev s_Pleast_piece : Stmt := topS 13
theorem sc_Pleast_piece : FnScope ["table", "lot", "told"] ["table", "lot"] (defScope s_Pleast_piece) := ⟨rfl, rfl, rfl, by decide +kernel, rfl, by decide +kernel, by decide +kernel⟩
theorem bk_Pleast_piece (qual : Str) (kV doc pm : Value) (an : Option Addr) (cdv ct : Value) (us : List Value) (hl : us.length = 2) : bindArgs (PySem.W.fnOf "least_piece" qual (defArgs s_Pleast_piece) (defBody s_Pleast_piece) (defScope s_Pleast_piece) .none kV doc pm an cdv ct) ⟨[], (["table", "lot"] : List Str).zip us⟩ = pure ((["table", "lot"] : List Str).zip us) := by
  match us, hl with | [_, _], _ => rfl
def m_Pleast_piece (table1 : (P2 Int (Tup (Tup Int)))) (lot2 : (Tup Int)) : W (Tup Int) := fun rt => m_Pgrowing table1 lot2 fun r4 => (r4.l.length ≤ 100000 ∧ wFil r4.l (fun a3 => wYes) (fun a3 => fun K : Int → Prop => K a3.a) fun l5 => m_Pjoined lot2 (Tup.mk l5) fun r6 => rt r6)
abbrev D_Pleast_piece (P : Program) (w : World) (K : PySem.W.Frag) (mg : Str → Option Value) (base : Heap) : Prop := Def P w K mg base CX0 4 "least_piece" s_Pleast_piece ["table", "lot"] (spF (M2 m_Pleast_piece) (fun r : (Tup Int) => fro r))
abbrev s_core : Stmt := topS 30
theorem sc_core : FnScope ["_law_deck_here", "_law_size", "_law_menu_here", "_law_turn", "_law_rows_here", "_law_x", "_law_thing"] ["_law_deck_here", "_law_size", "_law_menu_here"] (defScope s_core) := ⟨rfl, rfl, rfl, by decide +kernel, rfl, by decide +kernel, by decide +kernel⟩
def m_core (size1 : Int) (menu2 : (List Int)) : W (List (List Int)) := fun rt => (small (5 : Int) ∧ wFor (rng 0 (5 : Int)) () (fun a4 k3 nx5 => m_rows size1 menu2 fun r8 => wLet r8 fun rows6 => (small24 0 size1 ∧ m_is_firm rows6 (Tup.mk (rng 0 size1)) fun r7 => wIf r7 (rt rows6) (nx5 ()))) fun k9 => (small size1 ∧ ((rng 0 size1).length ≤ 100000 ∧ wFil (rng 0 size1) (fun a11 => wYes) (fun a11 => fun K : (List Int) → Prop => wIdx menu2 (0 : Int) fun it22 => ((-100000 ≤ size1 ∧ size1 ≤ 100000 ∧ ([it22] : List Int).length * (Int.toNat size1) ≤ 100000) ∧ K (reps ([it22] : List Int) size1))) fun l21 => wLet l21 fun rows10 => (small size1 ∧ wFor (rng 0 size1) rows10 (fun a13 k12 nx14 => wSet2 k12 a13 (fun K : Int → Prop => K a13) (0 : Int) fun rows15 => wCps (fun nx16 : (List (List Int)) → Prop => wIf (decide ((a13 + (1 : Int)) < size1)) (wIdx menu2 (1 : Int) fun it19 => wSet2 rows15 a13 (fun K : Int → Prop => K (a13 + (1 : Int))) it19 fun rows18 => nx16 rows18) (nx16 rows15)) fun k17 => nx14 k17) fun k20 => rt k20))))
abbrev D_core (P : Program) (w : World) (K : PySem.W.Frag) (mg : Str → Option Value) (base : Heap) : Prop := Def P w K mg base CX0 4 "_law_core" s_core ["_law_deck_here", "_law_size", "_law_menu_here"] (spP (M2 m_core) (fun r : (List (List Int)) => fro r))
abbrev s_Pis_firm : Stmt := topS 16
theorem sc_Pis_firm : FnScope ["table", "size", "lot"] ["table"] (defScope s_Pis_firm) := ⟨rfl, rfl, rfl, by decide +kernel, rfl, by decide +kernel, by decide +kernel⟩
theorem bk_Pis_firm (qual : Str) (kV doc pm : Value) (an : Option Addr) (cdv ct : Value) (us : List Value) (hl : us.length = 1) : bindArgs (PySem.W.fnOf "is_firm" qual (defArgs s_Pis_firm) (defBody s_Pis_firm) (defScope s_Pis_firm) .none kV doc pm an cdv ct) ⟨[], (["table"] : List Str).zip us⟩ = pure ((["table"] : List Str).zip us) := by
  match us, hl with | [_], _ => rfl
def m_Pis_firm (table1 : (P2 Int (Tup (Tup Int)))) : W Bool := fun rt => wLet table1.a fun size2 => wCps (fun K : Bool → Prop => wIf (decide ((3 : Int) ≤ size2)) (m_Plots_of size2 (2 : Int) fun r4 => (r4.length ≤ 100000 ∧ wFil r4 (fun a3 => wYes) (fun a3 => fun K : Bool → Prop => m_Pleast_piece table1 a3 fun r6 => K (decide ((r6.l.length : Int) = size2))) fun l5 => K (List.all l5 id))) (K false)) fun b7 => rt b7
abbrev D_Pis_firm (P : Program) (w : World) (K : PySem.W.Frag) (mg : Str → Option Value) (base : Heap) : Prop := Def P w K mg base CX0 5 "is_firm" s_Pis_firm ["table"] (spF (M1 m_Pis_firm) (fun r : Bool => fro r))
abbrev s_small : Stmt := topS 33
theorem sc_small : FnScope ["_law_deck_here", "_law_size", "_law_menu_here", "_law_way", "_law_rows_here", "_law_looks", "_law_y", "_law_x"] ["_law_deck_here", "_law_size", "_law_menu_here"] (defScope s_small) := ⟨rfl, rfl, rfl, by decide +kernel, rfl, by decide +kernel, by decide +kernel⟩
def m_small (size1 : Int) (menu2 : (List Int)) : W (List (List Int)) := fun rt => m_draw (4 : Int) fun r25 => wLet r25 fun way4 => m_rows size1 menu2 fun r26 => wLet r26 fun rows5 => wCps (fun K : Bool → Prop => wIf (decide (way4 = (2 : Int))) (K (decide ((2 : Int) < size1))) (K false)) fun b24 => wIf b24 (m_core size1 menu2 fun r6 => rt r6) (wCps (fun nx7 : (List (List Int)) → Prop => wIf (decide (way4 < (2 : Int))) (m_one menu2 fun r22 => m_one menu2 fun r23 => wLet ([r22, r23] : List Int) fun looks9 => (small size1 ∧ wFor (rng 0 size1) rows5 (fun a11 k10 nx12 => (small a11 ∧ wFor (rng 0 a11) k10 (fun a14 k13 nx15 => wIdx looks9 (0 : Int) fun it19 => wSet2 k13 a14 (fun K : Int → Prop => K a11) it19 fun rows16 => wIdx looks9 way4 fun it18 => wSet2 rows16 a11 (fun K : Int → Prop => K a14) it18 fun rows17 => nx15 rows17) fun k20 => nx12 k20)) fun k21 => nx7 k21)) (nx7 rows5)) fun k8 => rt k8)
abbrev D_small (P : Program) (w : World) (K : PySem.W.Frag) (mg : Str → Option Value) (base : Heap) : Prop := Def P w K mg base CX0 5 "_law_small" s_small ["_law_deck_here", "_law_size", "_law_menu_here"] (spP (M2 m_small) (fun r : (List (List Int)) => fro r))
abbrev s_Pis_firm_lot : Stmt := topS 17
theorem sc_Pis_firm_lot : FnScope ["table", "lot"] ["table", "lot"] (defScope s_Pis_firm_lot) := ⟨rfl, rfl, rfl, by decide +kernel, rfl, by decide +kernel, by decide +kernel⟩
theorem bk_Pis_firm_lot (qual : Str) (kV doc pm : Value) (an : Option Addr) (cdv ct : Value) (us : List Value) (hl : us.length = 2) : bindArgs (PySem.W.fnOf "is_firm_lot" qual (defArgs s_Pis_firm_lot) (defBody s_Pis_firm_lot) (defScope s_Pis_firm_lot) .none kV doc pm an cdv ct) ⟨[], (["table", "lot"] : List Str).zip us⟩ = pure ((["table", "lot"] : List Str).zip us) := by
  match us, hl with | [_, _], _ => rfl
def m_Pis_firm_lot (table1 : (P2 Int (Tup (Tup Int)))) (lot2 : (Tup Int)) : W Bool := fun rt => m_Ppart table1 lot2 fun r3 => m_Pis_firm r3 fun r4 => rt r4
abbrev D_Pis_firm_lot (P : Program) (w : World) (K : PySem.W.Frag) (mg : Str → Option Value) (base : Heap) : Prop := Def P w K mg base CX0 6 "is_firm_lot" s_Pis_firm_lot ["table", "lot"] (spF (M2 m_Pis_firm_lot) (fun r : Bool => fro r))
abbrev s_made : Stmt := topS 34
theorem sc_made : FnScope ["_law_deck_here", "_law_size", "_law_menu_here", "_law_rows_here", "_law_turn", "_law_room", "_law_thing", "_law_wide"] ["_law_deck_here", "_law_size", "_law_menu_here"] (defScope s_made) := ⟨rfl, rfl, rfl, by decide +kernel, rfl, by decide +kernel, by decide +kernel⟩
def m_made (size1 : Int) (menu2 : (List Int)) : W (List (List Int)) := fun rt => (small (if (1 : Int) < size1 then (1 : Int) else size1) ∧ ((rng 0 (if (1 : Int) < size1 then (1 : Int) else size1)).length ≤ 100000 ∧ wFil (rng 0 (if (1 : Int) < size1 then (1 : Int) else size1)) (fun a4 => wYes) (fun a4 => fun K : (List Int) → Prop => K ([(0 : Int)] : List Int)) fun l20 => wLet l20 fun rows3 => (small size1 ∧ wFor (rng 0 size1) rows3 (fun a6 k5 nx7 => wLet (size1 - (k5.length : Int)) fun room8 => wCps (fun nx9 : (List (List Int)) → Prop => wIf (decide ((0 : Int) < room8)) (m_draw (if (3 : Int) < room8 then (3 : Int) else room8) fun r16 => wLet ((2 : Int) + r16) fun wide11 => m_draw (k5.length : Int) fun r13 => m_small wide11 menu2 fun r14 => m_set_in k5 r13 r14 fun r15 => wLet r15 fun rows12 => nx9 rows12) (nx9 k5)) fun k10 => nx7 k10) fun k17 => (small24 0 size1 ∧ m_mixed (rng 0 size1) fun r18 => m_named k17 r18 fun r19 => rt r19))))
abbrev D_made (P : Program) (w : World) (K : PySem.W.Frag) (mg : Str → Option Value) (base : Heap) : Prop := Def P w K mg base CX0 6 "_law_made" s_made ["_law_deck_here", "_law_size", "_law_menu_here"] (spP (M2 m_made) (fun r : (List (List Int)) => fro r))
abbrev s_Pfirm_lots : Stmt := topS 18
theorem sc_Pfirm_lots : FnScope ["table", "lot"] ["table"] (defScope s_Pfirm_lots) := ⟨rfl, rfl, rfl, by decide +kernel, rfl, by decide +kernel, by decide +kernel⟩
theorem bk_Pfirm_lots (qual : Str) (kV doc pm : Value) (an : Option Addr) (cdv ct : Value) (us : List Value) (hl : us.length = 1) : bindArgs (PySem.W.fnOf "firm_lots" qual (defArgs s_Pfirm_lots) (defBody s_Pfirm_lots) (defScope s_Pfirm_lots) .none kV doc pm an cdv ct) ⟨[], (["table"] : List Str).zip us⟩ = pure ((["table"] : List Str).zip us) := by
  match us, hl with | [_], _ => rfl
def m_Pfirm_lots (table1 : (P2 Int (Tup (Tup Int)))) : W (Tup (Tup Int)) := fun rt => m_Pall_lots table1.a fun r4 => (r4.length ≤ 100000 ∧ wFil r4 (fun a2 => (fun K : Bool → Prop => m_Pis_firm_lot table1 a2 fun r3 => K r3)) (fun a2 => fun K : (Tup Int) → Prop => K a2) fun l5 => rt (Tup.mk l5))
abbrev D_Pfirm_lots (P : Program) (w : World) (K : PySem.W.Frag) (mg : Str → Option Value) (base : Heap) : Prop := Def P w K mg base CX0 7 "firm_lots" s_Pfirm_lots ["table"] (spF (M1 m_Pfirm_lots) (fun r : (Tup (Tup Int)) => fro r))
abbrev s_any : Stmt := topS 35
theorem sc_any : FnScope ["_law_deck_here", "_law_size", "_law_menu_here", "_law_way"] ["_law_deck_here", "_law_size", "_law_menu_here"] (defScope s_any) := ⟨rfl, rfl, rfl, by decide +kernel, rfl, by decide +kernel, by decide +kernel⟩
def m_any (size1 : Int) (menu2 : (List Int)) : W (List (List Int)) := fun rt => m_draw (5 : Int) fun r9 => wLet r9 fun way3 => wCps (fun K : Bool → Prop => wIf (decide (way3 = (0 : Int))) (K (decide ((2 : Int) < size1))) (K false)) fun b8 => wIf b8 (m_core size1 menu2 fun r4 => rt r4) (wCps (fun K : (List (List Int)) → Prop => wIf (decide (way3 = (1 : Int))) (m_rows size1 menu2 fun r5 => K r5) (m_made size1 menu2 fun r6 => K r6)) fun b7 => rt b7)
abbrev D_any (P : Program) (w : World) (K : PySem.W.Frag) (mg : Str → Option Value) (base : Heap) : Prop := Def P w K mg base CX0 7 "_law_any" s_any ["_law_deck_here", "_law_size", "_law_menu_here"] (spP (M2 m_any) (fun r : (List (List Int)) => fro r))
abbrev s_is_right : Stmt := topS 38
theorem sc_is_right : FnScope ["_law_deck_here", "_law_rows_here", "_law_lots_here", "_law_due", "_law_found", "_law_told", "_law_table_here", "_law_size", "_law_naming", "_law_paints_here", "_law_lot"] ["_law_deck_here", "_law_rows_here"] (defScope s_is_right) := ⟨rfl, rfl, rfl, by decide +kernel, rfl, by decide +kernel, by decide +kernel⟩
def m_is_right (rows1 : (List (List Int))) : W Bool := fun rt => m_table rows1 fun r38 => wLet r38 fun table3 => wLet (rows1.length : Int) fun size4 => m_lots size4 fun r36 => (r36.length ≤ 100000 ∧ wFil r36 (fun a6 => (fun K : Bool → Prop => K (decide ((2 : Int) < (a6.l.length : Int))))) (fun a6 => fun K : (Tup Int) → Prop => K a6) fun l37 => wLet l37 fun lots5 => (lots5.length ≤ 100000 ∧ wFil lots5 (fun a8 => (fun K : Bool → Prop => m_is_firm rows1 a8 fun r9 => K r9)) (fun a8 => fun K : (Tup Int) → Prop => K a8) fun l35 => wLet (Tup.mk l35) fun due7 => m_Pfirm_lots table3 fun r34 => wLet r34 fun found10 => wCps (fun K : Bool → Prop => (ShowOk (enc found10) ∧ (ShowOk (enc due7) ∧ wIf (!decide ((PyData.shown (enc found10)) = (PyData.shown (enc due7)))) (K true) ((ShowOk (enc table3) ∧ m_table rows1 fun r32 => (ShowOk (enc r32) ∧ K (!decide ((PyData.shown (enc table3)) = (PyData.shown (enc r32)))))))))) fun b33 => wIf b33 (rt false) (wIf (decide ((5 : Int) < size4)) (rt true) ((lots5.length ≤ 100000 ∧ wFil lots5 (fun a11 => wYes) (fun a11 => fun K : Bool → Prop => m_Ppart table3 a11 fun r29 => m_Pis_firm r29 fun r30 => K r30) fun l28 => (ShowOk (enc l28) ∧ (lots5.length ≤ 100000 ∧ wFil lots5 (fun a12 => wYes) (fun a12 => fun K : Bool → Prop => (EqOk (enc a12) ∧ EqOk (enc due7) ∧ K (List.any due7.l fun z => PyData.eqv (enc z) (enc a12)))) fun l31 => (ShowOk (enc l31) ∧ wIf (!decide ((PyData.shown (enc l28)) = (PyData.shown (enc l31)))) (rt false) ((small24 0 size4 ∧ m_mixed (rng 0 size4) fun r26 => wLet (Tup.mk r26) fun naming14 => m_paints rows1 fun r27 => wLet r27 fun paints15 => m_Pturned table3 fun r20 => m_Pfirm_lots r20 fun r21 => m_Ppainted table3 paints15 fun r22 => m_Pfirm_lots r22 fun r23 => m_Prenamed table3 naming14 fun r24 => m_Pfirm_lots r24 fun r25 => wLet ([r21, r23, r25] : List (Tup (Tup Int))) fun told16 => wCps (fun K : Bool → Prop => (ShowOk (enc told16) ∧ m_led due7 naming14 fun r17 => (ShowOk (enc ([due7, due7, r17] : List (Tup (Tup Int)))) ∧ wIf (decide ((PyData.shown (enc told16)) = (PyData.shown (enc ([due7, due7, r17] : List (Tup (Tup Int))))))) (m_Pfirm_lots table3 fun r18 => (ShowOk (enc r18) ∧ (ShowOk (enc due7) ∧ K (decide ((PyData.shown (enc r18)) = (PyData.shown (enc due7))))))) (K false)))) fun b19 => rt b19))))))))))
abbrev D_is_right (P : Program) (w : World) (K : PySem.W.Frag) (mg : Str → Option Value) (base : Heap) : Prop := Def P w K mg base CX0 8 "_law_is_right" s_is_right ["_law_deck_here", "_law_rows_here"] (spP (M1 m_is_right) (fun r : Bool => fro r))
abbrev s_law : Stmt := topS 39
theorem sc_law : FnScope ["_law_script", "_law_deck_here", "_law_menu_here", "_law_size", "_law_pair", "_law_some", "_law_rows_here", "_law_long", "_law_due", "_law_lots_here", "_law_lot"] ["_law_script"] (defScope s_law) := ⟨rfl, rfl, rfl, by decide +kernel, rfl, by decide +kernel, by decide +kernel⟩
def m_law : W Bool := fun rt => m_menu  fun r40 => wLet r40 fun menu2 => m_one ([(3 : Int), (4 : Int), (5 : Int), (5 : Int), (5 : Int), (6 : Int)] : List Int) fun r38 => m_draw (5 : Int) fun r39 => wFor ((Tup.mk [r38, r39] : Tup Int).l) () (fun a4 k3 nx5 => m_any a4 menu2 fun r6 => m_is_right r6 fun r7 => wIf (!r7) (rt false) (nx5 ())) fun k8 => m_one menu2 fun r36 => m_one menu2 fun r37 => wLet ([([(0 : Int), r36] : List Int), ([r37, (0 : Int)] : List Int)] : List (List Int)) fun pair9 => m_draw (2 : Int) fun r32 => m_one ([(3 : Int), (4 : Int)] : List Int) fun r33 => m_core r33 menu2 fun r34 => m_set_in pair9 r32 r34 fun r35 => wLet ([r35] : List (List (List Int))) fun someN10 => m_core (3 : Int) menu2 fun r28 => m_draw (3 : Int) fun r29 => m_core (3 : Int) menu2 fun r30 => m_set_in r28 r29 r30 fun r31 => (someN10.length < 100000 ∧ wLet (someN10 ++ [r31]) fun someN11 => wFor someN11 () (fun a13 k12 nx14 => m_lots (a13.length : Int) fun r21 => wLet r21 fun lots15 => m_table a13 fun r18 => m_Pfirm_lots r18 fun r19 => (ShowOk (enc r19) ∧ (lots15.length ≤ 100000 ∧ wFil lots15 (fun a16 => (fun K : Bool → Prop => m_is_firm a13 a16 fun r17 => K r17)) (fun a16 => fun K : (Tup Int) → Prop => K a16) fun l20 => (ShowOk (enc (Tup.mk l20)) ∧ wIf (!decide ((PyData.shown (enc r19)) = (PyData.shown (enc (Tup.mk l20))))) (rt false) (nx14 ()))))) fun k22 => wLet (Tup.mk [(Tup.mk [(0 : Int), (1 : Int), (0 : Int), (0 : Int), (0 : Int)] : Tup Int), (Tup.mk [(1 : Int), (0 : Int), (1 : Int), (0 : Int), (0 : Int)] : Tup Int), (Tup.mk [(0 : Int), (1 : Int), (0 : Int), (1 : Int), (0 : Int)] : Tup Int), (Tup.mk [(0 : Int), (0 : Int), (1 : Int), (0 : Int), (1 : Int)] : Tup Int), (Tup.mk [(0 : Int), (0 : Int), (0 : Int), (1 : Int), (0 : Int)] : Tup Int)] : Tup (Tup Int)) fun long23 => wLet (Tup.mk [(Tup.mk [(0 : Int), (1 : Int), (2 : Int), (3 : Int)] : Tup Int), (Tup.mk [(1 : Int), (2 : Int), (3 : Int), (4 : Int)] : Tup Int), (Tup.mk [(0 : Int), (1 : Int), (2 : Int), (3 : Int), (4 : Int)] : Tup Int)] : Tup (Tup Int)) fun due24 => m_Pfirm_lots (P2.mk (5 : Int) long23) fun r25 => m_Pfirm_lots (P2.mk (0 : Int) (Tup.mk [] : Tup (Tup Int))) fun r26 => m_Pfirm_lots (P2.mk (2 : Int) (Tup.mk [(Tup.mk [(0 : Int), (1 : Int)] : Tup Int), (Tup.mk [(0 : Int), (0 : Int)] : Tup Int)] : Tup (Tup Int))) fun r27 => (ShowOk (enc ([r25, r26, r27] : List (Tup (Tup Int)))) ∧ (ShowOk (enc ([(enc due24), (enc (Tup.mk [] : Tup Int)), (enc (Tup.mk [] : Tup Int))] : List D)) ∧ rt (decide ((PyData.shown (enc ([r25, r26, r27] : List (Tup (Tup Int))))) = (PyData.shown (enc ([(enc due24), (enc (Tup.mk [] : Tup Int)), (enc (Tup.mk [] : Tup Int))] : List D))))))))
end Kp

set_option Elab.async false
set_option linter.all false
set_option maxRecDepth 100000
set_option maxHeartbeats 4000000
namespace Kp
open PySem PySem.Spec PyProof.Rows L2 Dm
variable [TabC]
theorem ok_Ppicked {P : Program} {w : World} {K : PySem.W.Frag} {mg : Str → Option Value} {base : Heap} {f : Addr} {fd : FuncData} {qual : Str}   (Fn : Fun K "picked" qual s_Ppicked f fd) (T : Blt mg)     : FnG P w K mg base CX0 1 f fd ["table", "things"] (spF (M2 m_Ppicked) (fun r : (P2 Int (Tup (Tup Int))) => fro r)) := by
  refine Fun.bodyF Fn sc_Ppicked (fun ds w h => by obtain ⟨_, _, rfl, _⟩ := h; rfl) (fun cdv A outer s H E hr hg ds wr hM => ?_)
  obtain ⟨table1, things2, rfl, rfl⟩ := hM
  have hu : (A.deeper (envOfC qual (defScope s_Ppicked) s.heap.objs.size f cdv)).units + 200 < cLine := by have := hr.un; omega
  have nd := sc_Ppicked.nd
  refine ⟨Unit, _, (fun _ => []), (show DSs (cxOf CX0 P w K mg base ["table", "things", "rows", "x", "y"] qual (defScope s_Ppicked) f cdv A outer s H E).nox none [some (fro (table1 : (P2 Int (Tup (Tup Int))))), some (fro (things2 : (List Int))), none, none, none] (nrm (fun r : (P2 Int (Tup (Tup Int))) => fro r)) (defBody s_Ppicked) _ _ from
    dss_cons (ds_set 2 nd (fun a => good_fro a) (de_snd (de_var 0))) (fun rows3 => dss_one (ds_ret (de_t2 (de_lenL T.len (de_var 1)) (de_tupleL T.tuple (de_of (dx_lc ⟨di_list (de_var 1), ⟨[("x", 3)], blkOk_by (by first | rfl | decide +kernel), rfl⟩, fun _ _ _ _ _ => dg_name 3 nd, fun a4 _ _ _ _ _ => dts_nil, fun a4 _ _ _ _ _ => de_tupleL T.tuple (de_of (dx_lc ⟨di_list (de_var 1), ⟨[("y", 4)], blkOk_by (by first | rfl | decide +kernel), rfl⟩, fun _ _ _ _ _ => dg_name 4 nd, fun a5 _ _ _ _ _ => dts_nil, fun a5 _ _ _ _ _ => de_q (dq_ixT (dq_ixT (dq_var 2) (dq_var 3)) (dq_var 4)), by decide, fun _ => Sub.off rfl, by intro _; rfl⟩ rfl nd)), by decide, fun _ => Sub.off rfl, by intro _; rfl⟩ rfl nd))))))), ?_⟩
  exact fun Pr h => h
theorem ok_PpickedT {P : Program} {w : World} {K : PySem.W.Frag} {mg : Str → Option Value} {base : Heap} {f : Addr} {fd : FuncData} {qual : Str}   (Fn : Fun K "picked" qual s_PpickedT f fd) (T : Blt mg)     : FnG P w K mg base CX0 1 f fd ["table", "things"] (spF (M2 m_PpickedT) (fun r : (P2 Int (Tup (Tup Int))) => fro r)) := by
  refine Fun.bodyF Fn sc_PpickedT (fun ds w h => by obtain ⟨_, _, rfl, _⟩ := h; rfl) (fun cdv A outer s H E hr hg ds wr hM => ?_)
  obtain ⟨table1, things2, rfl, rfl⟩ := hM
  have hu : (A.deeper (envOfC qual (defScope s_PpickedT) s.heap.objs.size f cdv)).units + 200 < cLine := by have := hr.un; omega
  have nd := sc_PpickedT.nd
  refine ⟨Unit, _, (fun _ => []), (show DSs (cxOf CX0 P w K mg base ["table", "things", "rows", "x", "y"] qual (defScope s_PpickedT) f cdv A outer s H E).nox none [some (fro (table1 : (P2 Int (Tup (Tup Int))))), some (fro (things2 : (Tup Int))), none, none, none] (nrm (fun r : (P2 Int (Tup (Tup Int))) => fro r)) (defBody s_PpickedT) _ _ from
    dss_cons (ds_set 2 nd (fun a => good_fro a) (de_snd (de_var 0))) (fun rows3 => dss_one (ds_ret (de_t2 (de_lenT T.len (de_var 1)) (de_tupleL T.tuple (de_of (dx_lc ⟨di_tup (de_var 1), ⟨[("x", 3)], blkOk_by (by first | rfl | decide +kernel), rfl⟩, fun _ _ _ _ _ => dg_name 3 nd, fun a4 _ _ _ _ _ => dts_nil, fun a4 _ _ _ _ _ => de_tupleL T.tuple (de_of (dx_lc ⟨di_tup (de_var 1), ⟨[("y", 4)], blkOk_by (by first | rfl | decide +kernel), rfl⟩, fun _ _ _ _ _ => dg_name 4 nd, fun a5 _ _ _ _ _ => dts_nil, fun a5 _ _ _ _ _ => de_q (dq_ixT (dq_ixT (dq_var 2) (dq_var 3)) (dq_var 4)), by decide, fun _ => Sub.off rfl, by intro _; rfl⟩ rfl nd)), by decide, fun _ => Sub.off rfl, by intro _; rfl⟩ rfl nd))))))), ?_⟩
  exact fun Pr h => h
theorem ok_Pturned {P : Program} {w : World} {K : PySem.W.Frag} {mg : Str → Option Value} {base : Heap} {f : Addr} {fd : FuncData} {qual : Str}   (Fn : Fun K "turned" qual s_Pturned f fd) (T : Blt mg)     : FnG P w K mg base CX0 1 f fd ["table"] (spF (M1 m_Pturned) (fun r : (P2 Int (Tup (Tup Int))) => fro r)) := by
  refine Fun.bodyF Fn sc_Pturned (fun ds w h => by obtain ⟨_, rfl, _⟩ := h; rfl) (fun cdv A outer s H E hr hg ds wr hM => ?_)
  obtain ⟨table1, rfl, rfl⟩ := hM
  have hu : (A.deeper (envOfC qual (defScope s_Pturned) s.heap.objs.size f cdv)).units + 200 < cLine := by have := hr.un; omega
  have nd := sc_Pturned.nd
  refine ⟨Unit, _, (fun _ => []), (show DSs (cxOf CX0 P w K mg base ["table", "size", "rows", "x", "y"] qual (defScope s_Pturned) f cdv A outer s H E).nox none [some (fro (table1 : (P2 Int (Tup (Tup Int))))), none, none, none, none] (nrm (fun r : (P2 Int (Tup (Tup Int))) => fro r)) (defBody s_Pturned) _ _ from
    dss_cons (ds_unp (As := fun a : (P2 Int (Tup (Tup Int))) => [fro a.a, fro a.b]) rfl (de_var 0) (gn_cons 1 nd (gn_cons 2 nd gn_nil)) unp2) (fun k2 => dss_one (ds_ret (de_t2 (de_var 1) (de_tupleL T.tuple (de_of (dx_lc ⟨di_rng1 T.range (de_var 1), ⟨[("x", 3)], blkOk_by (by first | rfl | decide +kernel), rfl⟩, fun _ _ _ _ _ => dg_name 3 nd, fun a3 _ _ _ _ _ => dts_nil, fun a3 _ _ _ _ _ => de_tupleL T.tuple (de_of (dx_lc ⟨di_rng1 T.range (de_var 1), ⟨[("y", 4)], blkOk_by (by first | rfl | decide +kernel), rfl⟩, fun _ _ _ _ _ => dg_name 4 nd, fun a4 _ _ _ _ _ => dts_nil, fun a4 _ _ _ _ _ => de_q (dq_ixT (dq_ixT (dq_var 2) (dq_var 4)) (dq_var 3)), by decide, fun _ => Sub.off rfl, by intro _; rfl⟩ rfl nd)), by decide, fun _ => Sub.off rfl, by intro _; rfl⟩ rfl nd))))))), ?_⟩
  exact fun Pr h => h
theorem ok_Ppainted {P : Program} {w : World} {K : PySem.W.Frag} {mg : Str → Option Value} {base : Heap} {f : Addr} {fd : FuncData} {qual : Str}   (Fn : Fun K "painted" qual s_Ppainted f fd) (T : Blt mg)     : FnG P w K mg base CX0 1 f fd ["table", "paints"] (spF (M2 m_Ppainted) (fun r : (P2 Int (Tup (Tup Int))) => fro r)) := by
  refine Fun.bodyF Fn sc_Ppainted (fun ds w h => by obtain ⟨_, _, rfl, _⟩ := h; rfl) (fun cdv A outer s H E hr hg ds wr hM => ?_)
  obtain ⟨table1, paints2, rfl, rfl⟩ := hM
  have hu : (A.deeper (envOfC qual (defScope s_Ppainted) s.heap.objs.size f cdv)).units + 200 < cLine := by have := hr.un; omega
  have nd := sc_Ppainted.nd
  refine ⟨Unit, _, (fun _ => []), (show DSs (cxOf CX0 P w K mg base ["table", "paints", "size", "rows", "x", "y"] qual (defScope s_Ppainted) f cdv A outer s H E).nox none [some (fro (table1 : (P2 Int (Tup (Tup Int))))), some (fro (paints2 : Mp)), none, none, none, none] (nrm (fun r : (P2 Int (Tup (Tup Int))) => fro r)) (defBody s_Ppainted) _ _ from
    dss_cons (ds_unp (As := fun a : (P2 Int (Tup (Tup Int))) => [fro a.a, fro a.b]) rfl (de_var 0) (gn_cons 2 nd (gn_cons 3 nd gn_nil)) unp2) (fun k3 => dss_one (ds_ret (de_t2 (de_var 2) (de_tupleL T.tuple (de_of (dx_lc ⟨di_rng1 T.range (de_var 2), ⟨[("x", 4)], blkOk_by (by first | rfl | decide +kernel), rfl⟩, fun _ _ _ _ _ => dg_name 4 nd, fun a4 _ _ _ _ _ => dts_nil, fun a4 _ _ _ _ _ => de_tupleL T.tuple (de_of (dx_lc ⟨di_rng1 T.range (de_var 2), ⟨[("y", 5)], blkOk_by (by first | rfl | decide +kernel), rfl⟩, fun _ _ _ _ _ => dg_name 5 nd, fun a5 _ _ _ _ _ => dts_nil, fun a5 _ _ _ _ _ => dx_if (dt_eqI  (de_var 4) (de_var 5)) de_int (de_getF hr (de_var 1) (de_q (dq_ixT (dq_ixT (dq_var 3) (dq_var 4)) (dq_var 5)))), by decide, fun _ => Sub.off rfl, by intro _; rfl⟩ rfl nd)), by decide, fun _ => Sub.off rfl, by intro _; rfl⟩ rfl nd))))))), ?_⟩
  exact fun Pr h => h
theorem ok_Plots_of {P : Program} {w : World} {K : PySem.W.Frag} {mg : Str → Option Value} {base : Heap} {f : Addr} {fd : FuncData} {qual : Str}   (Fn : Fun K "lots_of" qual s_Plots_of f fd) (T : Blt mg)     : FnG P w K mg base CX0 1 f fd ["size", "many"] (spF (M2 m_Plots_of) (fun r : (List (Tup Int)) => fro r)) := by
  refine Fun.bodyF Fn sc_Plots_of (fun ds w h => by obtain ⟨_, _, rfl, _⟩ := h; rfl) (fun cdv A outer s H E hr hg ds wr hM => ?_)
  obtain ⟨size1, many2, rfl, rfl⟩ := hM
  have hu : (A.deeper (envOfC qual (defScope s_Plots_of) s.heap.objs.size f cdv)).units + 200 < cLine := by have := hr.un; omega
  have nd := sc_Plots_of.nd
  refine ⟨Unit, _, (fun _ => []), (show DSs (cxOf CX0 P w K mg base ["size", "many", "lots", "_", "lot", "x"] qual (defScope s_Plots_of) f cdv A outer s H E).nox none [some (fro (size1 : Int)), some (fro (many2 : Int)), none, none, none, none] (nrm (fun r : (List (Tup Int)) => fro r)) (defBody s_Plots_of) _ _ from
    dss_cons (ds_set 2 nd (fun a => good_fro a) (de_of (dx_lst (dh_cons (de_tup (dh_nil (α := Int))) (dh_nil (α := (Tup Int))))))) (fun lots3 => dss_cons (ds_for (GL := (fun k4 : (List (Tup Int)) => [some (fro (size1 : Int)), some (fro (many2 : Int)), some (fro (k4 : (List (Tup Int)))), none, none, none])) (k0 := lots3) (ts := [3]) PassesOwn.never rfl (di_rng1 T.range (de_var 1)) (Sub.keep (Sub.keep (Sub.keep (Sub.keep (Sub.keep (Sub.keep (Sub.nil))))))) (fun k4 => dg_name 3 nd) (fun a5 k4 => dss_cons (ds_setLc2 2 (Lc2.mk (vs1 := [5]) (di_list (de_var 2)) ⟨[("lot", 4), ("x", 5)], blkOk_by (by first | rfl | decide +kernel), rfl⟩ (by decide) (fun _ _ _ _ _ => dg_name 4 nd) (fun a8 _ _ _ _ _ => dts_nil) (fun a8 _ _ _ _ _ => di_rng2 T.range (dx_if (dt_truT (de_var 4)) (de_add  (de_ixT (de_var 4) (de_neg de_int)) de_int) de_int) (de_var 0)) (fun a8 _ _ _ _ _ => dg_name 5 nd) (fun a8 a9 _ _ _ _ _ => dts_nil) (fun a8 a9 _ _ _ _ _ => de_catT  (de_var 4) (de_tup (dh_cons (de_var 5) (dh_nil (α := Int))))) (by decide) (fun _ => Sub.off rfl) (by decide) (fun _ _ => Sub.off rfl) (by intro _; rfl) (by intro _ _; rfl)) rfl nd) (fun lots7 => dss_frzO 2 (dss_done lots7 (fun k4 : (List (Tup Int)) => [some (fro (size1 : Int)), some (fro (many2 : Int)), some (fro (k4 : (List (Tup Int)))), none, none, none]) (Sub.keep (Sub.keep (Sub.keep (Sub.drop (Sub.keep (Sub.keep (Sub.nil))))))))))) (fun k13 => dss_one (ds_ret (de_var 2))))), ?_⟩
  exact fun Pr h => h
theorem ok_Poutside {P : Program} {w : World} {K : PySem.W.Frag} {mg : Str → Option Value} {base : Heap} {f : Addr} {fd : FuncData} {qual : Str}   (Fn : Fun K "outside" qual s_Poutside f fd) (T : Blt mg)     : FnG P w K mg base CX0 1 f fd ["size", "lot"] (spF (M2 m_Poutside) (fun r : (Tup Int) => fro r)) := by
  refine Fun.bodyF Fn sc_Poutside (fun ds w h => by obtain ⟨_, _, rfl, _⟩ := h; rfl) (fun cdv A outer s H E hr hg ds wr hM => ?_)
  obtain ⟨size1, lot2, rfl, rfl⟩ := hM
  have hu : (A.deeper (envOfC qual (defScope s_Poutside) s.heap.objs.size f cdv)).units + 200 < cLine := by have := hr.un; omega
  have nd := sc_Poutside.nd
  refine ⟨Unit, _, (fun _ => []), (show DSs (cxOf CX0 P w K mg base ["size", "lot", "x"] qual (defScope s_Poutside) f cdv A outer s H E).nox none [some (fro (size1 : Int)), some (fro (lot2 : (Tup Int))), none] (nrm (fun r : (Tup Int) => fro r)) (defBody s_Poutside) _ _ from
    dss_one (ds_ret (de_tupleL T.tuple (de_of (dx_lc ⟨di_rng1 T.range (de_var 0), ⟨[("x", 2)], blkOk_by (by first | rfl | decide +kernel), rfl⟩, fun _ _ _ _ _ => dg_name 2 nd, fun a3 _ _ _ _ _ => dts_one (dt_ninT  (de_var 2) (de_var 1)), fun a3 _ _ _ _ _ => de_var 2, by decide, fun _ => Sub.off rfl, by intro _; rfl⟩ rfl nd))))), ?_⟩
  exact fun Pr h => h
theorem ok_Pjoined {P : Program} {w : World} {K : PySem.W.Frag} {mg : Str → Option Value} {base : Heap} {f : Addr} {fd : FuncData} {qual : Str}   (Fn : Fun K "joined" qual s_Pjoined f fd) (T : Blt mg)     : FnG P w K mg base CX0 1 f fd ["lot", "other"] (spF (M2 m_Pjoined) (fun r : (Tup Int) => fro r)) := by
  refine Fun.bodyF Fn sc_Pjoined (fun ds w h => by obtain ⟨_, _, rfl, _⟩ := h; rfl) (fun cdv A outer s H E hr hg ds wr hM => ?_)
  obtain ⟨lot1, other2, rfl, rfl⟩ := hM
  have hu : (A.deeper (envOfC qual (defScope s_Pjoined) s.heap.objs.size f cdv)).units + 200 < cLine := by have := hr.un; omega
  have nd := sc_Pjoined.nd
  refine ⟨Unit, _, (fun _ => []), (show DSs (cxOf CX0 P w K mg base ["lot", "other"] qual (defScope s_Pjoined) f cdv A outer s H E).nox none [some (fro (lot1 : (Tup Int))), some (fro (other2 : (Tup Int)))] (nrm (fun r : (Tup Int) => fro r)) (defBody s_Pjoined) _ _ from
    dss_one (ds_ret (de_tupleL T.tuple (de_of (dx_ssT rfl T.sorted T.set (de_catT  (de_var 0) (de_var 1))))))), ?_⟩
  exact fun Pr h => h
theorem ok_deck {P : Program} {w : World} {K : PySem.W.Frag} {mg : Str → Option Value} {base : Heap} {f : Addr} {fd : FuncData} {qual : Str}   (Fn : Fun K "_law_deck" qual s_deck f fd) (T : Blt mg)     (hpool : ∀ ns Pr, Pr () → m_deck ns Pr) : FnG P w K mg base CX0 1 f fd ["_law_script"] (spPool K) := by
  refine Fun.bodyPool Fn sc_deck rfl (fun cdv A outer s H E ns hr hg => ?_)
  have hu : (A.deeper (envOfC qual (defScope s_deck) s.heap.objs.size f cdv)).units + 200 < cLine := by have := hr.un; omega
  have nd := sc_deck.nd
  refine ⟨Unit, _, (fun _ => []), (show DSs (cxOf CX0 P w K mg base ["_law_script", "_law_folds", "_law_whole", "_law_fold", "_law_cell"] qual (defScope s_deck) f cdv A outer s H E).nox none [some (scr K ns), none, none, none, none] (nrm poolB) (defBody s_deck) _ _ from
    dss_cons (ds_setLcF 1 ⟨di_list (de_of (dx_slScr 0 (ns := ns) (do_some de_int))), ⟨[("_law_cell", 4)], blkOk_by (by first | rfl | decide +kernel), rfl⟩, fun _ _ _ _ _ => dg_name 4 nd, fun a2 _ _ _ _ _ => dts_nil, fun a2 _ _ _ _ _ => dx_if (dt_ge  (de_var 4) de_int) (de_mul  de_int (de_var 4)) (de_sub  (de_mul  (de_neg de_int) (de_var 4)) de_int), by decide, fun _ => Sub.off rfl, by intro _; rfl⟩ rfl nd) (fun folds1 => dss_cons (ds_set 2 nd (fun a => good_fro a) (de_add  de_int (de_lenL T.len (de_var 1)))) (fun whole3 => dss_cons (ds_for (GL := (fun k4 : Int => [some (scr K ns), some (fro (folds1 : (List Int))), some (fro (k4 : Int)), none, none])) (k0 := whole3) (ts := [3]) PassesOwn.never rfl (di_list (de_var 1)) (Sub.keep (Sub.keep (Sub.keep (Sub.keep (Sub.keep (Sub.nil)))))) (fun k4 => dg_name 3 nd) (fun a5 k4 => dss_cons (ds_set 2 nd (fun a => good_fro a) (de_mod  (de_intI T.int (de_add  (de_mul  (de_var 2) de_int) (de_var 3))) de_int)) (fun whole7 => dss_done whole7 (fun k4 : Int => [some (scr K ns), some (fro (folds1 : (List Int))), some (fro (k4 : Int)), none, none]) (Sub.keep (Sub.keep (Sub.keep (Sub.drop (Sub.keep (Sub.nil))))))))) (fun k8 => dss_one (ds_retDeck (dx_lc ⟨di_list (de_var 1), ⟨[("_law_fold", 3)], blkOk_by (by first | rfl | decide +kernel), rfl⟩, fun _ _ _ _ _ => dg_name 3 nd, fun a9 _ _ _ _ _ => dts_one (dt_gt  (de_var 3) (de_pow  de_int de_int)), fun a9 _ _ _ _ _ => de_var 3, by decide, fun _ => Sub.off rfl, by intro _; rfl⟩ rfl nd) (de_var 2)))))), ?_⟩
  exact fun Pr h => hpool ns Pr h
theorem ok_table {P : Program} {w : World} {K : PySem.W.Frag} {mg : Str → Option Value} {base : Heap} {f : Addr} {fd : FuncData} {qual : Str}   (Fn : Fun K "_law_table" qual s_table f fd) (T : Blt mg)     : FnG P w K mg base CX0 1 f fd ["_law_rows_here"] (spF (M1 m_table) (fun r : (P2 Int (Tup (Tup Int))) => fro r)) := by
  refine Fun.bodyF Fn sc_table (fun ds w h => by obtain ⟨_, rfl, _⟩ := h; rfl) (fun cdv A outer s H E hr hg ds wr hM => ?_)
  obtain ⟨rows1, rfl, rfl⟩ := hM
  have hu : (A.deeper (envOfC qual (defScope s_table) s.heap.objs.size f cdv)).units + 200 < cLine := by have := hr.un; omega
  have nd := sc_table.nd
  refine ⟨Unit, _, (fun _ => []), (show DSs (cxOf CX0 P w K mg base ["_law_rows_here", "_law_row"] qual (defScope s_table) f cdv A outer s H E).nox none [some (fro (rows1 : (List (List Int)))), none] (nrm (fun r : (P2 Int (Tup (Tup Int))) => fro r)) (defBody s_table) _ _ from
    dss_one (ds_ret (de_t2 (de_lenL T.len (de_var 0)) (de_tupleL T.tuple (de_of (dx_lc ⟨di_list (de_var 0), ⟨[("_law_row", 1)], blkOk_by (by first | rfl | decide +kernel), rfl⟩, fun _ _ _ _ _ => dg_name 1 nd, fun a2 _ _ _ _ _ => dts_nil, fun a2 _ _ _ _ _ => de_tupleL T.tuple (de_var 1), by decide, fun _ => Sub.off rfl, by intro _; rfl⟩ rfl nd)))))), ?_⟩
  exact fun Pr h => h
theorem ok_lots {P : Program} {w : World} {K : PySem.W.Frag} {mg : Str → Option Value} {base : Heap} {f : Addr} {fd : FuncData} {qual : Str}   (Fn : Fun K "_law_lots" qual s_lots f fd) (T : Blt mg)     : FnG P w K mg base CX0 1 f fd ["_law_size"] (spF (M1 m_lots) (fun r : (List (Tup Int)) => fro r)) := by
  refine Fun.bodyF Fn sc_lots (fun ds w h => by obtain ⟨_, rfl, _⟩ := h; rfl) (fun cdv A outer s H E hr hg ds wr hM => ?_)
  obtain ⟨size1, rfl, rfl⟩ := hM
  have hu : (A.deeper (envOfC qual (defScope s_lots) s.heap.objs.size f cdv)).units + 200 < cLine := by have := hr.un; omega
  have nd := sc_lots.nd
  refine ⟨Unit, _, (fun _ => []), (show DSs (cxOf CX0 P w K mg base ["_law_size", "_law_many", "_law_found", "_law_level", "_law_longer", "_law_lot", "_law_begin", "_law_thing"] qual (defScope s_lots) f cdv A outer s H E).nox none [some (fro (size1 : Int)), none, none, none, none, none, none, none] (nrm (fun r : (List (Tup Int)) => fro r)) (defBody s_lots) _ _ from
    dss_cons (ds_par (i := 2) (j := 3) rfl nd (dk_cons (fun a => good_fro a) (de_of (dx_lst (dh_cons (de_tup (dh_nil (α := Int))) (dh_nil (α := (Tup Int)))))) (dk_cons (fun a => good_fro a) (de_of (dx_lst (dh_cons (de_tup (dh_nil (α := Int))) (dh_nil (α := (Tup Int)))))) dk_nil))) (fun k2 => dss_cons (ds_for (GL := (fun k5 : (List (Tup Int)) × (List (Tup Int)) => [some (fro (size1 : Int)), none, some (fro (k5.1 : (List (Tup Int)))), some (fro (k5.2 : (List (Tup Int)))), none, none, none, none])) (k0 := (k2.1, k2.2.1)) (ts := [1]) PassesOwn.never rfl (di_rng1 T.range (de_var 0)) (Sub.keep (Sub.keep (Sub.keep (Sub.keep (Sub.keep (Sub.keep (Sub.keep (Sub.keep (Sub.nil))))))))) (fun k5 => dg_name 1 nd) (fun a6 k5 => dss_cons (ds_set 4 nd (fun a => good_fro a) (de_of (dx_lst (dh_nil (α := (Tup Int)))))) (fun longer8 => dss_cons (ds_for (GL := (fun k9 : (List (Tup Int)) => [some (fro (size1 : Int)), some (fro (a6 : Int)), some (fro (k5.1 : (List (Tup Int)))), some (fro (k5.2 : (List (Tup Int)))), some (fro (k9 : (List (Tup Int)))), none, none, none])) (k0 := longer8) (ts := [5]) PassesOwn.never rfl (di_list (de_var 3)) (Sub.keep (Sub.keep (Sub.keep (Sub.keep (Sub.keep (Sub.keep (Sub.keep (Sub.keep (Sub.nil))))))))) (fun k9 => dg_name 5 nd) (fun a10 k9 => dss_cons (ds_set 6 nd (fun a => good_fro a) (dx_if (dt_neD hu (de_var 5) (de_tup (dh_nil (α := Int)))) (de_add  (de_ixT (de_var 5) (de_neg de_int)) de_int) de_int)) (fun begin12 => dss_cons (ds_set 4 nd (fun a => good_fro a) (de_of (dx_cat  (de_var 4) (de_of (dx_lc ⟨di_rng2 T.range (de_var 6) (de_var 0), ⟨[("_law_thing", 7)], blkOk_by (by first | rfl | decide +kernel), rfl⟩, fun _ _ _ _ _ => dg_name 7 nd, fun a14 _ _ _ _ _ => dts_nil, fun a14 _ _ _ _ _ => de_catT  (de_var 5) (de_tup (dh_cons (de_var 7) (dh_nil (α := Int)))), by decide, fun _ => Sub.off rfl, by intro _; rfl⟩ rfl nd))))) (fun longer13 => dss_done longer13 (fun k9 : (List (Tup Int)) => [some (fro (size1 : Int)), some (fro (a6 : Int)), some (fro (k5.1 : (List (Tup Int)))), some (fro (k5.2 : (List (Tup Int)))), some (fro (k9 : (List (Tup Int)))), none, none, none]) (Sub.keep (Sub.keep (Sub.keep (Sub.keep (Sub.keep (Sub.drop (Sub.drop (Sub.keep (Sub.nil))))))))))))) (fun k18 => dss_cons (ds_set 3 nd (fun a => good_fro a) (de_var 4)) (fun level19 => dss_cons (ds_set 2 nd (fun a => good_fro a) (de_of (dx_cat  (de_var 2) (de_var 3)))) (fun found20 => dss_done (found20, level19) (fun k5 : (List (Tup Int)) × (List (Tup Int)) => [some (fro (size1 : Int)), none, some (fro (k5.1 : (List (Tup Int)))), some (fro (k5.2 : (List (Tup Int)))), none, none, none, none]) (Sub.keep (Sub.drop (Sub.keep (Sub.keep (Sub.drop (Sub.keep (Sub.keep (Sub.keep (Sub.nil))))))))))))))) (fun k21 => dss_one (ds_ret (de_var 2))))), ?_⟩
  exact fun Pr h => h
theorem ok_spread {P : Program} {w : World} {K : PySem.W.Frag} {mg : Str → Option Value} {base : Heap} {f : Addr} {fd : FuncData} {qual : Str}   (Fn : Fun K "_law_spread" qual s_spread f fd) (T : Blt mg)     : FnG P w K mg base CX0 1 f fd ["_law_rows_here", "_law_lot", "_law_first", "_law_second"] (spF (M4 m_spread) (fun r : (List Int) => fro r)) := by
  refine Fun.bodyF Fn sc_spread (fun ds w h => by obtain ⟨_, _, _, _, rfl, _⟩ := h; rfl) (fun cdv A outer s H E hr hg ds wr hM => ?_)
  obtain ⟨rows1, lot2, first3, second4, rfl, rfl⟩ := hM
  have hu : (A.deeper (envOfC qual (defScope s_spread) s.heap.objs.size f cdv)).units + 200 < cLine := by have := hr.un; omega
  have nd := sc_spread.nd
  refine ⟨Unit, _, (fun _ => []), (show DSs (cxOf CX0 P w K mg base ["_law_rows_here", "_law_lot", "_law_first", "_law_second", "_law_turn", "_law_found", "_law_rest", "_law_come", "_law_thing", "_law_look", "_law_back", "_law_own"] qual (defScope s_spread) f cdv A outer s H E).nox none [some (fro (rows1 : (List (List Int)))), some (fro (lot2 : (Tup Int))), some (fro (first3 : Int)), some (fro (second4 : Int)), none, none, none, none, none, none, none, none] (nrm (fun r : (List Int) => fro r)) (defBody s_spread) _ _ from
    dss_cons (ds_par (i := 5) (j := 6) rfl nd (dk_cons (fun a => good_fro a) (de_of (dx_lst (dh_cons (de_var 2) (dh_cons (de_var 3) (dh_nil (α := Int)))))) (dk_cons (fun a => good_fro a) (de_of (dx_lc ⟨di_tup (de_var 1), ⟨[("_law_thing", 8)], blkOk_by (by first | rfl | decide +kernel), rfl⟩, fun _ _ _ _ _ => dg_name 8 nd, fun a6 _ _ _ _ _ => dts_one (dt_ninT  (de_var 8) (de_tup (dh_cons (de_var 2) (dh_cons (de_var 3) (dh_nil (α := Int)))))), fun a6 _ _ _ _ _ => de_var 8, by decide, fun _ => Sub.off rfl, by intro _; rfl⟩ rfl nd)) dk_nil))) (fun k5 => dss_cons (ds_for (GL := (fun k9 : (List Int) × (List Int) => [some (fro (rows1 : (List (List Int)))), some (fro (lot2 : (Tup Int))), some (fro (first3 : Int)), some (fro (second4 : Int)), none, some (fro (k9.1 : (List Int))), some (fro (k9.2 : (List Int))), none, none, none, none, none])) (k0 := (k5.1, k5.2.1)) (ts := [4]) PassesOwn.never rfl (di_rng1 T.range (de_lenT T.len (de_var 1))) (Sub.keep (Sub.keep (Sub.keep (Sub.keep (Sub.keep (Sub.keep (Sub.keep (Sub.keep (Sub.keep (Sub.keep (Sub.keep (Sub.keep (Sub.nil))))))))))))) (fun k9 => dg_name 4 nd) (fun a10 k9 => dss_cons (ds_set 7 nd (fun a => good_own a) (dx_lst (dh_nil (α := Int)))) (fun come12 => dss_cons (ds_for (GL := (fun k13 : (List Int) => [some (fro (rows1 : (List (List Int)))), some (fro (lot2 : (Tup Int))), some (fro (first3 : Int)), some (fro (second4 : Int)), some (fro (a10 : Int)), some (fro (k9.1 : (List Int))), some (fro (k9.2 : (List Int))), some (own (k13 : (List Int))), none, none, none, none])) (k0 := come12) (ts := [8]) PassesOwn.never rfl (di_list (de_var 6)) (Sub.keep (Sub.keep (Sub.keep (Sub.keep (Sub.keep (Sub.keep (Sub.keep (Sub.keep (Sub.keep (Sub.keep (Sub.keep (Sub.keep (Sub.nil))))))))))))) (fun k13 => dg_name 8 nd) (fun a14 k13 => dss_cons (ds_asgT rfl (dk_cons (fun a => good_fro a) (de_q (dq_ixL (dq_ixL (dq_var 0) (dq_var 8)) (dq_var 2))) (dk_cons (fun a => good_fro a) (de_q (dq_ixL (dq_ixL (dq_var 0) (dq_var 2)) (dq_var 8))) dk_nil)) (gn_cons 9 nd (gn_cons 10 nd gn_nil))) (fun k16 => dss_cons (ds_if (dt_neD hu (de_of (dx_lc ⟨di_list (de_var 5), ⟨[("_law_own", 11)], blkOk_by (by first | rfl | decide +kernel), rfl⟩, fun _ _ _ _ _ => dg_name 11 nd, fun a19 _ _ _ _ _ => dts_one (dt_w (dw_or (dt_neI  (de_q (dq_ixL (dq_ixL (dq_var 0) (dq_var 8)) (dq_var 11))) (de_var 9)) (dw_or1 (dt_neI  (de_q (dq_ixL (dq_ixL (dq_var 0) (dq_var 11)) (dq_var 8))) (de_var 10))))), fun a19 _ _ _ _ _ => de_var 11, by decide, fun _ => Sub.off rfl, by intro _; rfl⟩ rfl nd)) (de_of (dx_lst (dh_nil (α := Int))))) (dss_cons (ds_app 7 (de_var 8)) (fun come27 => dss_done come27 (fun k26 : (List Int) => [some (fro (rows1 : (List (List Int)))), some (fro (lot2 : (Tup Int))), some (fro (first3 : Int)), some (fro (second4 : Int)), some (fro (a10 : Int)), some (fro (k9.1 : (List Int))), some (fro (k9.2 : (List Int))), some (own (k26 : (List Int))), some (fro (a14 : Int)), some (fro (k16.1 : Int)), some (fro (k16.2.1 : Int)), none]) (Sub.keep (Sub.keep (Sub.keep (Sub.keep (Sub.keep (Sub.keep (Sub.keep (Sub.keep (Sub.keep (Sub.keep (Sub.keep (Sub.keep (Sub.nil))))))))))))))) (dss_done k13 (fun k26 : (List Int) => [some (fro (rows1 : (List (List Int)))), some (fro (lot2 : (Tup Int))), some (fro (first3 : Int)), some (fro (second4 : Int)), some (fro (a10 : Int)), some (fro (k9.1 : (List Int))), some (fro (k9.2 : (List Int))), some (own (k26 : (List Int))), some (fro (a14 : Int)), some (fro (k16.1 : Int)), some (fro (k16.2.1 : Int)), none]) (Sub.keep (Sub.keep (Sub.keep (Sub.keep (Sub.keep (Sub.keep (Sub.keep (Sub.keep (Sub.keep (Sub.keep (Sub.keep (Sub.keep (Sub.nil))))))))))))))) (fun k26 => dss_done k26 (fun k13 : (List Int) => [some (fro (rows1 : (List (List Int)))), some (fro (lot2 : (Tup Int))), some (fro (first3 : Int)), some (fro (second4 : Int)), some (fro (a10 : Int)), some (fro (k9.1 : (List Int))), some (fro (k9.2 : (List Int))), some (own (k13 : (List Int))), none, none, none, none]) (Sub.keep (Sub.keep (Sub.keep (Sub.keep (Sub.keep (Sub.keep (Sub.keep (Sub.keep (Sub.drop (Sub.drop (Sub.drop (Sub.keep (Sub.nil))))))))))))))))) (fun k33 => dss_frzO (a := (k33 : (List Int))) 7 (dss_cons (ds_if (dt_eqD hu (de_var 7) (de_of (dx_lst (dh_nil (α := Int))))) (dss_one (ds_ret (de_var 5))) (dss_done () (fun _ => _) (Sub.refl _))) (fun _ => dss_cons (ds_set 5 nd (fun a => good_fro a) (de_of (dx_cat  (de_var 5) (de_var 7)))) (fun found34 => dss_cons (ds_setLcF 6 ⟨di_list (de_var 6), ⟨[("_law_thing", 8)], blkOk_by (by first | rfl | decide +kernel), rfl⟩, fun _ _ _ _ _ => dg_name 8 nd, fun a36 _ _ _ _ _ => dts_one (dt_ninL  (de_var 8) (de_var 7)), fun a36 _ _ _ _ _ => de_var 8, by decide, fun _ => Sub.off rfl, by intro _; rfl⟩ rfl nd) (fun restN35 => dss_done (found34, restN35) (fun k9 : (List Int) × (List Int) => [some (fro (rows1 : (List (List Int)))), some (fro (lot2 : (Tup Int))), some (fro (first3 : Int)), some (fro (second4 : Int)), none, some (fro (k9.1 : (List Int))), some (fro (k9.2 : (List Int))), none, none, none, none, none]) (Sub.keep (Sub.keep (Sub.keep (Sub.keep (Sub.drop (Sub.keep (Sub.keep (Sub.drop (Sub.keep (Sub.keep (Sub.keep (Sub.keep (Sub.nil))))))))))))))))))))) (fun k38 => dss_one (ds_ret (de_var 5))))), ?_⟩
  exact fun Pr h => h
theorem ok_named {P : Program} {w : World} {K : PySem.W.Frag} {mg : Str → Option Value} {base : Heap} {f : Addr} {fd : FuncData} {qual : Str}   (Fn : Fun K "_law_named" qual s_named f fd) (T : Blt mg)     : FnG P w K mg base CX0 1 f fd ["_law_rows_here", "_law_naming"] (spF (M2 m_named) (fun r : (List (List Int)) => own2 r)) := by
  refine Fun.bodyF Fn sc_named (fun ds w h => by obtain ⟨_, _, rfl, _⟩ := h; rfl) (fun cdv A outer s H E hr hg ds wr hM => ?_)
  obtain ⟨rows1, naming2, rfl, rfl⟩ := hM
  have hu : (A.deeper (envOfC qual (defScope s_named) s.heap.objs.size f cdv)).units + 200 < cLine := by have := hr.un; omega
  have nd := sc_named.nd
  refine ⟨Unit, _, (fun _ => []), (show DSs (cxOf CX0 P w K mg base ["_law_rows_here", "_law_naming", "_law_found", "_law_x", "_law_y", "_law_row"] qual (defScope s_named) f cdv A outer s H E).nox none [some (fro (rows1 : (List (List Int)))), some (fro (naming2 : (List Int))), none, none, none, none] (nrm (fun r : (List (List Int)) => own2 r)) (defBody s_named) _ _ from
    dss_cons (ds_setLcO 2 ⟨di_list (de_var 0), ⟨[("_law_row", 5)], blkOk_by (by first | rfl | decide +kernel), rfl⟩, fun _ _ _ _ _ => dg_name 5 nd, fun a4 _ _ _ _ _ => dts_nil, fun a4 _ _ _ _ _ => dx_listL T.list (de_var 5), by decide, fun _ => Sub.off rfl, by intro _; rfl⟩ rfl nd) (fun found3 => dss_cons (ds_for (GL := (fun k5 : (List (List Int)) => [some (fro (rows1 : (List (List Int)))), some (fro (naming2 : (List Int))), some (own2 (k5 : (List (List Int)))), none, none, none])) (k0 := found3) (ts := [3]) PassesOwn.never rfl (di_rng1 T.range (de_lenL T.len (de_var 0))) (Sub.keep (Sub.keep (Sub.keep (Sub.keep (Sub.keep (Sub.keep (Sub.nil))))))) (fun k5 => dg_name 3 nd) (fun a6 k5 => dss_cons (ds_for (GL := (fun k8 : (List (List Int)) => [some (fro (rows1 : (List (List Int)))), some (fro (naming2 : (List Int))), some (own2 (k8 : (List (List Int)))), some (fro (a6 : Int)), none, none])) (k0 := k5) (ts := [4]) PassesOwn.never rfl (di_rng1 T.range (de_lenL T.len (de_var 0))) (Sub.keep (Sub.keep (Sub.keep (Sub.keep (Sub.keep (Sub.keep (Sub.nil))))))) (fun k8 => dg_name 4 nd) (fun a9 k8 => dss_cons (ds_setII 2 (de_q (dq_ixL (dq_ixL (dq_var 0) (dq_var 3)) (dq_var 4))) (dq_ixL (dq_var 1) (dq_var 3)) (dq_ixL (dq_var 1) (dq_var 4))) (fun found11 => dss_done found11 (fun k8 : (List (List Int)) => [some (fro (rows1 : (List (List Int)))), some (fro (naming2 : (List Int))), some (own2 (k8 : (List (List Int)))), some (fro (a6 : Int)), none, none]) (Sub.keep (Sub.keep (Sub.keep (Sub.keep (Sub.drop (Sub.keep (Sub.nil)))))))))) (fun k16 => dss_done k16 (fun k5 : (List (List Int)) => [some (fro (rows1 : (List (List Int)))), some (fro (naming2 : (List Int))), some (own2 (k5 : (List (List Int)))), none, none, none]) (Sub.keep (Sub.keep (Sub.keep (Sub.drop (Sub.keep (Sub.keep (Sub.nil)))))))))) (fun k17 => dss_one (ds_retO 2 (r := k17))))), ?_⟩
  exact fun Pr h => h
theorem ok_set_in {P : Program} {w : World} {K : PySem.W.Frag} {mg : Str → Option Value} {base : Heap} {f : Addr} {fd : FuncData} {qual : Str}   (Fn : Fun K "_law_set_in" qual s_set_in f fd) (T : Blt mg)     : FnG P w K mg base CX0 1 f fd ["_law_rows_here", "_law_thing", "_law_other"] (spF (M3 m_set_in) (fun r : (List (List Int)) => fro r)) := by
  refine Fun.bodyF Fn sc_set_in (fun ds w h => by obtain ⟨_, _, _, rfl, _⟩ := h; rfl) (fun cdv A outer s H E hr hg ds wr hM => ?_)
  obtain ⟨rows1, thing2, other3, rfl, rfl⟩ := hM
  have hu : (A.deeper (envOfC qual (defScope s_set_in) s.heap.objs.size f cdv)).units + 200 < cLine := by have := hr.un; omega
  have nd := sc_set_in.nd
  refine ⟨Unit, _, (fun _ => []), (show DSs (cxOf CX0 P w K mg base ["_law_rows_here", "_law_thing", "_law_other", "_law_whole", "_law_found", "_law_x", "_law_own", "_law_y", "_law_its"] qual (defScope s_set_in) f cdv A outer s H E).nox none [some (fro (rows1 : (List (List Int)))), some (fro (thing2 : Int)), some (fro (other3 : (List (List Int)))), none, none, none, none, none, none] (nrm (fun r : (List (List Int)) => fro r)) (defBody s_set_in) _ _ from
    dss_cons (ds_par (i := 3) (j := 4) rfl nd (dk_cons (fun a => good_fro a) (de_of (dx_cat  (de_of (dx_lc ⟨di_rng1 T.range (de_var 1), ⟨[("_law_x", 5)], blkOk_by (by first | rfl | decide +kernel), rfl⟩, fun _ _ _ _ _ => dg_name 5 nd, fun a8 _ _ _ _ _ => dts_nil, fun a8 _ _ _ _ _ => de_t2 (de_var 5) de_int, by decide, fun _ => Sub.off rfl, by intro _; rfl⟩ rfl nd)) (de_of (dx_lc ⟨di_rng1 T.range (de_lenL T.len (de_var 2)), ⟨[("_law_y", 7)], blkOk_by (by first | rfl | decide +kernel), rfl⟩, fun _ _ _ _ _ => dg_name 7 nd, fun a9 _ _ _ _ _ => dts_nil, fun a9 _ _ _ _ _ => de_t2 (de_var 1) (de_var 7), by decide, fun _ => Sub.off rfl, by intro _; rfl⟩ rfl nd)))) (dk_cons (fun a => good_own a) (dx_lst (dh_nil (α := (List Int)))) dk_nil))) (fun k4 => dss_cons (ds_set 3 nd (fun a => good_fro a) (de_of (dx_cat  (de_var 3) (de_of (dx_lc ⟨di_rng2 T.range (de_add  (de_var 1) de_int) (de_lenL T.len (de_var 0)), ⟨[("_law_x", 5)], blkOk_by (by first | rfl | decide +kernel), rfl⟩, fun _ _ _ _ _ => dg_name 5 nd, fun a14 _ _ _ _ _ => dts_nil, fun a14 _ _ _ _ _ => de_t2 (de_var 5) de_int, by decide, fun _ => Sub.off rfl, by intro _; rfl⟩ rfl nd))))) (fun whole12 => dss_cons (ds_for (GL := (fun k15 : (List (List Int)) => [some (fro (rows1 : (List (List Int)))), some (fro (thing2 : Int)), some (fro (other3 : (List (List Int)))), some (fro (whole12 : (List (P2 Int Int)))), some (own (k15 : (List (List Int)))), none, none, none, none])) (k0 := k4.2.1) (ts := [5, 6]) PassesOwn.never rfl (di_list (de_var 3)) (Sub.keep (Sub.keep (Sub.keep (Sub.keep (Sub.keep (Sub.keep (Sub.keep (Sub.keep (Sub.keep (Sub.nil)))))))))) (fun k15 => dg_pair 5 6 rfl nd) (fun a16 k15 => dss_cons (ds_app 4 (de_of (dx_lc ⟨di_list (de_var 3), ⟨[("_law_y", 7), ("_law_its", 8)], blkOk_by (by first | rfl | decide +kernel), rfl⟩, fun _ _ _ _ _ => dg_pair 7 8 rfl nd, fun a18 _ _ _ _ _ => dts_nil, fun a18 _ _ _ _ _ => dx_if (dt_w (dw_and (dt_eqI  (de_var 5) (de_var 1)) (dw_and1 (dt_eqI  (de_var 7) (de_var 1))))) (de_q (dq_ixL (dq_ixL (dq_var 2) (dq_var 6)) (dq_var 8))) (de_q (dq_ixL (dq_ixL (dq_var 0) (dq_var 5)) (dq_var 7))), by decide, fun _ => Sub.off2 rfl rfl, by intro _; rfl⟩ rfl nd))) (fun found19 => dss_done found19 (fun k15 : (List (List Int)) => [some (fro (rows1 : (List (List Int)))), some (fro (thing2 : Int)), some (fro (other3 : (List (List Int)))), some (fro (whole12 : (List (P2 Int Int)))), some (own (k15 : (List (List Int)))), none, none, none, none]) (Sub.keep (Sub.keep (Sub.keep (Sub.keep (Sub.keep (Sub.drop (Sub.drop (Sub.keep (Sub.keep (Sub.nil))))))))))))) (fun k27 => dss_frzO (a := (k27 : (List (List Int)))) 4 (dss_one (ds_ret (de_var 4))))))), ?_⟩
  exact fun Pr h => h
theorem ok_led {P : Program} {w : World} {K : PySem.W.Frag} {mg : Str → Option Value} {base : Heap} {f : Addr} {fd : FuncData} {qual : Str}   (Fn : Fun K "_law_led" qual s_led f fd) (T : Blt mg) (TL : LamT mg base fd.code (qual ++ (".<locals>." : Str) ++ ("<lambda>" : Str)))     : FnG P w K mg base CX0 1 f fd ["_law_lots_here", "_law_naming"] (spF (M2 m_led) (fun r : (Tup (Tup Int)) => fro r)) := by
  refine Fun.bodyFC Fn sc_led (fun ds w h => by obtain ⟨_, _, rfl, _⟩ := h; rfl) (fun A outer s H E hr hg ds wr hM => ?_)
  obtain ⟨lots1, naming2, rfl, rfl⟩ := hM
  have hu : (A.deeper (envOfC qual (defScope s_led) s.heap.objs.size f fd.code)).units + 200 < cLine := by have := hr.un; omega
  have nd := sc_led.nd
  refine ⟨Unit, _, (fun _ => []), (show DSs (cxOf CX0 P w K mg base ["_law_lots_here", "_law_naming", "_law_led_here", "_law_lot", "_law_thing"] qual (defScope s_led) f fd.code A outer s H E).nox none [some (fro (lots1 : (Tup (Tup Int)))), some (fro (naming2 : (Tup Int))), none, none, none] (nrm (fun r : (Tup (Tup Int)) => fro r)) (defBody s_led) _ _ from
    dss_cons (ds_setLcF 2 ⟨di_tup (de_var 0), ⟨[("_law_lot", 3)], blkOk_by (by first | rfl | decide +kernel), rfl⟩, fun _ _ _ _ _ => dg_name 3 nd, fun a4 _ _ _ _ _ => dts_nil, fun a4 _ _ _ _ _ => de_tupleL T.tuple (de_of (dx_sorted T.sorted (de_of (dx_lc ⟨di_tup (de_var 3), ⟨[("_law_thing", 4)], blkOk_by (by first | rfl | decide +kernel), rfl⟩, fun _ _ _ _ _ => dg_name 4 nd, fun a5 _ _ _ _ _ => dts_nil, fun a5 _ _ _ _ _ => de_q (dq_ixT (dq_var 1) (dq_var 4)), by decide, fun _ => Sub.off rfl, by intro _; rfl⟩ rfl nd)))), by decide, fun _ => Sub.off rfl, by intro _; rfl⟩ rfl nd) (fun led3 => dss_one (ds_ret (de_tupleL T.tuple (de_of (dx_sortPL T.sorted T.len TL hr (de_var 2))))))), ?_⟩
  exact fun Pr h => h
theorem ok_Ppart {P : Program} {w : World} {K : PySem.W.Frag} {mg : Str → Option Value} {base : Heap} {f : Addr} {fd : FuncData} {qual : Str}   (Fn : Fun K "part" qual s_Ppart f fd) (T : Blt mg) (d_Ppicked : D_Ppicked P w K mg base) (d_PpickedT : D_PpickedT P w K mg base)    : FnG P w K mg base CX0 2 f fd ["table", "lot"] (spF (M2 m_Ppart) (fun r : (P2 Int (Tup (Tup Int))) => fro r)) := by
  refine Fun.bodyF Fn sc_Ppart (fun ds w h => by obtain ⟨_, _, rfl, _⟩ := h; rfl) (fun cdv A outer s H E hr hg ds wr hM => ?_)
  obtain ⟨table1, lot2, rfl, rfl⟩ := hM
  have hu : (A.deeper (envOfC qual (defScope s_Ppart) s.heap.objs.size f cdv)).units + 200 < cLine := by have := hr.un; omega
  have nd := sc_Ppart.nd
  refine ⟨Unit, _, (fun _ => []), (show DSs (cxOf CX0 P w K mg base ["table", "lot"] qual (defScope s_Ppart) f cdv A outer s H E).nox none [some (fro (table1 : (P2 Int (Tup (Tup Int))))), some (fro (lot2 : (Tup Int)))] (nrm (fun r : (P2 Int (Tup (Tup Int))) => fro r)) (defBody s_Ppart) _ _ from
    dss_one (ds_ret (dx_callF d_PpickedT (hr.mono (by decide)) hg (aq_cons (de_var 0) (aq_cons (de_var 1) aq_nil)) (fun k => ⟨k.1, k.2.1, rfl, rfl⟩)))), ?_⟩
  exact fun Pr h => h
theorem ok_Prenamed {P : Program} {w : World} {K : PySem.W.Frag} {mg : Str → Option Value} {base : Heap} {f : Addr} {fd : FuncData} {qual : Str}   (Fn : Fun K "renamed" qual s_Prenamed f fd) (T : Blt mg) (d_Ppicked : D_Ppicked P w K mg base) (d_PpickedT : D_PpickedT P w K mg base)    : FnG P w K mg base CX0 2 f fd ["table", "naming"] (spF (M2 m_Prenamed) (fun r : (P2 Int (Tup (Tup Int))) => fro r)) := by
  refine Fun.bodyF Fn sc_Prenamed (fun ds w h => by obtain ⟨_, _, rfl, _⟩ := h; rfl) (fun cdv A outer s H E hr hg ds wr hM => ?_)
  obtain ⟨table1, naming2, rfl, rfl⟩ := hM
  have hu : (A.deeper (envOfC qual (defScope s_Prenamed) s.heap.objs.size f cdv)).units + 200 < cLine := by have := hr.un; omega
  have nd := sc_Prenamed.nd
  refine ⟨Unit, _, (fun _ => []), (show DSs (cxOf CX0 P w K mg base ["table", "naming", "new"] qual (defScope s_Prenamed) f cdv A outer s H E).nox none [some (fro (table1 : (P2 Int (Tup (Tup Int))))), some (fro (naming2 : (Tup Int))), none] (nrm (fun r : (P2 Int (Tup (Tup Int))) => fro r)) (defBody s_Prenamed) _ _ from
    dss_one (ds_ret (dx_callF d_Ppicked (hr.mono (by decide)) hg (aq_cons (de_var 0) (aq_cons (de_of (dx_lc ⟨di_rng1 T.range (de_lenT T.len (de_var 1)), ⟨[("new", 2)], blkOk_by (by first | rfl | decide +kernel), rfl⟩, fun _ _ _ _ _ => dg_name 2 nd, fun a5 _ _ _ _ _ => dts_nil, fun a5 _ _ _ _ _ => de_indexT (de_var 1) (de_var 2), by decide, fun _ => Sub.off rfl, by intro _; rfl⟩ rfl nd)) aq_nil)) (fun k => ⟨k.1, k.2.1, rfl, rfl⟩)))), ?_⟩
  exact fun Pr h => h
theorem ok_Pall_lots {P : Program} {w : World} {K : PySem.W.Frag} {mg : Str → Option Value} {base : Heap} {f : Addr} {fd : FuncData} {qual : Str}   (Fn : Fun K "all_lots" qual s_Pall_lots f fd) (T : Blt mg) (d_Plots_of : D_Plots_of P w K mg base)    : FnG P w K mg base CX0 2 f fd ["size"] (spF (M1 m_Pall_lots) (fun r : (List (Tup Int)) => fro r)) := by
  refine Fun.bodyF Fn sc_Pall_lots (fun ds w h => by obtain ⟨_, rfl, _⟩ := h; rfl) (fun cdv A outer s H E hr hg ds wr hM => ?_)
  obtain ⟨size1, rfl, rfl⟩ := hM
  have hu : (A.deeper (envOfC qual (defScope s_Pall_lots) s.heap.objs.size f cdv)).units + 200 < cLine := by have := hr.un; omega
  have nd := sc_Pall_lots.nd
  refine ⟨Unit, _, (fun _ => []), (show DSs (cxOf CX0 P w K mg base ["size", "many", "lot"] qual (defScope s_Pall_lots) f cdv A outer s H E).nox none [some (fro (size1 : Int)), none, none] (nrm (fun r : (List (Tup Int)) => fro r)) (defBody s_Pall_lots) _ _ from
    dss_one (ds_ret (de_of (dx_lc2 (Lc2.mk (vs1 := [2]) (di_rng1 T.range (de_add  (de_var 0) de_int)) ⟨[("many", 1), ("lot", 2)], blkOk_by (by first | rfl | decide +kernel), rfl⟩ (by decide) (fun _ _ _ _ _ => dg_name 1 nd) (fun a2 _ _ _ _ _ => dts_nil) (fun a2 _ _ _ _ _ => di_list (dx_callF d_Plots_of (hr.mono (by decide)) hg (aq_cons (de_var 0) (aq_cons (de_var 1) aq_nil)) (fun k => ⟨k.1, k.2.1, rfl, rfl⟩))) (fun a2 _ _ _ _ _ => dg_name 2 nd) (fun a2 a3 _ _ _ _ _ => dts_nil) (fun a2 a3 _ _ _ _ _ => de_var 2) (by decide) (fun _ => Sub.off rfl) (by decide) (fun _ _ => Sub.off rfl) (by intro _; rfl) (by intro _ _; rfl)) rfl nd)))), ?_⟩
  exact fun Pr h => h
theorem ok_Ptelling {P : Program} {w : World} {K : PySem.W.Frag} {mg : Str → Option Value} {base : Heap} {f : Addr} {fd : FuncData} {qual : Str}   (Fn : Fun K "telling" qual s_Ptelling f fd) (T : Blt mg) (d_Poutside : D_Poutside P w K mg base)    : FnG P w K mg base CX0 2 f fd ["table", "lot"] (spF (M2 m_Ptelling) (fun r : (Option (P3 Int Int Int)) => fro r)) := by
  refine Fun.bodyF Fn sc_Ptelling (fun ds w h => by obtain ⟨_, _, rfl, _⟩ := h; rfl) (fun cdv A outer s H E hr hg ds wr hM => ?_)
  obtain ⟨table1, lot2, rfl, rfl⟩ := hM
  have hu : (A.deeper (envOfC qual (defScope s_Ptelling) s.heap.objs.size f cdv)).units + 200 < cLine := by have := hr.un; omega
  have nd := sc_Ptelling.nd
  refine ⟨Unit, _, (fun _ => []), (show DSs (cxOf CX0 P w K mg base ["table", "lot", "z", "size", "rows", "y", "x"] qual (defScope s_Ptelling) f cdv A outer s H E).nox none [some (fro (table1 : (P2 Int (Tup (Tup Int))))), some (fro (lot2 : (Tup Int))), none, none, none, none, none] (nrm (fun r : (Option (P3 Int Int Int)) => fro r)) (defBody s_Ptelling) _ _ from
    dss_cons (ds_unp (As := fun a : (P2 Int (Tup (Tup Int))) => [fro a.a, fro a.b]) rfl (de_var 0) (gn_cons 3 nd (gn_cons 4 nd gn_nil)) unp2) (fun k3 => dss_cons (ds_for (GL := (fun k4 : Unit => [some (fro (table1 : (P2 Int (Tup (Tup Int))))), some (fro (lot2 : (Tup Int))), none, some (fro (k3.a : Int)), some (fro (k3.b : (Tup (Tup Int)))), none, none])) (k0 := ()) (ts := [2]) PassesOwn.never rfl (di_tup (dx_callF d_Poutside (hr.mono (by decide)) hg (aq_cons (de_var 3) (aq_cons (de_var 1) aq_nil)) (fun k => ⟨k.1, k.2.1, rfl, rfl⟩))) (Sub.keep (Sub.keep (Sub.keep (Sub.keep (Sub.keep (Sub.keep (Sub.keep (Sub.nil)))))))) (fun k4 => dg_name 2 nd) (fun a5 k4 => dss_cons (ds_for (GL := (fun k7 : Unit => [some (fro (table1 : (P2 Int (Tup (Tup Int))))), some (fro (lot2 : (Tup Int))), some (fro (a5 : Int)), some (fro (k3.a : Int)), some (fro (k3.b : (Tup (Tup Int)))), none, none])) (k0 := ()) (ts := [5]) PassesOwn.never rfl (di_tup (de_var 1)) (Sub.keep (Sub.keep (Sub.keep (Sub.keep (Sub.keep (Sub.keep (Sub.keep (Sub.nil)))))))) (fun k7 => dg_name 5 nd) (fun a8 k7 => dss_cons (ds_set 6 nd (fun a => good_fro a) (de_q (dq_ixT (dq_var 1) dq_int))) (fun x10 => dss_cons (ds_if (dt_w (dw_or (dt_neI  (de_q (dq_ixT (dq_ixT (dq_var 4) (dq_var 2)) (dq_var 6))) (de_q (dq_ixT (dq_ixT (dq_var 4) (dq_var 2)) (dq_var 5)))) (dw_or1 (dt_neI  (de_q (dq_ixT (dq_ixT (dq_var 4) (dq_var 6)) (dq_var 2))) (de_q (dq_ixT (dq_ixT (dq_var 4) (dq_var 5)) (dq_var 2))))))) (dss_one (ds_ret (de_some (de_t3 (de_var 2) (de_var 6) (de_var 5))))) (dss_done () (fun _ => _) (Sub.refl _))) (fun _ => dss_done () (fun k7 : Unit => [some (fro (table1 : (P2 Int (Tup (Tup Int))))), some (fro (lot2 : (Tup Int))), some (fro (a5 : Int)), some (fro (k3.a : Int)), some (fro (k3.b : (Tup (Tup Int)))), none, none]) (Sub.keep (Sub.keep (Sub.keep (Sub.keep (Sub.keep (Sub.drop (Sub.drop (Sub.nil)))))))))))) (fun k21 => dss_done () (fun k4 : Unit => [some (fro (table1 : (P2 Int (Tup (Tup Int))))), some (fro (lot2 : (Tup Int))), none, some (fro (k3.a : Int)), some (fro (k3.b : (Tup (Tup Int)))), none, none]) (Sub.keep (Sub.keep (Sub.drop (Sub.keep (Sub.keep (Sub.keep (Sub.keep (Sub.nil))))))))))) (fun k22 => dss_one (ds_ret de_noneO)))), ?_⟩
  exact fun Pr h => h
theorem ok_one {P : Program} {w : World} {K : PySem.W.Frag} {mg : Str → Option Value} {base : Heap} {f : Addr} {fd : FuncData} {qual : Str}   (Fn : Fun K "_law_one" qual s_one f fd) (T : Blt mg) (d_draw : D_draw P w K mg base)    : FnG P w K mg base CX0 2 f fd ["_law_deck_here", "_law_items"] (spP (M1 m_one) (fun r : Int => fro r)) := by
  refine Fun.bodyP Fn sc_one (fun ds w h => by obtain ⟨_, rfl, _⟩ := h; rfl) (fun cdv A outer s H E pp pf hr hg ds wr hM => ?_)
  obtain ⟨items1, rfl, rfl⟩ := hM
  have hu : (A.deeper (envOfC qual (defScope s_one) s.heap.objs.size f cdv)).units + 200 < cLine := by have := hr.un; omega
  have nd := sc_one.nd
  refine ⟨Unit, _, (fun _ => []), (show DSs (cxOf CX0 P w K mg base ["_law_deck_here", "_law_items"] qual (defScope s_one) f cdv A outer s H E).nox (some (pp, pf)) [some (raw (.ref pp)), some (fro (items1 : (List Int)))] (nrm (fun r : Int => fro r)) (defBody s_one) _ _ from
    dss_one (ds_ret (de_ixL (de_var 1) (dx_callP 0 d_draw (hr.mono (by decide)) hg (aq_cons (de_lenL T.len (de_var 1)) aq_nil) (fun k => ⟨k.1, rfl, rfl⟩))))), ?_⟩
  exact fun Pr h => h
theorem ok_oneL {P : Program} {w : World} {K : PySem.W.Frag} {mg : Str → Option Value} {base : Heap} {f : Addr} {fd : FuncData} {qual : Str}   (Fn : Fun K "_law_one" qual s_oneL f fd) (T : Blt mg) (d_draw : D_draw P w K mg base)    : FnG P w K mg base CX0 2 f fd ["_law_deck_here", "_law_items"] (spP (M1 m_oneL) (fun r : (List Int) => fro r)) := by
  refine Fun.bodyP Fn sc_oneL (fun ds w h => by obtain ⟨_, rfl, _⟩ := h; rfl) (fun cdv A outer s H E pp pf hr hg ds wr hM => ?_)
  obtain ⟨items1, rfl, rfl⟩ := hM
  have hu : (A.deeper (envOfC qual (defScope s_oneL) s.heap.objs.size f cdv)).units + 200 < cLine := by have := hr.un; omega
  have nd := sc_oneL.nd
  refine ⟨Unit, _, (fun _ => []), (show DSs (cxOf CX0 P w K mg base ["_law_deck_here", "_law_items"] qual (defScope s_oneL) f cdv A outer s H E).nox (some (pp, pf)) [some (raw (.ref pp)), some (fro (items1 : (List (List Int))))] (nrm (fun r : (List Int) => fro r)) (defBody s_oneL) _ _ from
    dss_one (ds_ret (de_ixL (de_var 1) (dx_callP 0 d_draw (hr.mono (by decide)) hg (aq_cons (de_lenL T.len (de_var 1)) aq_nil) (fun k => ⟨k.1, rfl, rfl⟩))))), ?_⟩
  exact fun Pr h => h
theorem ok_mixed {P : Program} {w : World} {K : PySem.W.Frag} {mg : Str → Option Value} {base : Heap} {f : Addr} {fd : FuncData} {qual : Str}   (Fn : Fun K "_law_mixed" qual s_mixed f fd) (T : Blt mg) (d_draw : D_draw P w K mg base)    : FnG P w K mg base CX0 2 f fd ["_law_deck_here", "_law_items"] (spP (M1 m_mixed) (fun r : (List Int) => fro r)) := by
  refine Fun.bodyP Fn sc_mixed (fun ds w h => by obtain ⟨_, rfl, _⟩ := h; rfl) (fun cdv A outer s H E pp pf hr hg ds wr hM => ?_)
  obtain ⟨items1, rfl, rfl⟩ := hM
  have hu : (A.deeper (envOfC qual (defScope s_mixed) s.heap.objs.size f cdv)).units + 200 < cLine := by have := hr.un; omega
  have nd := sc_mixed.nd
  refine ⟨Unit, _, (fun _ => []), (show DSs (cxOf CX0 P w K mg base ["_law_deck_here", "_law_items", "_law_turn", "_law_rest", "_law_found"] qual (defScope s_mixed) f cdv A outer s H E).nox (some (pp, pf)) [some (raw (.ref pp)), some (fro (items1 : (List Int))), none, none, none] (nrm (fun r : (List Int) => fro r)) (defBody s_mixed) _ _ from
    dss_cons (ds_par (i := 3) (j := 4) rfl nd (dk_cons (fun a => good_own a) (dx_listL T.list (de_var 1)) (dk_cons (fun a => good_own a) (dx_lst (dh_nil (α := Int))) dk_nil))) (fun k2 => dss_cons (ds_for (GL := (fun k5 : (List Int) × (List Int) => [some (raw (.ref pp)), some (fro (items1 : (List Int))), none, some (own (k5.1 : (List Int))), some (own (k5.2 : (List Int)))])) (k0 := (k2.1, k2.2.1)) (ts := [2]) PassesOwn.never rfl (di_rng1 T.range (de_lenL T.len (de_var 1))) (Sub.keep (Sub.keep (Sub.keep (Sub.keep (Sub.keep (Sub.nil)))))) (fun k5 => dg_name 2 nd) (fun a6 k5 => dss_cons (ds_appPop 4 3 (by decide) (dx_callP 0 d_draw (hr.mono (by decide)) hg (aq_cons (de_lenO 3 T.len) aq_nil) (fun k => ⟨k.1, rfl, rfl⟩))) (fun k8 => dss_done (k8.2, k8.1) (fun k5 : (List Int) × (List Int) => [some (raw (.ref pp)), some (fro (items1 : (List Int))), none, some (own (k5.1 : (List Int))), some (own (k5.2 : (List Int)))]) (Sub.keep (Sub.keep (Sub.drop (Sub.keep (Sub.keep (Sub.nil))))))))) (fun k13 => dss_frzO (a := (k13.2 : (List Int))) 4 (dss_one (ds_ret (de_var 4)))))), ?_⟩
  exact fun Pr h => h
theorem ok_is_firm {P : Program} {w : World} {K : PySem.W.Frag} {mg : Str → Option Value} {base : Heap} {f : Addr} {fd : FuncData} {qual : Str}   (Fn : Fun K "_law_is_firm" qual s_is_firm f fd) (T : Blt mg) (d_spread : D_spread P w K mg base)    : FnG P w K mg base CX0 2 f fd ["_law_rows_here", "_law_lot"] (spF (M2 m_is_firm) (fun r : Bool => fro r)) := by
  refine Fun.bodyF Fn sc_is_firm (fun ds w h => by obtain ⟨_, _, rfl, _⟩ := h; rfl) (fun cdv A outer s H E hr hg ds wr hM => ?_)
  obtain ⟨rows1, lot2, rfl, rfl⟩ := hM
  have hu : (A.deeper (envOfC qual (defScope s_is_firm) s.heap.objs.size f cdv)).units + 200 < cLine := by have := hr.un; omega
  have nd := sc_is_firm.nd
  refine ⟨Unit, _, (fun _ => []), (show DSs (cxOf CX0 P w K mg base ["_law_rows_here", "_law_lot", "_law_at", "_law_first", "_law_second"] qual (defScope s_is_firm) f cdv A outer s H E).nox none [some (fro (rows1 : (List (List Int)))), some (fro (lot2 : (Tup Int))), none, none, none] (nrm (fun r : Bool => fro r)) (defBody s_is_firm) _ _ from
    dss_cons (ds_for (GL := (fun k3 : Unit => [some (fro (rows1 : (List (List Int)))), some (fro (lot2 : (Tup Int))), none, none, none])) (k0 := ()) (ts := [2, 3]) PassesOwn.never rfl (di_enumT T.enumerate (de_var 1)) (Sub.keep (Sub.keep (Sub.keep (Sub.keep (Sub.keep (Sub.nil)))))) (fun k3 => dg_pq 2 3 rfl nd) (fun a4 k3 => dss_cons (ds_for (GL := (fun k6 : Unit => [some (fro (rows1 : (List (List Int)))), some (fro (lot2 : (Tup Int))), some (fro (a4.a : Int)), some (fro (a4.b : Int)), none])) (k0 := ()) (ts := [4]) PassesOwn.never rfl (di_tup (de_slT (de_var 1) (do_some (de_add  (de_var 2) de_int)) do_none)) (Sub.keep (Sub.keep (Sub.keep (Sub.keep (Sub.keep (Sub.nil)))))) (fun k6 => dg_name 4 nd) (fun a7 k6 => dss_cons (ds_if (dt_lt  (de_lenL T.len (dx_callF d_spread (hr.mono (by decide)) hg (aq_cons (de_var 0) (aq_cons (de_var 1) (aq_cons (de_var 3) (aq_cons (de_var 4) aq_nil)))) (fun k => ⟨k.1, k.2.1, k.2.2.1, k.2.2.2.1, rfl, rfl⟩))) (de_lenT T.len (de_var 1))) (dss_one (ds_ret de_bool)) (dss_done () (fun _ => _) (Sub.refl _))) (fun _ => dss_done () (fun k6 : Unit => [some (fro (rows1 : (List (List Int)))), some (fro (lot2 : (Tup Int))), some (fro (a4.a : Int)), some (fro (a4.b : Int)), none]) (Sub.keep (Sub.keep (Sub.keep (Sub.keep (Sub.drop (Sub.nil))))))))) (fun k10 => dss_done () (fun k3 : Unit => [some (fro (rows1 : (List (List Int)))), some (fro (lot2 : (Tup Int))), none, none, none]) (Sub.keep (Sub.keep (Sub.drop (Sub.drop (Sub.keep (Sub.nil))))))))) (fun k11 => dss_one (ds_ret (de_gt  (de_lenT T.len (de_var 1)) de_int)))), ?_⟩
  exact fun Pr h => h
theorem ok_Pgrowing {P : Program} {w : World} {K : PySem.W.Frag} {mg : Str → Option Value} {base : Heap} {f : Addr} {fd : FuncData} {qual : Str}   (Fn : Fun K "growing" qual s_Pgrowing f fd) (T : Blt mg) (d_Ptelling : D_Ptelling P w K mg base) (d_Pjoined : D_Pjoined P w K mg base)    : FnG P w K mg base CX0 3 f fd ["table", "lot"] (spF (M2 m_Pgrowing) (fun r : (Tup (P3 Int Int Int)) => fro r)) := by
  refine Fun.bodyF Fn sc_Pgrowing (fun ds w h => by obtain ⟨_, _, rfl, _⟩ := h; rfl) (fun cdv A outer s H E hr hg ds wr hM => ?_)
  obtain ⟨table1, lot2, rfl, rfl⟩ := hM
  have hu : (A.deeper (envOfC qual (defScope s_Pgrowing) s.heap.objs.size f cdv)).units + 200 < cLine := by have := hr.un; omega
  have nd := sc_Pgrowing.nd
  refine ⟨Unit, _, (fun _ => []), (show DSs (cxOf CX0 P w K mg base ["table", "lot", "steps", "told"] qual (defScope s_Pgrowing) f cdv A outer s H E).nox none [some (fro (table1 : (P2 Int (Tup (Tup Int))))), some (fro (lot2 : (Tup Int))), none, none] (nrm (fun r : (Tup (P3 Int Int Int)) => fro r)) (defBody s_Pgrowing) _ _ from
    dss_cons (ds_set 2 nd (fun a => good_own a) (dx_lst (dh_nil (α := (P3 Int Int Int))))) (fun steps3 => dss_cons (ds_set 3 nd (fun a => good_fro a) (dx_callF d_Ptelling (hr.mono (by decide)) hg (aq_cons (de_var 0) (aq_cons (de_var 1) aq_nil)) (fun k => ⟨k.1, k.2.1, rfl, rfl⟩))) (fun told4 => dss_cons (ds_while (GL := (fun k5 : (Tup Int) × (List (P3 Int Int Int)) × (Option (P3 Int Int Int)) => [some (fro (table1 : (P2 Int (Tup (Tup Int))))), some (fro (k5.1 : (Tup Int))), some (own (k5.2.1 : (List (P3 Int Int Int)))), some (fro (k5.2.2 : (Option (P3 Int Int Int))))])) (k0 := (lot2, steps3, told4)) PassesOwn.never (Sub.keep (Sub.keep (Sub.keep (Sub.keep (Sub.nil))))) (fun k5 => dt_notN (de_var 3)) (fun k5 => dss_cons (ds_app 2 (de_un (de_var 3))) (fun steps8 => dss_cons (ds_set 1 nd (fun a => good_fro a) (dx_callF d_Pjoined (hr.mono (by decide)) hg (aq_cons (de_var 1) (aq_cons (de_slT (de_p3T (de_un (de_var 3))) do_none (do_some de_int)) aq_nil)) (fun k => ⟨k.1, k.2.1, rfl, rfl⟩))) (fun lot9 => dss_cons (ds_set 3 nd (fun a => good_fro a) (dx_callF d_Ptelling (hr.mono (by decide)) hg (aq_cons (de_var 0) (aq_cons (de_var 1) aq_nil)) (fun k => ⟨k.1, k.2.1, rfl, rfl⟩))) (fun told11 => dss_done (lot9, steps8, told11) (fun k5 : (Tup Int) × (List (P3 Int Int Int)) × (Option (P3 Int Int Int)) => [some (fro (table1 : (P2 Int (Tup (Tup Int))))), some (fro (k5.1 : (Tup Int))), some (own (k5.2.1 : (List (P3 Int Int Int)))), some (fro (k5.2.2 : (Option (P3 Int Int Int))))]) (Sub.keep (Sub.keep (Sub.keep (Sub.keep (Sub.nil)))))))))) (fun k14 => dss_frzO (a := (k14.2.1 : (List (P3 Int Int Int)))) 2 (dss_one (ds_ret (de_tupleL T.tuple (de_var 2)))))))), ?_⟩
  exact fun Pr h => h
theorem ok_menu {P : Program} {w : World} {K : PySem.W.Frag} {mg : Str → Option Value} {base : Heap} {f : Addr} {fd : FuncData} {qual : Str}   (Fn : Fun K "_law_menu" qual s_menu f fd) (T : Blt mg) (d_draw : D_draw P w K mg base) (d_one : D_one P w K mg base) (d_oneL : D_oneL P w K mg base)    : FnG P w K mg base CX0 3 f fd ["_law_deck_here"] (spP (M0 m_menu) (fun r : (List Int) => fro r)) := by
  refine Fun.bodyP Fn sc_menu (fun ds w h => by obtain ⟨rfl, _⟩ := h; rfl) (fun cdv A outer s H E pp pf hr hg ds wr hM => ?_)
  obtain ⟨rfl, rfl⟩ := hM
  have hu : (A.deeper (envOfC qual (defScope s_menu) s.heap.objs.size f cdv)).units + 200 < cLine := by have := hr.un; omega
  have nd := sc_menu.nd
  refine ⟨Unit, _, (fun _ => []), (show DSs (cxOf CX0 P w K mg base ["_law_deck_here", "_law_low"] qual (defScope s_menu) f cdv A outer s H E).nox (some (pp, pf)) [some (raw (.ref pp)), none] (nrm (fun r : (List Int) => fro r)) (defBody s_menu) _ _ from
    dss_cons (ds_set 1 nd (fun a => good_fro a) (dx_callP 0 d_draw (hr.mono (by decide)) hg (aq_cons de_int aq_nil) (fun k => ⟨k.1, rfl, rfl⟩))) (fun low1 => dss_one (ds_ret (dx_callP 0 d_oneL (hr.mono (by decide)) hg (aq_cons (de_of (dx_lst (dh_cons (de_of (dx_lst (dh_cons de_int (dh_cons de_int (dh_nil (α := Int)))))) (dh_cons (de_of (dx_lst (dh_cons de_int (dh_cons de_int (dh_nil (α := Int)))))) (dh_cons (de_of (dx_lst (dh_cons de_int (dh_cons de_int (dh_cons de_int (dh_nil (α := Int))))))) (dh_cons (de_of (dx_lst (dh_cons (de_var 1) (dh_cons de_int (dh_nil (α := Int)))))) (dh_cons (de_of (dx_lst (dh_cons de_int (dh_cons (de_add  (de_var 1) de_int) (dh_cons de_int (dh_nil (α := Int))))))) (dh_cons (de_of (dx_lst (dh_cons de_int (dh_cons de_int (dh_cons (de_add  (de_var 1) de_int) (dh_cons de_int (dh_nil (α := Int)))))))) (dh_nil (α := (List Int))))))))))) aq_nil) (fun k => ⟨k.1, rfl, rfl⟩))))), ?_⟩
  exact fun Pr h => h
theorem ok_rows {P : Program} {w : World} {K : PySem.W.Frag} {mg : Str → Option Value} {base : Heap} {f : Addr} {fd : FuncData} {qual : Str}   (Fn : Fun K "_law_rows" qual s_rows f fd) (T : Blt mg) (d_draw : D_draw P w K mg base) (d_mixed : D_mixed P w K mg base) (d_one : D_one P w K mg base) (d_oneL : D_oneL P w K mg base)    : FnG P w K mg base CX0 3 f fd ["_law_deck_here", "_law_size", "_law_menu_here"] (spP (M2 m_rows) (fun r : (List (List Int)) => own2 r)) := by
  refine Fun.bodyP Fn sc_rows (fun ds w h => by obtain ⟨_, _, rfl, _⟩ := h; rfl) (fun cdv A outer s H E pp pf hr hg ds wr hM => ?_)
  obtain ⟨size1, menu2, rfl, rfl⟩ := hM
  have hu : (A.deeper (envOfC qual (defScope s_rows) s.heap.objs.size f cdv)).units + 200 < cLine := by have := hr.un; omega
  have nd := sc_rows.nd
  refine ⟨Unit, _, (fun _ => []), (show DSs (cxOf CX0 P w K mg base ["_law_deck_here", "_law_size", "_law_menu_here", "_law_y", "_law_way", "_law_rows_here", "_law_one_here", "_law_other", "_law_x", "_law_pair", "_law_thing"] qual (defScope s_rows) f cdv A outer s H E).nox (some (pp, pf)) [some (raw (.ref pp)), some (fro (size1 : Int)), some (fro (menu2 : (List Int))), none, none, none, none, none, none, none, none] (nrm (fun r : (List (List Int)) => own2 r)) (defBody s_rows) _ _ from
    dss_cons (ds_par (i := 4) (j := 5) rfl nd (dk_cons (fun a => good_fro a) (dx_callP 0 d_draw (hr.mono (by decide)) hg (aq_cons de_int aq_nil) (fun k => ⟨k.1, rfl, rfl⟩)) (dk_cons (fun a => good_own2 a) (dx_lcO ⟨di_rng1 T.range (de_var 1), ⟨[("_law_thing", 10)], blkOk_by (by first | rfl | decide +kernel), rfl⟩, fun _ _ _ _ _ => dg_name 10 nd, fun a4 _ _ _ _ _ => dts_nil, fun a4 _ _ _ _ _ => dx_rep  (de_of (dx_lst (dh_cons de_int (dh_nil (α := Int))))) (de_var 1), by decide, fun _ => Sub.off rfl, by intro _; rfl⟩ rfl nd) dk_nil))) (fun k3 => dss_cons (ds_par (i := 6) (j := 7) rfl nd (dk_cons (fun a => good_fro a) (dx_callP 0 d_mixed (hr.mono (by decide)) hg (aq_cons (de_of (dx_listRg1 rfl T.list T.range (de_var 1))) aq_nil) (fun k => ⟨k.1, rfl, rfl⟩)) (dk_cons (fun a => good_fro a) (dx_callP 0 d_mixed (hr.mono (by decide)) hg (aq_cons (de_of (dx_listRg1 rfl T.list T.range (de_var 1))) aq_nil) (fun k => ⟨k.1, rfl, rfl⟩)) dk_nil))) (fun k7 => dss_cons (ds_for (GL := (fun k10 : (List (List Int)) => [some (raw (.ref pp)), some (fro (size1 : Int)), some (fro (menu2 : (List Int))), none, some (fro (k3.1 : Int)), some (own2 (k10 : (List (List Int)))), some (fro (k7.1 : (List Int))), some (fro (k7.2.1 : (List Int))), none, none, none])) (k0 := k3.2.1) (ts := [3]) PassesOwn.never rfl (di_rng1 T.range (de_var 1)) (Sub.keep (Sub.keep (Sub.keep (Sub.keep (Sub.keep (Sub.keep (Sub.keep (Sub.keep (Sub.keep (Sub.keep (Sub.keep (Sub.nil)))))))))))) (fun k10 => dg_name 3 nd) (fun a11 k10 => dss_cons (ds_for (GL := (fun k13 : (List (List Int)) => [some (raw (.ref pp)), some (fro (size1 : Int)), some (fro (menu2 : (List Int))), some (fro (a11 : Int)), some (fro (k3.1 : Int)), some (own2 (k13 : (List (List Int)))), some (fro (k7.1 : (List Int))), some (fro (k7.2.1 : (List Int))), none, none, none])) (k0 := k10) (ts := [8]) PassesOwn.never rfl (di_rng1 T.range (de_var 3)) (Sub.keep (Sub.keep (Sub.keep (Sub.keep (Sub.keep (Sub.keep (Sub.keep (Sub.keep (Sub.keep (Sub.keep (Sub.keep (Sub.nil)))))))))))) (fun k13 => dg_name 8 nd) (fun a14 k13 => dss_cons (ds_set 9 nd (fun a => good_fro a) (de_of (dx_lst (dh_cons (dx_callP 0 d_one (hr.mono (by decide)) hg (aq_cons (de_var 2) aq_nil) (fun k => ⟨k.1, rfl, rfl⟩)) (dh_cons (dx_callP 0 d_one (hr.mono (by decide)) hg (aq_cons (de_var 2) aq_nil) (fun k => ⟨k.1, rfl, rfl⟩)) (dh_nil (α := Int))))))) (fun pair16 => dss_cons (ds_if (dt_eqI  (de_var 4) de_int) (dss_cons (ds_set 9 nd (fun a => good_fro a) (de_of (dx_lst (dh_cons (de_q (dq_ixL (dq_var 9) dq_int)) (dh_cons (de_q (dq_ixL (dq_var 9) dq_int)) (dh_nil (α := Int))))))) (fun pair19 => dss_done pair19 (fun k18 : (List Int) => [some (raw (.ref pp)), some (fro (size1 : Int)), some (fro (menu2 : (List Int))), some (fro (a11 : Int)), some (fro (k3.1 : Int)), some (own2 (k13 : (List (List Int)))), some (fro (k7.1 : (List Int))), some (fro (k7.2.1 : (List Int))), some (fro (a14 : Int)), some (fro (k18 : (List Int))), none]) (Sub.keep (Sub.keep (Sub.keep (Sub.keep (Sub.keep (Sub.keep (Sub.keep (Sub.keep (Sub.keep (Sub.keep (Sub.keep (Sub.nil)))))))))))))) (dss_done pair16 (fun k18 : (List Int) => [some (raw (.ref pp)), some (fro (size1 : Int)), some (fro (menu2 : (List Int))), some (fro (a11 : Int)), some (fro (k3.1 : Int)), some (own2 (k13 : (List (List Int)))), some (fro (k7.1 : (List Int))), some (fro (k7.2.1 : (List Int))), some (fro (a14 : Int)), some (fro (k18 : (List Int))), none]) (Sub.keep (Sub.keep (Sub.keep (Sub.keep (Sub.keep (Sub.keep (Sub.keep (Sub.keep (Sub.keep (Sub.keep (Sub.keep (Sub.nil)))))))))))))) (fun k18 => dss_cons (ds_if (dt_eqI  (de_var 4) de_int) (dss_cons (ds_set 9 nd (fun a => good_fro a) (dx_if (dt_eqI  (de_q (dq_ixL (dq_var 9) dq_int)) (de_q (dq_ixL (dq_var 2) dq_int))) (de_of (dx_lst (dh_cons (de_q (dq_ixL (dq_var 2) dq_int)) (dh_cons (de_q (dq_ixL (dq_var 2) dq_int)) (dh_nil (α := Int)))))) (de_of (dx_lst (dh_cons (de_q (dq_ixL (dq_var 2) dq_int)) (dh_cons (de_q (dq_ixL (dq_var 2) dq_int)) (dh_nil (α := Int)))))))) (fun pair24 => dss_done pair24 (fun k23 : (List Int) => [some (raw (.ref pp)), some (fro (size1 : Int)), some (fro (menu2 : (List Int))), some (fro (a11 : Int)), some (fro (k3.1 : Int)), some (own2 (k13 : (List (List Int)))), some (fro (k7.1 : (List Int))), some (fro (k7.2.1 : (List Int))), some (fro (a14 : Int)), some (fro (k23 : (List Int))), none]) (Sub.keep (Sub.keep (Sub.keep (Sub.keep (Sub.keep (Sub.keep (Sub.keep (Sub.keep (Sub.keep (Sub.keep (Sub.keep (Sub.nil)))))))))))))) (dss_done k18 (fun k23 : (List Int) => [some (raw (.ref pp)), some (fro (size1 : Int)), some (fro (menu2 : (List Int))), some (fro (a11 : Int)), some (fro (k3.1 : Int)), some (own2 (k13 : (List (List Int)))), some (fro (k7.1 : (List Int))), some (fro (k7.2.1 : (List Int))), some (fro (a14 : Int)), some (fro (k23 : (List Int))), none]) (Sub.keep (Sub.keep (Sub.keep (Sub.keep (Sub.keep (Sub.keep (Sub.keep (Sub.keep (Sub.keep (Sub.keep (Sub.keep (Sub.nil)))))))))))))) (fun k23 => dss_cons (ds_if (dt_eqI  (de_var 4) de_int) (dss_cons (ds_set 9 nd (fun a => good_fro a) (de_of (dx_lst (dh_cons (de_intB T.int (de_and (de_lt  (de_q (dq_ixL (dq_var 6) (dq_var 8))) (de_q (dq_ixL (dq_var 6) (dq_var 3)))) (de_one (de_lt  (de_q (dq_ixL (dq_var 7) (dq_var 8))) (de_q (dq_ixL (dq_var 7) (dq_var 3))))))) (dh_cons (de_intB T.int (de_and (de_lt  (de_q (dq_ixL (dq_var 6) (dq_var 3))) (de_q (dq_ixL (dq_var 6) (dq_var 8)))) (de_one (de_lt  (de_q (dq_ixL (dq_var 7) (dq_var 3))) (de_q (dq_ixL (dq_var 7) (dq_var 8))))))) (dh_nil (α := Int))))))) (fun pair34 => dss_done pair34 (fun k33 : (List Int) => [some (raw (.ref pp)), some (fro (size1 : Int)), some (fro (menu2 : (List Int))), some (fro (a11 : Int)), some (fro (k3.1 : Int)), some (own2 (k13 : (List (List Int)))), some (fro (k7.1 : (List Int))), some (fro (k7.2.1 : (List Int))), some (fro (a14 : Int)), some (fro (k33 : (List Int))), none]) (Sub.keep (Sub.keep (Sub.keep (Sub.keep (Sub.keep (Sub.keep (Sub.keep (Sub.keep (Sub.keep (Sub.keep (Sub.keep (Sub.nil)))))))))))))) (dss_done k23 (fun k33 : (List Int) => [some (raw (.ref pp)), some (fro (size1 : Int)), some (fro (menu2 : (List Int))), some (fro (a11 : Int)), some (fro (k3.1 : Int)), some (own2 (k13 : (List (List Int)))), some (fro (k7.1 : (List Int))), some (fro (k7.2.1 : (List Int))), some (fro (a14 : Int)), some (fro (k33 : (List Int))), none]) (Sub.keep (Sub.keep (Sub.keep (Sub.keep (Sub.keep (Sub.keep (Sub.keep (Sub.keep (Sub.keep (Sub.keep (Sub.keep (Sub.nil)))))))))))))) (fun k33 => dss_cons (ds_setII 5 (de_q (dq_ixL (dq_var 9) dq_int)) (dq_var 8) (dq_var 3)) (fun rows45 => dss_cons (ds_setII 5 (de_q (dq_ixL (dq_var 9) dq_int)) (dq_var 3) (dq_var 8)) (fun rows46 => dss_done rows46 (fun k13 : (List (List Int)) => [some (raw (.ref pp)), some (fro (size1 : Int)), some (fro (menu2 : (List Int))), some (fro (a11 : Int)), some (fro (k3.1 : Int)), some (own2 (k13 : (List (List Int)))), some (fro (k7.1 : (List Int))), some (fro (k7.2.1 : (List Int))), none, none, none]) (Sub.keep (Sub.keep (Sub.keep (Sub.keep (Sub.keep (Sub.keep (Sub.keep (Sub.keep (Sub.drop (Sub.drop (Sub.keep (Sub.nil)))))))))))))))))))) (fun k51 => dss_done k51 (fun k10 : (List (List Int)) => [some (raw (.ref pp)), some (fro (size1 : Int)), some (fro (menu2 : (List Int))), none, some (fro (k3.1 : Int)), some (own2 (k10 : (List (List Int)))), some (fro (k7.1 : (List Int))), some (fro (k7.2.1 : (List Int))), none, none, none]) (Sub.keep (Sub.keep (Sub.keep (Sub.drop (Sub.keep (Sub.keep (Sub.keep (Sub.keep (Sub.keep (Sub.keep (Sub.keep (Sub.nil))))))))))))))) (fun k52 => dss_one (ds_retO 5 (r := k52)))))), ?_⟩
  exact fun Pr h => h
theorem ok_paints {P : Program} {w : World} {K : PySem.W.Frag} {mg : Str → Option Value} {base : Heap} {f : Addr} {fd : FuncData} {qual : Str}   (Fn : Fun K "_law_paints" qual s_paints f fd) (T : Blt mg) (d_mixed : D_mixed P w K mg base) (d_draw : D_draw P w K mg base)    : FnG P w K mg base CX0 3 f fd ["_law_deck_here", "_law_rows_here"] (spP (M1 m_paints) (fun r : Mp => fro r)) := by
  refine Fun.bodyP Fn sc_paints (fun ds w h => by obtain ⟨_, rfl, _⟩ := h; rfl) (fun cdv A outer s H E pp pf hr hg ds wr hM => ?_)
  obtain ⟨rows1, rfl, rfl⟩ := hM
  have hu : (A.deeper (envOfC qual (defScope s_paints) s.heap.objs.size f cdv)).units + 200 < cLine := by have := hr.un; omega
  have nd := sc_paints.nd
  refine ⟨Unit, _, (fun _ => []), (show DSs (cxOf CX0 P w K mg base ["_law_deck_here", "_law_rows_here", "_law_looks", "_law_x", "_law_look", "_law_kept", "_law_begin", "_law_y", "_law_at"] qual (defScope s_paints) f cdv A outer s H E).nox (some (pp, pf)) [some (raw (.ref pp)), some (fro (rows1 : (List (List Int)))), none, none, none, none, none, none, none] (nrm (fun r : Mp => fro r)) (defBody s_paints) _ _ from
    dss_cons (ds_set 2 nd (fun a => good_fro a) (de_of (dx_lst (dh_nil (α := Int))))) (fun looks2 => dss_cons (ds_for (GL := (fun k3 : (List Int) => [some (raw (.ref pp)), some (fro (rows1 : (List (List Int)))), some (fro (k3 : (List Int))), none, none, none, none, none, none])) (k0 := looks2) (ts := [3]) PassesOwn.never rfl (di_rng1 T.range (de_lenL T.len (de_var 1))) (Sub.keep (Sub.keep (Sub.keep (Sub.keep (Sub.keep (Sub.keep (Sub.keep (Sub.keep (Sub.keep (Sub.nil)))))))))) (fun k3 => dg_name 3 nd) (fun a4 k3 => dss_cons (ds_set 2 nd (fun a => good_fro a) (de_of (dx_cat  (de_var 2) (de_of (dx_lc ⟨di_rng1 T.range (de_lenL T.len (de_var 1)), ⟨[("_law_y", 7)], blkOk_by (by first | rfl | decide +kernel), rfl⟩, fun _ _ _ _ _ => dg_name 7 nd, fun a7 _ _ _ _ _ => dts_one (dt_w (dw_and (dt_neI  (de_var 7) (de_var 3)) (dw_and1 (dt_ninL  (de_q (dq_ixL (dq_ixL (dq_var 1) (dq_var 3)) (dq_var 7))) (de_var 2))))), fun a7 _ _ _ _ _ => de_q (dq_ixL (dq_ixL (dq_var 1) (dq_var 3)) (dq_var 7)), by decide, fun _ => Sub.off rfl, by intro _; rfl⟩ rfl nd))))) (fun looks6 => dss_done looks6 (fun k3 : (List Int) => [some (raw (.ref pp)), some (fro (rows1 : (List (List Int)))), some (fro (k3 : (List Int))), none, none, none, none, none, none]) (Sub.keep (Sub.keep (Sub.keep (Sub.drop (Sub.keep (Sub.keep (Sub.keep (Sub.keep (Sub.keep (Sub.nil))))))))))))) (fun k14 => dss_cons (ds_asgT rfl (dk_cons (fun a => good_own a) (dx_lst (dh_nil (α := Int))) (dk_cons (fun a => good_fro a) (dx_callP 0 d_draw (hr.mono (by decide)) hg (aq_cons de_int aq_nil) (fun k => ⟨k.1, rfl, rfl⟩)) dk_nil)) (gn_cons 5 nd (gn_cons 6 nd gn_nil))) (fun k15 => dss_cons (ds_for (GL := (fun k18 : (List Int) => [some (raw (.ref pp)), some (fro (rows1 : (List (List Int)))), some (fro (k14 : (List Int))), none, none, some (own (k18 : (List Int))), some (fro (k15.2.1 : Int)), none, none])) (k0 := k15.1) (ts := [4]) PassesOwn.never rfl (di_list (dx_callP 0 d_mixed (hr.mono (by decide)) hg (aq_cons (de_var 2) aq_nil) (fun k => ⟨k.1, rfl, rfl⟩))) (Sub.keep (Sub.keep (Sub.keep (Sub.keep (Sub.keep (Sub.keep (Sub.keep (Sub.keep (Sub.keep (Sub.nil)))))))))) (fun k18 => dg_name 4 nd) (fun a19 k18 => dss_cons (ds_if (dt_ninO 5 (de_var 4)) (dss_cons (ds_app 5 (de_var 4)) (fun kept23 => dss_done kept23 (fun k22 : (List Int) => [some (raw (.ref pp)), some (fro (rows1 : (List (List Int)))), some (fro (k14 : (List Int))), none, some (fro (a19 : Int)), some (own (k22 : (List Int))), some (fro (k15.2.1 : Int)), none, none]) (Sub.keep (Sub.keep (Sub.keep (Sub.keep (Sub.keep (Sub.keep (Sub.keep (Sub.keep (Sub.keep (Sub.nil)))))))))))) (dss_done k18 (fun k22 : (List Int) => [some (raw (.ref pp)), some (fro (rows1 : (List (List Int)))), some (fro (k14 : (List Int))), none, some (fro (a19 : Int)), some (own (k22 : (List Int))), some (fro (k15.2.1 : Int)), none, none]) (Sub.keep (Sub.keep (Sub.keep (Sub.keep (Sub.keep (Sub.keep (Sub.keep (Sub.keep (Sub.keep (Sub.nil)))))))))))) (fun k22 => dss_done k22 (fun k18 : (List Int) => [some (raw (.ref pp)), some (fro (rows1 : (List (List Int)))), some (fro (k14 : (List Int))), none, none, some (own (k18 : (List Int))), some (fro (k15.2.1 : Int)), none, none]) (Sub.keep (Sub.keep (Sub.keep (Sub.keep (Sub.drop (Sub.keep (Sub.keep (Sub.keep (Sub.keep (Sub.nil))))))))))))) (fun k24 => dss_frzO (a := (k24 : (List Int))) 5 (dss_one (ds_ret (de_dictP rfl T.dict (de_of (dx_lc ⟨di_enumL T.enumerate (de_var 5), ⟨[("_law_at", 8), ("_law_look", 4)], blkOk_by (by first | rfl | decide +kernel), rfl⟩, fun _ _ _ _ _ => dg_pq 8 4 rfl nd, fun a25 _ _ _ _ _ => dts_nil, fun a25 _ _ _ _ _ => de_t2 (de_var 4) (de_mod  (de_intI T.int (de_add  (de_var 6) (de_mul  de_int (de_var 8)))) de_int), by decide, fun _ => Sub.off2 rfl rfl, by intro _; rfl⟩ rfl nd)))))))))), ?_⟩
  exact fun Pr h => h
theorem ok_Pleast_piece {P : Program} {w : World} {K : PySem.W.Frag} {mg : Str → Option Value} {base : Heap} {f : Addr} {fd : FuncData} {qual : Str}   (Fn : Fun K "least_piece" qual s_Pleast_piece f fd) (T : Blt mg) (d_Pjoined : D_Pjoined P w K mg base) (d_Pgrowing : D_Pgrowing P w K mg base)    : FnG P w K mg base CX0 4 f fd ["table", "lot"] (spF (M2 m_Pleast_piece) (fun r : (Tup Int) => fro r)) := by
  refine Fun.bodyF Fn sc_Pleast_piece (fun ds w h => by obtain ⟨_, _, rfl, _⟩ := h; rfl) (fun cdv A outer s H E hr hg ds wr hM => ?_)
  obtain ⟨table1, lot2, rfl, rfl⟩ := hM
  have hu : (A.deeper (envOfC qual (defScope s_Pleast_piece) s.heap.objs.size f cdv)).units + 200 < cLine := by have := hr.un; omega
  have nd := sc_Pleast_piece.nd
  refine ⟨Unit, _, (fun _ => []), (show DSs (cxOf CX0 P w K mg base ["table", "lot", "told"] qual (defScope s_Pleast_piece) f cdv A outer s H E).nox none [some (fro (table1 : (P2 Int (Tup (Tup Int))))), some (fro (lot2 : (Tup Int))), none] (nrm (fun r : (Tup Int) => fro r)) (defBody s_Pleast_piece) _ _ from
    dss_one (ds_ret (dx_callF d_Pjoined (hr.mono (by decide)) hg (aq_cons (de_var 1) (aq_cons (de_tupleL T.tuple (de_of (dx_lc ⟨di_tup (dx_callF d_Pgrowing (hr.mono (by decide)) hg (aq_cons (de_var 0) (aq_cons (de_var 1) aq_nil)) (fun k => ⟨k.1, k.2.1, rfl, rfl⟩)), ⟨[("told", 2)], blkOk_by (by first | rfl | decide +kernel), rfl⟩, fun _ _ _ _ _ => dg_name 2 nd, fun a3 _ _ _ _ _ => dts_nil, fun a3 _ _ _ _ _ => de_p3a (de_var 2), by decide, fun _ => Sub.off rfl, by intro _; rfl⟩ rfl nd))) aq_nil)) (fun k => ⟨k.1, k.2.1, rfl, rfl⟩)))), ?_⟩
  exact fun Pr h => h
theorem ok_core {P : Program} {w : World} {K : PySem.W.Frag} {mg : Str → Option Value} {base : Heap} {f : Addr} {fd : FuncData} {qual : Str}   (Fn : Fun K "_law_core" qual s_core f fd) (T : Blt mg) (d_rows : D_rows P w K mg base) (d_is_firm : D_is_firm P w K mg base)    : FnG P w K mg base CX0 4 f fd ["_law_deck_here", "_law_size", "_law_menu_here"] (spP (M2 m_core) (fun r : (List (List Int)) => fro r)) := by
  refine Fun.bodyP Fn sc_core (fun ds w h => by obtain ⟨_, _, rfl, _⟩ := h; rfl) (fun cdv A outer s H E pp pf hr hg ds wr hM => ?_)
  obtain ⟨size1, menu2, rfl, rfl⟩ := hM
  have hu : (A.deeper (envOfC qual (defScope s_core) s.heap.objs.size f cdv)).units + 200 < cLine := by have := hr.un; omega
  have nd := sc_core.nd
  refine ⟨Unit, _, (fun _ => []), (show DSs (cxOf CX0 P w K mg base ["_law_deck_here", "_law_size", "_law_menu_here", "_law_turn", "_law_rows_here", "_law_x", "_law_thing"] qual (defScope s_core) f cdv A outer s H E).nox (some (pp, pf)) [some (raw (.ref pp)), some (fro (size1 : Int)), some (fro (menu2 : (List Int))), none, none, none, none] (nrm (fun r : (List (List Int)) => fro r)) (defBody s_core) _ _ from
    dss_cons (ds_for (GL := (fun k3 : Unit => [some (raw (.ref pp)), some (fro (size1 : Int)), some (fro (menu2 : (List Int))), none, none, none, none])) (k0 := ()) (ts := [3]) PassesOwn.never rfl (di_rng1 T.range de_int) (Sub.keep (Sub.keep (Sub.keep (Sub.keep (Sub.keep (Sub.keep (Sub.keep (Sub.nil)))))))) (fun k3 => dg_name 3 nd) (fun a4 k3 => dss_cons (ds_set 4 nd (fun a => good_own2 a) (dx_callP 0 d_rows (hr.mono (by decide)) hg (aq_cons (de_var 1) (aq_cons (de_var 2) aq_nil)) (fun k => ⟨k.1, k.2.1, rfl, rfl⟩))) (fun rows6 => dss_frzOO (a := (rows6 : (List (List Int)))) 4 (dss_cons (ds_if (dt_val (dx_callF d_is_firm (hr.mono (by decide)) hg (aq_cons (de_var 4) (aq_cons (de_tupRg1 rfl T.tuple T.range (de_var 1)) aq_nil)) (fun k => ⟨k.1, k.2.1, rfl, rfl⟩))) (dss_one (ds_ret (de_var 4))) (dss_done () (fun _ => _) (Sub.refl _))) (fun _ => dss_done () (fun k3 : Unit => [some (raw (.ref pp)), some (fro (size1 : Int)), some (fro (menu2 : (List Int))), none, none, none, none]) (Sub.keep (Sub.keep (Sub.keep (Sub.drop (Sub.drop (Sub.keep (Sub.keep (Sub.nil))))))))))))) (fun k9 => dss_cons (ds_setLcO 4 ⟨di_rng1 T.range (de_var 1), ⟨[("_law_thing", 6)], blkOk_by (by first | rfl | decide +kernel), rfl⟩, fun _ _ _ _ _ => dg_name 6 nd, fun a11 _ _ _ _ _ => dts_nil, fun a11 _ _ _ _ _ => dx_rep  (de_of (dx_lst (dh_cons (de_q (dq_ixL (dq_var 2) dq_int)) (dh_nil (α := Int))))) (de_var 1), by decide, fun _ => Sub.off rfl, by intro _; rfl⟩ rfl nd) (fun rows10 => dss_cons (ds_for (GL := (fun k12 : (List (List Int)) => [some (raw (.ref pp)), some (fro (size1 : Int)), some (fro (menu2 : (List Int))), none, some (own2 (k12 : (List (List Int)))), none, none])) (k0 := rows10) (ts := [5]) PassesOwn.never rfl (di_rng1 T.range (de_var 1)) (Sub.keep (Sub.keep (Sub.keep (Sub.keep (Sub.keep (Sub.keep (Sub.keep (Sub.nil)))))))) (fun k12 => dg_name 5 nd) (fun a13 k12 => dss_cons (ds_setII 4 de_int (dq_var 5) (dq_var 5)) (fun rows15 => dss_cons (ds_if (dt_lt  (de_add  (de_var 5) de_int) (de_var 1)) (dss_cons (ds_setII 4 (de_q (dq_ixL (dq_var 2) dq_int)) (dq_var 5) (dq_add  (dq_var 5) dq_int)) (fun rows18 => dss_done rows18 (fun k17 : (List (List Int)) => [some (raw (.ref pp)), some (fro (size1 : Int)), some (fro (menu2 : (List Int))), none, some (own2 (k17 : (List (List Int)))), some (fro (a13 : Int)), none]) (Sub.keep (Sub.keep (Sub.keep (Sub.keep (Sub.keep (Sub.keep (Sub.keep (Sub.nil)))))))))) (dss_done rows15 (fun k17 : (List (List Int)) => [some (raw (.ref pp)), some (fro (size1 : Int)), some (fro (menu2 : (List Int))), none, some (own2 (k17 : (List (List Int)))), some (fro (a13 : Int)), none]) (Sub.keep (Sub.keep (Sub.keep (Sub.keep (Sub.keep (Sub.keep (Sub.keep (Sub.nil)))))))))) (fun k17 => dss_done k17 (fun k12 : (List (List Int)) => [some (raw (.ref pp)), some (fro (size1 : Int)), some (fro (menu2 : (List Int))), none, some (own2 (k12 : (List (List Int)))), none, none]) (Sub.keep (Sub.keep (Sub.keep (Sub.keep (Sub.keep (Sub.drop (Sub.keep (Sub.nil)))))))))))) (fun k20 => dss_frzOO (a := (k20 : (List (List Int)))) 4 (dss_one (ds_ret (de_var 4))))))), ?_⟩
  exact fun Pr h => h
theorem ok_Pis_firm {P : Program} {w : World} {K : PySem.W.Frag} {mg : Str → Option Value} {base : Heap} {f : Addr} {fd : FuncData} {qual : Str}   (Fn : Fun K "is_firm" qual s_Pis_firm f fd) (T : Blt mg) (d_Plots_of : D_Plots_of P w K mg base) (d_Pleast_piece : D_Pleast_piece P w K mg base)    : FnG P w K mg base CX0 5 f fd ["table"] (spF (M1 m_Pis_firm) (fun r : Bool => fro r)) := by
  refine Fun.bodyF Fn sc_Pis_firm (fun ds w h => by obtain ⟨_, rfl, _⟩ := h; rfl) (fun cdv A outer s H E hr hg ds wr hM => ?_)
  obtain ⟨table1, rfl, rfl⟩ := hM
  have hu : (A.deeper (envOfC qual (defScope s_Pis_firm) s.heap.objs.size f cdv)).units + 200 < cLine := by have := hr.un; omega
  have nd := sc_Pis_firm.nd
  refine ⟨Unit, _, (fun _ => []), (show DSs (cxOf CX0 P w K mg base ["table", "size", "lot"] qual (defScope s_Pis_firm) f cdv A outer s H E).nox none [some (fro (table1 : (P2 Int (Tup (Tup Int))))), none, none] (nrm (fun r : Bool => fro r)) (defBody s_Pis_firm) _ _ from
    dss_cons (ds_set 1 nd (fun a => good_fro a) (de_fst (de_var 0))) (fun size2 => dss_one (ds_ret (de_and (de_ge  (de_var 1) de_int) (de_one (de_all rfl T.all (de_of (dx_lc ⟨di_list (dx_callF d_Plots_of (hr.mono (by decide)) hg (aq_cons (de_var 1) (aq_cons de_int aq_nil)) (fun k => ⟨k.1, k.2.1, rfl, rfl⟩)), ⟨[("lot", 2)], blkOk_by (by first | rfl | decide +kernel), rfl⟩, fun _ _ _ _ _ => dg_name 2 nd, fun a3 _ _ _ _ _ => dts_nil, fun a3 _ _ _ _ _ => de_eqI  (de_lenT T.len (dx_callF d_Pleast_piece (hr.mono (by decide)) hg (aq_cons (de_var 0) (aq_cons (de_var 2) aq_nil)) (fun k => ⟨k.1, k.2.1, rfl, rfl⟩))) (de_var 1), by decide, fun _ => Sub.off rfl, by intro _; rfl⟩ rfl nd)))))))), ?_⟩
  exact fun Pr h => h
theorem ok_small {P : Program} {w : World} {K : PySem.W.Frag} {mg : Str → Option Value} {base : Heap} {f : Addr} {fd : FuncData} {qual : Str}   (Fn : Fun K "_law_small" qual s_small f fd) (T : Blt mg) (d_draw : D_draw P w K mg base) (d_rows : D_rows P w K mg base) (d_core : D_core P w K mg base) (d_one : D_one P w K mg base) (d_oneL : D_oneL P w K mg base)    : FnG P w K mg base CX0 5 f fd ["_law_deck_here", "_law_size", "_law_menu_here"] (spP (M2 m_small) (fun r : (List (List Int)) => fro r)) := by
  refine Fun.bodyP Fn sc_small (fun ds w h => by obtain ⟨_, _, rfl, _⟩ := h; rfl) (fun cdv A outer s H E pp pf hr hg ds wr hM => ?_)
  obtain ⟨size1, menu2, rfl, rfl⟩ := hM
  have hu : (A.deeper (envOfC qual (defScope s_small) s.heap.objs.size f cdv)).units + 200 < cLine := by have := hr.un; omega
  have nd := sc_small.nd
  refine ⟨Unit, _, (fun _ => []), (show DSs (cxOf CX0 P w K mg base ["_law_deck_here", "_law_size", "_law_menu_here", "_law_way", "_law_rows_here", "_law_looks", "_law_y", "_law_x"] qual (defScope s_small) f cdv A outer s H E).nox (some (pp, pf)) [some (raw (.ref pp)), some (fro (size1 : Int)), some (fro (menu2 : (List Int))), none, none, none, none, none] (nrm (fun r : (List (List Int)) => fro r)) (defBody s_small) _ _ from
    dss_cons (ds_par (i := 3) (j := 4) rfl nd (dk_cons (fun a => good_fro a) (dx_callP 0 d_draw (hr.mono (by decide)) hg (aq_cons de_int aq_nil) (fun k => ⟨k.1, rfl, rfl⟩)) (dk_cons (fun a => good_own2 a) (dx_callP 0 d_rows (hr.mono (by decide)) hg (aq_cons (de_var 1) (aq_cons (de_var 2) aq_nil)) (fun k => ⟨k.1, k.2.1, rfl, rfl⟩)) dk_nil))) (fun k3 => dss_cons (ds_if (dt_w (dw_and (dt_eqI  (de_var 3) de_int) (dw_and1 (dt_gt  (de_var 1) de_int)))) (dss_one (ds_ret (dx_callP 0 d_core (hr.mono (by decide)) hg (aq_cons (de_var 1) (aq_cons (de_var 2) aq_nil)) (fun k => ⟨k.1, k.2.1, rfl, rfl⟩)))) (dss_done () (fun _ => _) (Sub.refl _))) (fun _ => dss_cons (ds_if (dt_lt  (de_var 3) de_int) (dss_cons (ds_set 5 nd (fun a => good_fro a) (de_of (dx_lst (dh_cons (dx_callP 0 d_one (hr.mono (by decide)) hg (aq_cons (de_var 2) aq_nil) (fun k => ⟨k.1, rfl, rfl⟩)) (dh_cons (dx_callP 0 d_one (hr.mono (by decide)) hg (aq_cons (de_var 2) aq_nil) (fun k => ⟨k.1, rfl, rfl⟩)) (dh_nil (α := Int))))))) (fun looks9 => dss_cons (ds_for (GL := (fun k10 : (List (List Int)) => [some (raw (.ref pp)), some (fro (size1 : Int)), some (fro (menu2 : (List Int))), some (fro (k3.1 : Int)), some (own2 (k10 : (List (List Int)))), some (fro (looks9 : (List Int))), none, none])) (k0 := k3.2.1) (ts := [6]) PassesOwn.never rfl (di_rng1 T.range (de_var 1)) (Sub.keep (Sub.keep (Sub.keep (Sub.keep (Sub.keep (Sub.keep (Sub.keep (Sub.keep (Sub.nil))))))))) (fun k10 => dg_name 6 nd) (fun a11 k10 => dss_cons (ds_for (GL := (fun k13 : (List (List Int)) => [some (raw (.ref pp)), some (fro (size1 : Int)), some (fro (menu2 : (List Int))), some (fro (k3.1 : Int)), some (own2 (k13 : (List (List Int)))), some (fro (looks9 : (List Int))), some (fro (a11 : Int)), none])) (k0 := k10) (ts := [7]) PassesOwn.never rfl (di_rng1 T.range (de_var 6)) (Sub.keep (Sub.keep (Sub.keep (Sub.keep (Sub.keep (Sub.keep (Sub.keep (Sub.keep (Sub.nil))))))))) (fun k13 => dg_name 7 nd) (fun a14 k13 => dss_cons (ds_setII 4 (de_q (dq_ixL (dq_var 5) dq_int)) (dq_var 7) (dq_var 6)) (fun rows16 => dss_cons (ds_setII 4 (de_q (dq_ixL (dq_var 5) (dq_var 3))) (dq_var 6) (dq_var 7)) (fun rows17 => dss_done rows17 (fun k13 : (List (List Int)) => [some (raw (.ref pp)), some (fro (size1 : Int)), some (fro (menu2 : (List Int))), some (fro (k3.1 : Int)), some (own2 (k13 : (List (List Int)))), some (fro (looks9 : (List Int))), some (fro (a11 : Int)), none]) (Sub.keep (Sub.keep (Sub.keep (Sub.keep (Sub.keep (Sub.keep (Sub.keep (Sub.drop (Sub.nil))))))))))))) (fun k20 => dss_done k20 (fun k10 : (List (List Int)) => [some (raw (.ref pp)), some (fro (size1 : Int)), some (fro (menu2 : (List Int))), some (fro (k3.1 : Int)), some (own2 (k10 : (List (List Int)))), some (fro (looks9 : (List Int))), none, none]) (Sub.keep (Sub.keep (Sub.keep (Sub.keep (Sub.keep (Sub.keep (Sub.drop (Sub.keep (Sub.nil)))))))))))) (fun k21 => dss_done k21 (fun k8 : (List (List Int)) => [some (raw (.ref pp)), some (fro (size1 : Int)), some (fro (menu2 : (List Int))), some (fro (k3.1 : Int)), some (own2 (k8 : (List (List Int)))), none, none, none]) (Sub.keep (Sub.keep (Sub.keep (Sub.keep (Sub.keep (Sub.drop (Sub.keep (Sub.keep (Sub.nil)))))))))))) (dss_done k3.2.1 (fun k8 : (List (List Int)) => [some (raw (.ref pp)), some (fro (size1 : Int)), some (fro (menu2 : (List Int))), some (fro (k3.1 : Int)), some (own2 (k8 : (List (List Int)))), none, none, none]) (Sub.keep (Sub.keep (Sub.keep (Sub.keep (Sub.keep (Sub.keep (Sub.keep (Sub.keep (Sub.nil))))))))))) (fun k8 => dss_frzOO (a := (k8 : (List (List Int)))) 4 (dss_one (ds_ret (de_var 4))))))), ?_⟩
  exact fun Pr h => h
theorem ok_Pis_firm_lot {P : Program} {w : World} {K : PySem.W.Frag} {mg : Str → Option Value} {base : Heap} {f : Addr} {fd : FuncData} {qual : Str}   (Fn : Fun K "is_firm_lot" qual s_Pis_firm_lot f fd) (T : Blt mg) (d_Pis_firm : D_Pis_firm P w K mg base) (d_Ppart : D_Ppart P w K mg base)    : FnG P w K mg base CX0 6 f fd ["table", "lot"] (spF (M2 m_Pis_firm_lot) (fun r : Bool => fro r)) := by
  refine Fun.bodyF Fn sc_Pis_firm_lot (fun ds w h => by obtain ⟨_, _, rfl, _⟩ := h; rfl) (fun cdv A outer s H E hr hg ds wr hM => ?_)
  obtain ⟨table1, lot2, rfl, rfl⟩ := hM
  have hu : (A.deeper (envOfC qual (defScope s_Pis_firm_lot) s.heap.objs.size f cdv)).units + 200 < cLine := by have := hr.un; omega
  have nd := sc_Pis_firm_lot.nd
  refine ⟨Unit, _, (fun _ => []), (show DSs (cxOf CX0 P w K mg base ["table", "lot"] qual (defScope s_Pis_firm_lot) f cdv A outer s H E).nox none [some (fro (table1 : (P2 Int (Tup (Tup Int))))), some (fro (lot2 : (Tup Int)))] (nrm (fun r : Bool => fro r)) (defBody s_Pis_firm_lot) _ _ from
    dss_one (ds_ret (dx_callF d_Pis_firm (hr.mono (by decide)) hg (aq_cons (dx_callF d_Ppart (hr.mono (by decide)) hg (aq_cons (de_var 0) (aq_cons (de_var 1) aq_nil)) (fun k => ⟨k.1, k.2.1, rfl, rfl⟩)) aq_nil) (fun k => ⟨k.1, rfl, rfl⟩)))), ?_⟩
  exact fun Pr h => h
theorem ok_made {P : Program} {w : World} {K : PySem.W.Frag} {mg : Str → Option Value} {base : Heap} {f : Addr} {fd : FuncData} {qual : Str}   (Fn : Fun K "_law_made" qual s_made f fd) (T : Blt mg) (d_named : D_named P w K mg base) (d_mixed : D_mixed P w K mg base) (d_set_in : D_set_in P w K mg base) (d_draw : D_draw P w K mg base) (d_small : D_small P w K mg base)    : FnG P w K mg base CX0 6 f fd ["_law_deck_here", "_law_size", "_law_menu_here"] (spP (M2 m_made) (fun r : (List (List Int)) => fro r)) := by
  refine Fun.bodyP Fn sc_made (fun ds w h => by obtain ⟨_, _, rfl, _⟩ := h; rfl) (fun cdv A outer s H E pp pf hr hg ds wr hM => ?_)
  obtain ⟨size1, menu2, rfl, rfl⟩ := hM
  have hu : (A.deeper (envOfC qual (defScope s_made) s.heap.objs.size f cdv)).units + 200 < cLine := by have := hr.un; omega
  have nd := sc_made.nd
  refine ⟨Unit, _, (fun _ => []), (show DSs (cxOf CX0 P w K mg base ["_law_deck_here", "_law_size", "_law_menu_here", "_law_rows_here", "_law_turn", "_law_room", "_law_thing", "_law_wide"] qual (defScope s_made) f cdv A outer s H E).nox (some (pp, pf)) [some (raw (.ref pp)), some (fro (size1 : Int)), some (fro (menu2 : (List Int))), none, none, none, none, none] (nrm (fun r : (List (List Int)) => fro r)) (defBody s_made) _ _ from
    dss_cons (ds_setLcF 3 ⟨di_rng1 T.range (de_min2 rfl T.min  (de_var 1) de_int), ⟨[("_law_thing", 6)], blkOk_by (by first | rfl | decide +kernel), rfl⟩, fun _ _ _ _ _ => dg_name 6 nd, fun a4 _ _ _ _ _ => dts_nil, fun a4 _ _ _ _ _ => de_of (dx_lst (dh_cons de_int (dh_nil (α := Int)))), by decide, fun _ => Sub.off rfl, by intro _; rfl⟩ rfl nd) (fun rows3 => dss_cons (ds_for (GL := (fun k5 : (List (List Int)) => [some (raw (.ref pp)), some (fro (size1 : Int)), some (fro (menu2 : (List Int))), some (fro (k5 : (List (List Int)))), none, none, none, none])) (k0 := rows3) (ts := [4]) PassesOwn.never rfl (di_rng1 T.range (de_var 1)) (Sub.keep (Sub.keep (Sub.keep (Sub.keep (Sub.keep (Sub.keep (Sub.keep (Sub.keep (Sub.nil))))))))) (fun k5 => dg_name 4 nd) (fun a6 k5 => dss_cons (ds_set 5 nd (fun a => good_fro a) (de_sub  (de_var 1) (de_lenL T.len (de_var 3)))) (fun room8 => dss_cons (ds_if (dt_gt  (de_var 5) de_int) (dss_cons (ds_set 7 nd (fun a => good_fro a) (de_add  de_int (dx_callP 0 d_draw (hr.mono (by decide)) hg (aq_cons (de_min2 rfl T.min  (de_var 5) de_int) aq_nil) (fun k => ⟨k.1, rfl, rfl⟩)))) (fun wide11 => dss_cons (ds_set 3 nd (fun a => good_fro a) (dx_callF d_set_in (hr.mono (by decide)) hg (aq_cons (de_var 3) (aq_cons (dx_callP 0 d_draw (hr.mono (by decide)) hg (aq_cons (de_lenL T.len (de_var 3)) aq_nil) (fun k => ⟨k.1, rfl, rfl⟩)) (aq_cons (dx_callP 0 d_small (hr.mono (by decide)) hg (aq_cons (de_var 7) (aq_cons (de_var 2) aq_nil)) (fun k => ⟨k.1, k.2.1, rfl, rfl⟩)) aq_nil))) (fun k => ⟨k.1, k.2.1, k.2.2.1, rfl, rfl⟩))) (fun rows12 => dss_done rows12 (fun k10 : (List (List Int)) => [some (raw (.ref pp)), some (fro (size1 : Int)), some (fro (menu2 : (List Int))), some (fro (k10 : (List (List Int)))), some (fro (a6 : Int)), some (fro (room8 : Int)), none, none]) (Sub.keep (Sub.keep (Sub.keep (Sub.keep (Sub.keep (Sub.keep (Sub.keep (Sub.drop (Sub.nil)))))))))))) (dss_done k5 (fun k10 : (List (List Int)) => [some (raw (.ref pp)), some (fro (size1 : Int)), some (fro (menu2 : (List Int))), some (fro (k10 : (List (List Int)))), some (fro (a6 : Int)), some (fro (room8 : Int)), none, none]) (Sub.keep (Sub.keep (Sub.keep (Sub.keep (Sub.keep (Sub.keep (Sub.keep (Sub.keep (Sub.nil))))))))))) (fun k10 => dss_done k10 (fun k5 : (List (List Int)) => [some (raw (.ref pp)), some (fro (size1 : Int)), some (fro (menu2 : (List Int))), some (fro (k5 : (List (List Int)))), none, none, none, none]) (Sub.keep (Sub.keep (Sub.keep (Sub.keep (Sub.drop (Sub.drop (Sub.keep (Sub.keep (Sub.nil))))))))))))) (fun k17 => dss_one (ds_ret (de_of2 (dx_callF d_named (hr.mono (by decide)) hg (aq_cons (de_var 3) (aq_cons (dx_callP 0 d_mixed (hr.mono (by decide)) hg (aq_cons (de_of (dx_listRg1 rfl T.list T.range (de_var 1))) aq_nil) (fun k => ⟨k.1, rfl, rfl⟩)) aq_nil)) (fun k => ⟨k.1, k.2.1, rfl, rfl⟩))))))), ?_⟩
  exact fun Pr h => h
theorem ok_Pfirm_lots {P : Program} {w : World} {K : PySem.W.Frag} {mg : Str → Option Value} {base : Heap} {f : Addr} {fd : FuncData} {qual : Str}   (Fn : Fun K "firm_lots" qual s_Pfirm_lots f fd) (T : Blt mg) (d_Pall_lots : D_Pall_lots P w K mg base) (d_Pis_firm_lot : D_Pis_firm_lot P w K mg base)    : FnG P w K mg base CX0 7 f fd ["table"] (spF (M1 m_Pfirm_lots) (fun r : (Tup (Tup Int)) => fro r)) := by
  refine Fun.bodyF Fn sc_Pfirm_lots (fun ds w h => by obtain ⟨_, rfl, _⟩ := h; rfl) (fun cdv A outer s H E hr hg ds wr hM => ?_)
  obtain ⟨table1, rfl, rfl⟩ := hM
  have hu : (A.deeper (envOfC qual (defScope s_Pfirm_lots) s.heap.objs.size f cdv)).units + 200 < cLine := by have := hr.un; omega
  have nd := sc_Pfirm_lots.nd
  refine ⟨Unit, _, (fun _ => []), (show DSs (cxOf CX0 P w K mg base ["table", "lot"] qual (defScope s_Pfirm_lots) f cdv A outer s H E).nox none [some (fro (table1 : (P2 Int (Tup (Tup Int))))), none] (nrm (fun r : (Tup (Tup Int)) => fro r)) (defBody s_Pfirm_lots) _ _ from
    dss_one (ds_ret (de_tupleL T.tuple (de_of (dx_lc ⟨di_list (dx_callF d_Pall_lots (hr.mono (by decide)) hg (aq_cons (de_fst (de_var 0)) aq_nil) (fun k => ⟨k.1, rfl, rfl⟩)), ⟨[("lot", 1)], blkOk_by (by first | rfl | decide +kernel), rfl⟩, fun _ _ _ _ _ => dg_name 1 nd, fun a2 _ _ _ _ _ => dts_one (dt_val (dx_callF d_Pis_firm_lot (hr.mono (by decide)) hg (aq_cons (de_var 0) (aq_cons (de_var 1) aq_nil)) (fun k => ⟨k.1, k.2.1, rfl, rfl⟩))), fun a2 _ _ _ _ _ => de_var 1, by decide, fun _ => Sub.off rfl, by intro _; rfl⟩ rfl nd))))), ?_⟩
  exact fun Pr h => h
theorem ok_any {P : Program} {w : World} {K : PySem.W.Frag} {mg : Str → Option Value} {base : Heap} {f : Addr} {fd : FuncData} {qual : Str}   (Fn : Fun K "_law_any" qual s_any f fd) (T : Blt mg) (d_draw : D_draw P w K mg base) (d_core : D_core P w K mg base) (d_rows : D_rows P w K mg base) (d_made : D_made P w K mg base)    : FnG P w K mg base CX0 7 f fd ["_law_deck_here", "_law_size", "_law_menu_here"] (spP (M2 m_any) (fun r : (List (List Int)) => fro r)) := by
  refine Fun.bodyP Fn sc_any (fun ds w h => by obtain ⟨_, _, rfl, _⟩ := h; rfl) (fun cdv A outer s H E pp pf hr hg ds wr hM => ?_)
  obtain ⟨size1, menu2, rfl, rfl⟩ := hM
  have hu : (A.deeper (envOfC qual (defScope s_any) s.heap.objs.size f cdv)).units + 200 < cLine := by have := hr.un; omega
  have nd := sc_any.nd
  refine ⟨Unit, _, (fun _ => []), (show DSs (cxOf CX0 P w K mg base ["_law_deck_here", "_law_size", "_law_menu_here", "_law_way"] qual (defScope s_any) f cdv A outer s H E).nox (some (pp, pf)) [some (raw (.ref pp)), some (fro (size1 : Int)), some (fro (menu2 : (List Int))), none] (nrm (fun r : (List (List Int)) => fro r)) (defBody s_any) _ _ from
    dss_cons (ds_set 3 nd (fun a => good_fro a) (dx_callP 0 d_draw (hr.mono (by decide)) hg (aq_cons de_int aq_nil) (fun k => ⟨k.1, rfl, rfl⟩))) (fun way3 => dss_cons (ds_if (dt_w (dw_and (dt_eqI  (de_var 3) de_int) (dw_and1 (dt_gt  (de_var 1) de_int)))) (dss_one (ds_ret (dx_callP 0 d_core (hr.mono (by decide)) hg (aq_cons (de_var 1) (aq_cons (de_var 2) aq_nil)) (fun k => ⟨k.1, k.2.1, rfl, rfl⟩)))) (dss_done () (fun _ => _) (Sub.refl _))) (fun _ => dss_one (ds_ret (dx_if (dt_eqI  (de_var 3) de_int) (de_of2 (dx_callP 0 d_rows (hr.mono (by decide)) hg (aq_cons (de_var 1) (aq_cons (de_var 2) aq_nil)) (fun k => ⟨k.1, k.2.1, rfl, rfl⟩))) (dx_callP 0 d_made (hr.mono (by decide)) hg (aq_cons (de_var 1) (aq_cons (de_var 2) aq_nil)) (fun k => ⟨k.1, k.2.1, rfl, rfl⟩))))))), ?_⟩
  exact fun Pr h => h
theorem ok_is_right {P : Program} {w : World} {K : PySem.W.Frag} {mg : Str → Option Value} {base : Heap} {f : Addr} {fd : FuncData} {qual : Str}   (Fn : Fun K "_law_is_right" qual s_is_right f fd) (T : Blt mg) (d_Pfirm_lots : D_Pfirm_lots P w K mg base) (d_table : D_table P w K mg base) (d_paints : D_paints P w K mg base) (d_lots : D_lots P w K mg base) (d_mixed : D_mixed P w K mg base) (d_Pturned : D_Pturned P w K mg base) (d_Prenamed : D_Prenamed P w K mg base) (d_is_firm : D_is_firm P w K mg base) (d_Pis_firm : D_Pis_firm P w K mg base) (d_Ppainted : D_Ppainted P w K mg base) (d_Ppart : D_Ppart P w K mg base) (d_led : D_led P w K mg base)    : FnG P w K mg base CX0 8 f fd ["_law_deck_here", "_law_rows_here"] (spP (M1 m_is_right) (fun r : Bool => fro r)) := by
  refine Fun.bodyP Fn sc_is_right (fun ds w h => by obtain ⟨_, rfl, _⟩ := h; rfl) (fun cdv A outer s H E pp pf hr hg ds wr hM => ?_)
  obtain ⟨rows1, rfl, rfl⟩ := hM
  have hu : (A.deeper (envOfC qual (defScope s_is_right) s.heap.objs.size f cdv)).units + 200 < cLine := by have := hr.un; omega
  have nd := sc_is_right.nd
  refine ⟨Unit, _, (fun _ => []), (show DSs (cxOf CX0 P w K mg base ["_law_deck_here", "_law_rows_here", "_law_lots_here", "_law_due", "_law_found", "_law_told", "_law_table_here", "_law_size", "_law_naming", "_law_paints_here", "_law_lot"] qual (defScope s_is_right) f cdv A outer s H E).nox (some (pp, pf)) [some (raw (.ref pp)), some (fro (rows1 : (List (List Int)))), none, none, none, none, none, none, none, none, none] (nrm (fun r : Bool => fro r)) (defBody s_is_right) _ _ from
    dss_cons (ds_asgT rfl (dk_cons (fun a => good_fro a) (dx_callF d_table (hr.mono (by decide)) hg (aq_cons (de_var 1) aq_nil) (fun k => ⟨k.1, rfl, rfl⟩)) (dk_cons (fun a => good_fro a) (de_lenL T.len (de_var 1)) dk_nil)) (gn_cons 6 nd (gn_cons 7 nd gn_nil))) (fun k2 => dss_cons (ds_setLcF 2 ⟨di_list (dx_callF d_lots (hr.mono (by decide)) hg (aq_cons (de_var 7) aq_nil) (fun k => ⟨k.1, rfl, rfl⟩)), ⟨[("_law_lot", 10)], blkOk_by (by first | rfl | decide +kernel), rfl⟩, fun _ _ _ _ _ => dg_name 10 nd, fun a6 _ _ _ _ _ => dts_one (dt_gt  (de_lenT T.len (de_var 10)) de_int), fun a6 _ _ _ _ _ => de_var 10, by decide, fun _ => Sub.off rfl, by intro _; rfl⟩ rfl nd) (fun lots5 => dss_cons (ds_set 3 nd (fun a => good_fro a) (de_tupleL T.tuple (de_of (dx_lc ⟨di_list (de_var 2), ⟨[("_law_lot", 10)], blkOk_by (by first | rfl | decide +kernel), rfl⟩, fun _ _ _ _ _ => dg_name 10 nd, fun a8 _ _ _ _ _ => dts_one (dt_val (dx_callF d_is_firm (hr.mono (by decide)) hg (aq_cons (de_var 1) (aq_cons (de_var 10) aq_nil)) (fun k => ⟨k.1, k.2.1, rfl, rfl⟩))), fun a8 _ _ _ _ _ => de_var 10, by decide, fun _ => Sub.off rfl, by intro _; rfl⟩ rfl nd)))) (fun due7 => dss_cons (ds_set 4 nd (fun a => good_fro a) (dx_callF d_Pfirm_lots (hr.mono (by decide)) hg (aq_cons (de_var 6) aq_nil) (fun k => ⟨k.1, rfl, rfl⟩))) (fun found10 => dss_cons (ds_if (dt_w (dw_or (dt_neS  (de_repr T.repr hg hu (de_var 4)) (de_repr T.repr hg hu (de_var 3))) (dw_or1 (dt_neS  (de_repr T.repr hg hu (de_var 6)) (de_repr T.repr hg hu (dx_callF d_table (hr.mono (by decide)) hg (aq_cons (de_var 1) aq_nil) (fun k => ⟨k.1, rfl, rfl⟩))))))) (dss_one (ds_ret de_bool)) (dss_done () (fun _ => _) (Sub.refl _))) (fun _ => dss_cons (ds_if (dt_gt  (de_var 7) de_int) (dss_one (ds_ret de_bool)) (dss_done () (fun _ => _) (Sub.refl _))) (fun _ => dss_cons (ds_if (dt_neS  (de_repr T.repr hg hu (de_of (dx_lc ⟨di_list (de_var 2), ⟨[("_law_lot", 10)], blkOk_by (by first | rfl | decide +kernel), rfl⟩, fun _ _ _ _ _ => dg_name 10 nd, fun a11 _ _ _ _ _ => dts_nil, fun a11 _ _ _ _ _ => dx_callF d_Pis_firm (hr.mono (by decide)) hg (aq_cons (dx_callF d_Ppart (hr.mono (by decide)) hg (aq_cons (de_var 6) (aq_cons (de_var 10) aq_nil)) (fun k => ⟨k.1, k.2.1, rfl, rfl⟩)) aq_nil) (fun k => ⟨k.1, rfl, rfl⟩), by decide, fun _ => Sub.off rfl, by intro _; rfl⟩ rfl nd))) (de_repr T.repr hg hu (de_of (dx_lc ⟨di_list (de_var 2), ⟨[("_law_lot", 10)], blkOk_by (by first | rfl | decide +kernel), rfl⟩, fun _ _ _ _ _ => dg_name 10 nd, fun a12 _ _ _ _ _ => dts_nil, fun a12 _ _ _ _ _ => de_inDT hr  (de_var 10) (de_var 3), by decide, fun _ => Sub.off rfl, by intro _; rfl⟩ rfl nd)))) (dss_one (ds_ret de_bool)) (dss_done () (fun _ => _) (Sub.refl _))) (fun _ => dss_cons (ds_par (i := 8) (j := 9) rfl nd (dk_cons (fun a => good_fro a) (de_tupleL T.tuple (dx_callP 0 d_mixed (hr.mono (by decide)) hg (aq_cons (de_of (dx_listRg1 rfl T.list T.range (de_var 7))) aq_nil) (fun k => ⟨k.1, rfl, rfl⟩))) (dk_cons (fun a => good_fro a) (dx_callP 0 d_paints (hr.mono (by decide)) hg (aq_cons (de_var 1) aq_nil) (fun k => ⟨k.1, rfl, rfl⟩)) dk_nil))) (fun k13 => dss_cons (ds_set 5 nd (fun a => good_fro a) (de_of (dx_lst (dh_cons (dx_callF d_Pfirm_lots (hr.mono (by decide)) hg (aq_cons (dx_callF d_Pturned (hr.mono (by decide)) hg (aq_cons (de_var 6) aq_nil) (fun k => ⟨k.1, rfl, rfl⟩)) aq_nil) (fun k => ⟨k.1, rfl, rfl⟩)) (dh_cons (dx_callK (ks := ["table"]) (fun {α : Type} (l : List α) => l) d_Pfirm_lots (hr.mono (by decide)) hg (kq_cons (dx_callF d_Ppainted (hr.mono (by decide)) hg (aq_cons (de_var 6) (aq_cons (de_var 9) aq_nil)) (fun k => ⟨k.1, k.2.1, rfl, rfl⟩)) kq_nil) bk_Pfirm_lots (fun r _ => r) (fun _ => rfl) (fun k => ⟨k.1, rfl, rfl⟩) (fun _ _ _ r _ => r)) (dh_cons (dx_callF d_Pfirm_lots (hr.mono (by decide)) hg (aq_cons (dx_callF d_Prenamed (hr.mono (by decide)) hg (aq_cons (de_var 6) (aq_cons (de_var 8) aq_nil)) (fun k => ⟨k.1, k.2.1, rfl, rfl⟩)) aq_nil) (fun k => ⟨k.1, rfl, rfl⟩)) (dh_nil (α := (Tup (Tup Int)))))))))) (fun told16 => dss_one (ds_ret (de_and (de_eqS  (de_repr T.repr hg hu (de_var 5)) (de_repr T.repr hg hu (de_of (dx_lst (dh_cons (de_var 3) (dh_cons (de_var 3) (dh_cons (dx_callF d_led (hr.mono (by decide)) hg (aq_cons (de_var 3) (aq_cons (de_var 8) aq_nil)) (fun k => ⟨k.1, k.2.1, rfl, rfl⟩)) (dh_nil (α := (Tup (Tup Int))))))))))) (de_one (de_eqS  (de_repr T.repr hg hu (dx_callK (ks := ["table"]) (fun {α : Type} (l : List α) => l) d_Pfirm_lots (hr.mono (by decide)) hg (kq_cons (de_var 6) kq_nil) bk_Pfirm_lots (fun r _ => r) (fun _ => rfl) (fun k => ⟨k.1, rfl, rfl⟩) (fun _ _ _ r _ => r))) (de_repr T.repr hg hu (de_var 3)))))))))))))))), ?_⟩
  exact fun Pr h => h
theorem ok_law {P : Program} {w : World} {K : PySem.W.Frag} {mg : Str → Option Value} {base : Heap} {f : Addr} {fd : FuncData} {qual : Str}   (Fn : Fun K "law" qual s_law f fd) (T : Blt mg) (d_deck : D_deck P w K mg base) (d_menu : D_menu P w K mg base) (d_one : D_one P w K mg base) (d_oneL : D_oneL P w K mg base) (d_draw : D_draw P w K mg base) (d_set_in : D_set_in P w K mg base) (d_lots : D_lots P w K mg base) (d_is_right : D_is_right P w K mg base) (d_core : D_core P w K mg base) (d_any : D_any P w K mg base) (d_Pfirm_lots : D_Pfirm_lots P w K mg base) (d_table : D_table P w K mg base) (d_is_firm : D_is_firm P w K mg base)    (hlaw : m_law (fun b => b = true)) : FnG P w K mg base CX0 9 f fd ["_law_script"] (spLaw K) := by
  refine Fun.bodyLaw Fn sc_law rfl (fun cdv A outer s H E ns hr hg => ?_)
  have hu : (A.deeper (envOfC qual (defScope s_law) s.heap.objs.size f cdv)).units + 200 < cLine := by have := hr.un; omega
  have nd := sc_law.nd
  refine ⟨Unit, _, (fun _ => []), (show DSs (cxOf CX0 P w K mg base ["_law_script", "_law_deck_here", "_law_menu_here", "_law_size", "_law_pair", "_law_some", "_law_rows_here", "_law_long", "_law_due", "_law_lots_here", "_law_lot"] qual (defScope s_law) f cdv A outer s H E).nox none [some (scr K ns), none, none, none, none, none, none, none, none, none, none] (nrm fun b : Bool => fro b) (defBody s_law) _ _ from
    dss_pool (X := (cxOf CX0 P w K mg base ["_law_script", "_law_deck_here", "_law_menu_here", "_law_size", "_law_pair", "_law_some", "_law_rows_here", "_law_long", "_law_due", "_law_lots_here", "_law_lot"] qual (defScope s_law) f cdv A outer s H E).nox) (G := [some (scr K ns), none, none, none, none, none, none, none, none, none, none]) 0 1 nd d_deck (hr.mono (by decide)) hg (fun pp pf => dss_cons (ds_set 2 nd (fun a => good_fro a) (dx_callP 1 d_menu (hr.mono (by decide)) hg aq_nil (fun k => ⟨rfl, rfl⟩))) (fun menu2 => dss_cons (ds_for (GL := (fun k3 : Unit => [some (scr K ns), some (raw (.ref pp)), some (fro (menu2 : (List Int))), none, none, none, none, none, none, none, none])) (k0 := ()) (ts := [3]) PassesOwn.never rfl (di_tup (de_tup (dh_cons (dx_callP 1 d_one (hr.mono (by decide)) hg (aq_cons (de_of (dx_lst (dh_cons de_int (dh_cons de_int (dh_cons de_int (dh_cons de_int (dh_cons de_int (dh_cons de_int (dh_nil (α := Int)))))))))) aq_nil) (fun k => ⟨k.1, rfl, rfl⟩)) (dh_cons (dx_callP 1 d_draw (hr.mono (by decide)) hg (aq_cons de_int aq_nil) (fun k => ⟨k.1, rfl, rfl⟩)) (dh_nil (α := Int)))))) (Sub.keep (Sub.keep (Sub.keep (Sub.keep (Sub.keep (Sub.keep (Sub.keep (Sub.keep (Sub.keep (Sub.keep (Sub.keep (Sub.nil)))))))))))) (fun k3 => dg_name 3 nd) (fun a4 k3 => dss_cons (ds_if (dt_not (dt_val (dx_callP 1 d_is_right (hr.mono (by decide)) hg (aq_cons (dx_callP 1 d_any (hr.mono (by decide)) hg (aq_cons (de_var 3) (aq_cons (de_var 2) aq_nil)) (fun k => ⟨k.1, k.2.1, rfl, rfl⟩)) aq_nil) (fun k => ⟨k.1, rfl, rfl⟩)))) (dss_one (ds_ret de_bool)) (dss_done () (fun _ => _) (Sub.refl _))) (fun _ => dss_done () (fun k3 : Unit => [some (scr K ns), some (raw (.ref pp)), some (fro (menu2 : (List Int))), none, none, none, none, none, none, none, none]) (Sub.keep (Sub.keep (Sub.keep (Sub.drop (Sub.keep (Sub.keep (Sub.keep (Sub.keep (Sub.keep (Sub.keep (Sub.keep (Sub.nil))))))))))))))) (fun k8 => dss_cons (ds_set 4 nd (fun a => good_fro a) (de_of (dx_lst (dh_cons (de_of (dx_lst (dh_cons de_int (dh_cons (dx_callP 1 d_one (hr.mono (by decide)) hg (aq_cons (de_var 2) aq_nil) (fun k => ⟨k.1, rfl, rfl⟩)) (dh_nil (α := Int)))))) (dh_cons (de_of (dx_lst (dh_cons (dx_callP 1 d_one (hr.mono (by decide)) hg (aq_cons (de_var 2) aq_nil) (fun k => ⟨k.1, rfl, rfl⟩)) (dh_cons de_int (dh_nil (α := Int)))))) (dh_nil (α := (List Int)))))))) (fun pair9 => dss_cons (ds_set 5 nd (fun a => good_own a) (dx_lst (dh_cons (dx_callF d_set_in (hr.mono (by decide)) hg (aq_cons (de_var 4) (aq_cons (dx_callP 1 d_draw (hr.mono (by decide)) hg (aq_cons de_int aq_nil) (fun k => ⟨k.1, rfl, rfl⟩)) (aq_cons (dx_callP 1 d_core (hr.mono (by decide)) hg (aq_cons (dx_callP 1 d_one (hr.mono (by decide)) hg (aq_cons (de_of (dx_lst (dh_cons de_int (dh_cons de_int (dh_nil (α := Int)))))) aq_nil) (fun k => ⟨k.1, rfl, rfl⟩)) (aq_cons (de_var 2) aq_nil)) (fun k => ⟨k.1, k.2.1, rfl, rfl⟩)) aq_nil))) (fun k => ⟨k.1, k.2.1, k.2.2.1, rfl, rfl⟩)) (dh_nil (α := (List (List Int))))))) (fun someN10 => dss_cons (ds_app 5 (dx_callF d_set_in (hr.mono (by decide)) hg (aq_cons (dx_callP 1 d_core (hr.mono (by decide)) hg (aq_cons de_int (aq_cons (de_var 2) aq_nil)) (fun k => ⟨k.1, k.2.1, rfl, rfl⟩)) (aq_cons (dx_callP 1 d_draw (hr.mono (by decide)) hg (aq_cons de_int aq_nil) (fun k => ⟨k.1, rfl, rfl⟩)) (aq_cons (dx_callP 1 d_core (hr.mono (by decide)) hg (aq_cons de_int (aq_cons (de_var 2) aq_nil)) (fun k => ⟨k.1, k.2.1, rfl, rfl⟩)) aq_nil))) (fun k => ⟨k.1, k.2.1, k.2.2.1, rfl, rfl⟩))) (fun someN11 => dss_frzO (a := (someN11 : (List (List (List Int))))) 5 (dss_cons (ds_for (GL := (fun k12 : Unit => [some (scr K ns), some (raw (.ref pp)), some (fro (menu2 : (List Int))), none, some (fro (pair9 : (List (List Int)))), some (fro (someN11 : (List (List (List Int))))), none, none, none, none, none])) (k0 := ()) (ts := [6]) PassesOwn.never rfl (di_list (de_var 5)) (Sub.keep (Sub.keep (Sub.keep (Sub.keep (Sub.keep (Sub.keep (Sub.keep (Sub.keep (Sub.keep (Sub.keep (Sub.keep (Sub.nil)))))))))))) (fun k12 => dg_name 6 nd) (fun a13 k12 => dss_cons (ds_set 9 nd (fun a => good_fro a) (dx_callF d_lots (hr.mono (by decide)) hg (aq_cons (de_lenL T.len (de_var 6)) aq_nil) (fun k => ⟨k.1, rfl, rfl⟩))) (fun lots15 => dss_cons (ds_if (dt_neS  (de_repr T.repr hg hu (dx_callF d_Pfirm_lots (hr.mono (by decide)) hg (aq_cons (dx_callF d_table (hr.mono (by decide)) hg (aq_cons (de_var 6) aq_nil) (fun k => ⟨k.1, rfl, rfl⟩)) aq_nil) (fun k => ⟨k.1, rfl, rfl⟩))) (de_repr T.repr hg hu (de_tupleL T.tuple (de_of (dx_lc ⟨di_list (de_var 9), ⟨[("_law_lot", 10)], blkOk_by (by first | rfl | decide +kernel), rfl⟩, fun _ _ _ _ _ => dg_name 10 nd, fun a16 _ _ _ _ _ => dts_one (dt_val (dx_callF d_is_firm (hr.mono (by decide)) hg (aq_cons (de_var 6) (aq_cons (de_var 10) aq_nil)) (fun k => ⟨k.1, k.2.1, rfl, rfl⟩))), fun a16 _ _ _ _ _ => de_var 10, by decide, fun _ => Sub.off rfl, by intro _; rfl⟩ rfl nd))))) (dss_one (ds_ret de_bool)) (dss_done () (fun _ => _) (Sub.refl _))) (fun _ => dss_done () (fun k12 : Unit => [some (scr K ns), some (raw (.ref pp)), some (fro (menu2 : (List Int))), none, some (fro (pair9 : (List (List Int)))), some (fro (someN11 : (List (List (List Int))))), none, none, none, none, none]) (Sub.keep (Sub.keep (Sub.keep (Sub.keep (Sub.keep (Sub.keep (Sub.drop (Sub.keep (Sub.keep (Sub.drop (Sub.keep (Sub.nil)))))))))))))))) (fun k22 => dss_cons (ds_set 7 nd (fun a => good_fro a) (de_tup (dh_cons (de_tup (dh_cons de_int (dh_cons de_int (dh_cons de_int (dh_cons de_int (dh_cons de_int (dh_nil (α := Int)))))))) (dh_cons (de_tup (dh_cons de_int (dh_cons de_int (dh_cons de_int (dh_cons de_int (dh_cons de_int (dh_nil (α := Int)))))))) (dh_cons (de_tup (dh_cons de_int (dh_cons de_int (dh_cons de_int (dh_cons de_int (dh_cons de_int (dh_nil (α := Int)))))))) (dh_cons (de_tup (dh_cons de_int (dh_cons de_int (dh_cons de_int (dh_cons de_int (dh_cons de_int (dh_nil (α := Int)))))))) (dh_cons (de_tup (dh_cons de_int (dh_cons de_int (dh_cons de_int (dh_cons de_int (dh_cons de_int (dh_nil (α := Int)))))))) (dh_nil (α := (Tup Int)))))))))) (fun long23 => dss_cons (ds_set 8 nd (fun a => good_fro a) (de_tup (dh_cons (de_tup (dh_cons de_int (dh_cons de_int (dh_cons de_int (dh_cons de_int (dh_nil (α := Int))))))) (dh_cons (de_tup (dh_cons de_int (dh_cons de_int (dh_cons de_int (dh_cons de_int (dh_nil (α := Int))))))) (dh_cons (de_tup (dh_cons de_int (dh_cons de_int (dh_cons de_int (dh_cons de_int (dh_cons de_int (dh_nil (α := Int)))))))) (dh_nil (α := (Tup Int)))))))) (fun due24 => dss_one (ds_ret (de_eqS  (de_repr T.repr hg hu (de_of (dx_lst (dh_cons (dx_callF d_Pfirm_lots (hr.mono (by decide)) hg (aq_cons (de_t2 de_int (de_var (α := (Tup (Tup Int))) 7)) aq_nil) (fun k => ⟨k.1, rfl, rfl⟩)) (dh_cons (dx_callF d_Pfirm_lots (hr.mono (by decide)) hg (aq_cons (de_t2 de_int (de_tup (dh_nil (α := (Tup Int))))) aq_nil) (fun k => ⟨k.1, rfl, rfl⟩)) (dh_cons (dx_callF d_Pfirm_lots (hr.mono (by decide)) hg (aq_cons (de_t2 de_int (de_tup (dh_cons (de_tup (dh_cons de_int (dh_cons de_int (dh_nil (α := Int))))) (dh_cons (de_tup (dh_cons de_int (dh_cons de_int (dh_nil (α := Int))))) (dh_nil (α := (Tup Int))))))) aq_nil) (fun k => ⟨k.1, rfl, rfl⟩)) (dh_nil (α := (Tup (Tup Int)))))))))) (de_repr T.repr hg hu (de_of (dx_lst (dh_cons (de_enc (de_var 8)) (dh_cons (de_enc (de_tup (dh_nil (α := Int)))) (dh_cons (de_enc (de_tup (dh_nil (α := Int)))) (dh_nil (α := D))))))))))))))))))))), ?_⟩
  exact hlaw
end Kp

set_option Elab.async false
set_option linter.all false
set_option maxRecDepth 100000
set_option maxHeartbeats 1000000
namespace Kp
open PySem PySem.Spec PyProof.Rows L2 Dm
def Ok (n : Int) (f : Int → Int → Int) : Prop := ∀ i j, 0 ≤ i → i < n → 0 ≤ j → j < n → 0 ≤ f i j ∧ f i j ≤ 99
def IsT (n : Int) (R : List (List Int)) : Prop := (0 ≤ n ∧ n ≤ 8) ∧ ∃ f, R = mk n f ∧ Ok n f
theorem IsT.len {n : Int} {R : List (List Int)} (h : IsT n R) : (R.length : Int) = n := by
  obtain ⟨b, f, rfl, _⟩ := h
  exact map_len' b.1
theorem sm {n : Int} (h : 0 ≤ n) (h8 : n ≤ 1000) : small n := ⟨by omega, by omega⟩
theorem lr {n : Int} (h8 : n ≤ 100) : (rng 0 n).length ≤ 100000 := by rw [rng0_len]; omega
theorem s24 {n : Int} (h0 : 0 ≤ n) (h8 : n ≤ 8) : small24 0 n := ⟨sm (by omega) (by omega), sm h0 (by omega), by omega⟩
theorem s24' {n : Int} (h0 : 0 ≤ n) (h8 : n ≤ 9) : small24 0 n := ⟨sm (by omega) (by omega), sm h0 (by omega), by omega⟩
theorem wSet2_ok {n i j v : Int} {R : List (List Int)} {wj : W Int} {P : List (List Int) → Prop} (h : IsT n R) (hi : 0 ≤ i) (hi' : i < n) (hj : 0 ≤ j) (hj' : j < n) (hw : ∀ K : Int → Prop, K j → wj K) (v0 : 0 ≤ v) (v1 : v ≤ 99) (p : ∀ R', IsT n R' → P R') : wSet2 R i wj v P := by
  obtain ⟨nb, f, rfl, ok⟩ := h
  refine wSet2_mk hi hi' hj hj' hw (p _ ⟨nb, _, rfl, fun x y a b c d => ?_⟩)
  by_cases z : x = i ∧ y = j
  · rw [if_pos z]; exact ⟨v0, v1⟩
  · rw [if_neg z]; exact ok x y a b c d
theorem wIdx2_ok {n i j : Int} {R : List (List Int)} {P : Int → Prop} (h : IsT n R) (hi : 0 ≤ i) (hi' : i < n) (hj : 0 ≤ j) (hj' : j < n) (p : ∀ v, 0 ≤ v → v ≤ 99 → P v) : wIdx R i fun r => wIdx r j P := by
  obtain ⟨nb, f, rfl, ok⟩ := h
  have o := ok i j hi hi' hj hj'
  exact wIdx2 hi hi' hj hj' (p _ o.1 o.2)
theorem repsV {n v : Int} : reps ([v] : List Int) n = row n fun _ => v := by
  unfold reps row
  rw [List.flatten_replicate_singleton]
  apply List.ext_getElem?
  intro m
  rw [List.getElem?_map, rng_get, List.getElem?_replicate]
  by_cases z : m < n.toNat
  · rw [if_pos z, if_pos (by omega)]; rfl
  · rw [if_neg z, if_neg (by omega)]; rfl
theorem okc {n v : Int} (v0 : 0 ≤ v) (v1 : v ≤ 99) : Ok n fun _ _ => v := fun i j _ _ _ _ => ⟨v0, v1⟩
theorem init_ok {n : Int} {P : List (List Int) → Prop} (h0 : 0 ≤ n) (h8 : n ≤ 8) (p : ∀ R, IsT n R → P R) : small n ∧ (rng 0 n).length ≤ 100000 ∧ wFil (rng 0 n) (fun _ => wYes) (fun _ => fun K : List Int → Prop => ((-100000 ≤ n ∧ n ≤ 100000 ∧ ([(0 : Int)] : List Int).length * (Int.toNat n) ≤ 100000) ∧ K (reps ([(0 : Int)] : List Int) n))) P := by
  refine ⟨sm h0 (by omega), lr (by omega), wFil_map (g := fun _ => row n fun _ => 0) (fun a _ K hK => ⟨⟨by omega, by omega, ?_⟩, repsV ▸ hK⟩) (p _ ⟨⟨h0, h8⟩, fun _ _ => 0, rfl, okc (by omega) (by omega)⟩)⟩
  show 1 * n.toNat ≤ 100000
  omega
/-! ### drawing -/
theorem one_ok {l : List Int} {P : Int → Prop} (h0 : l ≠ []) (hl : l.length ≤ 100000) (p : ∀ x ∈ l, P x) : m_one l P := by
  have := List.length_pos_iff.mpr h0
  exact draw_ok (by omega) (by omega) fun m m0 m1 => wIdx_mem m0 m1 p
theorem oneL_ok {l : List (List Int)} {P : List Int → Prop} (h0 : l ≠ []) (hl : l.length ≤ 100000) (p : ∀ x ∈ l, P x) : m_oneL l P := by
  have := List.length_pos_iff.mpr h0
  exact draw_ok (by omega) (by omega) fun m m0 m1 => wIdx_mem m0 m1 p
structure Mn (s : List Int) : Prop where
  two : 2 ≤ s.length
  low : s.length ≤ 100
  at' : ∀ x ∈ s, 0 ≤ x ∧ x ≤ 99
theorem Mn.ne {s : List Int} (h : Mn s) : s ≠ [] := fun e => by have := h.two; rw [e] at this; simp at this
theorem Mn.one {s : List Int} {P : Int → Prop} (h : Mn s) (p : ∀ x, 0 ≤ x → x ≤ 99 → P x) : m_one s P := one_ok h.ne (by have := h.low; omega) fun x hx => p x (h.at' x hx).1 (h.at' x hx).2
theorem Mn.ix {s : List Int} {i : Int} {P : Int → Prop} (h : Mn s) (i0 : 0 ≤ i) (i1 : i < 2) (p : ∀ x, 0 ≤ x → x ≤ 99 → P x) : wIdx s i P := wIdx_mem i0 (by have := h.two; omega) fun x hx => p x (h.at' x hx).1 (h.at' x hx).2
theorem menu_ok {P : List Int → Prop} (p : ∀ s, Mn s → P s) : m_menu P := by
  refine draw_ok (by omega) (by omega) fun a a0 a1 => oneL_ok (by simp) (by show 6 ≤ 100000; omega) fun s hs => p s ?_
  simp only [List.mem_cons, List.not_mem_nil, or_false] at hs
  rcases hs with rfl | rfl | rfl | rfl | rfl | rfl
  all_goals exact ⟨by simp, by simp, fun x hx => by simp at hx; omega⟩
/-! ### names mixed -/
theorem mixed_ok {n : Int} {P : List Int → Prop} (h0 : 0 ≤ n) (h8 : n ≤ 8) (p : ∀ l, l.Perm (rng 0 n) → P l) : m_mixed (rng 0 n) P := by
  unfold m_mixed
  have ln : ((rng 0 n).length : Int) = n := by rw [rng0_len]; omega
  show small ((rng 0 n).length : Int) ∧ wFor (rng 0 ((rng 0 n).length : Int)) (rng 0 n, []) _ _
  rw [ln]
  refine ⟨sm h0 (by omega), wFor_rng h0 (fun i (k : List Int × List Int) => (k.2 ++ k.1).Perm (rng 0 n) ∧ (k.2.length : Int) = i) ⟨List.Perm.refl _, rfl⟩ (fun i k i0 i1 hk K hK => ?_) (fun k hk => p _ ?_)⟩
  · obtain ⟨hp, hl⟩ := hk
    have tot := hp.length_eq
    rw [List.length_append, rng0_len] at tot
    refine draw_ok (by omega) (by omega) fun m m0 m1 => ?_
    have hm : m.toNat < k.1.length := by omega
    refine ⟨⟨by omega, by omega⟩, m.toNat, k.1[m.toNat], ?_, List.getElem?_eq_getElem hm, by omega, hK _ ⟨?_, ?_⟩⟩
    · unfold PySem.seqIndex?
      have e1 : ¬ m < 0 := by omega
      simp only [if_neg e1]
      rw [if_pos (by rw [decide_eq_true (show 0 ≤ m by omega), decide_eq_true (show m < (k.1.length : Int) by omega)]; rfl)]
    · refine List.Perm.trans ?_ hp
      show ((k.2 ++ [k.1[m.toNat]]) ++ k.1.eraseIdx m.toNat).Perm (k.2 ++ k.1)
      rw [List.append_assoc]
      exact List.Perm.append_left _ (erase_perm hm)
    · show ((k.2 ++ [k.1[m.toNat]]).length : Int) = i + 1
      rw [List.length_append, List.length_singleton]; omega
  · obtain ⟨hp, hl⟩ := hk
    have tot := hp.length_eq
    rw [List.length_append, rng0_len] at tot
    have e : k.1 = [] := List.length_eq_zero_iff.mp (by omega)
    rw [e, List.append_nil] at hp
    exact hp
theorem names_at {n i : Int} {l : List Int} {P : Int → Prop} (h0 : 0 ≤ n) (hp : l.Perm (rng 0 n)) (i0 : 0 ≤ i) (i1 : i < n) (p : ∀ a, 0 ≤ a → a < n → P a) : wIdx l i P := by
  have := hp.length_eq
  rw [rng0_len] at this
  refine wIdx_mem i0 (by omega) fun a ha => ?_
  have := mem_rng.mp (hp.mem_iff.mp ha)
  exact p a this.1 this.2
/-! ### rows -/
def Two (y : List Int) : Prop := ∃ a b : Int, y = [a, b] ∧ (0 ≤ a ∧ a ≤ 99) ∧ (0 ≤ b ∧ b ≤ 99)
theorem Two.ix {y : List Int} {i : Int} {P : Int → Prop} (h : Two y) (i0 : 0 ≤ i) (i1 : i < 2) (p : ∀ x, 0 ≤ x → x ≤ 99 → P x) : wIdx y i P := by
  obtain ⟨a, b, rfl, ha, hb⟩ := h
  refine wIdx_mem i0 (by show i < 2; exact i1) fun x hx => ?_
  simp only [List.mem_cons, List.not_mem_nil, or_false] at hx
  rcases hx with rfl | rfl
  · exact p _ ha.1 ha.2
  · exact p _ hb.1 hb.2
theorem b01 (c : Bool) : 0 ≤ b2n c ∧ b2n c ≤ 99 := by cases c <;> exact ⟨by decide, by decide⟩
theorem rows_ok {n : Int} {s : List Int} {P : List (List Int) → Prop} (h0 : 0 ≤ n) (h8 : n ≤ 8) (hs : Mn s) (p : ∀ R, IsT n R → P R) : m_rows n s P := by
  unfold m_rows
  refine draw_ok (by omega) (by omega) fun w w0 w1 => init_ok h0 h8 fun R0 hR0 => ⟨s24 h0 h8, mixed_ok h0 h8 fun l1 hl1 => ⟨s24 h0 h8, mixed_ok h0 h8 fun l2 hl2 => ⟨sm h0 (by omega), ?_⟩⟩⟩
  refine wFor_rng h0 (fun _ R => IsT n R) hR0 (fun i R i0 i1 hR K hK => ?_) (fun R hR => p R hR)
  refine ⟨sm i0 (by omega), wFor_rng i0 (fun _ R => IsT n R) hR (fun j R j0 j1 hR K2 hK2 => ?_) (fun R hR => hK R hR)⟩
  have jn : j < n := by omega
  refine hs.one fun v v0 v1 => hs.one fun u u0 u1 => ?_
  have t0 : Two [v, u] := ⟨v, u, rfl, ⟨v0, v1⟩, u0, u1⟩
  refine cps Two (fun nx h => ⟨fun _ => t0.ix (by omega) (by omega) fun a a0 a1 => t0.ix (by omega) (by omega) fun b b0 b1 => h _ ⟨a, b, rfl, ⟨a0, a1⟩, b0, b1⟩, fun _ => h _ t0⟩) fun y1 t1 => ?_
  refine cps Two (fun nx h => ⟨fun _ => ?_, fun _ => h _ t1⟩) fun y2 t2 => ?_
  · refine cps Two (fun nx2 h2 => t1.ix (by omega) (by omega) fun a _ _ => hs.ix (by omega) (by omega) fun b _ _ => ⟨fun _ => ?_, fun _ => ?_⟩) h
    · exact hs.ix (by omega) (by omega) fun a a0 a1 => hs.ix (by omega) (by omega) fun b b0 b1 => h2 _ ⟨a, b, rfl, ⟨a0, a1⟩, b0, b1⟩
    · exact hs.ix (by omega) (by omega) fun a a0 a1 => hs.ix (by omega) (by omega) fun b b0 b1 => h2 _ ⟨a, b, rfl, ⟨a0, a1⟩, b0, b1⟩
  refine cps Two (fun nx h => ⟨fun _ => ?_, fun _ => h _ t2⟩) fun y3 t3 => ?_
  · refine cps (fun _ => True) (fun nx2 h2 => names_at h0 hl1 j0 jn fun a _ _ => names_at h0 hl1 i0 i1 fun b _ _ => ⟨fun _ => names_at h0 hl2 j0 jn fun c _ _ => names_at h0 hl2 i0 i1 fun d _ _ => h2 _ trivial, fun _ => h2 _ trivial⟩) fun c1 _ => ?_
    refine cps (fun _ => True) (fun nx2 h2 => names_at h0 hl1 i0 i1 fun a _ _ => names_at h0 hl1 j0 jn fun b _ _ => ⟨fun _ => names_at h0 hl2 i0 i1 fun c _ _ => names_at h0 hl2 j0 jn fun d _ _ => h2 _ trivial, fun _ => h2 _ trivial⟩) fun c2 _ => ?_
    exact h _ ⟨_, _, rfl, b01 c1, b01 c2⟩
  exact t3.ix (by omega) (by omega) fun a a0 a1 => wSet2_ok hR j0 jn i0 i1 (fun K h => h) a0 a1 fun R1 h1 => t3.ix (by omega) (by omega) fun b b0 b1 => wSet2_ok h1 i0 i1 j0 jn (fun K h => h) b0 b1 fun R2 h2 => hK2 R2 h2
/-! ### set in, named, turned -/
theorem set_in_ok {m k at' : Int} {R M : List (List Int)} {P : List (List Int) → Prop} (hR : IsT m R) (hM : IsT k M) (a0 : 0 ≤ at') (a1 : at' < m) (hs : m - 1 + k ≤ 8) (p : ∀ R', IsT (m - 1 + k) R' → P R') : m_set_in R at' M P := by
  have lR := hR.len
  have lM := hM.len
  obtain ⟨⟨m0, m8⟩, f, rfl, okf⟩ := hR
  obtain ⟨⟨k0, k8⟩, g, rfl, okg⟩ := hM
  unfold m_set_in
  rw [lR, lM]
  refine ⟨sm a0 (by omega), lr (by omega), wFil_map (g := fun a => P2.mk a 0) (fun a _ K hK => hK) ?_⟩
  refine ⟨sm k0 (by omega), lr (by omega), wFil_map (g := fun a => P2.mk at' a) (fun a _ K hK => hK) ?_⟩
  refine ⟨by rw [map_len, map_len]; omega, ⟨sm (by omega) (by omega), sm (by omega) (by omega)⟩, by rw [rng_len]; omega, wFil_map (g := fun a => P2.mk a 0) (fun a _ K hK => hK) ?_⟩
  have l3 : ((List.map (fun a => P2.mk a (0 : Int)) (rng (at' + 1) m)).length : Int) = m - at' - 1 := by rw [List.length_map, rng_len]; omega
  have l1 : ((List.map (fun a => P2.mk a (0 : Int)) (rng 0 at')).length : Int) = at' := map_len' a0
  have l2 : ((List.map (fun a => P2.mk at' a) (rng 0 k)).length : Int) = k := map_len' k0
  have hown : ∀ q ∈ (List.map (fun a => P2.mk a (0 : Int)) (rng 0 at') ++ List.map (fun a => P2.mk at' a) (rng 0 k)) ++ List.map (fun a => P2.mk a (0 : Int)) (rng (at' + 1) m), (q.a = at' ∧ 0 ≤ q.b ∧ q.b < k) ∨ (q.a ≠ at' ∧ 0 ≤ q.a ∧ q.a < m) := by
    intro q hq
    rw [List.mem_append, List.mem_append, List.mem_map, List.mem_map, List.mem_map] at hq
    rcases hq with (⟨a, ha, rfl⟩ | ⟨a, ha, rfl⟩) | ⟨a, ha, rfl⟩
    · rw [mem_rng] at ha
      exact .inr ⟨by show a ≠ at'; omega, by show 0 ≤ a; omega, by show a < m; omega⟩
    · rw [mem_rng] at ha
      exact .inl ⟨rfl, ha.1, ha.2⟩
    · rw [mem_rng] at ha
      exact .inr ⟨by show a ≠ at'; omega, by show 0 ≤ a; omega, by show a < m; omega⟩
  have lown : (((List.map (fun a => P2.mk a (0 : Int)) (rng 0 at') ++ List.map (fun a => P2.mk at' a) (rng 0 k)) ++ List.map (fun a => P2.mk a (0 : Int)) (rng (at' + 1) m)).length : Int) = m - 1 + k := by
    rw [List.length_append, List.length_append]; omega
  have lsum : (List.map (fun a => P2.mk a (0 : Int)) (rng 0 at') ++ List.map (fun a => P2.mk at' a) (rng 0 k)).length + (List.map (fun a => P2.mk a (0 : Int)) (rng (at' + 1) m)).length ≤ 100000 := by
    rw [List.length_append]; omega
  refine ⟨lsum, ?_⟩
  generalize ((List.map (fun a => P2.mk a (0 : Int)) (rng 0 at') ++ List.map (fun a => P2.mk at' a) (rng 0 k)) ++ List.map (fun a => P2.mk a (0 : Int)) (rng (at' + 1) m)) = own at hown lown
  let e : P2 Int Int → P2 Int Int → Int := fun p q => if p.a = at' ∧ q.a = at' then g p.b q.b else f p.a q.a
  refine wFor_app (g := fun p => own.map (e p)) (B := 1000) (by rw [List.length_nil]; omega) (fun p hp acc hacc K hK => ⟨by omega, wFil_map (g := e p) (fun q hq K2 hK2 => ?_) ⟨by omega, hK⟩⟩) ?_
  · have h1 := hown p hp
    have h2 := hown q hq
    refine cpsE (e p q) (fun nx hnx => ?_) hK2
    have far : ¬ (p.a = at' ∧ q.a = at') → wIdx (mk m f) p.a fun it20 => wIdx it20 q.a fun it21 => nx it21 := fun z => by
      have e1 : e p q = f p.a q.a := if_neg z
      exact wIdx2 (by omega) (by omega) (by omega) (by omega) (e1 ▸ hnx)
    refine ⟨fun z => ⟨fun z2 => ?_, fun z2 => far fun w => absurd z2 (by simp [w.2])⟩, fun z => ⟨fun z2 => (by cases z2), fun _ => far fun w => absurd z (by simp [w.1])⟩⟩
    have z := of_decide_eq_true z
    have z2 := of_decide_eq_true z2
    have e1 : e p q = g p.b q.b := if_pos ⟨z, z2⟩
    exact wIdx2 (by omega) (by omega) (by omega) (by omega) (e1 ▸ hnx)
  · have inst : Inhabited (P2 Int Int) := ⟨⟨0, 0⟩⟩
    have eo := as_map own
    rw [lown] at eo
    generalize ho : (fun i : Int => own.getD i.toNat default) = o at eo
    refine p _ ⟨⟨by omega, hs⟩, fun i j => e (o i) (o j), ?_, fun i j i0 i1 j0 j1 => ?_⟩
    · show [] ++ own.map (fun p => own.map (e p)) = _
      rw [List.nil_append]
      conv => lhs; rw [eo]
      rw [List.map_map]
      refine List.map_congr_left fun i _ => ?_
      show List.map (e (o i)) (List.map o (rng 0 (m - 1 + k))) = _
      rw [List.map_map]; rfl
    · have mo : ∀ i, 0 ≤ i → i < m - 1 + k → o i ∈ own := fun i i0 i1 => by
        rw [eo]
        exact List.mem_map.mpr ⟨i, mem_rng.mpr ⟨i0, i1⟩, rfl⟩
      have h1 := hown _ (mo i i0 i1)
      have h2 := hown _ (mo j j0 j1)
      show 0 ≤ e (o i) (o j) ∧ e (o i) (o j) ≤ 99
      by_cases z : (o i).a = at' ∧ (o j).a = at'
      · have e1 : e (o i) (o j) = g (o i).b (o j).b := if_pos z
        rw [e1]
        exact okg (o i).b (o j).b (by omega) (by omega) (by omega) (by omega)
      · have e1 : e (o i) (o j) = f (o i).a (o j).a := if_neg z
        rw [e1]
        exact okf (o i).a (o j).a (by omega) (by omega) (by omega) (by omega)
theorem names_fn {n : Int} {l : List Int} (h0 : 0 ≤ n) (hp : l.Perm (rng 0 n)) : ∃ g : Int → Int, l = (rng 0 n).map g ∧ (∀ x, 0 ≤ x → x < n → 0 ≤ g x ∧ g x < n) := by
  have ll := hp.length_eq
  rw [rng0_len] at ll
  have eo := as_map l
  rw [show ((l.length : Nat) : Int) = n by omega] at eo
  generalize ho : (fun i : Int => l.getD i.toNat default) = g at eo
  refine ⟨g, eo, fun x x0 x1 => ?_⟩
  have : g x ∈ l := by rw [eo]; exact List.mem_map.mpr ⟨x, mem_rng.mpr ⟨x0, x1⟩, rfl⟩
  exact mem_rng.mp (hp.mem_iff.mp this)
theorem named_ok {n : Int} {R : List (List Int)} {l : List Int} {P : List (List Int) → Prop} (hR : IsT n R) (hp : l.Perm (rng 0 n)) (p : ∀ R', IsT n R' → P R') : m_named R l P := by
  have lR := hR.len
  have b := hR.1
  obtain ⟨g, rfl, g1⟩ := names_fn b.1 hp
  unfold m_named
  refine ⟨by omega, wFil_map (g := fun r => r) (fun a _ K hK => hK) ?_⟩
  rw [List.map_id', lR]
  refine ⟨sm b.1 (by omega), wFor_rng b.1 (fun _ T => IsT n T) hR (fun i T i0 i1 hT K hK => ?_) (fun T hT => p T hT)⟩
  refine ⟨sm b.1 (by omega), wFor_rng b.1 (fun _ T => IsT n T) hT (fun j T j0 j1 hT K2 hK2 => ?_) (fun T hT => hK T hT)⟩
  exact wIdx2_ok hR i0 i1 j0 j1 fun v v0 v1 => wIdx_map i0 i1 (wSet2_ok (j := g j) hT (g1 i i0 i1).1 (g1 i i0 i1).2 (g1 j j0 j1).1 (g1 j j0 j1).2 (fun K h => wIdx_map j0 j1 h) v0 v1 hK2)
theorem fm {a n : Int} (h0 : 0 ≤ a) (h1 : a < n) : Int.fmod a n = a := by
  rw [Int.fmod_eq_emod_of_nonneg _ (by omega)]
  exact Int.emod_eq_of_lt h0 h1
theorem fm2 {a n : Int} (h0 : n ≤ a) (h1 : a < n + n) : Int.fmod a n = a - n := by
  rw [Int.fmod_eq_emod_of_nonneg _ (by omega)]
  have : (a - n) % n = a % n := Int.sub_emod_right a n
  rw [← this]
  exact Int.emod_eq_of_lt (by omega) (by omega)
theorem pair_ok {a b : Int} (ha : 0 ≤ a ∧ a ≤ 99) (hb : 0 ≤ b ∧ b ≤ 99) : IsT 2 [[(0 : Int), a], [b, 0]] := by
  refine ⟨⟨by omega, by omega⟩, fun i j => if i = j then 0 else if i = 0 then a else b, rfl, fun i j i0 i1 j0 j1 => ?_⟩
  dsimp only
  split
  · omega
  · split <;> omega
theorem zero_ok : IsT 1 [[0]] := ⟨⟨by omega, by omega⟩, fun _ _ => 0, rfl, okc (by omega) (by omega)⟩
theorem none_ok : IsT 0 [] := ⟨⟨by omega, by omega⟩, fun _ _ => 0, rfl, okc (by omega) (by omega)⟩
/-- two places of a row exchanged -/
theorem swap_perm {n : Int} {i j : Int} {P : List Int → Prop} (i0 : 0 ≤ i) (i1 : i < n) (j0 : 0 ≤ j) (j1 : j < n) (p : ∀ l, l.Perm (rng 0 n) → P l) : wIdx (rng 0 n) i fun it15 => wIdx (rng 0 n) j fun it16 => (∃ a12 b13, [it15, it16] = [a12, b13] ∧ wSet (rng 0 n) j a12 fun naming10 => wSet naming10 i b13 fun naming11 => P naming11) := by
  have e0 : (rng 0 n) = (rng 0 n).map fun x => x := (List.map_id _).symm
  rw [e0]
  refine wIdx_map i0 i1 (wIdx_map j0 j1 ⟨i, j, rfl, j.toNat, ?_, i.toNat, ?_, ?_⟩)
  · rw [map_len]; exact ixN_in j0 (by omega)
  · rw [List.length_set, map_len]; exact ixN_in i0 (by omega)
  · rw [map_set j0, map_set i0]
    let g : Int → Int := fun y => if y = i then j else if y = j then i else y
    refine p _ ?_
    show ((rng 0 n).map g).Perm (rng 0 n)
    have gg : ∀ x, g (g x) = x := fun x => by
      show (if (if x = i then j else if x = j then i else x) = i then j else if (if x = i then j else if x = j then i else x) = j then i else (if x = i then j else if x = j then i else x)) = x
      split <;> split <;> (try split at *) <;> (try split at *) <;> omega
    have gr : ∀ x, 0 ≤ x → x < n → 0 ≤ g x ∧ g x < n := fun x x0 x1 => by
      show 0 ≤ (if x = i then j else if x = j then i else x) ∧ (if x = i then j else if x = j then i else x) < n
      split
      · omega
      · split <;> omega
    have nd0 : (rng 0 n).Nodup := by
      unfold rng
      rw [List.Nodup, List.pairwise_map]
      exact List.Pairwise.imp (fun h => by omega) (List.nodup_range (n := (n - 0).toNat))
    have nd : ((rng 0 n).map g).Nodup := by
      rw [List.Nodup, List.pairwise_map]
      exact List.Pairwise.imp (fun {a b} h e => h (by rw [← gg a, ← gg b, e])) nd0
    refine (List.perm_ext_iff_of_nodup nd nd0).mpr fun a => ?_
    rw [List.mem_map]
    constructor
    · rintro ⟨x, hx, rfl⟩
      have := mem_rng.mp hx
      exact mem_rng.mpr (gr x this.1 this.2)
    · intro ha
      have := mem_rng.mp ha
      exact ⟨g a, mem_rng.mpr (gr a this.1 this.2), gg a⟩
end Kp


set_option Elab.async false
set_option linter.all false
set_option maxRecDepth 100000
set_option maxHeartbeats 1000000
namespace Kp
open PySem PySem.Spec PyProof.Rows L2 Dm
def tab (n : Int) (f : Int → Int → Int) : P2 Int (Tup (Tup Int)) := P2.mk n (Tup.mk ((rng 0 n).map fun i => Tup.mk (row n (f i))))
theorem table_ok {n : Int} {f : Int → Int → Int} {P : P2 Int (Tup (Tup Int)) → Prop} (h0 : 0 ≤ n) (h8 : n ≤ 8) (p : P (tab n f)) : m_table (mk n f) P := by
  have lR : ((mk n f).length : Int) = n := map_len' h0
  unfold m_table
  refine ⟨by omega, wFil_map (g := fun r => Tup.mk r) (fun r _ K hK => hK) ?_⟩
  rw [lR]
  unfold mk
  rw [List.map_map]
  exact p
theorem eqvAll_map {α : Type} {F G : α → D} : ∀ {as : List α}, PyData.eqvAll (as.map F) (as.map G) = as.all fun a => PyData.eqv (F a) (G a)
  | [] => rfl
  | a :: as => by
    rw [List.map_cons, List.map_cons, PyData.eqvAll, eqvAll_map, List.all_cons]
theorem enc_tab {n : Int} {f : Int → Int → Int} : enc (tab n f) = PyData.tuple [.int n, .tuple ((rng 0 n).map fun i => .tuple ((rng 0 n).map fun j => .int (f i j)))] := by
  show PyData.tuple [.int n, .tuple (((rng 0 n).map fun i => Tup.mk (row n (f i))).map enc)] = _
  rw [List.map_map]
  have : (enc ∘ fun i => Tup.mk (row n (f i))) = fun i => PyData.tuple ((rng 0 n).map fun j => .int (f i j)) := by
    funext i
    show PyData.tuple ((row n (f i)).map enc) = _
    unfold row
    rw [List.map_map]; rfl
  rw [this]
theorem tab_okd {n : Int} {f : Int → Int → Int} (h0 : 0 ≤ n) (h8 : n ≤ 8) (o : Ok n f) : Okd (enc (tab n f)) 200 3 := by
  rw [enc_tab]
  have r1 : ∀ i, 0 ≤ i → i < n → Okd (.tuple ((rng 0 n).map fun j => .int (f i j))) 8 1 := fun i i0 i1 => by
    have : Oka ((rng 0 n).map fun j => PyData.int (f i j)) (((rng 0 n).map fun j => PyData.int (f i j)).length * (0 + 1)) 0 := Oka.all fun d hd => by
      rw [List.mem_map] at hd
      obtain ⟨j, hj, rfl⟩ := hd
      rw [mem_rng] at hj
      have := o i j i0 i1 hj.1 hj.2
      exact Okd.int this.1 this.2
    have t := this.tuple
    exact ⟨t.lv, t.sh, t.nd, t.dp, Nat.le_trans t.bk (by rw [map_len]; omega), t.ly⟩
  have r2 : Okd (.tuple ((rng 0 n).map fun i => .tuple ((rng 0 n).map fun j => .int (f i j)))) 72 2 := by
    have : Oka ((rng 0 n).map fun i => PyData.tuple ((rng 0 n).map fun j => .int (f i j))) (((rng 0 n).map fun i => PyData.tuple ((rng 0 n).map fun j => .int (f i j))).length * (8 + 1)) 1 := Oka.all fun d hd => by
      rw [List.mem_map] at hd
      obtain ⟨j, hj, rfl⟩ := hd
      rw [mem_rng] at hj
      exact r1 j hj.1 hj.2
    have t := this.tuple
    exact ⟨t.lv, t.sh, t.nd, t.dp, Nat.le_trans t.bk (by rw [map_len]; omega), t.ly⟩
  have t := (Oka.cons (Okd.int h0 (by omega)) (Oka.cons r2 (Oka.nil (h := 2)) (Nat.le_refl 2)) (by omega)).tuple
  exact ⟨t.lv, t.sh, t.nd, t.dp, Nat.le_trans t.bk (show 0 + 1 + (72 + 1 + 0) ≤ 200 by omega), t.ly⟩
/-! ### what tells apart -/
structure Lot (n : Int) (l : List Int) : Prop where
  up : l.Pairwise (· < ·)
  at' : ∀ x ∈ l, 0 ≤ x ∧ x < n
def tl (f : Int → Int → Int) (z x y : Int) : Bool := !decide (f z x = f z y) || !decide (f x z = f y z)
abbrev T3 := P3 Int Int Int
/-- the first thing outside with the first two things it tells apart, the first of the lot one of them -/
def tz (f : Int → Int → Int) (l : List Int) (z : Int) : Option T3 := l.findSome? fun y => if tl f z (l.headD 0) y then some (P3.mk z (l.headD 0) y) else none
def T (n : Int) (f : Int → Int → Int) (l : List Int) : Option T3 := ((rng 0 n).filter fun z => !decide (z ∈ l)).findSome? (tz f l)
def oR {ρ : Type} (o : Option ρ) (rt : ρ → Prop) (P : Prop) : Prop := match o with
  | some r => rt r
  | none => P
theorem wFor_find {α ρ : Type} {g : α → Option ρ} {rt : ρ → Prop} {F : α → Unit → (Unit → Prop) → Prop} {P : Unit → Prop} : ∀ {as : List α}, (∀ a ∈ as, ∀ nx : Unit → Prop, oR (g a) rt (nx ()) → F a () nx) → oR (as.findSome? g) rt (P ()) → wFor as () F P
  | [], _, p => p
  | a :: as, h, p => by
    refine h a (List.mem_cons_self ..) _ ?_
    rw [List.findSome?_cons] at p
    cases e : g a with
    | none =>
      rw [e] at p
      exact wFor_find (fun b hb => h b (List.mem_cons_of_mem _ hb)) p
    | some r =>
      rw [e] at p
      exact p
theorem findSome_filter {α ρ : Type} {g : α → Option ρ} {t : α → Bool} : ∀ {as : List α}, (as.filter t).findSome? g = as.findSome? fun a => if t a then g a else none
  | [] => rfl
  | a :: as => by
    rw [List.filter_cons, List.findSome?_cons]
    cases e : t a with
    | true => rw [if_pos rfl, if_pos rfl, List.findSome?_cons, findSome_filter]
    | false => rw [if_neg Bool.false_ne_true, if_neg Bool.false_ne_true, findSome_filter]
theorem findSome_congr {α ρ : Type} {g h : α → Option ρ} : ∀ {as : List α}, (∀ a ∈ as, g a = h a) → as.findSome? g = as.findSome? h
  | [], _ => rfl
  | a :: as, e => by
    rw [List.findSome?_cons, List.findSome?_cons, e a (List.mem_cons_self ..), findSome_congr fun b hb => e b (List.mem_cons_of_mem _ hb)]
theorem findSome_none {α ρ : Type} {g : α → Option ρ} {as : List α} (h : ∀ a ∈ as, g a = none) : as.findSome? g = none := List.findSome?_eq_none_iff.mpr h
/-- .. found by all pairs -/
def gz (f : Int → Int → Int) (l : List Int) (z : Int) : Option T3 := l.findSome? fun x => l.findSome? fun y => if (!decide (z ∈ l)) && (decide (x < y) && tl f z x y) then some (P3.mk z x y) else none
theorem gz_eq {n : Int} {f : Int → Int → Int} {l : List Int} (hl : Lot n l) (z : Int) : gz f l z = if (!decide (z ∈ l)) then tz f l z else none := by
  unfold gz
  by_cases hz : z ∈ l
  · rw [decide_eq_true hz]
    exact findSome_none fun x _ => findSome_none fun y _ => rfl
  · rw [decide_eq_false hz]
    show (l.findSome? fun x => l.findSome? fun y => if (decide (x < y) && tl f z x y) then some (P3.mk z x y) else none) = tz f l z
    cases l with
    | nil => rfl
    | cons a r =>
      have up := List.pairwise_cons.mp hl.up
      have first : ((a :: r).findSome? fun y => if (decide (a < y) && tl f z a y) then some (P3.mk z a y) else none) = tz f (a :: r) z := findSome_congr fun y hy => by
        show _ = if tl f z a y then some (P3.mk z a y) else none
        rcases List.mem_cons.mp hy with e | e
        · rw [e, decide_eq_false (Int.lt_irrefl a)]
          have : tl f z a a = false := by unfold tl; rw [decide_eq_true rfl, decide_eq_true rfl]; rfl
          rw [this]; rfl
        · rw [decide_eq_true (up.1 y e), Bool.true_and]
      rw [List.findSome?_cons, first]
      cases e : tz f (a :: r) z with
      | some q => rfl
      | none =>
        show List.findSome? _ r = none
        have none' : ∀ y ∈ a :: r, tl f z a y = false := fun y hy => by
          have := List.findSome?_eq_none_iff.mp e y hy
          replace this : (if tl f z a y then some (P3.mk z a y) else none) = none := this
          cases h : tl f z a y with
          | false => rfl
          | true => rw [h] at this; cases this
        have eqs : ∀ y ∈ a :: r, f z a = f z y ∧ f a z = f y z := fun y hy => by
          have := none' y hy
          unfold tl at this
          rw [Bool.or_eq_false_iff, Bool.not_eq_false', Bool.not_eq_false'] at this
          exact ⟨of_decide_eq_true this.1, of_decide_eq_true this.2⟩
        refine findSome_none fun x hx => findSome_none fun y hy => ?_
        have h1 := eqs x (List.mem_cons_of_mem _ hx)
        have h2 := eqs y hy
        have : tl f z x y = false := by
          unfold tl
          rw [decide_eq_true (h1.1.symm.trans h2.1), decide_eq_true (h1.2.symm.trans h2.2)]; rfl
        rw [this, Bool.and_false]; rfl
theorem T_all {n : Int} {f : Int → Int → Int} {l : List Int} (hl : Lot n l) : (rng 0 n).findSome? (gz f l) = T n f l := by
  unfold T
  rw [findSome_filter]
  exact findSome_congr fun z _ => gz_eq hl z
theorem T_flip {n : Int} {f : Int → Int → Int} {l : List Int} : T n (fun x y => f y x) l = T n f l := by
  unfold T
  refine findSome_congr fun z _ => findSome_congr fun y _ => ?_
  have : tl (fun x y => f y x) z (l.headD 0) y = tl f z (l.headD 0) y := Bool.or_comm _ _
  rw [this]
theorem T_some {n : Int} {f : Int → Int → Int} {l : List Int} {q : T3} (h : T n f l = some q) : (0 ≤ q.a ∧ q.a < n) ∧ q.a ∉ l ∧ q.b ∈ l ∧ q.c ∈ l ∧ tl f q.a q.b q.c = true := by
  obtain ⟨z, hz, e⟩ := List.exists_of_findSome?_eq_some h
  obtain ⟨hz, nz⟩ := List.mem_filter.mp hz
  obtain ⟨y, hy, e⟩ := List.exists_of_findSome?_eq_some e
  replace e : (if tl f z (l.headD 0) y then some (P3.mk z (l.headD 0) y) else none) = some q := e
  by_cases t : tl f z (l.headD 0) y = true
  · rw [if_pos t] at e
    cases e
    refine ⟨mem_rng.mp hz, ?_, ?_, hy, t⟩
    · show z ∉ l
      rw [Bool.not_eq_true'] at nz
      exact of_decide_eq_false nz
    · show l.headD 0 ∈ l
      cases l with
      | nil => cases hy
      | cons a r => exact List.mem_cons_self ..
  · rw [if_neg t] at e; cases e
theorem T_none {n : Int} {f : Int → Int → Int} {l : List Int} (h : T n f l = none) : ∀ z, 0 ≤ z → z < n → z ∉ l → ∀ x ∈ l, ∀ y ∈ l, f z x = f z y ∧ f x z = f y z := by
  intro z z0 z1 nz
  have h1 := List.findSome?_eq_none_iff.mp h z (List.mem_filter.mpr ⟨mem_rng.mpr ⟨z0, z1⟩, by rw [decide_eq_false nz]; rfl⟩)
  have eqs : ∀ y ∈ l, f z (l.headD 0) = f z y ∧ f (l.headD 0) z = f y z := fun y hy => by
    have := List.findSome?_eq_none_iff.mp h1 y hy
    replace this : (if tl f z (l.headD 0) y then some (P3.mk z (l.headD 0) y) else none) = none := this
    cases t : tl f z (l.headD 0) y with
    | true => rw [t] at this; cases this
    | false =>
      unfold tl at t
      rw [Bool.or_eq_false_iff, Bool.not_eq_false', Bool.not_eq_false'] at t
      exact ⟨of_decide_eq_true t.1, of_decide_eq_true t.2⟩
  intro x hx y hy
  exact ⟨(eqs x hx).1.symm.trans (eqs y hy).1, (eqs x hx).2.symm.trans (eqs y hy).2⟩
theorem wIf_or {a b : Bool} {K : Bool → Prop} (h : K (a || b)) : wIf a (K true) (K b) := ⟨fun z => by rw [z, Bool.true_or] at h; exact h, fun z => by rw [z, Bool.false_or] at h; exact h⟩
theorem wIf_and {a b : Bool} {K : Bool → Prop} (h : K (a && b)) : wIf a (K b) (K false) := ⟨fun z => by rw [z, Bool.true_and] at h; exact h, fun z => by rw [z, Bool.false_and] at h; exact h⟩
theorem oR_if {ρ : Type} {c : Bool} {r : ρ} {rt : ρ → Prop} {P : Prop} (h : oR (if c then some r else none) rt P) : wIf c (rt r) P := ⟨fun z => by rw [z] at h; exact h, fun z => by rw [z] at h; exact h⟩
theorem outside_ok {n : Int} {l : List Int} {P : Tup Int → Prop} (h0 : 0 ≤ n) (h8 : n ≤ 8) (p : P (Tup.mk ((rng 0 n).filter fun z => !decide (z ∈ l)))) : m_Poutside n (Tup.mk l) P := by
  unfold m_Poutside
  refine ⟨sm h0 (by omega), lr (by omega), wFil_filter (g := fun a => a) (t := fun z => !decide (z ∈ l)) (fun a _ K hK => hK) (fun a _ _ K hK => hK) ?_⟩
  rw [List.map_id']
  exact p
theorem wIdx0 {α : Type} {a : α} {r : List α} {P : α → Prop} (h : P a) : wIdx (a :: r) 0 P := by
  refine ⟨a, ?_, h⟩
  unfold atI
  rw [ixN_in (Int.le_refl 0) (by rw [List.length_cons]; omega)]; rfl
theorem Ptelling_ok {n : Int} {f : Int → Int → Int} {l : List Int} {P : Option T3 → Prop} (h0 : 0 ≤ n) (h8 : n ≤ 8) (hl : Lot n l) (p : P (T n f l)) : m_Ptelling (tab n f) (Tup.mk l) P := by
  unfold m_Ptelling
  refine outside_ok h0 h8 (wFor_find (g := tz f l) (rt := fun q => P (some q)) (fun z hz nx hn => ?_) ?_)
  · have ez : 0 ≤ z ∧ z < n := mem_rng.mp (List.mem_filter.mp hz).1
    refine wFor_find (g := fun y => if tl f z (l.headD 0) y then some (P3.mk z (l.headD 0) y) else none) (rt := fun q => P (some q)) (fun y hy nx2 hn2 => ?_) hn
    cases l with
    | nil => cases hy
    | cons a r =>
      have ea := hl.at' a (List.mem_cons_self ..)
      have ey := hl.at' y hy
      have fin := oR_if (rt := fun q => P (some q)) hn2
      replace fin : wIf (tl f z a y) (P (some (P3.mk z a y))) (nx2 ()) := fin
      refine wIdx0 ?_
      show wIdx ((rng 0 n).map fun i => Tup.mk (row n (f i))) z _
      refine wIdx_map ez.1 ez.2 (wIdx_map ea.1 ea.2 (wIdx_map ez.1 ez.2 (wIdx_map ey.1 ey.2 ?_)))
      refine ⟨fun q => ?_, fun q => wIdx_map ea.1 ea.2 (wIdx_map ez.1 ez.2 (wIdx_map ey.1 ey.2 (wIdx_map ez.1 ez.2 ?_)))⟩
      · unfold tl at fin; rw [q, Bool.true_or] at fin; exact fin
      · unfold tl at fin; rw [q, Bool.false_or] at fin; exact fin
  · show oR (T n f l) _ _
    cases e : T n f l with
    | none => rw [e] at p; exact p
    | some q => rw [e] at p; exact p
def isP (n : Int) (f : Int → Int → Int) (l : List Int) : Bool := isNo (enc (T n f l))
theorem isP_none {n : Int} {f : Int → Int → Int} {l : List Int} (h : T n f l = none) : isP n f l = true := by unfold isP; rw [h]; rfl
theorem isP_some {n : Int} {f : Int → Int → Int} {l : List Int} {q : T3} (h : T n f l = some q) : isP n f l = false := by unfold isP; rw [h]; rfl
/-! ### lots -/
theorem nd_len {α : Type} [DecidableEq α] : ∀ {l m : List α}, l.Nodup → (∀ x ∈ l, x ∈ m) → l.length ≤ m.length
  | [], m, _, _ => Nat.zero_le _
  | a :: l, m, nd, sub => by
    have nd := List.nodup_cons.mp nd
    have ha := sub a (List.mem_cons_self ..)
    have := nd_len (l := l) (m := m.erase a) nd.2 fun x hx => (List.mem_erase_of_ne (fun e : x = a => nd.1 (by rw [← e]; exact hx))).mpr (sub x (List.mem_cons_of_mem _ hx))
    have e := List.length_erase_of_mem ha
    have := List.length_pos_of_mem ha
    rw [List.length_cons]
    omega
theorem Lot.len {n : Int} {l : List Int} (h : Lot n l) (h0 : 0 ≤ n) : (l.length : Int) ≤ n := by
  have nd : l.Nodup := h.up.imp fun h => by omega
  have sub : ∀ x ∈ l, x ∈ rng 0 n := fun x hx => mem_rng.mpr (h.at' x hx)
  have := nd_len nd sub
  rw [rng0_len] at this
  omega
theorem Lot.len8 {n : Int} {l : List Int} (h : Lot n l) (h0 : 0 ≤ n) (h8 : n ≤ 8) : l.length ≤ 8 := by have := h.len h0; omega
theorem rng_up {m n : Int} : (rng m n).Pairwise (· < ·) := by
  unfold rng
  rw [List.pairwise_map]
  exact List.Pairwise.imp (fun h => by omega) List.pairwise_lt_range
theorem Lot.all {n : Int} : Lot n (rng 0 n) := ⟨rng_up, fun x hx => mem_rng.mp hx⟩
theorem Lot.nil {n : Int} : Lot n [] := ⟨.nil, fun x hx => by cases hx⟩
theorem Lot.one {n x : Int} (h0 : 0 ≤ x) (h1 : x < n) : Lot n [x] := ⟨List.pairwise_singleton _ _, fun y hy => by rw [List.mem_singleton] at hy; omega⟩
theorem Lot.filter {n : Int} {l : List Int} (h : Lot n l) (t : Int → Bool) : Lot n (l.filter t) := ⟨h.up.filter t, fun x hx => h.at' x (List.mem_filter.mp hx).1⟩
theorem up_of_le {l : List Int} (h : l.Pairwise (· ≤ ·)) (nd : l.Nodup) : l.Pairwise (· < ·) := (h.and nd).imp fun ⟨a, b⟩ => by omega
/-- a thing more, and sorted -/
theorem Lot.sorted {n z : Int} {l k : List Int} (h : Lot n l) (z0 : 0 ≤ z) (z1 : z < n) (nz : z ∉ l) (hp : k.Perm (l ++ [z])) (hs : k.Pairwise (· ≤ ·)) : Lot n k := by
  have nd : (l ++ [z]).Nodup := by
    rw [List.nodup_append]
    exact ⟨h.up.imp fun h => by omega, List.pairwise_singleton _ _, fun a ha b hb => by rw [List.mem_singleton] at hb; rw [hb]; exact fun e => nz (e ▸ ha)⟩
  refine ⟨up_of_le hs (hp.nodup_iff.mpr nd), fun x hx => ?_⟩
  rcases List.mem_append.mp (hp.mem_iff.mp hx) with e | e
  · exact h.at' x e
  · rw [List.mem_singleton] at e; omega
/-! ### data that can be shown -/
theorem _root_.Dm.Okd.mono {d : D} {b b' h h' : Nat} (o : Okd d b h) (hb : b ≤ b') (hh : h ≤ h') : Okd d b' h' := ⟨o.lv, o.sh, o.nd, Nat.le_trans o.dp hh, Nat.le_trans o.bk hb, o.ly⟩
theorem _root_.Dm.Okd.non : Okd PyData.none 0 0 := ⟨rfl, rfl, rfl, Nat.le_refl 0, Nat.le_refl 0, rfl⟩
theorem _root_.Dm.Okd.lst {α : Type} [Enc α] {as : List α} {b h : Nat} (N : Nat) (o : ∀ a ∈ as, Okd (enc a) b h) (hl : as.length ≤ N) : Okd (enc as) (N * (b + 1)) (h + 1) := by
  have : Oka (as.map enc) ((as.map enc).length * (b + 1)) h := Oka.all fun d hd => by
    obtain ⟨a, ha, rfl⟩ := List.mem_map.mp hd
    exact o a ha
  exact Okd.mono this.list (Nat.mul_le_mul_right _ (by rw [List.length_map]; exact hl)) (Nat.le_refl _)
theorem _root_.Dm.Okd.tup {α : Type} [Enc α] {as : List α} {b h : Nat} (N : Nat) (o : ∀ a ∈ as, Okd (enc a) b h) (hl : as.length ≤ N) : Okd (enc (Tup.mk as)) (N * (b + 1)) (h + 1) := by
  have : Oka (as.map enc) ((as.map enc).length * (b + 1)) h := Oka.all fun d hd => by
    obtain ⟨a, ha, rfl⟩ := List.mem_map.mp hd
    exact o a ha
  exact Okd.mono this.tuple (Nat.mul_le_mul_right _ (by rw [List.length_map]; exact hl)) (Nat.le_refl _)
theorem bools_okd {l : List Bool} (h : l.length ≤ 100) : Okd (enc l) 100 1 := Okd.lst 100 (fun a _ => Okd.bool) h
theorem lot_okd {n : Int} {l : List Int} (hl : Lot n l) (h0 : 0 ≤ n) (h8 : n ≤ 8) : Okd (enc (Tup.mk l)) 8 1 := Okd.tup 8 (fun x hx => by have := hl.at' x hx; exact Okd.int this.1 (by omega)) (hl.len8 h0 h8)
theorem rows_okd {n : Int} {f : Int → Int → Int} (h0 : 0 ≤ n) (h8 : n ≤ 8) (o : Ok n f) : Okd (enc (mk n f)) 72 2 := by
  refine Okd.lst (b := 8) (h := 1) 8 (fun r hr => ?_) (by have : ((mk n f).length : Int) = n := map_len' h0; omega)
  obtain ⟨i, hi, rfl⟩ := List.mem_map.mp hr
  have hi := mem_rng.mp hi
  refine Okd.lst (b := 0) (h := 0) 8 (fun x hx => ?_) (by have : ((row n (f i)).length : Int) = n := map_len' h0; omega)
  obtain ⟨j, hj, rfl⟩ := List.mem_map.mp hx
  have hj := mem_rng.mp hj
  have := o i j hi.1 hi.2 hj.1 hj.2
  exact Okd.int this.1 this.2
theorem p3_okd {a b c : Int} (a0 : 0 ≤ a) (a1 : a ≤ 99) (b0 : 0 ≤ b) (b1 : b ≤ 99) (c0 : 0 ≤ c) (c1 : c ≤ 99) : Okd (enc (P3.mk a b c)) 3 1 := (Oka.cons (Okd.int a0 a1) (Oka.cons (Okd.int b0 b1) (Oka.cons (Okd.int c0 c1) Oka.nil (Nat.le_refl _)) (Nat.le_refl _)) (Nat.le_refl _)).tuple
theorem T_okd {n : Int} {f : Int → Int → Int} {l : List Int} (hl : Lot n l) (h8 : n ≤ 8) : Okd (enc (T n f l)) 3 1 := by
  cases e : T n f l with
  | none => exact Okd.non.mono (by omega) (by omega)
  | some q =>
    obtain ⟨⟨a0, a1⟩, _, hb, hc, _⟩ := T_some e
    have b := hl.at' _ hb
    have c := hl.at' _ hc
    exact p3_okd (a := q.a) (b := q.b) (c := q.c) a0 (by omega) b.1 (by omega) c.1 (by omega)
theorem two_okd {d e : D} {b h b' h' : Nat} (o : Okd d b h) (o' : Okd e b' h') : Okd (enc ([d, e] : List D)) (b + b' + 2) (max h h' + 1) :=
  Okd.mono (Oka.cons (o.mono (Nat.le_refl _) (Nat.le_max_left h h')) (Oka.cons (o'.mono (Nat.le_refl _) (Nat.le_max_right h h')) Oka.nil (Nat.le_refl _)) (Nat.le_refl _)).list (by omega) (by omega)
theorem wFil_each {α β : Type} {f : α → W β} {R : β → Prop} : ∀ {as : List α} {P : List β → Prop}, (∀ a ∈ as, ∀ K : β → Prop, (∀ b, R b → K b) → f a K) → (∀ bs, (∀ b ∈ bs, R b) → bs.length ≤ as.length → P bs) → wFil as (fun _ => wYes) f P
  | [], P, _, p => p [] (fun b hb => by cases hb) (Nat.le_refl _)
  | a :: as, P, h, p => ⟨fun _ => h a (List.mem_cons_self ..) _ fun b hb => wFil_each (fun c hc => h c (List.mem_cons_of_mem _ hc)) fun bs hbs hl => p (b :: bs) (fun c hc => by
      rcases List.mem_cons.mp hc with e | e
      · rw [e]; exact hb
      · exact hbs c e) (by rw [List.length_cons, List.length_cons]; omega), fun z => by cases z⟩
/-! ### the lots that are asked -/
theorem Lot.of_perm {n : Int} {l k : List Int} (nd : l.Nodup) (hr : ∀ x ∈ l, 0 ≤ x ∧ x < n) (hp : k.Perm l) (hs : k.Pairwise (· ≤ ·)) : Lot n k := ⟨up_of_le hs (hp.nodup_iff.mpr nd), fun x hx => hr x (hp.mem_iff.mp hx)⟩
theorem Lot.nd {n : Int} {l : List Int} (h : Lot n l) : l.Nodup := h.up.imp fun h => by omega
theorem same_str {α : Type} {a : α} [DecidableEq α] {A B : Prop} (h : B) : wIf (!decide (a = a)) A B := ⟨fun z => (by rw [decide_eq_true rfl] at z; cases z), fun _ => h⟩
/-! ### rising rows with the same members -/
theorem up_ext : ∀ {l k : List Int}, l.Pairwise (· < ·) → k.Pairwise (· < ·) → (∀ x, x ∈ l ↔ x ∈ k) → l = k
  | [], [], _, _, _ => rfl
  | [], b :: k, _, _, h => by cases (h b).mpr (List.mem_cons_self ..)
  | a :: l, [], _, _, h => by cases (h a).mp (List.mem_cons_self ..)
  | a :: l, b :: k, hl, hk, h => by
    have hl := List.pairwise_cons.mp hl
    have hk := List.pairwise_cons.mp hk
    have e : a = b := by
      rcases List.mem_cons.mp ((h a).mp (List.mem_cons_self ..)) with e | e
      · exact e
      · rcases List.mem_cons.mp ((h b).mpr (List.mem_cons_self ..)) with e2 | e2
        · exact e2.symm
        · have := hk.1 a e; have := hl.1 b e2; omega
    subst e
    rw [up_ext hl.2 hk.2 fun x => ⟨fun hx => ?_, fun hx => ?_⟩]
    · rcases List.mem_cons.mp ((h x).mp (List.mem_cons_of_mem _ hx)) with q | q
      · have := hl.1 x hx; omega
      · exact q
    · rcases List.mem_cons.mp ((h x).mpr (List.mem_cons_of_mem _ hx)) with q | q
      · have := hk.1 x hx; omega
      · exact q
theorem Lot.ext {n m : Int} {l k : List Int} (hl : Lot n l) (hk : Lot m k) (h : ∀ x, x ∈ l ↔ x ∈ k) : l = k := up_ext hl.up hk.up h
def ins (n : Int) (l : List Int) (z : Int) : List Int := (rng 0 n).filter fun x => decide (x ∈ l ∨ x = z)
theorem ins_mem {n z : Int} {l : List Int} (hl : Lot n l) (z0 : 0 ≤ z) (z1 : z < n) (x : Int) : x ∈ ins n l z ↔ x ∈ l ∨ x = z := by
  unfold ins
  rw [List.mem_filter, decide_eq_true_iff]
  refine ⟨fun h => h.2, fun h => ⟨mem_rng.mpr ?_, h⟩⟩
  rcases h with h | h
  · exact hl.at' x h
  · omega
theorem ins_lot {n z : Int} {l : List Int} : Lot n (ins n l z) := Lot.all.filter _
theorem ins_len {n z : Int} {l : List Int} (hl : Lot n l) (z0 : 0 ≤ z) (z1 : z < n) (nz : z ∉ l) : l.length + 1 ≤ (ins n l z).length := by
  have : (z :: l).Nodup := List.nodup_cons.mpr ⟨nz, hl.nd⟩
  exact nd_len this fun x hx => (ins_mem hl z0 z1 x).mpr (by rcases List.mem_cons.mp hx with e | e; exact .inr e; exact .inl e)
/-! ### growing -/
def G (n : Int) (f : Int → Int → Int) : Nat → List Int → List T3 × List Int
  | 0, l => ([], l)
  | m + 1, l => match T n f l with
    | none => ([], l)
    | some q => (q :: (G n f m (ins n l q.a)).1, (G n f m (ins n l q.a)).2)
theorem G_none {n : Int} {f : Int → Int → Int} {l : List Int} (h : T n f l = none) : ∀ m, G n f m l = ([], l)
  | 0 => rfl
  | m + 1 => by unfold G; rw [h]
theorem G_some {n : Int} {f : Int → Int → Int} {l : List Int} {q : T3} {m : Nat} (h : T n f l = some q) : G n f (m + 1) l = (q :: (G n f m (ins n l q.a)).1, (G n f m (ins n l q.a)).2) := by
  conv => lhs; unfold G
  rw [h]
theorem T_flipf {n : Int} {f : Int → Int → Int} {l : List Int} : T n (fun x y => f y x) l = T n f l := T_flip
theorem G_flip {n : Int} {f : Int → Int → Int} : ∀ (m : Nat) (l : List Int), G n (fun x y => f y x) m l = G n f m l
  | 0, l => rfl
  | m + 1, l => by
    cases h : T n f l with
    | none => rw [G_none h, G_none (T_flipf.trans h)]
    | some q => rw [G_some h, G_some (T_flipf.trans h), G_flip m]
theorem T_full {n : Int} {f : Int → Int → Int} {l : List Int} (hl : Lot n l) (h : n.toNat ≤ l.length) : T n f l = none := by
  cases e : T n f l with
  | none => rfl
  | some q =>
    obtain ⟨⟨a0, a1⟩, nz, _⟩ := T_some e
    have h1 := ins_len hl a0 a1 nz
    have h2 := nd_len (ins_lot (n := n) (z := q.a) (l := l)).nd (m := rng 0 n) fun x hx => mem_rng.mpr (ins_lot.at' x hx)
    rw [rng0_len] at h2
    omega
theorem G_lot {n : Int} {f : Int → Int → Int} : ∀ (m : Nat) {l : List Int}, Lot n l → Lot n (G n f m l).2
  | 0, l, h => h
  | m + 1, l, h => by
    cases e : T n f l with
    | none => rw [G_none e]; exact h
    | some q => rw [G_some e]; exact G_lot m ins_lot
theorem G_end {n : Int} {f : Int → Int → Int} : ∀ (m : Nat) {l : List Int}, Lot n l → n.toNat ≤ l.length + m → T n f (G n f m l).2 = none
  | 0, l, h, hm => T_full h hm
  | m + 1, l, h, hm => by
    cases e : T n f l with
    | none => rw [G_none e]; exact e
    | some q =>
      obtain ⟨⟨a0, a1⟩, nz, _⟩ := T_some e
      have := ins_len h a0 a1 nz
      rw [G_some e]
      exact G_end m ins_lot (by omega)
theorem G_len {n : Int} {f : Int → Int → Int} : ∀ (m : Nat) (l : List Int), (G n f m l).1.length ≤ m
  | 0, l => Nat.le_refl 0
  | m + 1, l => by
    cases e : T n f l with
    | none => rw [G_none e]; exact Nat.zero_le _
    | some q =>
      rw [G_some e]
      exact Nat.succ_le_succ (G_len m _)
theorem G_mem {n : Int} {f : Int → Int → Int} : ∀ (m : Nat) {l : List Int}, Lot n l → ∀ x, x ∈ (G n f m l).2 ↔ x ∈ l ∨ x ∈ (G n f m l).1.map fun q => q.a
  | 0, l, _, x => by show x ∈ l ↔ x ∈ l ∨ x ∈ []; simp
  | m + 1, l, h, x => by
    cases e : T n f l with
    | none => rw [G_none e]; show x ∈ l ↔ x ∈ l ∨ x ∈ []; simp
    | some q =>
      obtain ⟨⟨a0, a1⟩, nz, _⟩ := T_some e
      rw [G_some e]
      show x ∈ (G n f m (ins n l q.a)).2 ↔ x ∈ l ∨ x ∈ q.a :: (G n f m (ins n l q.a)).1.map fun q => q.a
      rw [G_mem m ins_lot, ins_mem h a0 a1, List.mem_cons, or_assoc]
theorem G_least {n : Int} {f : Int → Int → Int} : ∀ (m : Nat) {l p : List Int}, Lot n l → T n f p = none → (∀ x ∈ l, x ∈ p) → ∀ x ∈ (G n f m l).2, x ∈ p
  | 0, l, p, _, _, h => h
  | m + 1, l, p, hl, hp, h => by
    cases e : T n f l with
    | none => rw [G_none e]; exact h
    | some q =>
      obtain ⟨⟨a0, a1⟩, nz, hb, hc, ht⟩ := T_some e
      rw [G_some e]
      refine G_least m ins_lot hp fun x hx => ?_
      rcases (ins_mem hl a0 a1 x).mp hx with w | w
      · exact h x w
      · rw [w]
        by_cases z : q.a ∈ p
        · exact z
        · have t := T_none hp q.a a0 a1 z q.b (h _ hb) q.c (h _ hc)
          unfold tl at ht
          rw [decide_eq_true t.1, decide_eq_true t.2] at ht
          cases ht
def fu (n : Int) : Nat := n.toNat + 1
/-- the steps, the least piece -/
def st (n : Int) (f : Int → Int → Int) (l : List Int) : List T3 := (G n f (fu n) l).1
def cl (n : Int) (f : Int → Int → Int) (l : List Int) : List Int := (G n f (fu n) l).2
theorem cl_lot {n : Int} {f : Int → Int → Int} {l : List Int} (h : Lot n l) : Lot n (cl n f l) := G_lot _ h
theorem cl_T {n : Int} {f : Int → Int → Int} {l : List Int} (h : Lot n l) : T n f (cl n f l) = none := G_end _ h (by unfold fu; omega)
theorem cl_in {n : Int} {f : Int → Int → Int} {l : List Int} (h : Lot n l) : ∀ x ∈ l, x ∈ cl n f l := fun x hx => (G_mem _ h x).mpr (.inl hx)
theorem cl_least {n : Int} {f : Int → Int → Int} {l p : List Int} (h : Lot n l) (hp : T n f p = none) (s : ∀ x ∈ l, x ∈ p) : ∀ x ∈ cl n f l, x ∈ p := G_least _ h hp s
theorem cl_mono {n : Int} {f : Int → Int → Int} {l k : List Int} (h : Lot n l) (hk : Lot n k) (s : ∀ x ∈ l, x ∈ k) : ∀ x ∈ cl n f l, x ∈ cl n f k := cl_least h (cl_T hk) fun x hx => cl_in hk x (s x hx)
theorem st_len {n : Int} {f : Int → Int → Int} {l : List Int} (h8 : n ≤ 8) : (st n f l).length ≤ 9 := Nat.le_trans (G_len _ _) (by unfold fu; omega)
theorem joined_ok {n : Int} {l k : List Int} {P : Tup Int → Prop} (h0 : 0 ≤ n) (hl : Lot n l) (hk : ∀ x ∈ k, 0 ≤ x ∧ x < n) (n8 : n ≤ 8) (k20 : k.length ≤ 20) (p : ∀ m, Lot n m → (∀ x, x ∈ m ↔ x ∈ l ∨ x ∈ k) → P (Tup.mk m)) : m_Pjoined (Tup.mk l) (Tup.mk k) P := by
  unfold m_Pjoined
  have := hl.len8 h0 n8
  refine ⟨by show l.length + k.length ≤ 100000; omega, by show (l ++ k).length < 64; rw [List.length_append]; omega, fun so up mem => p so ⟨up, fun x hx => ?_⟩ fun x => (mem x).trans List.mem_append⟩
  rcases List.mem_append.mp ((mem x).mp hx) with e | e
  · exact hl.at' x e
  · exact hk x e
theorem grow_loop {n : Int} {f : Int → Int → Int} {Q : List T3 → Prop} (h0 : 0 ≤ n) (h8 : n ≤ 8) : ∀ (m : Nat) (l : List Int) (s : List T3), Lot n l → n.toNat ≤ l.length + m → s.length + m ≤ 1000 → Q (s ++ (G n f m l).1) →
    wWhN (m + 1) (Tup.mk l, s, T n f l) (fun (k5 : Tup Int × List T3 × Option T3) => fun K : Bool → Prop => K (!isNo (enc k5.2.2))) (fun k5 nx6 => (∃ un7, k5.2.2 = some un7 ∧ (k5.2.1.length < 100000 ∧ wLet (k5.2.1 ++ [un7]) fun steps8 => (∃ un10, k5.2.2 = some un10 ∧ m_Pjoined k5.1 (Tup.mk (cutA (Tup.mk [un10.a, un10.b, un10.c]).l none (some (1 : Int)))) fun r13 => wLet r13 fun lot9 => m_Ptelling (tab n f) lot9 fun r12 => wLet r12 fun told11 => nx6 (lot9, steps8, told11))))) (fun k14 => Q k14.2.1)
  | 0, l, s, hl, hm, _, q => by
    have e := T_full (f := f) hl (by omega)
    refine ⟨fun z => ?_, fun _ => ?_⟩
    · rw [show (Tup.mk l, s, T n f l).2.2 = none from e] at z; cases z
    · show Q s
      rw [G_none e, List.append_nil] at q
      exact q
  | m + 1, l, s, hl, hm, hs, q => by
    cases e : T n f l with
    | none =>
      refine ⟨fun z => (by cases z), fun _ => ?_⟩
      show Q s
      rw [G_none e, List.append_nil] at q
      exact q
    | some t =>
      obtain ⟨⟨a0, a1⟩, nz, _⟩ := T_some e
      have hin := ins_len hl a0 a1 nz
      refine ⟨fun _ => ⟨t, rfl, by show s.length < 100000; omega, t, rfl, ?_⟩, fun z => (by cases z)⟩
      have ec : cutA (Tup.mk [t.a, t.b, t.c]).l none (some (1 : Int)) = [t.a] := rfl
      rw [ec]
      refine joined_ok h0 hl (fun x hx => ?_) h8 (by show 1 ≤ 20; omega) fun k hk mem => ?_
      · rw [List.mem_singleton] at hx; omega
      · have ek : k = ins n l t.a := hk.ext (ins_lot (n := n)) fun x => (mem x).trans ((Iff.of_eq (by rw [List.mem_singleton])).trans (ins_mem hl a0 a1 x).symm)
        subst ek
        refine Ptelling_ok h0 h8 ins_lot (grow_loop h0 h8 m _ _ ins_lot (by omega) (by rw [List.length_append]; show s.length + 1 + m ≤ 1000; omega) ?_)
        rw [G_some e] at q
        rw [List.append_assoc]
        exact q
theorem growing_ok {n : Int} {f : Int → Int → Int} {l : List Int} {P : Tup T3 → Prop} (h0 : 0 ≤ n) (h8 : n ≤ 8) (hl : Lot n l) (p : P (Tup.mk (st n f l))) : m_Pgrowing (tab n f) (Tup.mk l) P := by
  unfold m_Pgrowing
  exact Ptelling_ok h0 h8 hl ⟨fu n + 1, grow_loop (Q := fun s => P (Tup.mk s)) h0 h8 (fu n) l [] hl (by unfold fu; omega) (by unfold fu; show 0 + (n.toNat + 1) ≤ 1000; omega) p⟩
theorem leastP_ok {n : Int} {f : Int → Int → Int} {l : List Int} {P : Tup Int → Prop} (h0 : 0 ≤ n) (h8 : n ≤ 8) (hl : Lot n l) (p : P (Tup.mk (cl n f l))) : m_Pleast_piece (tab n f) (Tup.mk l) P := by
  unfold m_Pleast_piece
  have sl := st_len (f := f) (l := l) h8
  refine growing_ok h0 h8 hl ⟨by show (st n f l).length ≤ 100000; omega, wFil_map (g := fun q : T3 => q.a) (fun a _ K h => h) (joined_ok h0 hl (fun x hx => ?_) h8 (by rw [List.length_map]; show (st n f l).length ≤ 20; omega) fun k hk mem => ?_)⟩
  · exact (cl_lot (f := f) hl).at' x ((G_mem (f := f) (fu n) hl x).mpr (.inr hx))
  · have : k = cl n f l := hk.ext (cl_lot hl) fun x => (mem x).trans (G_mem _ hl x).symm
    rw [this]; exact p
end Kp


set_option Elab.async false
set_option linter.all false
set_option maxRecDepth 100000
set_option maxHeartbeats 1000000
namespace Kp
open PySem PySem.Spec PyProof.Rows L2 Dm
/-! ### all lots, level by level -/
def pw : List Int → List (List Int)
  | [] => [[]]
  | a :: l => pw l ++ (pw l).map (a :: ·)
theorem pw_len : ∀ l : List Int, (pw l).length = 2 ^ l.length
  | [] => rfl
  | a :: l => by
    show (pw l ++ (pw l).map (a :: ·)).length = _
    rw [List.length_append, List.length_map, pw_len l, List.length_cons, Nat.pow_succ]; omega
theorem pw_mem {l k : List Int} (h : l.Sublist k) : l ∈ pw k := by
  induction h with
  | slnil => exact List.mem_singleton.mpr rfl
  | cons a s ih => exact List.mem_append_left _ ih
  | cons_cons a s ih => exact List.mem_append_right _ (List.mem_map.mpr ⟨_, ih, rfl⟩)
theorem Lot.sub {n : Int} {l : List Int} (h : Lot n l) : l.Sublist (rng 0 n) := by
  have e : l = (rng 0 n).filter fun x => decide (x ∈ l) := h.ext (Lot.all.filter _) fun x => by
    rw [List.mem_filter, decide_eq_true_iff, mem_rng]
    exact ⟨fun hx => ⟨h.at' x hx, hx⟩, fun hx => hx.2⟩
  rw [e]
  exact List.filter_sublist
structure Lev (n : Int) (k : Nat) (L : List (Tup Int)) : Prop where
  mem : ∀ t, t ∈ L ↔ Lot n t.l ∧ t.l.length = k
  nd : L.Nodup
theorem Lev.len {n : Int} {k : Nat} {L : List (Tup Int)} (h : Lev n k L) (h0 : 0 ≤ n) (h8 : n ≤ 8) : L.length ≤ 256 := by
  have nd : (L.map fun t => t.l).Nodup := by
    rw [List.Nodup, List.pairwise_map]
    exact h.nd.imp fun {a b} ne e => ne (by cases a; cases b; cases e; rfl)
  have := nd_len nd (m := pw (rng 0 n)) fun l hl => by
    obtain ⟨t, ht, rfl⟩ := List.mem_map.mp hl
    exact pw_mem ((h.mem t).mp ht).1.sub
  rw [List.length_map, pw_len, rng0_len] at this
  have p : (2 : Nat) ^ n.toNat ≤ 2 ^ 8 := Nat.pow_le_pow_right (by decide) (by omega)
  omega
def bg (l : List Int) : Int := match l.getLast? with
  | none => 0
  | some x => x + 1
theorem bg_nil : bg [] = 0 := rfl
theorem bg_last {l : List Int} {z : Int} : bg (l ++ [z]) = z + 1 := by
  unfold bg
  rw [List.getLast?_concat]
theorem bg_gt {n : Int} {l : List Int} (h : Lot n l) : ∀ a ∈ l, a < bg l := by
  rcases List.eq_nil_or_concat l with e | ⟨i, z, e⟩
  · rw [e]; exact fun a ha => by cases ha
  · subst e
    rw [List.concat_eq_append] at *
    intro a ha
    rw [bg_last]
    have p := List.pairwise_append.mp h.up
    rcases List.mem_append.mp ha with q | q
    · have := p.2.2 a q z (List.mem_singleton.mpr rfl); omega
    · rw [List.mem_singleton] at q; omega
theorem bg_0 {n : Int} {l : List Int} (h : Lot n l) : 0 ≤ bg l ∧ bg l ≤ (if l = [] then 0 else n) := by
  rcases List.eq_nil_or_concat l with e | ⟨i, z, e⟩
  · rw [e, bg_nil]; exact ⟨by omega, by rw [if_pos rfl]; omega⟩
  · subst e
    rw [List.concat_eq_append] at *
    rw [bg_last, if_neg (by simp)]
    have := h.at' z (by simp)
    omega
def nextL (n : Int) (t : Tup Int) : List (Tup Int) := (rng (bg t.l) n).map fun x => Tup.mk (t.l ++ [x])
theorem nextL_len {n : Int} {t : Tup Int} (h : Lot n t.l) (h8 : n ≤ 8) : (nextL n t).length ≤ 8 := by
  unfold nextL
  rw [List.length_map, rng_len]
  have := bg_0 h
  omega
theorem Lev.zero {n : Int} : Lev n 0 [Tup.mk []] := ⟨fun t => by
  rw [List.mem_singleton]
  constructor
  · rintro rfl; exact ⟨Lot.nil, rfl⟩
  · rintro ⟨_, h⟩; cases t; cases List.length_eq_zero_iff.mp h; rfl, by simp⟩
theorem Lev.next {n : Int} {k : Nat} {L : List (Tup Int)} (h : Lev n k L) : Lev n (k + 1) (L.flatMap (nextL n)) := by
  refine ⟨fun t => ?_, ?_⟩
  · rw [List.mem_flatMap]
    constructor
    · rintro ⟨s, hs, ht⟩
      obtain ⟨hl, lk⟩ := (h.mem s).mp hs
      obtain ⟨x, hx, rfl⟩ := List.mem_map.mp ht
      have hx := mem_rng.mp hx
      have b0 := bg_0 hl
      refine ⟨⟨List.pairwise_append.mpr ⟨hl.up, List.pairwise_singleton _ _, fun a ha b hb => ?_⟩, fun y hy => ?_⟩, ?_⟩
      · rw [List.mem_singleton] at hb
        have := bg_gt hl a ha; omega
      · rcases List.mem_append.mp hy with e | e
        · exact hl.at' y e
        · rw [List.mem_singleton] at e; omega
      · show (s.l ++ [x]).length = k + 1
        rw [List.length_append, lk]; rfl
    · rintro ⟨hl, lk⟩
      obtain ⟨l⟩ := t
      rcases List.eq_nil_or_concat l with e | ⟨i, z, e⟩
      · rw [e] at lk; cases lk
      · subst e
        rw [List.concat_eq_append] at *
        have p := List.pairwise_append.mp hl.up
        have hi : Lot n i := ⟨p.1, fun x hx => hl.at' x (List.mem_append_left _ hx)⟩
        have lk : (i ++ [z]).length = k + 1 := lk
        rw [List.length_append] at lk
        have lk : i.length + 1 = k + 1 := lk
        refine ⟨Tup.mk i, (h.mem _).mpr ⟨hi, by show i.length = k; omega⟩, List.mem_map.mpr ⟨z, mem_rng.mpr ⟨?_, (hl.at' z (by simp)).2⟩, rfl⟩⟩
        show bg i ≤ z
        rcases List.eq_nil_or_concat i with e | ⟨j, y, e⟩
        · rw [e, bg_nil]; exact (hl.at' z (by simp)).1
        · rw [e, List.concat_eq_append, bg_last]
          have := p.2.2 y (by rw [e]; simp) z (List.mem_singleton.mpr rfl)
          omega
  · rw [List.Nodup, List.pairwise_flatMap]
    refine ⟨fun t _ => ?_, h.nd.imp fun {a b} ne x hx y hy e => ?_⟩
    · unfold nextL
      rw [List.pairwise_map]
      refine rng_up.imp fun {x y} lt e => ?_
      have e : t.l ++ [x] = t.l ++ [y] := congrArg Tup.l e
      have := List.append_cancel_left e
      cases this; omega
    · obtain ⟨u, _, rfl⟩ := List.mem_map.mp hx
      obtain ⟨v, _, rfl⟩ := List.mem_map.mp hy
      have e : a.l ++ [u] = b.l ++ [v] := congrArg Tup.l e
      have := (List.append_inj' e rfl).1
      exact ne (by cases a; cases b; cases this; rfl)
theorem wIdx_last {α : Type} {l : List α} {z : α} {P : α → Prop} (h : P z) : wIdx (l ++ [z]) (-1) P := by
  refine ⟨z, ?_, h⟩
  have e : ixN (l ++ [z]).length (-1) = some l.length := by
    unfold ixN
    rw [if_neg (by omega), List.length_append]
    show (if -((l.length + 1 : Nat) : Int) ≤ -1 then some (-1 + ((l.length + 1 : Nat) : Int)).toNat else none) = _
    rw [if_pos (by omega)]
    congr 1; omega
  unfold atI
  rw [e]
  show (l ++ [z])[l.length]? = some z
  rw [List.getElem?_append_right (Nat.le_refl _), Nat.sub_self]; rfl
theorem begin_ok {l : List Int} {K : Int → Prop} (h : K (bg l)) : wIf (!l.isEmpty) (wIdx l (-(1 : Int)) fun it => K (it + (1 : Int))) (K (0 : Int)) := by
  rcases List.eq_nil_or_concat l with e | ⟨i, z, e⟩
  · subst e
    exact ⟨fun z => (by cases z), fun _ => h⟩
  · subst e
    rw [List.concat_eq_append] at *
    rw [bg_last] at h
    refine ⟨fun _ => wIdx_last h, fun z => ?_⟩
    rw [Bool.not_eq_false', List.isEmpty_iff] at z
    exact absurd z (by simp)
theorem wFor_flat {α β : Type} {F : α → List β → (List β → Prop) → Prop} {g : α → List β} {P : List β → Prop} {b M : Nat} : ∀ {as : List α} {k0 : List β}, (∀ a ∈ as, (g a).length ≤ b) → k0.length + as.length * b ≤ M → (∀ a ∈ as, ∀ k : List β, k.length ≤ M → ∀ K : List β → Prop, K (k ++ g a) → F a k K) → P (k0 ++ as.flatMap g) → wFor as k0 F P
  | [], k0, _, _, _, p => by rw [List.flatMap_nil, List.append_nil] at p; exact p
  | a :: as, k0, hb, hm, hF, p => by
    have ha := hb a (List.mem_cons_self ..)
    rw [List.length_cons, Nat.succ_mul] at hm
    refine hF a (List.mem_cons_self ..) k0 (by omega) _ (wFor_flat (g := g) (b := b) (M := M) (fun c hc => hb c (List.mem_cons_of_mem _ hc)) ?_ (fun c hc => hF c (List.mem_cons_of_mem _ hc)) ?_)
    · rw [List.length_append]; omega
    · rw [List.append_assoc, ← List.flatMap_cons]; exact p
theorem tup_eqv {t : Tup Int} : PyData.eqv (enc t) (enc (Tup.mk [] : Tup Int)) = t.l.isEmpty := by
  obtain ⟨l⟩ := t
  cases l <;> rfl
theorem lots_ok {n : Int} {P : List (Tup Int) → Prop} (h0 : 0 ≤ n) (h8 : n ≤ 8) (p : ∀ L : List (Tup Int), (∀ t, t ∈ L ↔ Lot n t.l) → L.length ≤ 3000 → P L) : m_lots n P := by
  unfold m_lots
  refine ⟨sm h0 (by omega), wFor_rng h0 (fun i (k : List (Tup Int) × List (Tup Int)) => Lev n i.toNat k.2 ∧ (∀ t, t ∈ k.1 ↔ Lot n t.l ∧ (t.l.length : Int) ≤ i) ∧ (k.1.length : Int) ≤ 256 * (i + 1)) ⟨Lev.zero, fun t => ?_, by show ((1 : Nat) : Int) ≤ _; omega⟩ (fun i k i0 i1 hk K hK => ?_) (fun k hk => p _ (fun t => ?_) (by have := hk.2.2; omega))⟩
  · rw [List.mem_singleton]
    constructor
    · rintro rfl; exact ⟨Lot.nil, by show ((0 : Nat) : Int) ≤ 0; omega⟩
    · rintro ⟨_, h⟩
      obtain ⟨l⟩ := t
      have : l = [] := List.length_eq_zero_iff.mp (by have h : ((l.length : Nat) : Int) ≤ 0 := h; omega)
      rw [this]
  · obtain ⟨lev, all, len⟩ := hk
    have ll := lev.len h0 h8
    have nx := lev.next
    have lnx := nx.len h0 h8
    refine wFor_flat (g := nextL n) (b := 8) (M := 3000) (fun t ht => nextL_len ((lev.mem t).mp ht).1 h8) (by rw [List.length_nil]; omega) (fun t ht acc hacc K2 hK2 => ?_) ?_
    · have hl := ((lev.mem t).mp ht).1
      have b0 := bg_0 hl
      have bn : bg t.l ≤ 8 := by have := b0.2; split at this <;> omega
      have l8 := hl.len8 h0 h8
      refine cpsE (bg t.l) (fun nx hnx => ⟨(lot_okd (l := t.l) hl h0 h8).eq' (by omega), (lot_okd (Lot.nil (n := n)) h0 h8).eq' (by omega), ?_⟩) ?_
      · rw [tup_eqv]; exact begin_ok hnx
      · have nl := nextL_len hl h8
        refine ⟨⟨sm b0.1 (by omega), sm h0 (by omega)⟩, by rw [rng_len]; omega, wFil_map (g := fun x => Tup.mk (t.l ++ [x])) (fun x _ K3 h3 => ⟨by show t.l.length + 1 ≤ 100000; omega, h3⟩) ⟨?_, hK2⟩⟩
        show acc.length + (nextL n t).length ≤ 100000
        omega
    · refine ⟨by show k.1.length + ([] ++ k.2.flatMap (nextL n)).length ≤ 100000; rw [List.nil_append]; omega, hK _ ⟨?_, fun t => ?_, ?_⟩⟩
      · show Lev n (i + 1).toNat ([] ++ k.2.flatMap (nextL n))
        rw [List.nil_append, show (i + 1).toNat = i.toNat + 1 by omega]; exact nx
      · show t ∈ k.1 ++ ([] ++ k.2.flatMap (nextL n)) ↔ _
        rw [List.nil_append, List.mem_append, all t, nx.mem t]
        constructor
        · rintro (⟨a, b⟩ | ⟨a, b⟩)
          · exact ⟨a, by omega⟩
          · exact ⟨a, by omega⟩
        · rintro ⟨a, b⟩
          by_cases q : (t.l.length : Int) ≤ i
          · exact .inl ⟨a, q⟩
          · exact .inr ⟨a, by omega⟩
      · show ((k.1 ++ ([] ++ k.2.flatMap (nextL n))).length : Int) ≤ _
        rw [List.nil_append, List.length_append]; omega
  · rw [hk.2.1 t]
    refine ⟨fun h => h.1, fun h => ⟨h, ?_⟩⟩
    exact h.len h0
theorem two_yes {α β γ : Type} {wi : α → W (List β)} {we : α → β → W γ} {a : α} {bs : List β} {P : List γ → Prop} {g : β → γ} (hi : ∀ K : List β → Prop, K bs → wi a K) (hb : bs.length ≤ 300) (he : ∀ b ∈ bs, ∀ K : γ → Prop, K (g b) → we a b K) (p : P (bs.map g)) : wTwo (fun _ => wYes) wi (fun _ _ => wYes) we a P :=
  ⟨fun _ => hi _ ⟨hb, wFil_map he p⟩, fun z => (by cases z)⟩
theorem lots_of_ok {n : Int} {k : Int} {P : List (Tup Int) → Prop} (h0 : 0 ≤ n) (h8 : n ≤ 8) (k0 : 0 ≤ k) (k8 : k ≤ 100) (p : ∀ L : List (Tup Int), Lev n k.toNat L → P L) : m_Plots_of n k P := by
  unfold m_Plots_of
  refine ⟨sm k0 (by omega), wFor_rng k0 (fun i (L : List (Tup Int)) => Lev n i.toNat L) Lev.zero (fun i L i0 i1 hL K hK => ⟨by have := hL.len h0 h8; omega, ?_⟩) (fun L hL => p L hL)⟩
  refine wCat_flat (g := nextL n) (fun t ht K2 hK2 => ?_) (hK _ (by rw [show (i + 1).toNat = i.toNat + 1 by omega]; exact hL.next))
  have hl := ((hL.mem t).mp ht).1
  have b0 := bg_0 hl
  have bn : bg t.l ≤ 8 := by have := b0.2; split at this <;> omega
  have l8 := hl.len8 h0 h8
  refine two_yes (bs := rng (bg t.l) n) (fun K3 h3 => cpsE (bg t.l) (fun nx hnx => begin_ok hnx) ⟨⟨sm b0.1 (by omega), sm h0 (by omega)⟩, h3⟩) (by rw [rng_len]; omega) (fun x _ K4 h4 => ⟨by show t.l.length + 1 ≤ 100000; omega, h4⟩) hK2
/-! ### the law's pieces -/
end Kp


set_option Elab.async false
set_option linter.all false
set_option maxRecDepth 100000
set_option maxHeartbeats 1000000
namespace Kp
open PySem PySem.Spec PyProof.Rows L2 Dm
theorem wFor_cnt {α κ : Type} {F : α → κ → (κ → Prop) → Prop} {P : κ → Prop} {N : Nat} (I : Nat → κ → Prop) : ∀ {as : List α} {i : Nat} {k0 : κ}, i + as.length = N → I i k0 → (∀ a ∈ as, ∀ i k, i < N → I i k → ∀ K : κ → Prop, (∀ k', I (i + 1) k' → K k') → F a k K) → (∀ k, I N k → P k) → wFor as k0 F P
  | [], i, k0, e, h0, _, hP => hP k0 (by rw [← e]; exact h0)
  | a :: as, i, k0, e, h0, hs, hP => by
    rw [List.length_cons] at e
    exact hs a (List.mem_cons_self ..) i k0 (by omega) h0 _ fun k' h' => wFor_cnt I (by omega) h' (fun b hb => hs b (List.mem_cons_of_mem _ hb)) hP
theorem ints_eq {l : List Int} : PyData.eqv (enc l) (enc ([] : List Int)) = l.isEmpty := by cases l <;> rfl
theorem ints_ok {l : List Int} (h : ∀ x ∈ l, 0 ≤ x ∧ x ≤ 99) : EqOk (enc l) := (Dm.Okd.lst (b := 0) (h := 0) l.length (fun x hx => Okd.int (h x hx).1 (h x hx).2) (Nat.le_refl _)).eq' (by omega)
def In (n : Int) (l : List Int) : Prop := ∀ x ∈ l, 0 ≤ x ∧ x < n
theorem In.app {n : Int} {l k : List Int} (h : In n l) (h2 : In n k) : In n (l ++ k) := fun x hx => by
  rcases List.mem_append.mp hx with e | e
  · exact h x e
  · exact h2 x e
theorem In.one {n a : Int} (h : 0 ≤ a ∧ a < n) : In n [a] := fun x hx => by rw [List.mem_singleton] at hx; rw [hx]; exact h
theorem In.fil {n : Int} {l : List Int} (h : In n l) (t : Int → Bool) : In n (l.filter t) := fun x hx => h x (List.mem_filter.mp hx).1
theorem In.eq' {n : Int} {l : List Int} (h : In n l) (h8 : n ≤ 8) : EqOk (enc l) := ints_ok fun x hx => by have := h x hx; omega
/-- whatever the spread tells -/
theorem spread_safe {n : Int} {f : Int → Int → Int} {l : List Int} {a b : Int} {P : List Int → Prop} (h0 : 0 ≤ n) (h8 : n ≤ 8) (hl : Lot n l) (ha : 0 ≤ a ∧ a < n) (hb : 0 ≤ b ∧ b < n) (p : ∀ r, P r) : m_spread (mk n f) (Tup.mk l) a b P := by
  have l8 := hl.len8 h0 h8
  have e0 : EqOk (enc ([] : List Int)) := ints_ok fun x hx => by cases hx
  unfold m_spread
  refine ⟨by show l.length ≤ 100000; omega, wFil_filter (g := fun a => a) (t := fun c => !decide (c ∈ [a, b])) (fun a _ K h => h) (fun a _ _ K h => h) ?_⟩
  rw [List.map_id']
  refine ⟨sm (by omega) (by show (l.length : Int) ≤ 1000; omega), wFor_cnt (N := l.length) (fun i (k : List Int × List Int) => In n k.1 ∧ k.1.length ≤ 2 + 8 * i ∧ In n k.2 ∧ k.2.length ≤ 8) (i := 0) (by rw [rng0_len]; show 0 + ((l.length : Nat) : Int).toNat = l.length; omega) ⟨(In.one ha).app (In.one hb), by show 2 ≤ _; omega, fun x hx => hl.at' x (List.mem_filter.mp hx).1, Nat.le_trans (List.length_filter_le _ _) l8⟩ (fun t _ i k iN hk K hK => ?_) (fun k _ => p _)⟩
  obtain ⟨kf, kl, kr, rl⟩ := hk
  refine wFor_cnt (N := k.2.length) (fun j (c : List Int) => c.length ≤ j ∧ In n c) (i := 0) (by omega) ⟨Nat.zero_le _, fun x hx => by cases hx⟩ (fun t ht j c jN hc K2 hK2 => ?_) (fun c hc => ?_)
  · have et := kr t ht
    refine wIdx2 et.1 et.2 ha.1 ha.2 (wIdx2 ha.1 ha.2 et.1 et.2 ?_)
    refine cps (fun c' => c'.length ≤ j + 1 ∧ In n c') (fun nx h => ⟨by omega, ?_⟩) (fun c' h => hK2 c' h)
    refine wFil_filter (g := fun a => a) (t := fun q => (!decide (f t q = f t a)) || (!decide (f q t = f a t))) (fun q hq K3 h3 => ?_) (fun a _ _ K h => h) ?_
    · have eq := kf q hq
      refine cpsE _ (fun nx2 h2 => ?_) h3
      exact wIdx2 et.1 et.2 eq.1 eq.2 ⟨fun w => by rw [w, Bool.true_or] at h2; exact h2, fun w => wIdx2 eq.1 eq.2 et.1 et.2 (by rw [w, Bool.false_or] at h2; exact h2)⟩
    · rw [List.map_id']
      refine ⟨(kf.fil _).eq' h8, e0, fun _ => ⟨by have := hc.1; omega, h _ ⟨?_, hc.2.app (In.one et)⟩⟩, fun _ => h _ ⟨by have := hc.1; omega, hc.2⟩⟩
      rw [List.length_append, List.length_singleton]; have := hc.1; omega
  · refine ⟨hc.2.eq' h8, e0, fun _ => p _, fun _ => ⟨by have := hc.1; omega, by omega, wFil_filter (g := fun a => a) (t := fun q => !decide (q ∈ c)) (fun a _ K h => h) (fun a _ _ K h => h) ?_⟩⟩
    rw [List.map_id']
    refine hK _ ⟨kf.app hc.2, ?_, kr.fil _, Nat.le_trans (List.length_filter_le _ _) rl⟩
    show (k.1 ++ c).length ≤ _
    rw [List.length_append]; have := hc.1; omega
theorem enum_mem {l : List Int} {a : Pq Int Int} (h : a ∈ enumA l) : a.b ∈ l := by
  unfold enumA at h
  obtain ⟨q, hq, rfl⟩ := List.mem_map.mp h
  have := List.mem_zipIdx hq
  rw [this.2.2]
  exact List.getElem_mem _
theorem cut_mem {l : List Int} {lo hi : Option Int} {x : Int} (h : x ∈ cutA l lo hi) : x ∈ l := by
  unfold cutA at h
  exact List.mem_of_mem_drop (List.mem_of_mem_take h)
theorem isfirm_safe {n : Int} {f : Int → Int → Int} {l : List Int} {P : Bool → Prop} (h0 : 0 ≤ n) (h8 : n ≤ 8) (hl : Lot n l) (p : ∀ r, P r) : m_is_firm (mk n f) (Tup.mk l) P := by
  unfold m_is_firm
  refine wFor_all (fun _ => True) trivial (fun a ha k _ K hK => ?_) (fun _ _ => p _)
  refine wFor_all (fun _ => True) trivial (fun b hb k _ K2 hK2 => ?_) (fun _ _ => hK _ trivial)
  exact spread_safe h0 h8 hl (hl.at' _ (enum_mem ha)) (hl.at' _ (cut_mem hb)) fun r => ⟨fun _ => p _, fun _ => hK2 _ trivial⟩
theorem core_ok {n : Int} {s : List Int} {P : List (List Int) → Prop} (h0 : 0 ≤ n) (h8 : n ≤ 8) (hs : Mn s) (p : ∀ R, IsT n R → P R) : m_core n s P := by
  unfold m_core
  refine ⟨sm (by omega) (by omega), wFor_all (fun _ => True) trivial (fun a _ k _ K hK => rows_ok h0 h8 hs fun R hR => ⟨s24 h0 h8, ?_⟩) (fun k _ => ?_)⟩
  · have hR' := hR
    obtain ⟨_, f, rfl, o⟩ := hR
    exact isfirm_safe h0 h8 Lot.all fun r => ⟨fun _ => p _ hR', fun _ => hK _ trivial⟩
  · obtain ⟨a, b, r, rfl⟩ : ∃ a b r, s = a :: b :: r := by
      have := hs.two
      match s, this with
      | a :: b :: r, _ => exact ⟨a, b, r, rfl⟩
    have ha := hs.at' a (by simp)
    refine ⟨sm h0 (by omega), lr (by omega), wFil_map (g := fun _ => row n fun _ => a) (fun _ _ K hK => wIdx0 ⟨⟨by omega, by omega, by show 1 * n.toNat ≤ 100000; omega⟩, repsV ▸ hK⟩) ?_⟩
    refine ⟨sm h0 (by omega), wFor_rng h0 (fun _ R => IsT n R) ⟨⟨h0, h8⟩, fun _ _ => a, rfl, okc ha.1 ha.2⟩ (fun i R i0 i1 hR K hK => ?_) (fun R hR => p R hR)⟩
    refine wSet2_ok hR i0 i1 i0 i1 (fun K h => h) (by omega) (by omega) fun R1 h1 => ?_
    refine cps (fun T => IsT n T) (fun nx h => ⟨fun z => ?_, fun _ => h _ h1⟩) fun T hT => hK T hT
    have z := of_decide_eq_true z
    exact hs.ix (by omega) (by omega) fun v v0 v1 => wSet2_ok h1 i0 i1 (by omega) z (fun K h => h) v0 v1 fun R2 h2 => h R2 h2
theorem small_ok {n : Int} {s : List Int} {P : List (List Int) → Prop} (h0 : 0 ≤ n) (h8 : n ≤ 8) (hs : Mn s) (p : ∀ R, IsT n R → P R) : m_small n s P := by
  unfold m_small
  refine draw_ok (by omega) (by omega) fun w w0 w1 => rows_ok h0 h8 hs fun R hR => ?_
  dsimp only [wLet]
  refine cps (fun _ => True) (fun nx h => ⟨fun _ => h _ trivial, fun _ => h _ trivial⟩) fun c _ => ⟨fun _ => core_ok h0 h8 hs p, fun _ => ?_⟩
  refine cps (fun T => IsT n T) (fun nx h => ⟨fun z => ?_, fun _ => h _ hR⟩) fun T hT => p T hT
  have z := of_decide_eq_true z
  refine hs.one fun v v0 v1 => hs.one fun u u0 u1 => ?_
  have t0 : Two [v, u] := ⟨v, u, rfl, ⟨v0, v1⟩, u0, u1⟩
  refine ⟨sm h0 (by omega), wFor_rng h0 (fun _ R => IsT n R) hR (fun i R i0 i1 hR K hK => ?_) (fun R hR => h R hR)⟩
  refine ⟨sm i0 (by omega), wFor_rng i0 (fun _ R => IsT n R) hR (fun j R j0 j1 hR K2 hK2 => ?_) (fun R hR => hK R hR)⟩
  exact t0.ix (by omega) (by omega) fun a a0 a1 => wSet2_ok hR j0 (by omega) i0 i1 (fun K h => h) a0 a1 fun R1 h1 => t0.ix w0 z fun b b0 b1 => wSet2_ok h1 i0 i1 j0 (by omega) (fun K h => h) b0 b1 fun R2 h2 => hK2 R2 h2
theorem made_ok {n : Int} {s : List Int} {P : List (List Int) → Prop} (h0 : 0 ≤ n) (h8 : n ≤ 8) (hs : Mn s) (p : ∀ R, IsT n R → P R) : m_made n s P := by
  unfold m_made
  have hq : ∃ q : Int, (if (1 : Int) < n then (1 : Int) else n) = q ∧ 0 ≤ q ∧ q ≤ 1 ∧ (0 < n → q = 1) ∧ q ≤ n := by
    split
    · exact ⟨1, rfl, by omega, by omega, fun _ => rfl, by omega⟩
    · exact ⟨n, rfl, by omega, by omega, fun _ => by omega, by omega⟩
  obtain ⟨q, eq, q0, q1, qn, ql⟩ := hq
  rw [eq]
  have start : ∃ m, IsT m ((rng 0 q).map fun _ => [(0 : Int)]) ∧ (0 < n → 1 ≤ m) ∧ m ≤ n := by
    by_cases z : q = 1
    · rw [z]; exact ⟨1, zero_ok, fun _ => by omega, by omega⟩
    · have : q = 0 := by omega
      rw [this]; exact ⟨0, none_ok, fun w => absurd (qn w) z, h0⟩
  refine ⟨sm q0 (by omega), lr (by omega), wFil_map (g := fun _ => [(0 : Int)]) (fun _ _ K hK => hK) ⟨sm h0 (by omega), ?_⟩⟩
  refine wFor_rng h0 (fun i R => ∃ m, IsT m R ∧ (0 < n → 1 ≤ m) ∧ m ≤ n ∧ (i < m ∨ m = n)) ?_ (fun i R i0 i1 hR K hK => ?_) (fun R hR => ?_)
  · obtain ⟨m, a, b, c⟩ := start
    have := a.1.1
    exact ⟨m, a, b, c, by omega⟩
  · obtain ⟨m, hm, m1, mn, hi⟩ := hR
    have lm := hm.len
    dsimp only [wLet]
    rw [lm]
    refine cps (fun T => ∃ m, IsT m T ∧ (0 < n → 1 ≤ m) ∧ m ≤ n ∧ (i + 1 < m ∨ m = n)) (fun nx h => ⟨fun z => ?_, fun z => h _ ⟨m, hm, m1, mn, .inr ?_⟩⟩) fun T hT => hK T hT
    · have z := of_decide_eq_true z
      refine draw_ok (by split <;> omega) (by split <;> omega) fun r r0 r1 => draw_ok (by omega) (by omega) fun a a0 a1 => small_ok (by omega) (by split at r1 <;> omega) hs fun M hM => set_in_ok hm hM a0 a1 (by split at r1 <;> omega) fun R' hR' => h _ ⟨_, hR', by omega, by split at r1 <;> omega, by split at r1 <;> omega⟩
    · have z := of_decide_eq_false z
      omega
  · obtain ⟨m, hm, m1, mn, hi⟩ := hR
    have e : m = n := by omega
    subst e
    exact ⟨s24 h0 h8, mixed_ok h0 h8 fun l hl => named_ok hm hl p⟩
/-! ### firm -/
def prs (n : Int) : List (List Int) := (rng 0 n).flatMap fun x => (rng (x + 1) n).map fun y => [x, y]
theorem prs_mem {n : Int} {l : List Int} : l ∈ prs n ↔ Lot n l ∧ l.length = 2 := by
  unfold prs
  rw [List.mem_flatMap]
  constructor
  · rintro ⟨x, hx, h⟩
    obtain ⟨y, hy, rfl⟩ := List.mem_map.mp h
    have hx := mem_rng.mp hx
    have hy := mem_rng.mp hy
    refine ⟨⟨by rw [List.pairwise_pair]; omega, fun z hz => ?_⟩, rfl⟩
    simp only [List.mem_cons, List.not_mem_nil, or_false] at hz
    omega
  · rintro ⟨hl, l2⟩
    match l, l2 with
    | [x, y], _ =>
      have hx := hl.at' x (by simp)
      have hy := hl.at' y (by simp)
      have lt : x < y := by have := hl.up; rw [List.pairwise_pair] at this; exact this
      exact ⟨x, mem_rng.mpr hx, List.mem_map.mpr ⟨y, mem_rng.mpr ⟨by omega, hy.2⟩, rfl⟩⟩
def firmB (n : Int) (f : Int → Int → Int) : Bool := decide (3 ≤ n) && (prs n).all fun l => decide (((cl n f l).length : Int) = n)
theorem Pfirm_ok {n : Int} {f : Int → Int → Int} {P : Bool → Prop} (h0 : 0 ≤ n) (h8 : n ≤ 8) (p : P (firmB n f)) : m_Pis_firm (tab n f) P := by
  unfold m_Pis_firm
  refine cpsE (firmB n f) (fun nx h => ⟨fun z => ?_, fun z => ?_⟩) p
  · refine lots_of_ok (k := 2) h0 h8 (by omega) (by omega) fun L hL => ⟨by have := hL.len h0 h8; omega, wFil_map (g := fun t : Tup Int => decide (((cl n f t.l).length : Int) = n)) (fun t ht K hK => leastP_ok (l := t.l) h0 h8 ((hL.mem t).mp ht).1 hK) ?_⟩
    have e : List.all (L.map fun t : Tup Int => decide (((cl n f t.l).length : Int) = n)) id = firmB n f := by
      unfold firmB
      rw [show decide (3 ≤ n) = true from z, Bool.true_and, Bool.eq_iff_iff, List.all_eq_true, List.all_eq_true]
      constructor
      · intro h l hl
        have := prs_mem.mp hl
        exact h _ (List.mem_map.mpr ⟨Tup.mk l, (hL.mem _).mpr ⟨this.1, this.2⟩, rfl⟩)
      · intro h b hb
        obtain ⟨t, ht, rfl⟩ := List.mem_map.mp hb
        have := (hL.mem t).mp ht
        exact h t.l (prs_mem.mpr ⟨this.1, this.2⟩)
    rw [e]; exact h
  · have e : firmB n f = false := by
      unfold firmB
      rw [show decide (3 ≤ n) = false from z, Bool.false_and]
    rw [e] at h; exact h
theorem isP_iff {n : Int} {f : Int → Int → Int} {l : List Int} : isP n f l = true ↔ T n f l = none := by
  cases e : T n f l with
  | none => exact ⟨fun _ => rfl, fun _ => isP_none e⟩
  | some q => rw [isP_some e]; exact ⟨fun w => (by cases w), fun w => (by cases w)⟩
/-- firm: just if no lot of two things and more, but not all, is a piece -/
theorem firm_holes {n : Int} {f : Int → Int → Int} {L : List (Tup Int)} (h0 : 0 ≤ n) (hL : ∀ t, t ∈ L ↔ Lot n t.l) : (decide (2 < n) && (L.filter fun t : Tup Int => (decide (1 < (t.l.length : Int)) && decide ((t.l.length : Int) < n)) && isP n f t.l).isEmpty) = firmB n f := by
  have e3 : decide (2 < n) = decide (3 ≤ n) := decide_eq_decide.mpr (by omega)
  unfold firmB
  rw [e3]
  by_cases h3 : 3 ≤ n
  · rw [decide_eq_true h3, Bool.true_and, Bool.true_and, Bool.eq_iff_iff, List.isEmpty_iff, List.filter_eq_nil_iff, List.all_eq_true]
    constructor
    · intro h l hl
      obtain ⟨lot, l2⟩ := prs_mem.mp hl
      have hc := cl_lot (f := f) lot
      have lc := hc.len h0
      have two : 2 ≤ (cl n f l).length := by
        have := nd_len lot.nd fun x hx => cl_in (f := f) lot x hx
        omega
      refine decide_eq_true ?_
      by_cases q : ((cl n f l).length : Int) = n
      · exact q
      · exfalso
        refine h (Tup.mk (cl n f l)) ((hL _).mpr hc) ?_
        rw [decide_eq_true (show 1 < (((Tup.mk (cl n f l)).l.length : Nat) : Int) by show 1 < ((cl n f l).length : Int); omega), decide_eq_true (show (((Tup.mk (cl n f l)).l.length : Nat) : Int) < n by show ((cl n f l).length : Int) < n; omega), isP_iff.mpr (cl_T lot)]
        rfl
    · intro h t ht z
      have lot := (hL t).mp ht
      rw [Bool.and_eq_true, Bool.and_eq_true] at z
      have z1 := of_decide_eq_true z.1.1
      have z2 := of_decide_eq_true z.1.2
      have zp := isP_iff.mp z.2
      obtain ⟨a, b, r, e⟩ : ∃ a b r, t.l = a :: b :: r := by
        match hh : t.l, z1 with
        | a :: b :: r, _ => exact ⟨a, b, r, rfl⟩
        | [a], z1 => simp at z1
        | [], z1 => simp at z1
      have ha := lot.at' a (by rw [e]; simp)
      have hb := lot.at' b (by rw [e]; simp)
      have up := lot.up
      rw [e, List.pairwise_cons] at up
      have lt := up.1 b (List.mem_cons_self ..)
      have l2 : Lot n [a, b] := ⟨by rw [List.pairwise_pair]; exact lt, fun x hx => by simp only [List.mem_cons, List.not_mem_nil, or_false] at hx; omega⟩
      have q := of_decide_eq_true (h [a, b] (prs_mem.mpr ⟨l2, rfl⟩))
      have sub := cl_least l2 zp fun x hx => by
        simp only [List.mem_cons, List.not_mem_nil, or_false] at hx
        rw [e]
        rcases hx with w | w <;> rw [w] <;> simp
      have := nd_len (cl_lot (f := f) l2).nd sub
      omega
  · rw [decide_eq_false h3, Bool.false_and, Bool.false_and]
theorem lots_eqv {L : List (Tup Int)} : PyData.eqv (enc L) (enc ([] : List (Tup Int))) = L.isEmpty := by cases L <;> rfl
theorem reps_true {α : Type} {l : List α} : reps ([true] : List Bool) (l.length : Int) = l.map fun _ => true := by
  unfold reps
  rw [List.flatten_replicate_singleton, Int.toNat_natCast, List.map_const']
end Kp


set_option Elab.async false
set_option linter.all false
/-! Sets of things that no other can tell apart: the firm ones grow by one or two things. Nothing of the program here. -/
namespace Ff
variable {f : Int → Int → Int}
abbrev St := Int → Prop
/-- no thing of S outside A tells two of A apart -/
def Pc (f : Int → Int → Int) (S A : St) : Prop := (∀ x, A x → S x) ∧ ∀ z, S z → ¬ A z → ∀ x y, A x → A y → f z x = f z y ∧ f x z = f y z
structure Firm (f : Int → Int → Int) (S : St) : Prop where
  three : ∃ a b c, S a ∧ S b ∧ S c ∧ a ≠ b ∧ a ≠ c ∧ b ≠ c
  pcs : ∀ A, Pc f S A → (∃ x y, A x ∧ A y ∧ x ≠ y) → ∀ s, S s → A s
def add (S : St) (y : Int) : St := fun x => S x ∨ x = y
theorem Pc.meet {S S' A : St} (h : Pc f S A) (s : ∀ x, S' x → S x) : Pc f S' fun x => A x ∧ S' x := ⟨fun x hx => hx.2, fun z hz na x y hx hy => h.2 z (s z hz) (fun a => na ⟨a, hz⟩) x y hx.1 hy.1⟩
/-- two of X look alike to all others of X: not in a firm X -/
theorem no_two {X : St} (F : Firm f X) {u w : Int} (hu : X u) (hw : X w) (ne : u ≠ w) (h : ∀ t, X t → t ≠ u → t ≠ w → f t u = f t w ∧ f u t = f w t) : False := by
  have p : Pc f X fun x => x = u ∨ x = w := ⟨fun x hx => hx.elim (fun e => e ▸ hu) fun e => e ▸ hw, fun z hz na x y hx hy => by
    have nu : z ≠ u := fun e => na (.inl e)
    have nw : z ≠ w := fun e => na (.inr e)
    have k := h z hz nu nw
    rcases hx with rfl | rfl <;> rcases hy with rfl | rfl
    · exact ⟨rfl, rfl⟩
    · exact k
    · exact ⟨k.1.symm, k.2.symm⟩
    · exact ⟨rfl, rfl⟩⟩
  have all := F.pcs _ p ⟨u, w, .inl rfl, .inr rfl, ne⟩
  obtain ⟨a, b, c, ha, hb, hc, ab, ac, bc⟩ := F.three
  rcases all a ha with e1 | e1 <;> rcases all b hb with e2 | e2 <;> rcases all c hc with e3 | e3 <;> subst e1 <;> first | (exact ab e2.symm) | (exact ac e3.symm) | (exact bc (e2.trans e3.symm))
/-- u sees all others of X alike: not in a firm X -/
theorem no_one {X : St} (F : Firm f X) {u : Int} (hu : X u) (h : ∀ s t, X s → X t → s ≠ u → t ≠ u → f u s = f u t ∧ f s u = f t u) : False := by
  have p : Pc f X fun x => X x ∧ x ≠ u := ⟨fun x hx => hx.1, fun z hz na x y hx hy => by
    have e : z = u := by
      apply Classical.byContradiction
      intro n
      exact na ⟨hz, n⟩
    subst e
    exact h x y hx.1 hy.1 hx.2 hy.2⟩
  obtain ⟨a, b, c, ha, hb, hc, ab, ac, bc⟩ := F.three
  have two : ∃ x y, (X x ∧ x ≠ u) ∧ (X y ∧ y ≠ u) ∧ x ≠ y := by
    by_cases ea : a = u
    · exact ⟨b, c, ⟨hb, fun e => ab (ea.trans e.symm)⟩, ⟨hc, fun e => ac (ea.trans e.symm)⟩, bc⟩
    · by_cases eb : b = u
      · exact ⟨a, c, ⟨ha, ea⟩, ⟨hc, fun e => bc (eb.trans e.symm)⟩, ac⟩
      · exact ⟨a, b, ⟨ha, ea⟩, ⟨hb, eb⟩, ab⟩
  exact (F.pcs _ p two u hu).2 rfl
/-- X looks alike to y -/
def Alike (f : Int → Int → Int) (X : St) (y : Int) : Prop := ∀ s t, X s → X t → f y s = f y t ∧ f s y = f t y
/-- y looks as u to all others of X -/
def Like (f : Int → Int → Int) (X : St) (y u : Int) : Prop := ∀ t, X t → t ≠ u → f t y = f t u ∧ f y t = f u t
/-- the three ways in which a thing stands to a firm lot -/
theorem stands {X : St} (F : Firm f X) {y : Int} (hy : ¬ X y) (no : ¬ Firm f (add X y)) : Alike f X y ∨ ∃ u, X u ∧ Like f X y u := by
  apply Classical.byContradiction
  intro neg
  apply no
  obtain ⟨a, b, c, ha, hb, hc, ab, ac, bc⟩ := F.three
  refine ⟨⟨a, b, c, .inl ha, .inl hb, .inl hc, ab, ac, bc⟩, fun A pA two => ?_⟩
  have pX := pA.meet (S' := X) fun x hx => .inl hx
  by_cases t2 : ∃ x z, (A x ∧ X x) ∧ (A z ∧ X z) ∧ x ≠ z
  · -- all of X
    have all := F.pcs _ pX t2
    by_cases ay : A y
    · intro s hs
      rcases hs with hs | rfl
      · exact (all s hs).1
      · exact ay
    · exact (neg (.inl fun s t hs ht => pA.2 y (.inr rfl) ay s t (all s hs).1 (all t ht).1)).elim
  · -- at most one of X
    have one : ∀ x z, A x → X x → A z → X z → x = z := fun x z a1 x1 a2 x2 => by
      apply Classical.byContradiction
      intro n
      exact t2 ⟨x, z, ⟨a1, x1⟩, ⟨a2, x2⟩, n⟩
    obtain ⟨p, q, hp, hq, pq⟩ := two
    have key : ∃ u, X u ∧ A u ∧ A y := by
      rcases pA.1 p hp with h1 | h1 <;> rcases pA.1 q hq with h2 | h2
      · exact (pq (one p q hp h1 hq h2)).elim
      · exact ⟨p, h1, hp, h2 ▸ hq⟩
      · exact ⟨q, h2, hq, h1 ▸ hp⟩
      · exact (pq (h1.trans h2.symm)).elim
    obtain ⟨u, hu, au, ay⟩ := key
    exact (neg (.inr ⟨u, hu, fun t ht tu => pA.2 t (.inl ht) (fun at' => tu (one t u at' ht au hu)) y u ay au⟩)).elim
/-- not both, and like one alone -/
theorem like_one {X : St} (F : Firm f X) {y u w : Int} (hu : X u) (hw : X w) (h1 : Like f X y u) (h2 : Like f X y w) : u = w := by
  apply Classical.byContradiction
  intro ne
  exact no_two F hu hw ne fun t ht tu tw => ⟨(h1 t ht tu).1.symm.trans (h2 t ht tw).1, (h1 t ht tu).2.symm.trans (h2 t ht tw).2⟩
theorem not_both {X : St} (F : Firm f X) {y u : Int} (hu : X u) (h1 : Alike f X y) (h2 : Like f X y u) : False := no_one F hu fun s t hs ht su tu => by
  have a1 := h2 s hs su
  have a2 := h2 t ht tu
  have a3 := h1 s t hs ht
  exact ⟨a1.2.symm.trans (a3.1.trans a2.2), a1.1.symm.trans (a3.2.trans a2.1)⟩
/-- y like u, z not like u, both put to X not firm: y looks as u to z too -/
theorem like_two {X : St} (F : Firm f X) {y z u : Int} (hu : X u) (hy : ¬ X y) (hz : ¬ X z) (yz : y ≠ z) (ly : Like f X y u) (nz : ¬ Like f X z u) (no : ¬ Firm f (add (add X y) z)) : f z y = f z u ∧ f y z = f u z := by
  apply Classical.byContradiction
  intro neg
  apply no
  obtain ⟨a, b, c, ha, hb, hc, ab, ac, bc⟩ := F.three
  refine ⟨⟨a, b, c, .inl (.inl ha), .inl (.inl hb), .inl (.inl hc), ab, ac, bc⟩, fun A pA two => ?_⟩
  have pX := pA.meet (S' := X) fun x hx => .inl (.inl hx)
  have yu : y ≠ u := fun e => hy (e ▸ hu)
  have zu : z ≠ u := fun e => hz (e ▸ hu)
  by_cases t2 : ∃ x w, (A x ∧ X x) ∧ (A w ∧ X w) ∧ x ≠ w
  · have all := F.pcs _ pX t2
    by_cases ay : A y
    · by_cases az : A z
      · intro s hs
        rcases hs with (hs | rfl) | rfl
        · exact (all s hs).1
        · exact ay
        · exact az
      · exact (neg (pA.2 z (.inr rfl) az y u ay (all u hu).1)).elim
    · exact (not_both F hu (fun s t hs ht => pA.2 y (.inl (.inr rfl)) ay s t (all s hs).1 (all t ht).1) ly).elim
  · have one : ∀ x w, A x → X x → A w → X w → x = w := fun x w a1 x1 a2 x2 => by
      apply Classical.byContradiction
      intro n
      exact t2 ⟨x, w, ⟨a1, x1⟩, ⟨a2, x2⟩, n⟩
    by_cases none : ∃ w, X w ∧ A w
    · obtain ⟨w, hw, aw⟩ := none
      by_cases ay : A y
      · have lw : Like f X y w := fun t ht tw => pA.2 t (.inl (.inl ht)) (fun at' => tw (one t w at' ht aw hw)) y w ay aw
        have e := like_one F hu hw ly lw
        subst e
        by_cases az : A z
        · exact (nz fun t ht tw => pA.2 t (.inl (.inl ht)) (fun at' => tw (one t u at' ht aw hu)) z u az aw).elim
        · exact (neg (pA.2 z (.inr rfl) az y u ay aw)).elim
      · by_cases az : A z
        · have lz : Like f X z w := fun t ht tw => pA.2 t (.inl (.inl ht)) (fun at' => tw (one t w at' ht aw hw)) z w az aw
          have wu : w ≠ u := fun e => nz (e ▸ lz)
          have h1 := pA.2 y (.inl (.inr rfl)) ay z w az aw
          have h2 := ly w hw wu
          have h3 := lz u hu (fun e => wu e.symm)
          exact (neg ⟨h1.2.trans (h2.1.trans h3.2.symm), h1.1.trans (h2.2.trans h3.1.symm)⟩).elim
        · obtain ⟨p, q, hp, hq, pq⟩ := two
          have inX : ∀ p, A p → X p := fun p hp => by
            rcases pA.1 p hp with (h | h) | h
            · exact h
            · exact (ay (h ▸ hp)).elim
            · exact (az (h ▸ hp)).elim
          exact (pq (one p q hp (inX p hp) hq (inX q hq))).elim
    · have inX : ∀ p, A p → p = y ∨ p = z := fun p hp => by
        rcases pA.1 p hp with (h | h) | h
        · exact (none ⟨p, h, hp⟩).elim
        · exact .inl h
        · exact .inr h
      obtain ⟨p, q, hp, hq, pq⟩ := two
      have both : A y ∧ A z := by
        rcases inX p hp with e1 | e1 <;> rcases inX q hq with e2 | e2
        · exact (pq (e1.trans e2.symm)).elim
        · exact ⟨e1 ▸ hp, e2 ▸ hq⟩
        · exact ⟨e2 ▸ hq, e1 ▸ hp⟩
        · exact (pq (e1.trans e2.symm)).elim
      exact (nz fun t ht tu => by
        have h1 := pA.2 t (.inl (.inl ht)) (fun at' => none ⟨t, ht, at'⟩) z y both.2 both.1
        have h2 := ly t ht tu
        exact ⟨h1.1.trans h2.1, h1.2.trans h2.2⟩).elim
/-- a firm lot within a firm whole grows by one thing or by two -/
theorem grows {V X : St} (FV : Firm f V) (FX : Firm f X) (sub : ∀ x, X x → V x) (more : ∃ y, V y ∧ ¬ X y) : (∃ y, V y ∧ ¬ X y ∧ Firm f (add X y)) ∨ ∃ y z, V y ∧ V z ∧ ¬ X y ∧ ¬ X z ∧ y ≠ z ∧ Firm f (add (add X y) z) := by
  apply Classical.byContradiction
  intro neg
  have n1 : ∀ y, V y → ¬ X y → ¬ Firm f (add X y) := fun y vy xy F => neg (.inl ⟨y, vy, xy, F⟩)
  have n2 : ∀ y z, V y → V z → ¬ X y → ¬ X z → y ≠ z → ¬ Firm f (add (add X y) z) := fun y z vy vz xy xz yz F => neg (.inr ⟨y, z, vy, vz, xy, xz, yz, F⟩)
  obtain ⟨a, b, c, ha, hb, hc, ab, ac, bc⟩ := FX.three
  by_cases ex : ∃ u, X u ∧ ∃ y, V y ∧ ¬ X y ∧ Like f X y u
  · obtain ⟨u, hu, y0, vy0, xy0, l0⟩ := ex
    have p : Pc f V fun x => x = u ∨ (V x ∧ ¬ X x ∧ Like f X x u) := ⟨fun x hx => hx.elim (fun e => e ▸ sub u hu) fun h => h.1, fun z vz na => by
      have zu : z ≠ u := fun e => na (.inl e)
      have look : ∀ y, (y = u ∨ (V y ∧ ¬ X y ∧ Like f X y u)) → f z y = f z u ∧ f y z = f u z := fun y hy => by
        rcases hy with e | ⟨vy, xy, ly⟩
        · rw [e]; exact ⟨rfl, rfl⟩
        · by_cases xz : X z
          · exact ly z xz zu
          · have nl : ¬ Like f X z u := fun l => na (.inr ⟨vz, xz, l⟩)
            have yz : y ≠ z := fun e => nl (e ▸ ly)
            exact like_two FX hu xy xz yz ly nl (n2 y z vy vz xy xz yz)
      intro x y hx hy
      have h1 := look x hx
      have h2 := look y hy
      exact ⟨h1.1.trans h2.1.symm, h1.2.trans h2.2.symm⟩⟩
    have all := FV.pcs _ p ⟨u, y0, .inl rfl, .inr ⟨vy0, xy0, l0⟩, fun e => xy0 (e ▸ hu)⟩
    have only : ∀ x, X x → x = u := fun x hx => (all x (sub x hx)).elim id fun h => (h.2.1 hx).elim
    exact ab ((only a ha).trans (only b hb).symm)
  · have p : Pc f V X := ⟨sub, fun z vz xz x y hx hy => by
      rcases stands FX xz (n1 z vz xz) with h | ⟨u, hu, l⟩
      · exact h x y hx hy
      · exact (ex ⟨u, hu, z, vz, xz, l⟩).elim⟩
    obtain ⟨y, vy, xy⟩ := more
    exact xy (FV.pcs X p ⟨a, b, ha, hb, ab⟩ y vy)
end Ff

set_option Elab.async false
set_option linter.all false
set_option maxRecDepth 100000
set_option maxHeartbeats 1000000
namespace Kp
open PySem PySem.Spec PyProof.Rows L2 Dm
open scoped Classical
def ptab (f : Int → Int → Int) (l : List Int) : P2 Int (Tup (Tup Int)) := P2.mk (l.length : Int) (Tup.mk (l.map fun x => Tup.mk (l.map (f x))))
theorem Ppart_ok {n : Int} {f : Int → Int → Int} {l : List Int} {P : P2 Int (Tup (Tup Int)) → Prop} (hl : ∀ x ∈ l, 0 ≤ x ∧ x < n) (l8 : l.length ≤ 100) (p : P (ptab f l)) : m_Ppart (tab n f) (Tup.mk l) P := by
  unfold m_Ppart m_PpickedT
  refine ⟨by show l.length ≤ 100000; omega, wFil_map (g := fun x => Tup.mk (l.map (f x))) (fun x hx K hK => ⟨by show l.length ≤ 100000; omega, wFil_map (g := fun y => f x y) (fun y hy K2 hK2 => ?_) hK⟩) p⟩
  exact wIdx_map (hl x hx).1 (hl x hx).2 (wIdx_map (hl y hy).1 (hl y hy).2 hK2)
theorem ptab_map {n k : Int} {f h : Int → Int → Int} {o : Int → Int} (k0 : 0 ≤ k) (e : k = n) (c : ∀ i j, 0 ≤ i → i < k → 0 ≤ j → j < k → f (o i) (o j) = h i j) : ptab f ((rng 0 k).map o) = tab n h := by
  subst e
  unfold ptab tab
  rw [map_len' k0, List.map_map]
  congr 2
  refine List.map_congr_left fun i hi => ?_
  have hi := mem_rng.mp hi
  show Tup.mk (List.map (f (o i)) ((rng 0 k).map o)) = _
  rw [List.map_map]
  congr 1
  exact List.map_congr_left fun j hj => by
    have hj := mem_rng.mp hj
    exact c i j hi.1 hi.2 hj.1 hj.2
theorem T_of {n : Int} {f : Int → Int → Int} {l : List Int} (h : ∀ z, 0 ≤ z → z < n → z ∉ l → ∀ x ∈ l, ∀ y ∈ l, f z x = f z y ∧ f x z = f y z) : T n f l = none := by
  cases e : T n f l with
  | none => rfl
  | some q =>
    obtain ⟨a, b, c, d, g⟩ := T_some e
    have hh := h q.a a.1 a.2 b q.b c q.c d
    unfold tl at g
    rw [decide_eq_true hh.1, decide_eq_true hh.2] at g
    cases g
noncomputable def FS (f : Int → Int → Int) (l : List Int) : Bool := decide (Ff.Firm f fun x => x ∈ l)
theorem FS_true {f : Int → Int → Int} {l : List Int} : FS f l = true ↔ Ff.Firm f fun x => x ∈ l := by unfold FS; exact decide_eq_true_iff
theorem FS_congr {f : Int → Int → Int} {l k : List Int} (h : ∀ x, x ∈ l ↔ x ∈ k) : FS f l = FS f k := by
  have : (fun x => x ∈ l) = fun x => x ∈ k := funext fun x => propext (h x)
  unfold FS; rw [this]
theorem full_len {m : Int} {l : List Int} (m0 : 0 ≤ m) (hl : Lot m l) : ((l.length : Int) = m) ↔ ∀ p, 0 ≤ p → p < m → p ∈ l := by
  constructor
  · intro h p p0 p1
    apply Classical.byContradiction
    intro np
    have := nd_len (l := p :: l) (m := rng 0 m) (List.nodup_cons.mpr ⟨np, hl.nd⟩) fun x hx => by
      rcases List.mem_cons.mp hx with e | e
      · rw [e]; exact mem_rng.mpr ⟨p0, p1⟩
      · exact mem_rng.mpr (hl.at' x e)
    rw [List.length_cons, rng0_len] at this
    omega
  · intro h
    have h1 := hl.len m0
    have := nd_len (l := rng 0 m) (m := l) (Lot.all (n := m)).nd fun x hx => h x (mem_rng.mp hx).1 (mem_rng.mp hx).2
    rw [rng0_len] at this
    omega
theorem firmB_iff {m : Int} {f : Int → Int → Int} {g : Int → Int} (m0 : 0 ≤ m) (inj : ∀ i j, 0 ≤ i → i < m → 0 ≤ j → j < m → g i = g j → i = j) : firmB m (fun i j => f (g i) (g j)) = FS f ((rng 0 m).map g) := by
  rw [Bool.eq_iff_iff, FS_true]
  unfold firmB
  rw [Bool.and_eq_true, decide_eq_true_iff, List.all_eq_true]
  have im : ∀ x, x ∈ (rng 0 m).map g ↔ ∃ p, (0 ≤ p ∧ p < m) ∧ g p = x := fun x => by
    rw [List.mem_map]
    exact ⟨fun ⟨p, hp, e⟩ => ⟨p, mem_rng.mp hp, e⟩, fun ⟨p, hp, e⟩ => ⟨p, mem_rng.mpr hp, e⟩⟩
  constructor
  · rintro ⟨m3, h⟩
    refine ⟨⟨g 0, g 1, g 2, (im _).mpr ⟨0, by omega, rfl⟩, (im _).mpr ⟨1, by omega, rfl⟩, (im _).mpr ⟨2, by omega, rfl⟩, fun e => ?_, fun e => ?_, fun e => ?_⟩, fun A pA ⟨x, y, ax, ay, ne⟩ => ?_⟩
    · have := inj 0 1 (by omega) (by omega) (by omega) (by omega) e; omega
    · have := inj 0 2 (by omega) (by omega) (by omega) (by omega) e; omega
    · have := inj 1 2 (by omega) (by omega) (by omega) (by omega) e; omega
    · obtain ⟨i, hi, ei⟩ := (im x).mp (pA.1 x ax)
      obtain ⟨j, hj, ej⟩ := (im y).mp (pA.1 y ay)
      subst ei ej
      have ij : i ≠ j := fun e => ne (by rw [e])
      have key : ∀ i j, 0 ≤ i → j < m → i < j → A (g i) → A (g j) → ∀ s, s ∈ (rng 0 m).map g → A s := fun i j i0 j1 lt ai aj => by
        have hl : Lot m [i, j] := ⟨by rw [List.pairwise_pair]; exact lt, fun z hz => by simp only [List.mem_cons, List.not_mem_nil, or_false] at hz; omega⟩
        have hf := h [i, j] (prs_mem.mpr ⟨hl, rfl⟩)
        rw [decide_eq_true_iff] at hf
        have hall := (full_len m0 (cl_lot (f := fun i j => f (g i) (g j)) hl)).mp hf
        have hC : T m (fun i j => f (g i) (g j)) ((rng 0 m).filter fun p => decide (A (g p))) = none := T_of fun z z0 z1 nz p hp q hq => by
          have hp := (List.mem_filter.mp hp).2
          have hq := (List.mem_filter.mp hq).2
          rw [decide_eq_true_iff] at hp hq
          refine pA.2 (g z) ((im _).mpr ⟨z, ⟨z0, z1⟩, rfl⟩) (fun az => nz (List.mem_filter.mpr ⟨mem_rng.mpr ⟨z0, z1⟩, decide_eq_true az⟩)) (g p) (g q) hp hq
        have hsub := cl_least hl hC (fun p hp => by
          simp only [List.mem_cons, List.not_mem_nil, or_false] at hp
          rcases hp with e | e <;> subst e
          · exact List.mem_filter.mpr ⟨mem_rng.mpr ⟨i0, by omega⟩, decide_eq_true ai⟩
          · exact List.mem_filter.mpr ⟨mem_rng.mpr ⟨by omega, j1⟩, decide_eq_true aj⟩)
        intro s hs
        obtain ⟨p, hp, ep⟩ := (im s).mp hs
        subst ep
        have := (List.mem_filter.mp (hsub p (hall p hp.1 hp.2))).2
        exact decide_eq_true_iff.mp this
      rcases Int.lt_trichotomy i j with c | c | c
      · exact key i j hi.1 hj.2 c ax ay
      · exact absurd c ij
      · exact key j i hj.1 hi.2 c ay ax
  · intro F
    obtain ⟨a, b, c, ha, hb, hc, ab, ac, bc⟩ := F.three
    obtain ⟨i, hi, ei⟩ := (im a).mp ha
    obtain ⟨j, hj, ej⟩ := (im b).mp hb
    obtain ⟨k, hk, ek⟩ := (im c).mp hc
    have n1 : i ≠ j := fun e => ab (by rw [← ei, ← ej, e])
    have n2 : i ≠ k := fun e => ac (by rw [← ei, ← ek, e])
    have n3 : j ≠ k := fun e => bc (by rw [← ej, ← ek, e])
    refine ⟨by omega, fun l hl => ?_⟩
    obtain ⟨hl, l2⟩ := prs_mem.mp hl
    rw [decide_eq_true_iff]
    have hcl := cl_lot (f := fun i j => f (g i) (g j)) hl
    refine (full_len m0 hcl).mpr fun p p0 p1 => ?_
    have pc : Ff.Pc f (fun x => x ∈ (rng 0 m).map g) fun x => ∃ q, q ∈ cl m (fun i j => f (g i) (g j)) l ∧ g q = x := ⟨fun x ⟨q, hq, e⟩ => (im x).mpr ⟨q, hcl.at' q hq, e⟩, fun z hz nz x y ⟨q, hq, eq⟩ ⟨r, hr, er⟩ => by
      obtain ⟨t, ht, et⟩ := (im z).mp hz
      subst et eq er
      exact T_none (cl_T hl) t ht.1 ht.2 (fun h => nz ⟨t, h, rfl⟩) q hq r hr⟩
    match l, l2, hl, pc, hcl with
    | [u, v], _, hl, pc, hcl =>
      have lt : u < v := by have := hl.up; rw [List.pairwise_pair] at this; exact this
      have hu := hl.at' u (by simp)
      have hv := hl.at' v (by simp)
      obtain ⟨q, hq, e⟩ := F.pcs _ pc ⟨g u, g v, ⟨u, cl_in hl u (by simp), rfl⟩, ⟨v, cl_in hl v (by simp), rfl⟩, fun e => by have := inj u v hu.1 hu.2 hv.1 hv.2 e; omega⟩ (g p) ((im _).mpr ⟨p, ⟨p0, p1⟩, rfl⟩)
      have := inj q p (hcl.at' q hq).1 (hcl.at' q hq).2 p0 p1 e
      rw [← this]; exact hq
end Kp


set_option Elab.async false
set_option linter.all false
set_option maxRecDepth 100000
set_option maxHeartbeats 1000000
namespace Kp
open PySem PySem.Spec PyProof.Rows L2 Dm
open scoped Classical
theorem lot_fn (l : List Int) : l = (rng 0 l.length).map fun i => l.getD i.toNat 0 := by
  apply List.ext_getElem?
  intro m
  rw [List.getElem?_map, rng_get]
  by_cases z : m < l.length
  · rw [if_pos (by omega), List.getElem?_eq_getElem z]
    show some _ = some (l.getD (0 + (m : Int)).toNat 0)
    rw [show (0 + (m : Int)).toNat = m by omega, List.getD_eq_getElem?_getD, List.getElem?_eq_getElem z]; rfl
  · rw [if_neg (by omega), List.getElem?_eq_none (by omega)]; rfl
theorem firm_lot_ok {n : Int} {f : Int → Int → Int} {l : List Int} {P : Bool → Prop} (hl : ∀ x ∈ l, 0 ≤ x ∧ x < n) (nd : l.Nodup) (l8 : l.length ≤ 8) (p : P (FS f l)) : m_Pis_firm_lot (tab n f) (Tup.mk l) P := by
  unfold m_Pis_firm_lot
  refine Ppart_ok hl (by omega) ?_
  have e : ptab f l = tab l.length fun i j => f (l.getD i.toNat 0) (l.getD j.toNat 0) := by
    conv => lhs; rw [lot_fn l]
    exact ptab_map (by omega) rfl fun i j _ _ _ _ => rfl
  rw [e]
  refine Pfirm_ok (by omega) (by omega) ?_
  rw [firmB_iff (m := l.length) (g := fun i => l.getD i.toNat 0) (by omega) (fun i j i0 i1 j0 j1 h => ?_), ← lot_fn l]
  · exact p
  · have hi : i.toNat < l.length := by omega
    have hj : j.toNat < l.length := by omega
    have h : l.getD i.toNat 0 = l.getD j.toNat 0 := h
    rw [List.getD_eq_getElem?_getD, List.getD_eq_getElem?_getD, List.getElem?_eq_getElem hi, List.getElem?_eq_getElem hj] at h
    have := (List.getElem_inj nd).mp (show l[i.toNat] = l[j.toNat] from h)
    omega
theorem wFor_fil {α : Type} {F : α → List α → (List α → Prop) → Prop} {t : α → Bool} {P : List α → Prop} {N : Nat} : ∀ {as k0 : List α}, k0.length + as.length ≤ N → (∀ a ∈ as, ∀ k : List α, k.length < N → ∀ K : List α → Prop, K (if t a then k ++ [a] else k) → F a k K) → P (k0 ++ as.filter t) → wFor as k0 F P
  | [], k0, _, _, p => by rw [List.filter_nil, List.append_nil] at p; exact p
  | a :: as, k0, hN, h, p => by
    rw [List.length_cons] at hN
    refine h a (List.mem_cons_self ..) k0 (by omega) _ (wFor_fil (N := N) (t := t) ?_ (fun b hb => h b (List.mem_cons_of_mem _ hb)) ?_)
    · split
      · rw [List.length_append, List.length_singleton]; omega
      · omega
    · rw [List.filter_cons] at p
      split
      · rename_i q
        rw [if_pos q] at p
        rw [List.append_assoc]; exact p
      · rename_i q
        rw [if_neg q] at p
        exact p
theorem nd_in {l k : List Int} (nd : l.Nodup) (h : ∀ x ∈ l, x ∈ k) : l.length ≤ k.length := nd_len nd h
theorem nd_full {l k : List Int} (nd : l.Nodup) (h : ∀ x ∈ l, x ∈ k) (hl : k.length ≤ l.length) : ∀ x ∈ k, x ∈ l := fun x hx => by
  apply Classical.byContradiction
  intro nx
  have := nd_len (l := x :: l) (m := k) (List.nodup_cons.mpr ⟨nx, nd⟩) fun y hy => by
    rcases List.mem_cons.mp hy with e | e
    · rw [e]; exact hx
    · exact h y e
  rw [List.length_cons] at this
  omega
/-- what of a lot two things draw in -/
structure Dr (f : Int → Int → Int) (l : List Int) (a b : Int) (r : List Int) : Prop where
  nd : r.Nodup
  sub : ∀ x ∈ r, x ∈ l
  ma : a ∈ r
  mb : b ∈ r
  least : ∀ A, Ff.Pc f (fun x => x ∈ l) A → A a → A b → ∀ x ∈ r, A x
theorem spread_ok {n : Int} {f : Int → Int → Int} {l : List Int} {a b : Int} {P : List Int → Prop} (h0 : 0 ≤ n) (h8 : n ≤ 8) (hl : In n l) (nd : l.Nodup) (l8 : l.length ≤ 8) (ha : a ∈ l) (hb : b ∈ l) (ab : a ≠ b) (p : ∀ r, Dr f l a b r → Ff.Pc f (fun x => x ∈ l) (fun x => x ∈ r) → P r) : m_spread (mk n f) (Tup.mk l) a b P := by
  have ea := hl a ha
  have e0 : EqOk (enc ([] : List Int)) := ints_ok fun x hx => by cases hx
  unfold m_spread
  refine ⟨by show l.length ≤ 100000; omega, wFil_filter (g := fun a => a) (t := fun c => !decide (c ∈ [a, b])) (fun a _ K h => h) (fun a _ _ K h => h) ?_⟩
  rw [List.map_id']
  refine ⟨sm (by omega) (by show (l.length : Int) ≤ 1000; omega), wFor_cnt (N := l.length) (fun i (k : List Int × List Int) => Dr f l a b k.1 ∧ 2 + i ≤ k.1.length ∧ (∀ x, x ∈ k.2 ↔ x ∈ l ∧ x ∉ k.1) ∧ k.2.Nodup) (i := 0) (by rw [rng0_len]; show 0 + ((l.length : Nat) : Int).toNat = l.length; omega) ⟨⟨by simp [ab], fun x hx => by simp at hx; rcases hx with e | e <;> rw [e] <;> assumption, by simp, by simp, fun A _ aa ab x hx => by simp at hx; rcases hx with e | e <;> rw [e] <;> assumption⟩, Nat.le_refl _, fun x => by rw [List.mem_filter]; simp, nd.filter _⟩ (fun t _ i k iN hk K hK => ?_) (fun k hk => ?_)⟩
  · obtain ⟨dr, ln, rs, rn⟩ := hk
    have kl : k.1.length ≤ 8 := Nat.le_trans (nd_in dr.nd dr.sub) l8
    have r8 : k.2.length ≤ 8 := Nat.le_trans (nd_in rn fun x hx => ((rs x).mp hx).1) l8
    have kIn : In n k.1 := fun x hx => hl x (dr.sub x hx)
    have rIn : In n k.2 := fun x hx => hl x ((rs x).mp hx).1
    refine wFor_fil (t := fun t => !(k.1.filter fun q => (!decide (f t q = f t a)) || (!decide (f q t = f a t))).isEmpty) (N := 50) (by rw [List.length_nil]; omega) (fun t ht c hc K2 hK2 => ?_) ?_
    · have et := rIn t ht
      refine wIdx2 et.1 et.2 ea.1 ea.2 (wIdx2 ea.1 ea.2 et.1 et.2 (cpsE _ (fun nx h => ⟨by omega, ?_⟩) hK2))
      refine wFil_filter (g := fun a => a) (t := fun q => (!decide (f t q = f t a)) || (!decide (f q t = f a t))) (fun q hq K3 h3 => ?_) (fun a _ _ K h => h) ?_
      · have eq := kIn q hq
        refine cpsE _ (fun nx2 h2 => ?_) h3
        exact wIdx2 et.1 et.2 eq.1 eq.2 ⟨fun w => by rw [w, Bool.true_or] at h2; exact h2, fun w => wIdx2 eq.1 eq.2 et.1 et.2 (by rw [w, Bool.false_or] at h2; exact h2)⟩
      · rw [List.map_id']
        refine ⟨(kIn.fil _).eq' h8, e0, ?_⟩
        rw [ints_eq]
        refine ⟨fun z => ⟨by omega, ?_⟩, fun z => ?_⟩
        · rw [z, if_pos rfl] at h; exact h
        · rw [z, if_neg Bool.false_ne_true] at h; exact h
    · rw [List.nil_append]
      have cm : ∀ t, t ∈ k.2.filter (fun t => !(k.1.filter fun q => (!decide (f t q = f t a)) || (!decide (f q t = f a t))).isEmpty) ↔ t ∈ k.2 ∧ ∃ q ∈ k.1, ¬ (f t q = f t a ∧ f q t = f a t) := fun t => by
        rw [List.mem_filter]
        refine and_congr_right fun _ => ?_
        rw [Bool.not_eq_true', ← Bool.not_eq_true, List.isEmpty_iff, List.filter_eq_nil_iff]
        constructor
        · intro h
          apply Classical.byContradiction
          intro no
          refine h fun q hq => ?_
          have : f t q = f t a ∧ f q t = f a t := by
            apply Classical.byContradiction
            intro w; exact no ⟨q, hq, w⟩
          simp [this.1, this.2]
        · rintro ⟨q, hq, w⟩ h
          have := h q hq
          apply w
          simpa using this
      generalize hc : k.2.filter (fun t => !(k.1.filter fun q => (!decide (f t q = f t a)) || (!decide (f q t = f a t))).isEmpty) = c at cm
      have cn : c.Nodup := by rw [← hc]; exact rn.filter _
      have cl : c.length ≤ 8 := by rw [← hc]; exact Nat.le_trans (List.length_filter_le _ _) r8
      refine ⟨ints_ok fun x hx => by have := rIn x ((cm x).mp hx).1; omega, e0, ?_⟩
      rw [ints_eq]
      refine ⟨fun z => ?_, fun z => ⟨by omega, by omega, wFil_filter (g := fun a => a) (t := fun q => !decide (q ∈ c)) (fun a _ K h => h) (fun a _ _ K h => h) ?_⟩⟩
      · have z := List.isEmpty_iff.mp z
        have look : ∀ z, z ∈ l → z ∉ k.1 → ∀ x ∈ k.1, f z x = f z a ∧ f x z = f a z := fun y yl yk x hx => by
          apply Classical.byContradiction
          intro w
          have : y ∈ c := (cm y).mpr ⟨(rs y).mpr ⟨yl, yk⟩, x, hx, w⟩
          rw [z] at this; cases this
        refine p _ dr ⟨dr.sub, fun z zl zk x y hx hy => ?_⟩
        have h1 := look z zl zk x hx
        have h2 := look z zl zk y hy
        exact ⟨h1.1.trans h2.1.symm, h1.2.trans h2.2.symm⟩
      · rw [List.map_id']
        have z : c ≠ [] := fun e => by rw [e] at z; cases z
        have cpos : 1 ≤ c.length := List.length_pos_iff.mpr z
        refine hK _ ⟨⟨List.nodup_append.mpr ⟨dr.nd, cn, fun x hx y hy e => ?_⟩, fun x hx => ?_, List.mem_append_left _ dr.ma, List.mem_append_left _ dr.mb, fun A pA aa ab x hx => ?_⟩, ?_, fun x => ?_, rn.filter _⟩
        · subst e
          exact ((rs x).mp ((cm x).mp hy).1).2 hx
        · rcases List.mem_append.mp hx with e | e
          · exact dr.sub x e
          · exact ((rs x).mp ((cm x).mp e).1).1
        · rcases List.mem_append.mp hx with e | e
          · exact dr.least A pA aa ab x e
          · obtain ⟨hx2, q, hq, w⟩ := (cm x).mp e
            apply Classical.byContradiction
            intro na
            exact w (pA.2 x ((rs x).mp hx2).1 na q a (dr.least A pA aa ab q hq) aa)
        · rw [List.length_append]; omega
        · rw [List.mem_filter, rs x, List.mem_append]
          simp only [Bool.not_eq_true', decide_eq_false_iff_not]
          constructor
          · rintro ⟨⟨h1, h2⟩, h3⟩
            exact ⟨h1, fun h => h.elim h2 h3⟩
          · rintro ⟨h1, h2⟩
            exact ⟨⟨h1, fun h => h2 (.inl h)⟩, fun h => h2 (.inr h)⟩
  · obtain ⟨dr, ln, _, _⟩ := hk
    have := nd_in dr.nd dr.sub
    omega
end Kp


set_option Elab.async false
set_option linter.all false
set_option maxRecDepth 100000
set_option maxHeartbeats 1000000
namespace Kp
open PySem PySem.Spec PyProof.Rows L2 Dm
open scoped Classical
theorem wFor_seen {α : Type} {F : α → Unit → (Unit → Prop) → Prop} {P : Unit → Prop} {Q : α → Prop} : ∀ {as : List α}, (∀ a ∈ as, ∀ nx : Unit → Prop, (Q a → nx ()) → F a () nx) → ((∀ a ∈ as, Q a) → P ()) → wFor as () F P
  | [], _, p => p fun a h => (by cases h)
  | a :: as, h, p => h a (List.mem_cons_self ..) _ fun q => wFor_seen (Q := Q) (fun b hb => h b (List.mem_cons_of_mem _ hb)) fun all => p fun b hb => by
    rcases List.mem_cons.mp hb with e | e
    · rw [e]; exact q
    · exact all b e
theorem sIx_at {n d : Nat} {i : Int} (h0 : 0 ≤ i) (h1 : i ≤ n) : HT.sIx n d (some i) = i.toNat := by
  unfold HT.sIx
  simp
  rw [if_neg (by omega)]
  omega
theorem cut_drop {α : Type} {l : List α} {i : Int} (h0 : 0 ≤ i) (h1 : i ≤ l.length) : cutA l (some i) none = l.drop i.toNat := by
  unfold cutA
  rw [sIx_at h0 h1]
  have e : HT.sIx l.length l.length none = l.length := rfl
  rw [e, List.take_of_length_le (by rw [List.length_drop]; omega)]
theorem enum_at {α : Type} [Enc α] {l : List α} {a : Pq Int α} (h : a ∈ enumA l) : ∃ i : Nat, i < l.length ∧ l[i]? = some a.b ∧ a.a = i := by
  obtain ⟨i, hi⟩ := List.mem_iff_getElem?.mp h
  rw [enumA_get] at hi
  cases e : l[i]? with
  | none => rw [e] at hi; cases hi
  | some x =>
    rw [e] at hi
    cases hi
    exact ⟨i, (List.getElem?_eq_some_iff.mp e).1, e, rfl⟩
theorem lawfirm_ok {n : Int} {f : Int → Int → Int} {l : List Int} {P : Bool → Prop} (h0 : 0 ≤ n) (h8 : n ≤ 8) (hl : In n l) (nd : l.Nodup) (l8 : l.length ≤ 8) (p : P (FS f l)) : m_is_firm (mk n f) (Tup.mk l) P := by
  have Full : ∀ (i j : Nat) (x y : Int), i < j → l[i]? = some x → l[j]? = some y → x ≠ y := fun i j x y lt hx hy e => by
    obtain ⟨h1, e1⟩ := List.getElem?_eq_some_iff.mp hx
    obtain ⟨h2, e2⟩ := List.getElem?_eq_some_iff.mp hy
    have := (List.getElem_inj nd).mp (e1.trans (e.trans e2.symm))
    omega
  unfold m_is_firm
  refine wFor_seen (Q := fun a => ∀ (j : Nat) (y : Int), a.a < (j : Int) → l[j]? = some y → ∀ A, Ff.Pc f (fun x => x ∈ l) A → A a.b → A y → ∀ s ∈ l, A s) (fun a ha nx hn => ?_) (fun all => ?_)
  · obtain ⟨i, hi, hx, ei⟩ := enum_at ha
    have hi : i < l.length := hi
    have hx : l[i]? = some a.b := hx
    have ec : cutA l (some (a.a + 1)) none = l.drop (i + 1) := by
      rw [cut_drop (by omega) (by omega)]
      congr 1; omega
    show wFor (cutA l (some (a.a + 1)) none) () _ _
    rw [ec]
    refine wFor_seen (Q := fun y => ∀ A, Ff.Pc f (fun x => x ∈ l) A → A a.b → A y → ∀ s ∈ l, A s) (fun y hy nx2 h2 => ?_) (fun all => hn fun j y lt hj => ?_)
    · obtain ⟨t, ht⟩ := List.mem_iff_getElem?.mp hy
      rw [List.getElem?_drop] at ht
      have ne := Full i (i + 1 + t) a.b y (by omega) hx ht
      refine spread_ok h0 h8 hl nd l8 (List.mem_of_getElem? hx) (List.mem_of_getElem? ht) ne fun r dr pr => ⟨fun z => ?_, fun z => h2 fun A pA aa ay s hs => ?_⟩
      · have z : (r.length : Int) < (l.length : Int) := of_decide_eq_true z
        have e : FS f l = false := by
          rw [Bool.eq_false_iff]
          intro w
          have F := FS_true.mp w
          have := nd_in nd (k := r) (F.pcs _ pr ⟨a.b, y, dr.ma, dr.mb, ne⟩)
          omega
        rw [e] at p; exact p
      · have z : ¬ ((r.length : Int) < (l.length : Int)) := of_decide_eq_false z
        exact dr.least A pA aa ay s (nd_full dr.nd dr.sub (by omega) s hs)
    · have : y ∈ l.drop (i + 1) := by
        refine List.mem_iff_getElem?.mpr ⟨j - (i + 1), ?_⟩
        rw [List.getElem?_drop, show i + 1 + (j - (i + 1)) = j by omega]; exact hj
      exact all y this
  · have e : decide ((2 : Int) < (l.length : Int)) = FS f l := by
      rw [Bool.eq_iff_iff, decide_eq_true_iff, FS_true]
      constructor
      · intro l3
        have g0 : l[0]? = some l[0] := List.getElem?_eq_getElem (by omega)
        have g1 : l[1]? = some l[1] := List.getElem?_eq_getElem (by omega)
        have g2 : l[2]? = some l[2] := List.getElem?_eq_getElem (by omega)
        refine ⟨⟨_, _, _, List.mem_of_getElem? g0, List.mem_of_getElem? g1, List.mem_of_getElem? g2, Full 0 1 _ _ (by omega) g0 g1, Full 0 2 _ _ (by omega) g0 g2, Full 1 2 _ _ (by omega) g1 g2⟩, fun A pA ⟨x, y, ax, ay, ne⟩ s hs => ?_⟩
        obtain ⟨i, hi⟩ := List.mem_iff_getElem?.mp (pA.1 x ax)
        obtain ⟨j, hj⟩ := List.mem_iff_getElem?.mp (pA.1 y ay)
        have mem : ∀ (i : Nat) x, l[i]? = some x → Pq.mk (i : Int) x ∈ enumA l := fun i x h => List.mem_of_getElem? (i := i) (by rw [enumA_get, h]; rfl)
        rcases Nat.lt_trichotomy i j with c | c | c
        · exact all _ (mem i x hi) j y (by show (i : Int) < j; omega) hj A pA ax ay s hs
        · subst c; rw [hi] at hj; cases hj; exact absurd rfl ne
        · exact all _ (mem j y hj) i x (by show (j : Int) < i; omega) hi A pA ay ax s hs
      · intro F
        obtain ⟨a, b, c, ha, hb, hc, ab, ac, bc⟩ := F.three
        have := nd_len (l := [a, b, c]) (m := l) (by simp [ab, ac, bc]) fun x hx => by
          simp only [List.mem_cons, List.not_mem_nil, or_false] at hx
          rcases hx with e | e | e <;> rw [e] <;> assumption
        show (2 : Int) < _
        have h3 : ([a, b, c] : List Int).length = 3 := rfl
        omega
    show P (decide ((2 : Int) < (l.length : Int)))
    rw [e]; exact p
end Kp


set_option Elab.async false
set_option linter.all false
set_option maxRecDepth 100000
set_option maxHeartbeats 1000000
namespace Kp
open PySem PySem.Spec PyProof.Rows L2 Dm
open scoped Classical
/-! ### all lots in order; firm lots -/
def lvl (n : Int) : Nat → List (Tup Int)
  | 0 => [Tup.mk []]
  | k + 1 => (lvl n k).flatMap (nextL n)
theorem lvl_lev {n : Int} : ∀ k, Lev n k (lvl n k)
  | 0 => Lev.zero
  | k + 1 => (lvl_lev k).next
theorem lots_of_eq {n k : Int} {P : List (Tup Int) → Prop} (h0 : 0 ≤ n) (h8 : n ≤ 8) (k0 : 0 ≤ k) (k8 : k ≤ 100) (p : P (lvl n k.toNat)) : m_Plots_of n k P := by
  unfold m_Plots_of
  refine ⟨sm k0 (by omega), wFor_rng k0 (fun i (L : List (Tup Int)) => L = lvl n i.toNat) rfl (fun i L i0 i1 hL K hK => ?_) (fun L hL => by rw [hL]; exact p)⟩
  subst hL
  have lv := lvl_lev (n := n) i.toNat
  refine ⟨by have := lv.len h0 h8; omega, ?_⟩
  refine wCat_flat (g := nextL n) (fun t ht K2 hK2 => ?_) (hK _ (by rw [show (i + 1).toNat = i.toNat + 1 by omega]; rfl))
  have hl := ((lv.mem t).mp ht).1
  have b0 := bg_0 hl
  have bn : bg t.l ≤ 8 := by have := b0.2; split at this <;> omega
  have l8 := hl.len8 h0 h8
  refine two_yes (bs := rng (bg t.l) n) (fun K3 h3 => cpsE (bg t.l) (fun nx hnx => begin_ok hnx) ⟨⟨sm b0.1 (by omega), sm h0 (by omega)⟩, h3⟩) (by rw [rng_len]; omega) (fun x _ K4 h4 => ⟨by show t.l.length + 1 ≤ 100000; omega, h4⟩) hK2
def AL (n : Int) : List (Tup Int) := (rng 0 (n + 1)).flatMap fun k => lvl n k.toNat
theorem AL_mem {n : Int} (h0 : 0 ≤ n) (t : Tup Int) : t ∈ AL n ↔ Lot n t.l := by
  unfold AL
  rw [List.mem_flatMap]
  constructor
  · rintro ⟨k, _, h⟩
    exact (((lvl_lev (n := n) k.toNat).mem t).mp h).1
  · intro h
    have := h.len h0
    exact ⟨t.l.length, mem_rng.mpr ⟨by omega, by omega⟩, ((lvl_lev (n := n) _).mem t).mpr ⟨h, by omega⟩⟩
theorem strict_weak {α : Type} {lt : α → α → Bool} : ∀ {l m : List α}, l.Perm m → l.Pairwise (fun a b => lt a b = true) → m.Pairwise (fun a b => lt b a = false) → l = m
  | [], m, hp, _, _ => (List.nil_perm.mp hp).symm
  | a :: l, [], hp, _, _ => by have := hp.length_eq; simp at this
  | a :: l, b :: m, hp, hl, hm => by
    have hl' := List.pairwise_cons.mp hl
    have hm' := List.pairwise_cons.mp hm
    have e : a = b := by
      have ha : a ∈ b :: m := hp.mem_iff.mp (List.mem_cons_self ..)
      have hb : b ∈ a :: l := hp.mem_iff.mpr (List.mem_cons_self ..)
      rcases List.mem_cons.mp ha with e | ha
      · exact e
      · rcases List.mem_cons.mp hb with e | hb
        · exact e.symm
        · have h1 := hl'.1 b hb
          have h2 := hm'.1 a ha
          rw [h1] at h2; cases h2
    subst e
    rw [strict_weak (hp.cons_inv) hl'.2 hm'.2]
def plt (a b : List Int) : Bool := decide (a.length < b.length) || (decide (a.length = b.length) && decide (a < b))
theorem eqvAll_ints' : ∀ {a b : List Int}, PyData.eqvAll (a.map PyData.int) (b.map PyData.int) = true → a = b
  | [], [], _ => rfl
  | [], _ :: _, h => by simp [PyData.eqvAll] at h
  | _ :: _, [], h => by simp [PyData.eqvAll] at h
  | x :: a, y :: b, h => by
    rw [List.map_cons, List.map_cons, PyData.eqvAll, Bool.and_eq_true] at h
    have h1 : x = y := by have := h.1; simpa [PyData.eqv] using this
    rw [h1, eqvAll_ints' h.2]
theorem plt_lt {a b : List Int} (h : plt a b = true) : PySem.W.dataLt (placeK a) (placeK b) = true := by
  unfold placeK
  rw [PySem.W.dataLt_pair (by simp [PySem.W.alike]) (by simp [PySem.W.alike, PySem.W.alike_ints])]
  unfold plt at h
  rw [Bool.or_eq_true, Bool.and_eq_true, decide_eq_true_iff, decide_eq_true_iff, decide_eq_true_iff] at h
  by_cases c : PyData.eqv (.int (a.length : Int)) (.int (b.length : Int)) = true
  · have e : (a.length : Int) = b.length := by simpa [PyData.eqv] using c
    rw [if_pos c]
    rcases h with h | h
    · exfalso; omega
    · by_cases d : PyData.eqv (.tuple (a.map PyData.int)) (.tuple (b.map PyData.int)) = true
      · have : a = b := eqvAll_ints' (by simpa [PyData.eqv] using d)
        rw [this] at h
        exact absurd h.2 (List.lt_irrefl b)
      · rw [if_neg d, PySem.W.dataLt_tuple]
        exact (PySem.W.dataLt_ints a b).trans (decide_eq_true h.2)
  · rw [if_neg c, PySem.W.dataLt_int]
    have e : ¬ ((a.length : Int) = b.length) := fun e => c (by rw [e]; simp [PyData.eqv])
    rcases h with h | h
    · exact decide_eq_true (by omega)
    · exact absurd (by rw [h.1]) e
theorem AL_up {n : Int} (h0 : 0 ≤ n) (h6 : n ≤ 6) : (AL n).Pairwise fun a b => plt a.l b.l = true := by
  have : n = 0 ∨ n = 1 ∨ n = 2 ∨ n = 3 ∨ n = 4 ∨ n = 5 ∨ n = 6 := by omega
  rcases this with e | e | e | e | e | e | e <;> subst e <;> decide +kernel
theorem sortP_eq {n : Int} (h0 : 0 ≤ n) (h6 : n ≤ 6) {L : List (Tup Int)} {p : Tup Int → Bool} (hp : L.Perm ((AL n).filter p)) : sortP L = (AL n).filter p := by
  refine (strict_weak (lt := fun a b : Tup Int => PySem.W.dataLt (placeK a.l) (placeK b.l)) (hp.symm.trans (List.mergeSort_perm _ _).symm) (((AL_up h0 h6).imp fun h => plt_lt h).filter p) ?_).symm
  have TL := PySem.W.sortLe_total (PyProof.Rows.listOrd PyProof.Rows.itemOrd) false fun t : Tup Int => PySem.W.keyToks (placeK t.l)
  have := List.pairwise_mergeSort (le := PySem.W.dataLe false fun t : Tup Int => placeK t.l) (fun a b c h1 h2 => TL.trans a b c h1 h2) (fun a b => by
    rcases TL.total a b with h | h
    · exact (Bool.or_eq_true _ _).mpr (.inl h)
    · exact (Bool.or_eq_true _ _).mpr (.inr h)) L
  exact this.imp fun {a b} h => by
    have h : (!PySem.W.dataLt (placeK b.l) (placeK a.l)) = true := h
    rw [Bool.not_eq_true'] at h
    exact h
theorem AL_nd {n : Int} (h0 : 0 ≤ n) (h6 : n ≤ 6) : (AL n).Nodup := (AL_up h0 h6).imp fun {a b} h e => by
  subst e
  unfold plt at h
  simp [List.lt_irrefl] at h
theorem AL_len {n : Int} (h0 : 0 ≤ n) (h6 : n ≤ 6) : (AL n).length ≤ 64 := by
  have : n = 0 ∨ n = 1 ∨ n = 2 ∨ n = 3 ∨ n = 4 ∨ n = 5 ∨ n = 6 := by omega
  rcases this with e | e | e | e | e | e | e <;> subst e <;> decide +kernel
theorem Pc_congr {f g : Int → Int → Int} {S A : Ff.St} (h : ∀ x y, S x → S y → f x y = g x y) (p : Ff.Pc f S A) : Ff.Pc g S A := ⟨p.1, fun z hz na x y hx hy => by
  have k := p.2 z hz na x y hx hy
  rw [← h z x hz (p.1 x hx), ← h z y hz (p.1 y hy), ← h x z (p.1 x hx) hz, ← h y z (p.1 y hy) hz]
  exact k⟩
theorem FS_fn {f g : Int → Int → Int} {l : List Int} (h : ∀ x ∈ l, ∀ y ∈ l, f x y = g x y) : FS f l = FS g l := by
  rw [Bool.eq_iff_iff, FS_true, FS_true]
  constructor
  · intro F
    exact ⟨F.three, fun A pA => F.pcs A (Pc_congr (fun x y hx hy => (h x hx y hy).symm) pA)⟩
  · intro F
    exact ⟨F.three, fun A pA => F.pcs A (Pc_congr (fun x y hx hy => h x hx y hy) pA)⟩
theorem FS_own {f : Int → Int → Int} {l : List Int} (nd : l.Nodup) : FS f l = firmB l.length fun i j => f (l.getD i.toNat 0) (l.getD j.toNat 0) := by
  rw [firmB_iff (m := l.length) (g := fun i => l.getD i.toNat 0) (by omega) (fun i j i0 i1 j0 j1 h => ?_), ← lot_fn l]
  have hi : i.toNat < l.length := by omega
  have hj : j.toNat < l.length := by omega
  have h : l.getD i.toNat 0 = l.getD j.toNat 0 := h
  rw [List.getD_eq_getElem?_getD, List.getD_eq_getElem?_getD, List.getElem?_eq_getElem hi, List.getElem?_eq_getElem hj] at h
  have := (List.getElem_inj nd).mp (show l[i.toNat] = l[j.toNat] from h)
  omega
theorem firm_FS {n : Int} {f : Int → Int → Int} (h0 : 0 ≤ n) : firmB n f = FS f (rng 0 n) := by
  have e := firmB_iff (m := n) (f := f) (g := fun i => i) h0 (fun i j _ _ _ _ e => e)
  rw [List.map_id'] at e
  exact e
theorem firm_fn {n : Int} {f g : Int → Int → Int} (h0 : 0 ≤ n) (h : ∀ x y, 0 ≤ x → x < n → 0 ≤ y → y < n → f x y = g x y) : firmB n f = firmB n g := by
  rw [firm_FS h0, firm_FS h0]
  exact FS_fn fun x hx y hy => h x y (mem_rng.mp hx).1 (mem_rng.mp hx).2 (mem_rng.mp hy).1 (mem_rng.mp hy).2
variable {f : Int → Int → Int}
theorem FS_few {l : List Int} (h : l.length ≤ 2) : FS f l = false := by
  rw [Bool.eq_false_iff]
  intro z
  obtain ⟨x, y, u, hx, hy, hu, a1, a2, a3⟩ := (FS_true.mp z).three
  have := nd_len (l := [x, y, u]) (m := l) (by simp [a1, a2, a3]) fun v hv => by
    simp only [List.mem_cons, List.not_mem_nil, or_false] at hv
    rcases hv with e | e | e <;> rw [e] <;> assumption
  have h3 : ([x, y, u] : List Int).length = 3 := rfl
  omega
noncomputable def FL (n : Int) (f : Int → Int → Int) : List (Tup Int) := (AL n).filter fun t => FS f t.l
theorem FL_mem {n : Int} (h0 : 0 ≤ n) {t : Tup Int} : t ∈ FL n f ↔ Lot n t.l ∧ FS f t.l = true := by
  unfold FL
  rw [List.mem_filter, AL_mem h0]
theorem FL_nd {n : Int} (h0 : 0 ≤ n) (h6 : n ≤ 6) : (FL n f).Nodup := (AL_nd h0 h6).filter _
theorem FL_len {n : Int} (h0 : 0 ≤ n) (h6 : n ≤ 6) : (FL n f).length ≤ 64 := Nat.le_trans (List.length_filter_le _ _) (AL_len h0 h6)
theorem wCat_lots {n : Int} {P : List (Tup Int) → Prop} (h0 : 0 ≤ n) (h6 : n ≤ 6) (p : P (AL n)) : m_Pall_lots n P := by
  unfold m_Pall_lots
  refine ⟨sm (by omega) (by omega), by rw [rng0_len]; omega, wCat_flat (g := fun k => lvl n k.toNat) (fun k hk K hK => ?_) (show P ((rng 0 (n + 1)).flatMap fun k => lvl n k.toNat) from p)⟩
  have hk := mem_rng.mp hk
  have ll := (lvl_lev (n := n) k.toNat).len h0 (by omega)
  refine two_yes (bs := lvl n k.toNat) (fun K2 h2 => lots_of_eq h0 (by omega) hk.1 (by omega) h2) (by omega) (fun t _ K2 h2 => h2) ?_
  rw [List.map_id']; exact hK
theorem prog_FL {n : Int} {P : Tup (Tup Int) → Prop} (h0 : 0 ≤ n) (h6 : n ≤ 6) (p : P (Tup.mk (FL n f))) : m_Pfirm_lots (tab n f) P := by
  unfold m_Pfirm_lots
  refine wCat_lots (n := n) h0 h6 ⟨by have := AL_len h0 h6; omega, wFil_filter (g := fun t => t) (t := fun t => FS f t.l) (fun t ht K hK => ?_) (fun t _ _ K hK => hK) ?_⟩
  · have hl := (AL_mem h0 t).mp ht
    exact firm_lot_ok (l := t.l) (fun x hx => hl.at' x hx) hl.nd (hl.len8 h0 (by omega)) hK
  · rw [List.map_id']; exact p
theorem sort_FL {n : Int} {L : List (Tup Int)} (h0 : 0 ≤ n) (h6 : n ≤ 6) (nd : L.Nodup) (h : ∀ t, t ∈ L ↔ Lot n t.l ∧ FS f t.l = true) : sortP L = FL n f := by
  refine sortP_eq h0 h6 ((List.perm_ext_iff_of_nodup nd (FL_nd (f := f) h0 h6)).mpr fun t => ?_)
  rw [h t]; exact (FL_mem h0).symm
def srt (m : Int) (l : List Int) : List Int := (rng 0 m).filter fun x => decide (x ∈ l)
theorem srt_lot {m : Int} {l : List Int} : Lot m (srt m l) := Lot.all.filter _
theorem srt_mem {m x : Int} {l : List Int} (h : ∀ x ∈ l, 0 ≤ x ∧ x < m) : x ∈ srt m l ↔ x ∈ l := by
  unfold srt
  rw [List.mem_filter, decide_eq_true_iff]
  exact ⟨fun h => h.2, fun k => ⟨mem_rng.mpr (h x k), k⟩⟩
theorem so_srt {m : Int} {l so : List Int} (h : ∀ x ∈ l, 0 ≤ x ∧ x < m) (nd : l.Nodup) (hp : so.Perm l) (hs : so.Pairwise (· ≤ ·)) : so = srt m l := by
  refine up_ext (up_of_le hs (hp.nodup_iff.mpr nd)) srt_lot.up fun x => ?_
  rw [hp.mem_iff, srt_mem h]
theorem srt_self {m : Int} {l : List Int} (h : Lot m l) : srt m l = l := up_ext srt_lot.up h.up fun x => srt_mem h.at'
theorem map_getD {l : List Int} {g : Int → Int} {i : Int} (i0 : 0 ≤ i) (i1 : i < l.length) : (l.map g).getD i.toNat 0 = g (l.getD i.toNat 0) := by
  have h : i.toNat < l.length := by omega
  rw [List.getD_eq_getElem?_getD, List.getD_eq_getElem?_getD, List.getElem?_map, List.getElem?_eq_getElem h]; rfl
theorem getD_mem {l : List Int} {i : Int} (i0 : 0 ≤ i) (i1 : i < l.length) : l.getD i.toNat 0 ∈ l := by
  rw [List.getD_eq_getElem?_getD, List.getElem?_eq_getElem (show i.toNat < l.length by omega)]
  exact List.getElem_mem _
theorem nd_map {l : List Int} {g : Int → Int} (nd : l.Nodup) (inj : ∀ x ∈ l, ∀ y ∈ l, g x = g y → x = y) : (l.map g).Nodup := by
  induction l with
  | nil => exact List.nodup_nil
  | cons a l ih =>
    have nd' := List.nodup_cons.mp nd
    refine List.nodup_cons.mpr ⟨fun h => ?_, ih nd'.2 fun x hx y hy => inj x (List.mem_cons_of_mem _ hx) y (List.mem_cons_of_mem _ hy)⟩
    obtain ⟨b, hb, e⟩ := List.mem_map.mp h
    have := inj b (List.mem_cons_of_mem _ hb) a (List.mem_cons_self ..) e
    exact nd'.1 (this ▸ hb)
theorem FS_img {h : Int → Int → Int} {g : Int → Int} {l : List Int} (nd : l.Nodup) (inj : ∀ x ∈ l, ∀ y ∈ l, g x = g y → x = y) (e : ∀ x ∈ l, ∀ y ∈ l, h (g x) (g y) = f x y) : FS h (l.map g) = FS f l := by
  rw [FS_own (nd_map nd inj), FS_own nd, List.length_map]
  refine firm_fn (by omega) fun x y x0 x1 y0 y1 => ?_
  rw [map_getD x0 x1, map_getD y0 y1]
  exact e _ (getD_mem x0 x1) _ (getD_mem y0 y1)
theorem led_ok {n m : Int} {g : Int → Int} {L : List (Tup Int)} {names : List Int} {P : Tup (Tup Int) → Prop} (hn : n ≤ 100) (n0 : 0 ≤ n) (hL : ∀ t ∈ L, Lot n t.l) (ll : L.length ≤ 100000) (hg : ∀ x, 0 ≤ x → x < n → 0 ≤ g x ∧ g x < m) (inj : ∀ x y, 0 ≤ x → x < n → 0 ≤ y → y < n → g x = g y → x = y) (hw : ∀ x, 0 ≤ x → x < n → ∀ K : Int → Prop, K (g x) → wIdx names x K) (p : P (Tup.mk (sortP (L.map fun t => Tup.mk (srt m (t.l.map g)))))) : m_led (Tup.mk L) (Tup.mk names) P := by
  unfold m_led
  refine ⟨ll, wFil_map (g := fun t : Tup Int => Tup.mk (srt m (t.l.map g))) (fun t ht K hK => ?_) p⟩
  have hl := hL t ht
  have l8 := hl.len n0
  refine ⟨by omega, wFil_map (g := g) (fun x hx K2 h2 => hw x (hl.at' x hx).1 (hl.at' x hx).2 K2 h2) fun so hp hs => ?_⟩
  have e := so_srt (m := m) (fun x hx => by
    obtain ⟨y, hy, rfl⟩ := List.mem_map.mp hx
    exact hg y (hl.at' y hy).1 (hl.at' y hy).2) (nd_map hl.nd fun x hx y hy => inj x y (hl.at' x hx).1 (hl.at' x hx).2 (hl.at' y hy).1 (hl.at' y hy).2) hp hs
  rw [e]; exact hK
theorem nd_mapG {α β : Type} {l : List α} {g : α → β} (nd : l.Nodup) (inj : ∀ x ∈ l, ∀ y ∈ l, g x = g y → x = y) : (l.map g).Nodup := by
  induction l with
  | nil => exact List.nodup_nil
  | cons a l ih =>
    have nd' := List.nodup_cons.mp nd
    refine List.nodup_cons.mpr ⟨fun h => ?_, ih nd'.2 fun x hx y hy => inj x (List.mem_cons_of_mem _ hx) y (List.mem_cons_of_mem _ hy)⟩
    obtain ⟨b, hb, e⟩ := List.mem_map.mp h
    have := inj b (List.mem_cons_of_mem _ hb) a (List.mem_cons_self ..) e
    exact nd'.1 (this ▸ hb)
theorem led_FL {N m : Int} {f' : Int → Int → Int} {g d : Int → Int} {L : List (Tup Int)} (m0 : 0 ≤ m) (m6 : m ≤ 6) (nd : L.Nodup) (hL : ∀ t ∈ L, Lot N t.l ∧ FS f t.l = true) (hg : ∀ t ∈ L, ∀ x ∈ t.l, 0 ≤ g x ∧ g x < m) (dg : ∀ t ∈ L, ∀ x ∈ t.l, d (g x) = x) (gd : ∀ x, 0 ≤ x → x < m → g (d x) = x) (hf : ∀ t ∈ L, ∀ x ∈ t.l, ∀ y ∈ t.l, f' (g x) (g y) = f x y) (back : ∀ l, Lot m l → FS f' l = true → ∃ t ∈ L, ∀ x, x ∈ t.l ↔ x ∈ l.map d) : sortP (L.map fun t => Tup.mk (srt m (t.l.map g))) = FL m f' := by
  have inr : ∀ t ∈ L, ∀ x ∈ t.l.map g, 0 ≤ x ∧ x < m := fun t ht x hx => by
    obtain ⟨y, hy, rfl⟩ := List.mem_map.mp hx
    exact hg t ht y hy
  have mem : ∀ t ∈ L, ∀ x, x ∈ srt m (t.l.map g) ↔ ∃ y ∈ t.l, g y = x := fun t ht x => by rw [srt_mem (inr t ht), List.mem_map]
  refine sort_FL m0 m6 (nd_mapG nd fun s hs t ht e => ?_) fun t => ?_
  · have e : srt m (s.l.map g) = srt m (t.l.map g) := congrArg Tup.l e
    have : s.l = t.l := up_ext (hL s hs).1.up (hL t ht).1.up fun x => by
      constructor
      · intro hx
        have : g x ∈ srt m (t.l.map g) := by rw [← e]; exact (mem s hs _).mpr ⟨x, hx, rfl⟩
        obtain ⟨y, hy, e2⟩ := (mem t ht _).mp this
        have := congrArg d e2
        rw [dg t ht y hy, dg s hs x hx] at this
        rw [← this]; exact hy
      · intro hx
        have : g x ∈ srt m (s.l.map g) := by rw [e]; exact (mem t ht _).mpr ⟨x, hx, rfl⟩
        obtain ⟨y, hy, e2⟩ := (mem s hs _).mp this
        have := congrArg d e2
        rw [dg s hs y hy, dg t ht x hx] at this
        rw [← this]; exact hy
    cases s; cases t; exact congrArg Tup.mk this
  · rw [List.mem_map]
    constructor
    · rintro ⟨s, hs, rfl⟩
      refine ⟨srt_lot, ?_⟩
      show FS f' (srt m (s.l.map g)) = true
      rw [FS_congr (k := s.l.map g) fun x => srt_mem (inr s hs), FS_img (f := f) (hL s hs).1.nd (fun x hx y hy e => by
        have := congrArg d e
        rw [dg s hs x hx, dg s hs y hy] at this; exact this) (hf s hs)]
      exact (hL s hs).2
    · rintro ⟨hl, hs⟩
      obtain ⟨s, hs', e⟩ := back t.l hl hs
      refine ⟨s, hs', ?_⟩
      have : srt m (s.l.map g) = t.l := up_ext srt_lot.up hl.up fun x => by
        rw [mem s hs' x]
        constructor
        · rintro ⟨y, hy, rfl⟩
          obtain ⟨z, hz, rfl⟩ := List.mem_map.mp ((e y).mp hy)
          have hz' := hl.at' z hz
          rw [gd z hz'.1 hz'.2]; exact hz
        · intro hx
          have hx' := hl.at' x hx
          exact ⟨d x, (e _).mpr (List.mem_map.mpr ⟨x, hx, rfl⟩), gd x hx'.1 hx'.2⟩
      rw [this]
theorem FS_pat {f g : Int → Int → Int} {l : List Int} (h : ∀ z ∈ l, ∀ x ∈ l, ∀ y ∈ l, z ≠ x → z ≠ y → ((f z x = f z y ↔ g z x = g z y) ∧ (f x z = f y z ↔ g x z = g y z))) : FS f l = FS g l := by
  have key : ∀ A, Ff.Pc f (fun x => x ∈ l) A ↔ Ff.Pc g (fun x => x ∈ l) A := fun A => by
    refine ⟨fun p => ⟨p.1, fun z hz nz x y hx hy => ?_⟩, fun p => ⟨p.1, fun z hz nz x y hx hy => ?_⟩⟩
    all_goals
      have zx : z ≠ x := fun e => nz (e ▸ hx)
      have zy : z ≠ y := fun e => nz (e ▸ hy)
      have := h z hz x (p.1 x hx) y (p.1 y hy) zx zy
      have q := p.2 z hz nz x y hx hy
    · exact ⟨this.1.mp q.1, this.2.mp q.2⟩
    · exact ⟨this.1.mpr q.1, this.2.mpr q.2⟩
  rw [Bool.eq_iff_iff, FS_true, FS_true]
  exact ⟨fun F => ⟨F.three, fun A pA => F.pcs A ((key A).mpr pA)⟩, fun F => ⟨F.three, fun A pA => F.pcs A ((key A).mp pA)⟩⟩
end Kp

set_option Elab.async false
set_option linter.all false
set_option maxRecDepth 100000
set_option maxHeartbeats 1000000
namespace Kp
open PySem PySem.Spec PyProof.Rows L2 Dm
open scoped Classical
/-! ### the next lot -/
def rst (n : Int) (l : List Int) : List Int := (rng 0 n).filter fun z => !decide (z ∈ l)
def gt (R : List Int) (i : Int) : Int := R.getD i.toNat 0
noncomputable def hh (f : Int → Int → Int) (l m : List Int) : Option (Tup Int) := if FS f (l ++ m) then some (Tup.mk m) else none
noncomputable def NX (n : Int) (f : Int → Int → Int) (l : List Int) : Option (Tup Int) :=
  ((rng 0 (rst n l).length).findSome? fun x => hh f l [gt (rst n l) x]).or ((rng 0 (rst n l).length).findSome? fun x => (rng (x + 1) (rst n l).length).findSome? fun y => hh f l [gt (rst n l) x, gt (rst n l) y])
theorem oR_or {ρ : Type} {a b : Option ρ} {rt : ρ → Prop} {P : Prop} (h : oR (a.or b) rt P) : oR a rt (oR b rt P) := by
  cases a with
  | none => exact h
  | some q => exact h
theorem oR_opt {ρ : Type} {o : Option ρ} {P : Option ρ → Prop} (h : P o) : oR o (fun r => P (some r)) (P none) := by cases o <;> exact h
theorem rst_lot {n : Int} {l : List Int} : Lot n (rst n l) := Lot.all.filter _
theorem enumA_fn (R : List Int) : enumA R = (rng 0 R.length).map fun x => Pq.mk x (gt R x) := by
  apply List.ext_getElem?
  intro m
  rw [enumA_get, List.getElem?_map, rng_get]
  by_cases z : m < R.length
  · rw [if_pos (by omega), List.getElem?_eq_getElem z]
    show some (Pq.mk (m : Int) R[m]) = some (Pq.mk (0 + (m : Int)) (R.getD (0 + (m : Int)).toNat 0))
    rw [show (0 + (m : Int)).toNat = m by omega, List.getD_eq_getElem?_getD, List.getElem?_eq_getElem z, Int.zero_add]; rfl
  · rw [if_neg (by omega), List.getElem?_eq_none (by omega)]; rfl
theorem drop_fn (R : List Int) {i : Int} (h0 : 0 ≤ i) : R.drop i.toNat = (rng i R.length).map (gt R) := by
  apply List.ext_getElem?
  intro m
  rw [List.getElem?_drop, List.getElem?_map, rng_get]
  by_cases z : i.toNat + m < R.length
  · rw [if_pos (by omega), List.getElem?_eq_getElem z]
    show some _ = some (R.getD (i + (m : Int)).toNat 0)
    rw [show (i + (m : Int)).toNat = i.toNat + m by omega, List.getD_eq_getElem?_getD, List.getElem?_eq_getElem z]; rfl
  · rw [if_neg (by omega), List.getElem?_eq_none (by omega)]; rfl
theorem gt_mem {R : List Int} {x : Int} (h0 : 0 ≤ x) (h1 : x < R.length) : gt R x ∈ R := by
  unfold gt
  rw [List.getD_eq_getElem?_getD, List.getElem?_eq_getElem (by omega : x.toNat < R.length)]
  exact List.getElem_mem _
theorem wIdx_get {R : List Int} {x : Int} {P : Int → Prop} (h0 : 0 ≤ x) (h1 : x < R.length) (p : P (gt R x)) : wIdx R x P := by
  conv => arg 1; rw [lot_fn R]
  exact wIdx_map (n := R.length) (g := gt R) h0 h1 p
theorem rst_mem {n x : Int} {l : List Int} : x ∈ rst n l ↔ (0 ≤ x ∧ x < n) ∧ x ∉ l := by
  unfold rst
  rw [List.mem_filter, mem_rng]
  simp
theorem gt_inj {R : List Int} (nd : R.Nodup) {x y : Int} (x0 : 0 ≤ x) (x1 : x < R.length) (y0 : 0 ≤ y) (y1 : y < R.length) (h : gt R x = gt R y) : x = y := by
  have hi : x.toNat < R.length := by omega
  have hj : y.toNat < R.length := by omega
  unfold gt at h
  rw [List.getD_eq_getElem?_getD, List.getD_eq_getElem?_getD, List.getElem?_eq_getElem hi, List.getElem?_eq_getElem hj] at h
  have := (List.getElem_inj nd).mp (show R[x.toNat] = R[y.toNat] from h)
  omega
theorem oR_hh {f : Int → Int → Int} {l m : List Int} {rt : Tup Int → Prop} {P : Prop} (h : oR (hh f l m) rt P) : wIf (FS f (l ++ m)) (rt (Tup.mk m)) P := by
  unfold hh at h
  exact oR_if h
theorem app_ok {n : Int} {l m : List Int} (h0 : 0 ≤ n) (h8 : n ≤ 8) (hl : Lot n l) (nm : m.Nodup) (sub : ∀ x ∈ m, x ∈ rst n l) : In n (l ++ m) ∧ (l ++ m).Nodup ∧ (l ++ m).length ≤ 8 := by
  have hI : In n (l ++ m) := fun x hx => by
    rcases List.mem_append.mp hx with e | e
    · exact hl.at' x e
    · exact (rst_mem.mp (sub x e)).1
  have nd : (l ++ m).Nodup := List.nodup_append.mpr ⟨hl.nd, nm, fun x hx y hy e => (rst_mem.mp (sub y hy)).2 (e ▸ hx)⟩
  refine ⟨hI, nd, ?_⟩
  have := nd_len (l := l ++ m) (m := rng 0 n) nd fun x hx => mem_rng.mpr (hI x hx)
  rw [rng0_len] at this
  omega
end Kp


set_option Elab.async false
set_option linter.all false
set_option maxRecDepth 100000
set_option maxHeartbeats 1000000
namespace Kp
open PySem PySem.Spec PyProof.Rows L2 Dm
open scoped Classical
variable {f : Int → Int → Int}
theorem rng_snoc {m : Int} (m0 : 0 ≤ m) : rng 0 (m + 1) = rng 0 m ++ [m] := by
  refine up_ext rng_up (List.pairwise_append.mpr ⟨rng_up, List.pairwise_singleton _ _, fun a ha b hb => ?_⟩) fun x => ?_
  · rw [List.mem_singleton] at hb
    have := mem_rng.mp ha; omega
  · rw [List.mem_append, mem_rng, mem_rng, List.mem_singleton]; omega
/-! ### the law's lots, in their order -/
theorem lots_eq {n : Int} {P : List (Tup Int) → Prop} (h0 : 0 ≤ n) (h8 : n ≤ 6) (p : P (AL n)) : m_lots n P := by
  unfold m_lots
  refine ⟨sm h0 (by omega), wFor_rng h0 (fun i (k : List (Tup Int) × List (Tup Int)) => k.2 = lvl n i.toNat ∧ k.1 = (rng 0 (i + 1)).flatMap fun k => lvl n k.toNat) ⟨rfl, rfl⟩ (fun i k i0 i1 hk K hK => ?_) (fun k hk => by rw [hk.2]; exact p)⟩
  obtain ⟨e2, e1⟩ := hk
  obtain ⟨k1, k2⟩ := k
  subst e1
  subst e2
  have lev := lvl_lev (n := n) i.toNat
  have ll := lev.len h0 (by omega)
  have nx := lev.next
  have lnx := nx.len h0 (by omega)
  have ltot : ((rng 0 (i + 1)).flatMap fun k => lvl n k.toNat).length ≤ 7 * 256 := by
    have : ∀ L : List Int, (L.flatMap fun k => lvl n k.toNat).length ≤ L.length * 256 := fun L => by
      induction L with
      | nil => simp
      | cons a L ih =>
        rw [List.flatMap_cons, List.length_append, List.length_cons, Nat.succ_mul]
        have := (lvl_lev (n := n) a.toNat).len h0 (by omega); omega
    have h2 := this (rng 0 (i + 1))
    rw [rng0_len] at h2
    have : (i + 1).toNat * 256 ≤ 7 * 256 := Nat.mul_le_mul_right _ (by omega)
    omega
  refine wFor_flat (g := nextL n) (b := 8) (M := 3000) (fun t ht => nextL_len ((lev.mem t).mp ht).1 (by omega)) (by show ([] : List (Tup Int)).length + (lvl n i.toNat).length * 8 ≤ 3000; rw [List.length_nil]; omega) (fun t ht acc hacc K2 hK2 => ?_) ?_
  · have hl := ((lev.mem t).mp ht).1
    have b0 := bg_0 hl
    have bn : bg t.l ≤ 8 := by have := b0.2; split at this <;> omega
    have l8 := hl.len8 h0 (by omega)
    refine cpsE (bg t.l) (fun nx hnx => ⟨(lot_okd (l := t.l) hl h0 (by omega)).eq' (by omega), (lot_okd (Lot.nil (n := n)) h0 (by omega)).eq' (by omega), ?_⟩) ?_
    · rw [tup_eqv]; exact begin_ok hnx
    · have nl := nextL_len hl (show n ≤ 8 by omega)
      refine ⟨⟨sm b0.1 (by omega), sm h0 (by omega)⟩, by rw [rng_len]; omega, wFil_map (g := fun x => Tup.mk (t.l ++ [x])) (fun x _ K3 h3 => ⟨by show t.l.length + 1 ≤ 100000; omega, h3⟩) ⟨?_, hK2⟩⟩
      show acc.length + (nextL n t).length ≤ 100000
      omega
  · rw [List.nil_append]
    refine ⟨by show ((rng 0 (i + 1)).flatMap fun k => lvl n k.toNat).length + ((lvl n i.toNat).flatMap (nextL n)).length ≤ 100000; omega, hK _ ⟨?_, ?_⟩⟩
    · show (lvl n i.toNat).flatMap (nextL n) = lvl n (i + 1).toNat
      rw [show (i + 1).toNat = i.toNat + 1 by omega]; rfl
    · show ((rng 0 (i + 1)).flatMap fun k => lvl n k.toNat) ++ (lvl n i.toNat).flatMap (nextL n) = (rng 0 (i + 1 + 1)).flatMap fun k => lvl n k.toNat
      rw [rng_snoc (m := i + 1) (by omega), List.flatMap_append, List.flatMap_cons, List.flatMap_nil, List.append_nil, show (i + 1).toNat = i.toNat + 1 by omega]; rfl
/-- three things and more -/
def A3 (n : Int) : List (Tup Int) := (AL n).filter fun t => decide ((2 : Int) < (t.l.length : Int))
theorem A3_mem {n : Int} {t : Tup Int} (h : t ∈ A3 n) : t ∈ AL n := (List.mem_filter.mp h).1
theorem A3_len {n : Int} (h0 : 0 ≤ n) (h6 : n ≤ 6) : (A3 n).length ≤ 64 := Nat.le_trans (List.length_filter_le _ _) (AL_len h0 h6)
theorem A3_FL {n : Int} : (A3 n).filter (fun t => FS f t.l) = FL n f := by
  unfold A3 FL
  rw [List.filter_filter]
  refine List.filter_congr fun t _ => ?_
  by_cases h : (2 : Int) < (t.l.length : Int)
  · rw [decide_eq_true h, Bool.and_true]
  · rw [FS_few (l := t.l) (by omega), Bool.false_and]
theorem ways_okd {n : Int} {L : List (Tup Int)} (h0 : 0 ≤ n) (h8 : n ≤ 8) (h : ∀ t ∈ L, Lot n t.l) (hl : L.length ≤ 300) : Okd (enc (Tup.mk L)) 3000 2 := Dm.Okd.mono (Okd.tup 300 (fun t ht => lot_okd (h t ht) h0 h8) hl) (by omega) (by omega)
theorem FL_okd {n : Int} (h0 : 0 ≤ n) (h6 : n ≤ 6) : Okd (enc (Tup.mk (FL n f))) 3000 2 := ways_okd h0 (by omega) (fun t ht => ((FL_mem h0).mp ht).1) (by have := FL_len (f := f) h0 h6; omega)
theorem lawfil_ok {n : Int} {L : List (Tup Int)} {P : List (Tup Int) → Prop} (h0 : 0 ≤ n) (h6 : n ≤ 6) (hL : ∀ t ∈ L, Lot n t.l) (ll : L.length ≤ 100) (p : P (L.filter fun t => FS f t.l)) : L.length ≤ 100000 ∧ wFil L (fun a8 => (fun K : Bool → Prop => m_is_firm (mk n f) a8 fun r9 => K r9)) (fun a8 => fun K : (Tup Int) → Prop => K a8) P := by
  refine ⟨by omega, wFil_filter (g := fun t => t) (t := fun t => FS f t.l) (fun t ht K hK => ?_) (fun t _ _ K hK => hK) (by rw [List.map_id']; exact p)⟩
  have hl := hL t ht
  exact lawfirm_ok (l := t.l) h0 (by omega) (fun x hx => hl.at' x hx) hl.nd (hl.len8 h0 (by omega)) hK
/-! ### turned, painted, renamed tables -/
theorem Pturned_ok {n : Int} {P : P2 Int (Tup (Tup Int)) → Prop} (h0 : 0 ≤ n) (h8 : n ≤ 8) (p : P (tab n fun x y => f y x)) : m_Pturned (tab n f) P := by
  unfold m_Pturned
  refine ⟨sm h0 (by show n ≤ 1000; omega), lr (by show n ≤ 100; omega), wFil_map (g := fun x => Tup.mk (row n fun y => f y x)) (fun x hx K hK => ⟨sm h0 (by show n ≤ 1000; omega), lr (by show n ≤ 100; omega), wFil_map (g := fun y => f y x) (fun y hy K2 hK2 => ?_) hK⟩) p⟩
  rw [mem_rng] at hx hy
  exact wIdx_map hy.1 hy.2 (wIdx_map hx.1 hx.2 hK2)
theorem Ppainted_ok {n : Int} {m : Mp} {h : Int → Int} {P : P2 Int (Tup (Tup Int)) → Prop} (h0 : 0 ≤ n) (h8 : n ≤ 8) (hm : ∀ x y, 0 ≤ x → x < n → 0 ≤ y → y < n → x ≠ y → getM m.l (f x y) = some (h (f x y))) (p : P (tab n fun x y => if x = y then 0 else h (f x y))) : m_Ppainted (tab n f) m P := by
  unfold m_Ppainted
  refine ⟨sm h0 (by show n ≤ 1000; omega), lr (by show n ≤ 100; omega), wFil_map (g := fun x => Tup.mk (row n fun y => if x = y then 0 else h (f x y))) (fun x hx K hK => ⟨sm h0 (by show n ≤ 1000; omega), lr (by show n ≤ 100; omega), wFil_map (g := fun y => if x = y then 0 else h (f x y)) (fun y hy K2 hK2 => ?_) hK⟩) p⟩
  rw [mem_rng] at hx hy
  refine cpsE (if x = y then 0 else h (f x y)) (fun nx hnx => ⟨fun z => ?_, fun z => ?_⟩) hK2
  · rw [if_pos (of_decide_eq_true z)] at hnx; exact hnx
  · have ne := of_decide_eq_false z
    rw [if_neg ne] at hnx
    exact wIdx_map hx.1 hx.2 (wIdx_map hy.1 hy.2 ⟨_, hm x y hx.1 hx.2 hy.1 hy.2 ne, hnx⟩)
/-- a naming, and the way back -/
structure Nm (n : Int) (l : List Int) (g d : Int → Int) : Prop where
  eq : l = (rng 0 n).map g
  at' : ∀ x, 0 ≤ x → x < n → 0 ≤ g x ∧ g x < n
  back : ∀ x, 0 ≤ x → x < n → 0 ≤ d x ∧ d x < n
  dg : ∀ x, 0 ≤ x → x < n → d (g x) = x
  gd : ∀ x, 0 ≤ x → x < n → g (d x) = x
theorem nm_of {n : Int} {l : List Int} (h0 : 0 ≤ n) (hp : l.Perm (rng 0 n)) : ∃ g d, Nm n l g d ∧ d = fun x => ((l.idxOf x : Nat) : Int) := by
  obtain ⟨g, e, hg⟩ := names_fn h0 hp
  have ll := hp.length_eq
  rw [rng0_len] at ll
  have nd : l.Nodup := hp.nodup_iff.mpr (rng_up.imp fun h => by omega)
  have mem : ∀ x, 0 ≤ x → x < n → x ∈ l := fun x x0 x1 => hp.mem_iff.mpr (mem_rng.mpr ⟨x0, x1⟩)
  have at_ : ∀ i : Nat, (hi : i < l.length) → l[i] = g i := fun i hi => by
    have h2 : l[i]? = some (g i) := by
      rw [e, List.getElem?_map, rng_get, if_pos (by omega)]
      show some (g (0 + (i : Int))) = some (g i)
      rw [Int.zero_add]
    rw [List.getElem?_eq_getElem hi] at h2
    exact Option.some.inj h2
  refine ⟨g, fun x => ((l.idxOf x : Nat) : Int), ⟨e, hg, fun x x0 x1 => ?_, fun x x0 x1 => ?_, fun x x0 x1 => ?_⟩, rfl⟩
  · have := List.idxOf_lt_length_iff.mpr (mem x x0 x1); omega
  · have hx : x.toNat < l.length := by omega
    have e2 : g x = l[x.toNat] := by rw [at_ _ hx]; congr 1; omega
    show ((l.idxOf (g x) : Nat) : Int) = x
    rw [e2, nd.idxOf_getElem]; omega
  · have hx := List.idxOf_lt_length_iff.mpr (mem x x0 x1)
    have := at_ _ hx
    rw [← this]
    exact List.getElem_idxOf hx
theorem Prenamed_ok {n : Int} {l : List Int} {g d : Int → Int} {P : P2 Int (Tup (Tup Int)) → Prop} (h0 : 0 ≤ n) (h8 : n ≤ 8) (hp : l.Perm (rng 0 n)) (nm : Nm n l g d) (ed : d = fun x => ((l.idxOf x : Nat) : Int)) (p : P (tab n fun x y => f (d x) (d y))) : m_Prenamed (tab n f) (Tup.mk l) P := by
  unfold m_Prenamed
  have ll := hp.length_eq
  rw [rng0_len] at ll
  have ln : (l.length : Int) = n := by omega
  show small ((l.length : Nat) : Int) ∧ _
  rw [ln]
  refine ⟨sm h0 (by omega), lr (by omega), wFil_map (g := d) (fun x hx K hK => ?_) ?_⟩
  · have hx' := mem_rng.mp hx
    exact ⟨hp.mem_iff.mpr hx, by rw [ed] at hK; exact hK⟩
  · unfold m_Ppicked
    have l2 : (((rng 0 n).map d).length : Int) = n := map_len' h0
    have l3 : ((rng 0 n).map d).length ≤ 100000 := by omega
    refine ⟨l3, wFil_map (g := fun x => Tup.mk (((rng 0 n).map d).map (f x))) (fun x hx K hK => ⟨l3, wFil_map (g := fun y => f x y) (fun y hy K2 hK2 => ?_) hK⟩) ?_⟩
    · obtain ⟨i, hi, rfl⟩ := List.mem_map.mp hx
      obtain ⟨j, hj, rfl⟩ := List.mem_map.mp hy
      have hi := mem_rng.mp hi
      have hj := mem_rng.mp hj
      have bi := nm.back i hi.1 hi.2
      have bj := nm.back j hj.1 hj.2
      exact wIdx_map bi.1 bi.2 (wIdx_map bj.1 bj.2 hK2)
    · rw [l2, List.map_map]
      refine (show P2.mk n (Tup.mk ((rng 0 n).map ((fun x => Tup.mk (((rng 0 n).map d).map (f x))) ∘ d))) = tab n (fun x y => f (d x) (d y)) from ?_) ▸ p
      unfold tab row
      congr 2
      refine List.map_congr_left fun i _ => ?_
      show Tup.mk (((rng 0 n).map d).map (f (d i))) = Tup.mk ((rng 0 n).map fun y => f (d i) (d y))
      rw [List.map_map]; rfl
/-! ### their firm lots -/
theorem FL_congr {n : Int} {g : Int → Int → Int} (h : ∀ l, Lot n l → FS f l = FS g l) (h0 : 0 ≤ n) : FL n f = FL n g := by
  unfold FL
  exact List.filter_congr fun t ht => h t.l ((AL_mem h0 t).mp ht)
theorem FS_flip {l : List Int} : FS (fun x y => f y x) l = FS f l := by
  have key : ∀ A, Ff.Pc (fun x y => f y x) (fun x => x ∈ l) A ↔ Ff.Pc f (fun x => x ∈ l) A := fun A => ⟨fun p => ⟨p.1, fun z hz nz x y hx hy => (p.2 z hz nz x y hx hy).symm⟩, fun p => ⟨p.1, fun z hz nz x y hx hy => (p.2 z hz nz x y hx hy).symm⟩⟩
  rw [Bool.eq_iff_iff, FS_true, FS_true]
  exact ⟨fun F => ⟨F.three, fun A pA => F.pcs A ((key A).mpr pA)⟩, fun F => ⟨F.three, fun A pA => F.pcs A ((key A).mp pA)⟩⟩
theorem FL_flip {n : Int} (h0 : 0 ≤ n) : FL n (fun x y => f y x) = FL n f := FL_congr (fun l _ => FS_flip) h0
/-- one look for one look, unlike for unlike -/
theorem FL_paint {n : Int} {h : Int → Int} (h0 : 0 ≤ n) (inj : ∀ x y u v, 0 ≤ x → x < n → 0 ≤ y → y < n → 0 ≤ u → u < n → 0 ≤ v → v < n → x ≠ y → u ≠ v → h (f x y) = h (f u v) → f x y = f u v) : FL n (fun x y => if x = y then 0 else h (f x y)) = FL n f := FL_congr (fun l hl => FS_pat fun z hz x hx y hy zx zy => by
  have hz := hl.at' z hz
  have hx := hl.at' x hx
  have hy := hl.at' y hy
  rw [if_neg zx, if_neg zy, if_neg (Ne.symm zx), if_neg (Ne.symm zy)]
  exact ⟨⟨fun e => inj z x z y hz.1 hz.2 hx.1 hx.2 hz.1 hz.2 hy.1 hy.2 zx zy e, fun e => by rw [e]⟩, ⟨fun e => inj x z y z hx.1 hx.2 hz.1 hz.2 hy.1 hy.2 hz.1 hz.2 (Ne.symm zx) (Ne.symm zy) e, fun e => by rw [e]⟩⟩) h0
theorem led_law {n : Int} {l : List Int} {g d : Int → Int} {P : Tup (Tup Int) → Prop} (h0 : 0 ≤ n) (h6 : n ≤ 6) (nm : Nm n l g d) (p : P (Tup.mk (FL n fun x y => f (d x) (d y)))) : m_led (Tup.mk (FL n f)) (Tup.mk l) P := by
  have lots : ∀ t ∈ FL n f, Lot n t.l := fun t ht => ((FL_mem h0).mp ht).1
  refine led_ok (n := n) (m := n) (g := g) (by omega) h0 lots (by have := FL_len (f := f) h0 h6; omega) nm.at' (fun x y x0 x1 y0 y1 e => ?_) (fun x x0 x1 K hK => ?_) ?_
  · have := congrArg d e
    rwa [nm.dg x x0 x1, nm.dg y y0 y1] at this
  · rw [nm.eq]; exact wIdx_map x0 x1 hK
  · rw [led_FL (f := f) (N := n) (m := n) (f' := fun x y => f (d x) (d y)) (g := g) (d := d) h0 h6 (FL_nd h0 h6) (fun t ht => (FL_mem h0).mp ht) (fun t ht x hx => nm.at' x ((lots t ht).at' x hx).1 ((lots t ht).at' x hx).2) (fun t ht x hx => nm.dg x ((lots t ht).at' x hx).1 ((lots t ht).at' x hx).2) nm.gd (fun t ht x hx y hy => by
      rw [nm.dg x ((lots t ht).at' x hx).1 ((lots t ht).at' x hx).2, nm.dg y ((lots t ht).at' y hy).1 ((lots t ht).at' y hy).2]) fun k hk hf => ?_]
    · exact p
    · have kin : ∀ x ∈ k.map d, 0 ≤ x ∧ x < n := fun x hx => by
        obtain ⟨y, hy, rfl⟩ := List.mem_map.mp hx
        exact nm.back y (hk.at' y hy).1 (hk.at' y hy).2
      refine ⟨Tup.mk (srt n (k.map d)), (FL_mem h0).mpr ⟨srt_lot, ?_⟩, fun x => srt_mem kin⟩
      show FS f (srt n (k.map d)) = true
      rw [FS_congr (k := k.map d) fun x => srt_mem kin, FS_img (f := fun x y => f (d x) (d y)) hk.nd (fun x hx y hy e => ?_) (fun x hx y hy => rfl)]
      · exact hf
      · have := congrArg g e
        rwa [nm.gd x (hk.at' x hx).1 (hk.at' x hx).2, nm.gd y (hk.at' y hy).1 (hk.at' y hy).2] at this
end Kp

set_option Elab.async false
set_option linter.all false
set_option maxRecDepth 100000
set_option maxHeartbeats 1000000
namespace Kp
open PySem PySem.Spec PyProof.Rows L2 Dm
open scoped Classical
variable {f : Int → Int → Int}
/-! ### any items in a drawn order -/
theorem mixedL_ok {L : List Int} {P : List Int → Prop} (hl : L.length ≤ 100) (p : ∀ l, l.Perm L → P l) : m_mixed L P := by
  unfold m_mixed
  refine ⟨⟨by omega, by omega⟩, wFor_rng (by omega) (fun i (k : List Int × List Int) => (k.2 ++ k.1).Perm L ∧ (k.2.length : Int) = i) ⟨List.Perm.refl _, rfl⟩ (fun i k i0 i1 hk K hK => ?_) (fun k hk => p _ ?_)⟩
  · obtain ⟨hp, hl2⟩ := hk
    have tot := hp.length_eq
    rw [List.length_append] at tot
    refine draw_ok (by omega) (by omega) fun m m0 m1 => ?_
    have hm : m.toNat < k.1.length := by omega
    refine ⟨⟨by omega, by omega⟩, m.toNat, k.1[m.toNat], ?_, List.getElem?_eq_getElem hm, by omega, hK _ ⟨?_, ?_⟩⟩
    · unfold PySem.seqIndex?
      have e1 : ¬ m < 0 := by omega
      simp only [if_neg e1]
      rw [if_pos (by rw [decide_eq_true (show 0 ≤ m by omega), decide_eq_true (show m < (k.1.length : Int) by omega)]; rfl)]
    · refine List.Perm.trans ?_ hp
      show ((k.2 ++ [k.1[m.toNat]]) ++ k.1.eraseIdx m.toNat).Perm (k.2 ++ k.1)
      rw [List.append_assoc]
      exact List.Perm.append_left _ (erase_perm hm)
    · show ((k.2 ++ [k.1[m.toNat]]).length : Int) = i + 1
      rw [List.length_append, List.length_singleton]; omega
  · obtain ⟨hp, hl2⟩ := hk
    have tot := hp.length_eq
    rw [List.length_append] at tot
    have e : k.1 = [] := List.length_eq_zero_iff.mp (by omega)
    rw [e, List.append_nil] at hp
    exact hp
/-! ### paints -/
theorem getM_out {k : Int} : ∀ {l : List (P2 Int Int)} {m : List (Int × Int)}, (∀ p ∈ l, p.a ≠ k) → getM (l.foldl (fun m p => putM m p.a p.b) m) k = getM m k
  | [], m, _ => rfl
  | q :: l, m, h => by
    show getM (l.foldl (fun m p => putM m p.a p.b) (putM m q.a q.b)) k = getM m k
    rw [getM_out fun p hp => h p (List.mem_cons_of_mem _ hp), getM_put, if_neg fun e => h q (List.mem_cons_self ..) e.symm]
theorem getM_in : ∀ {l : List (P2 Int Int)} {m : List (Int × Int)}, (l.map fun p => p.a).Nodup → ∀ p ∈ l, getM (l.foldl (fun m p => putM m p.a p.b) m) p.a = some p.b
  | q :: l, m, nd, p, hp => by
    rw [List.map_cons] at nd
    have nd' := List.nodup_cons.mp nd
    show getM (l.foldl (fun m p => putM m p.a p.b) (putM m q.a q.b)) p.a = some p.b
    rcases List.mem_cons.mp hp with e | hp
    · subst e
      rw [getM_out fun r hr e => nd'.1 (List.mem_map.mpr ⟨r, hr, e⟩), getM_put, if_pos rfl]
    · exact getM_in nd'.2 p hp
theorem fm37 {b i j : Int} (i0 : 0 ≤ i) (i1 : i < 100) (j0 : 0 ≤ j) (j1 : j < 100) (h : Int.fmod (b + 37 * i) 100 = Int.fmod (b + 37 * j) 100) : i = j := by
  rw [Int.fmod_eq_emod_of_nonneg _ (by omega), Int.fmod_eq_emod_of_nonneg _ (by omega)] at h
  omega
structure Pt (n : Int) (f : Int → Int → Int) (m : Mp) (h : Int → Int) : Prop where
  get : ∀ x y, 0 ≤ x → x < n → 0 ≤ y → y < n → x ≠ y → getM m.l (f x y) = some (h (f x y))
  inj : ∀ x y u v, 0 ≤ x → x < n → 0 ≤ y → y < n → 0 ≤ u → u < n → 0 ≤ v → v < n → x ≠ y → u ≠ v → h (f x y) = h (f u v) → f x y = f u v
theorem paints_ok {n : Int} {P : Mp → Prop} (h0 : 0 ≤ n) (h6 : n ≤ 6) (p : ∀ m h, Pt n f m h → P m) : m_paints (mk n f) P := by
  unfold m_paints
  have ln : ((mk n f).length : Int) = n := map_len' h0
  refine ⟨by rw [ln]; exact sm h0 (by omega), ?_⟩
  dsimp only [wLet]
  rw [ln]
  refine wFor_rng h0 (fun i (k : List Int) => (k.length : Int) ≤ 6 * i ∧ ∀ x y, 0 ≤ x → x < i → 0 ≤ y → y < n → x ≠ y → f x y ∈ k) ⟨by show ((0 : Nat) : Int) ≤ _; omega, fun x y a b => by omega⟩ (fun i k i0 i1 hk K hK => ?_) (fun k hk => ?_)
  · obtain ⟨kl, kall⟩ := hk
    refine ⟨sm h0 (by omega), lr (by omega), wFil_filter (g := fun y => f i y) (t := fun y => !decide (y = i) && !decide (f i y ∈ k)) (fun y hy K2 h2 => ?_) (fun y hy _ K2 h2 => ?_) ⟨?_, hK _ ⟨?_, ?_⟩⟩⟩
    · have hy := mem_rng.mp hy
      refine cpsE (!decide (y = i) && !decide (f i y ∈ k)) (fun nx hnx => ⟨fun z => ?_, fun z => ?_⟩) h2
      · rw [z, Bool.true_and] at hnx
        exact wIdx_map i0 i1 (wIdx_map hy.1 hy.2 hnx)
      · rw [z, Bool.false_and] at hnx; exact hnx
    · have hy := mem_rng.mp hy
      exact wIdx_map i0 i1 (wIdx_map hy.1 hy.2 h2)
    · rw [List.length_map]
      have := List.length_filter_le (fun y => !decide (y = i) && !decide (f i y ∈ k)) (rng 0 n)
      rw [rng0_len] at this
      omega
    · rw [List.length_append, List.length_map]
      have := List.length_filter_le (fun y => !decide (y = i) && !decide (f i y ∈ k)) (rng 0 n)
      rw [rng0_len] at this
      omega
    · intro x y x0 x1 y0 y1 ne
      by_cases c : x < i
      · exact List.mem_append_left _ (kall x y x0 c y0 y1 ne)
      · have e : x = i := by omega
        subst e
        by_cases m : f x y ∈ k
        · exact List.mem_append_left _ m
        · refine List.mem_append_right _ (List.mem_map.mpr ⟨y, List.mem_filter.mpr ⟨mem_rng.mpr ⟨y0, y1⟩, ?_⟩, rfl⟩)
          rw [decide_eq_false (Ne.symm ne), decide_eq_false m]; rfl
  · obtain ⟨kl, kall⟩ := hk
    refine draw_ok (by omega) (by omega) fun b b0 b1 => mixedL_ok (by omega) fun l hl => ?_
    have ll := hl.length_eq
    have go : ∀ (as k0 : List Int) (Q : List Int → Prop), k0.length + as.length ≤ 90 → k0.Nodup → (∀ kk : List Int, kk.Nodup → kk.length ≤ 90 → (∀ x, x ∈ kk ↔ x ∈ k0 ∨ x ∈ as) → Q kk) → wFor as k0 (fun a19 k18 nx20 => wCps (fun nx21 : (List Int) → Prop => wIf (!decide (a19 ∈ k18)) ((k18.length < 100000 ∧ nx21 (k18 ++ [a19]))) (nx21 k18)) fun k22 => nx20 k22) Q := fun as => by
      induction as with
      | nil => intro k0 Q hl nd q; exact q k0 nd (by simpa using hl) fun x => by simp
      | cons a as ih =>
        intro k0 Q hl nd q
        rw [List.length_cons] at hl
        change wCps (fun nx21 : List Int → Prop => wIf (!decide (a ∈ k0)) (k0.length < 100000 ∧ nx21 (k0 ++ [a])) (nx21 k0)) (fun k22 => wFor as k22 _ Q)
        refine cpsE (if a ∈ k0 then k0 else k0 ++ [a]) (fun nx h => ⟨fun z => ?_, fun z => ?_⟩) ?_
        · have z : a ∉ k0 := by simpa using z
          rw [if_neg z] at h
          exact ⟨by omega, h⟩
        · have z : a ∈ k0 := by simpa using z
          rw [if_pos z] at h; exact h
        · by_cases m : a ∈ k0
          · rw [if_pos m]
            refine ih k0 Q (by omega) nd fun kk n1 n2 n3 => q kk n1 n2 fun x => ?_
            rw [n3 x, List.mem_cons]
            constructor
            · rintro (h | h)
              · exact .inl h
              · exact .inr (.inr h)
            · rintro (h | h | h)
              · exact .inl h
              · exact .inl (h ▸ m)
              · exact .inr h
          · rw [if_neg m]
            refine ih (k0 ++ [a]) Q (by rw [List.length_append, List.length_singleton]; omega) (List.nodup_append.mpr ⟨nd, by simp, fun x hx y hy => by rw [List.mem_singleton] at hy; rw [hy]; exact fun e => m (e ▸ hx)⟩) fun kk n1 n2 n3 => q kk n1 n2 fun x => ?_
            rw [n3 x, List.mem_append, List.mem_singleton, List.mem_cons]
            exact or_assoc
    refine go l [] _ (by rw [List.length_nil]; omega) List.nodup_nil fun kk nd kl2 kmem => ?_
    have el : (enumA kk).length = kk.length := by
      rw [enumA_fn, List.length_map, rng0_len]; omega
    refine ⟨by omega, wFil_map (g := fun a25 : Pq Int Int => P2.mk a25.b (Int.fmod (b + 37 * a25.a) 100)) (fun a ha K2 h2 => ⟨.inl (by decide), by decide, h2⟩) ?_⟩
    have keys : ((enumA kk).map fun a25 : Pq Int Int => P2.mk a25.b (Int.fmod (b + 37 * a25.a) 100)).map (fun p => p.a) = kk := by
      rw [List.map_map, enumA_fn, List.map_map]
      exact (lot_fn kk).symm
    have mem : ∀ v ∈ kk, ∃ i : Int, 0 ≤ i ∧ i < 90 ∧ gt kk i = v ∧ getM (mpOf ((enumA kk).map fun a25 : Pq Int Int => P2.mk a25.b (Int.fmod (b + 37 * a25.a) 100))).l v = some (Int.fmod (b + 37 * i) 100) := fun v hv => by
      obtain ⟨i, hi, e⟩ := List.getElem_of_mem hv
      have ge : gt kk (i : Int) = v := by
        unfold gt
        rw [show ((i : Int)).toNat = i by omega, List.getD_eq_getElem?_getD, List.getElem?_eq_getElem hi, e]; rfl
      refine ⟨i, by omega, by omega, ge, ?_⟩
      have inl : P2.mk v (Int.fmod (b + 37 * (i : Int)) 100) ∈ (enumA kk).map fun a25 : Pq Int Int => P2.mk a25.b (Int.fmod (b + 37 * a25.a) 100) := by
        refine List.mem_map.mpr ⟨Pq.mk (i : Int) v, ?_, rfl⟩
        rw [enumA_fn]
        exact List.mem_map.mpr ⟨(i : Int), mem_rng.mpr ⟨by omega, by omega⟩, by rw [ge]⟩
      exact getM_in (m := []) (by rw [keys]; exact nd) _ inl
    refine p _ (fun v => if hv : v ∈ kk then Int.fmod (b + 37 * (Classical.choose (mem v hv))) 100 else 0) ⟨fun x y x0 x1 y0 y1 ne => ?_, fun x y u v x0 x1 y0 y1 u0 u1 v0 v1 ne ne2 e => ?_⟩
    · have hv : f x y ∈ kk := (kmem _).mpr (.inr (hl.mem_iff.mpr (kall x y x0 x1 y0 y1 ne)))
      show _ = some (if hv : f x y ∈ kk then Int.fmod (b + 37 * (Classical.choose (mem (f x y) hv))) 100 else 0)
      rw [dif_pos hv]
      exact (Classical.choose_spec (mem (f x y) hv)).2.2.2
    · have hv : f x y ∈ kk := (kmem _).mpr (.inr (hl.mem_iff.mpr (kall x y x0 x1 y0 y1 ne)))
      have hu : f u v ∈ kk := (kmem _).mpr (.inr (hl.mem_iff.mpr (kall u v u0 u1 v0 v1 ne2)))
      have e : (if hv : f x y ∈ kk then Int.fmod (b + 37 * (Classical.choose (mem (f x y) hv))) 100 else 0) = (if hv : f u v ∈ kk then Int.fmod (b + 37 * (Classical.choose (mem (f u v) hv))) 100 else 0) := e
      rw [dif_pos hv, dif_pos hu] at e
      have s1 := Classical.choose_spec (mem (f x y) hv)
      have s2 := Classical.choose_spec (mem (f u v) hu)
      have := fm37 s1.1 (by have := s1.2.1; omega) s2.1 (by have := s2.2.1; omega) e
      rw [← s1.2.2.1, ← s2.2.2.1, this]
end Kp

set_option Elab.async false
set_option linter.all false
set_option maxRecDepth 100000
set_option maxHeartbeats 1000000
namespace Kp
open PySem PySem.Spec PyProof.Rows L2 Dm
open scoped Classical
variable {f : Int → Int → Int}
theorem any_ok {n : Int} {s : List Int} {P : List (List Int) → Prop} (h0 : 0 ≤ n) (h8 : n ≤ 8) (hs : Mn s) (p : ∀ R, IsT n R → P R) : m_any n s P := by
  unfold m_any
  refine draw_ok (by omega) (by omega) fun w w0 w1 => ?_
  dsimp only [wLet]
  refine cps (fun _ => True) (fun nx h => ⟨fun _ => h _ trivial, fun _ => h _ trivial⟩) fun c _ => ⟨fun _ => core_ok h0 h8 hs p, fun _ => ?_⟩
  exact cps (fun T => IsT n T) (fun nx h => ⟨fun _ => rows_ok h0 h8 hs h, fun _ => made_ok h0 h8 hs h⟩) fun T hT => p T hT
theorem eqv_lot {a b : Tup Int} : PyData.eqv (enc a) (enc b) = decide (a = b) := by
  obtain ⟨a⟩ := a
  obtain ⟨b⟩ := b
  rw [Bool.eq_iff_iff, decide_eq_true_iff]
  show PyData.eqvAll (a.map PyData.int) (b.map PyData.int) = true ↔ _
  constructor
  · intro h; rw [eqvAll_ints' h]
  · intro h
    cases h
    rw [eqvAll_map, List.all_eq_true]
    intro x _
    simp [PyData.eqv]
theorem in_FL {n : Int} {t : Tup Int} (h0 : 0 ≤ n) (hl : Lot n t.l) : (List.any (FL n f) fun z => PyData.eqv (enc z) (enc t)) = FS f t.l := by
  rw [Bool.eq_iff_iff, List.any_eq_true]
  constructor
  · rintro ⟨z, hz, e⟩
    rw [eqv_lot, decide_eq_true_iff] at e
    subst e
    exact ((FL_mem h0).mp hz).2
  · intro h
    exact ⟨t, (FL_mem h0).mpr ⟨hl, h⟩, by rw [eqv_lot]; exact decide_eq_true rfl⟩
theorem ways3_okd {n : Int} {g h k : Int → Int → Int} (h0 : 0 ≤ n) (h6 : n ≤ 6) : Okd (enc ([Tup.mk (FL n g), Tup.mk (FL n h), Tup.mk (FL n k)] : List (Tup (Tup Int)))) 9003 3 := Okd.lst (b := 3000) (h := 2) 3 (fun t ht => by
  simp only [List.mem_cons, List.not_mem_nil, or_false] at ht
  rcases ht with rfl | rfl | rfl <;> exact FL_okd h0 h6) (Nat.le_refl _)
theorem is_right_ok {n : Int} {P : Bool → Prop} (h0 : 0 ≤ n) (h6 : n ≤ 6) (o : Ok n f) (p : P true) : m_is_right (mk n f) P := by
  unfold m_is_right
  have ln : ((mk n f).length : Int) = n := map_len' h0
  refine table_ok h0 (by omega) ?_
  dsimp only [wLet]
  rw [ln]
  refine lots_eq h0 h6 ?_
  have al := AL_len h0 h6
  have a3 := A3_len h0 h6
  refine ⟨by omega, wFil_filter (g := fun t => t) (t := fun t : Tup Int => decide ((2 : Int) < (t.l.length : Int))) (fun t _ K hK => hK) (fun t _ _ K hK => hK) ?_⟩
  rw [List.map_id']
  show (A3 n).length ≤ 100000 ∧ wFil (A3 n) _ _ _
  have A3lot : ∀ t ∈ A3 n, Lot n t.l := fun t ht => (AL_mem h0 t).mp (A3_mem ht)
  refine lawfil_ok h0 h6 A3lot (by omega) ?_
  rw [A3_FL]
  refine prog_FL h0 h6 ?_
  have so := (FL_okd (f := f) h0 h6).show' (by omega) (by omega)
  have te := (tab_okd h0 (show n ≤ 8 by omega) o).show' (by omega) (by omega)
  refine cpsE false (fun nx h => ⟨so, so, same_str ⟨te, table_ok h0 (by omega) ⟨te, ?_⟩⟩⟩) ?_
  · rw [decide_eq_true rfl]; exact h
  refine ⟨fun z => (by cases z), fun _ => ⟨fun _ => p, fun z5 => ?_⟩⟩
  refine ⟨show (A3 n).length ≤ 100000 by omega, wFil_map (g := fun t : Tup Int => FS f t.l) (fun t ht K hK => ?_) ?_⟩
  · have hl := A3lot t ht
    exact (firm_lot_ok (n := n) (l := t.l) (fun x hx => hl.at' x hx) hl.nd (hl.len8 h0 (by omega)) hK : m_Pis_firm_lot (tab n f) (Tup.mk t.l) K)
  have bl : ((A3 n).map fun t : Tup Int => FS f t.l).length ≤ 100 := by rw [List.length_map]; omega
  have sb := (bools_okd bl).show' (by omega) (by omega)
  refine ⟨sb, show (A3 n).length ≤ 100000 by omega, wFil_map (g := fun t : Tup Int => FS f t.l) (fun t ht K hK => ⟨(lot_okd (A3lot t ht) h0 (by omega)).eq' (by omega), (FL_okd h0 h6).eq' (by omega), ?_⟩) ⟨sb, same_str ?_⟩⟩
  · show K (List.any (FL n f) fun z => PyData.eqv (enc z) (enc t))
    rw [in_FL h0 (A3lot t ht)]; exact hK
  refine ⟨s24 h0 (by omega), mixed_ok h0 (by omega) fun l hl => ?_⟩
  obtain ⟨g, d, nm, ed⟩ := nm_of h0 hl
  refine paints_ok h0 h6 fun m h pt => ?_
  refine Pturned_ok h0 (by omega) (prog_FL h0 h6 (Ppainted_ok h0 (by omega) pt.get (prog_FL h0 h6 (Prenamed_ok h0 (by omega) hl nm ed (prog_FL h0 h6 ?_)))))
  rw [FL_flip h0, FL_paint h0 pt.inj]
  refine cpsE true (fun nx hnx => ⟨(ways3_okd h0 h6).show' (by omega) (by omega), led_law h0 h6 nm ⟨(ways3_okd h0 h6).show' (by omega) (by omega), ⟨fun _ => prog_FL h0 h6 ⟨so, so, ?_⟩, fun z => ?_⟩⟩⟩) p
  · rw [decide_eq_true rfl]; exact hnx
  · rw [decide_eq_true rfl] at z; cases z
/-! ### the path of five things -/
def pf (x y : Int) : Int := if y = x + 1 ∨ x = y + 1 then 1 else 0
theorem FL_comp {n : Int} (h0 : 0 ≤ n) : FL n f = (AL n).filter fun t => firmB t.l.length fun i j => f (t.l.getD i.toNat 0) (t.l.getD j.toNat 0) := by
  unfold FL
  refine List.filter_congr fun t ht => ?_
  exact FS_own ((AL_mem h0 t).mp ht).nd
theorem map_tl {L M : List (Tup Int)} (h : L.map (fun t => t.l) = M.map fun t => t.l) : L = M := by
  have e : ∀ L : List (Tup Int), (L.map fun t => t.l).map Tup.mk = L := fun L => by rw [List.map_map]; exact List.map_id' L
  rw [← e L, h, e M]
theorem path_FL : FL 5 pf = [Tup.mk [0, 1, 2, 3], Tup.mk [1, 2, 3, 4], Tup.mk [0, 1, 2, 3, 4]] := by
  rw [FL_comp (by omega)]
  apply map_tl
  decide +kernel
theorem none_FL : FL 0 f = [] := by
  unfold FL
  rw [List.filter_eq_nil_iff]
  intro t ht
  have := ((AL_mem (by omega) t).mp ht).len (by omega)
  rw [FS_few (by omega)]; exact Bool.false_ne_true
theorem two_FL : FL 2 f = [] := by
  unfold FL
  rw [List.filter_eq_nil_iff]
  intro t ht
  have := ((AL_mem (by omega) t).mp ht).len (by omega)
  rw [FS_few (by omega)]; exact Bool.false_ne_true
theorem tab_lit {n : Int} {L : List (List Int)} (h : ((rng 0 n).map fun i => row n (f i)) = L) : tab n f = P2.mk n (Tup.mk (L.map Tup.mk)) := by
  subst h
  unfold tab
  rw [List.map_map]; rfl
theorem wFor2 {α : Type} {F : α → Unit → (Unit → Prop) → Prop} {a b : α} {P : Unit → Prop} (h : F a () fun k => F b k P) : wFor [a, b] () F P := h
theorem law_ok : m_law (fun b => b = true) := by
  unfold m_law
  refine menu_ok fun s hs => ?_
  dsimp only [wLet]
  refine one_ok (by simp) (by show 6 ≤ 100000; omega) fun a ha => draw_ok (by omega) (by omega) fun b b0 b1 => ?_
  have one : ∀ n : Int, 0 ≤ n → n ≤ 6 → ∀ Q : Prop, Q → m_any n s fun r6 => m_is_right r6 fun r7 => wIf (!r7) (false = true) Q := fun n h0 h6 Q hx => any_ok h0 (by omega) hs fun R hR => by
    obtain ⟨_, f, rfl, o⟩ := hR
    exact is_right_ok h0 h6 o ⟨fun z => (by cases z), fun _ => hx⟩
  have ha6 : 0 ≤ a ∧ a ≤ 6 := by
    simp only [List.mem_cons, List.not_mem_nil, or_false] at ha
    omega
  refine wFor2 ?_
  refine one a ha6.1 ha6.2 _ (one b b0 (by omega) _ ?_)
  refine Mn.one hs fun x x0 x1 => Mn.one hs fun y y0 y1 => draw_ok (by omega) (by omega) fun t t0 t1 => one_ok (by simp) (by show 2 ≤ 100000; omega) fun c hc => ?_
  have hc4 : c = 3 ∨ c = 4 := by simpa using hc
  refine core_ok (by omega) (by omega) hs fun C hC => set_in_ok (pair_ok ⟨x0, x1⟩ ⟨y0, y1⟩) hC t0 t1 (by omega) fun A hA => ?_
  refine core_ok (by omega) (by omega) hs fun C2 hC2 => draw_ok (by omega) (by omega) fun t2 t20 t21 => core_ok (by omega) (by omega) hs fun C3 hC3 => set_in_ok hC2 hC3 t20 t21 (by omega) fun B hB => ?_
  refine ⟨by show 1 < 100000; omega, ?_⟩
  have two : ∀ (n : Int) (R : List (List Int)), IsT n R → n ≤ 6 → ∀ Q : Prop, Q → m_lots (R.length : Int) fun r21 => m_table R fun r18 => m_Pfirm_lots r18 fun r19 => (ShowOk (enc r19) ∧ (r21.length ≤ 100000 ∧ wFil r21 (fun a16 => (fun K : Bool → Prop => m_is_firm R a16 fun r17 => K r17)) (fun a16 => fun K : (Tup Int) → Prop => K a16) fun l20 => (ShowOk (enc (Tup.mk l20)) ∧ wIf (!decide ((PyData.shown (enc r19)) = (PyData.shown (enc (Tup.mk l20))))) (false = true) Q))) := fun n R hR h6 Q hx => by
    have h0 := hR.1.1
    rw [hR.len]
    obtain ⟨_, f, rfl, o⟩ := hR
    have so := (FL_okd (f := f) h0 h6).show' (by omega) (by omega)
    have al := AL_len h0 h6
    refine lots_eq h0 h6 (table_ok h0 (by omega) (prog_FL h0 h6 ⟨so, lawfil_ok h0 h6 (fun t ht => (AL_mem h0 t).mp ht) (by omega) ⟨so, same_str hx⟩⟩))
  refine wFor2 ?_
  refine two _ A hA (by omega) _ (two _ B hB (by omega) _ ?_)
  have e5 : P2.mk (5 : Int) (Tup.mk [(Tup.mk [(0 : Int), (1 : Int), (0 : Int), (0 : Int), (0 : Int)] : Tup Int), (Tup.mk [(1 : Int), (0 : Int), (1 : Int), (0 : Int), (0 : Int)] : Tup Int), (Tup.mk [(0 : Int), (1 : Int), (0 : Int), (1 : Int), (0 : Int)] : Tup Int), (Tup.mk [(0 : Int), (0 : Int), (1 : Int), (0 : Int), (1 : Int)] : Tup Int), (Tup.mk [(0 : Int), (0 : Int), (0 : Int), (1 : Int), (0 : Int)] : Tup Int)]) = tab 5 pf := (tab_lit (f := pf) (n := 5) (L := [[0, 1, 0, 0, 0], [1, 0, 1, 0, 0], [0, 1, 0, 1, 0], [0, 0, 1, 0, 1], [0, 0, 0, 1, 0]]) (by decide +kernel)).symm
  have e0 : P2.mk (0 : Int) (Tup.mk [] : Tup (Tup Int)) = tab 0 pf := (tab_lit (f := pf) (n := 0) (L := []) (by decide +kernel)).symm
  have e2 : P2.mk (2 : Int) (Tup.mk [(Tup.mk [(0 : Int), (1 : Int)] : Tup Int), (Tup.mk [(0 : Int), (0 : Int)] : Tup Int)] : Tup (Tup Int)) = tab 2 fun x y => if x = 0 ∧ y = 1 then 1 else 0 := (tab_lit (f := fun x y => if x = 0 ∧ y = 1 then 1 else 0) (n := 2) (L := [[0, 1], [0, 0]]) (by decide +kernel)).symm
  rw [e5, e0, e2]
  refine prog_FL (by omega) (by omega) (prog_FL (by omega) (by omega) (prog_FL (by omega) (by omega) ?_))
  rw [path_FL, none_FL, two_FL]
  have ok : ∀ L : List (Tup Int), (∀ t ∈ L, Lot 5 t.l) → L.length ≤ 3 → Okd (enc (Tup.mk L)) 3000 2 := fun L h hl => ways_okd (n := 5) (by omega) (by omega) h (by omega)
  have l5 : ∀ t ∈ [Tup.mk [0, 1, 2, 3], Tup.mk [1, 2, 3, 4], Tup.mk [0, 1, 2, 3, 4]], Lot 5 t.l := fun t ht => by rw [← path_FL] at ht; exact ((FL_mem (by omega)).mp ht).1
  have s3 : Okd (enc ([Tup.mk [Tup.mk [0, 1, 2, 3], Tup.mk [1, 2, 3, 4], Tup.mk [0, 1, 2, 3, 4]], Tup.mk [], Tup.mk []] : List (Tup (Tup Int)))) 9003 3 := Okd.lst (b := 3000) (h := 2) 3 (fun t ht => by
    simp only [List.mem_cons, List.not_mem_nil, or_false] at ht
    rcases ht with rfl | rfl | rfl
    · exact ok _ l5 (Nat.le_refl _)
    · exact ok _ (fun t ht => by cases ht) (Nat.zero_le _)
    · exact ok _ (fun t ht => by cases ht) (Nat.zero_le _)) (Nat.le_refl _)
  refine ⟨s3.show' (by omega) (by omega), s3.show' (by omega) (by omega), decide_eq_true rfl⟩
end Kp

set_option Elab.async false
set_option linter.all false
set_option maxRecDepth 100000
set_option maxHeartbeats 1000000
namespace Kp
open PySem PySem.Spec PyProof.Rows L2 Dm
theorem pool_ok (ns : List Int) (Pr : Unit → Prop) (h : Pr ()) : m_deck ns Pr := by
  unfold m_deck
  have lc : (cutA ns none (some (63 : Int))).length ≤ 63 := by
    unfold cutA
    rw [List.length_take]
    have : HT.sIx ns.length ns.length (some 63) ≤ 63 := by
      unfold HT.sIx
      simp
      omega
    omega
  refine ⟨by omega, wFil_map (g := fun a => if 0 ≤ a then 2 * a else (-2) * a - 1) (fun a _ K hK => cpsE _ (fun nx h => ⟨fun z => ?_, fun z => ?_⟩) hK) ?_⟩
  · have z := of_decide_eq_true z
    rw [if_pos z] at h
    exact ⟨.inl (by decide), h⟩
  · have z := of_decide_eq_false z
    rw [if_neg z] at h
    exact ⟨.inl (by decide), h⟩
  · generalize hc : List.map (fun a : Int => if 0 ≤ a then 2 * a else (-2) * a - 1) (cutA ns none (some 63)) = cells
    have ll : cells.length ≤ 63 := by rw [← hc, List.length_map]; exact lc
    refine wFor_all (fun _ => True) trivial (fun a _ k _ K hK => ⟨.inr (by decide), by decide, hK _ trivial⟩) (fun k _ => ?_)
    refine ⟨by omega, wFil_filter (g := fun a => a) (t := fun a => decide (((10 : Int) ^ (Int.toNat (18 : Int))) < a)) (fun a _ K hK => ⟨⟨by omega, by omega, by omega⟩, hK⟩) (fun a _ _ K hK => hK) ⟨?_, h⟩⟩
    rw [List.length_map]
    exact Nat.le_trans (List.length_filter_le _ _) (by omega)
end Kp

set_option Elab.async false
set_option linter.all false
set_option maxRecDepth 100000
set_option maxHeartbeats 4000000
namespace Kp
open PySem PySem.Spec PyProof.Rows L2 Dm
theorem all_mk {l : PySem.W.OpenLaw} {w : World} {K : PySem.W.Frag} {h : Heap} {mg : Str → Option Value} {fa f1 f2 f3 f4 f5 f6 f7 f8 f9 f10 f11 f12 f13 f14 f15 f16 f17 f18 f19 f20 f21 f22 f23 f24 f25 f26 f27 f28 f29 f30 f31 f32 f33 f34 f35 cc14 Pt14 : Addr} (X : K.In h) (G : h.Ns mainGlobals mg) (hfa : mg "law" = some (.ref fa))
    {od1 an1 od2 an2 od3 an3 od4 an4 od5 an5 od6 an6 od7 an7 od8 an8 od9 an9 od10 an10 od11 an11 od12 an12 od13 an13 od14 an14 od15 an15 od16 an16 od17 an17 od18 an18 od19 an19 od20 an20 od21 an21 od22 an22 od23 an23 od24 an24 od25 an25 od26 an26 od27 an27 od28 an28 od29 an29 od30 an30 od31 an31 od32 an32 od33 an33 od34 an34 od35 an35 : Option Addr} {sl1 sl2 sl3 sl4 sl5 sl6 sl7 sl8 sl9 sl10 sl11 sl12 sl13 sl14 sl15 sl16 sl17 sl18 sl19 sl20 sl21 sl22 sl23 sl24 sl25 sl26 sl27 sl28 sl29 sl30 sl31 sl32 sl33 sl34 sl35 : Array (Option Value)} {oc1 kV1 dc1 pm1 cd1 ct1 oc2 kV2 dc2 pm2 cd2 ct2 oc3 kV3 dc3 pm3 cd3 ct3 oc4 kV4 dc4 pm4 cd4 ct4 oc5 kV5 dc5 pm5 cd5 ct5 oc6 kV6 dc6 pm6 cd6 ct6 oc7 kV7 dc7 pm7 cd7 ct7 oc8 kV8 dc8 pm8 cd8 ct8 oc9 kV9 dc9 pm9 cd9 ct9 oc10 kV10 dc10 pm10 cd10 ct10 oc11 kV11 dc11 pm11 cd11 ct11 oc12 kV12 dc12 pm12 cd12 ct12 oc13 kV13 dc13 pm13 cd13 ct13 oc14 kV14 dc14 pm14 ct14 oc15 kV15 dc15 pm15 cd15 ct15 oc16 kV16 dc16 pm16 cd16 ct16 oc17 kV17 dc17 pm17 cd17 ct17 oc18 kV18 dc18 pm18 cd18 ct18 oc19 kV19 dc19 pm19 cd19 ct19 oc20 kV20 dc20 pm20 cd20 ct20 oc21 kV21 dc21 pm21 cd21 ct21 oc22 kV22 dc22 pm22 cd22 ct22 oc23 kV23 dc23 pm23 cd23 ct23 oc24 kV24 dc24 pm24 cd24 ct24 oc25 kV25 dc25 pm25 cd25 ct25 oc26 kV26 dc26 pm26 cd26 ct26 oc27 kV27 dc27 pm27 cd27 ct27 oc28 kV28 dc28 pm28 cd28 ct28 oc29 kV29 dc29 pm29 cd29 ct29 oc30 kV30 dc30 pm30 cd30 ct30 oc31 kV31 dc31 pm31 cd31 ct31 oc32 kV32 dc32 pm32 cd32 ct32 oc33 kV33 dc33 pm33 cd33 ct33 oc34 kV34 dc34 pm34 cd34 ct34 oc35 kV35 dc35 pm35 cd35 ct35 : Value}
    (a1 : PySem.W.nsIn K mainGlobals "picked" = some (some (.ref f1))) (l1 : K.lookup f1 = some ⟨oc1, od1, .func (PySem.W.fnOf "picked" "picked" (defArgs s_Ppicked) (defBody s_Ppicked) (defScope s_Ppicked) .none kV1 dc1 pm1 an1 cd1 ct1), sl1⟩) (c1 : PySem.W.codeIn K cd1 "picked" = true) (k1 : PySem.W.keepIn K (.ref f1) = true)
    (a2 : PySem.W.nsIn K mainGlobals "turned" = some (some (.ref f2))) (l2 : K.lookup f2 = some ⟨oc2, od2, .func (PySem.W.fnOf "turned" "turned" (defArgs s_Pturned) (defBody s_Pturned) (defScope s_Pturned) .none kV2 dc2 pm2 an2 cd2 ct2), sl2⟩) (c2 : PySem.W.codeIn K cd2 "turned" = true) (k2 : PySem.W.keepIn K (.ref f2) = true)
    (a3 : PySem.W.nsIn K mainGlobals "painted" = some (some (.ref f3))) (l3 : K.lookup f3 = some ⟨oc3, od3, .func (PySem.W.fnOf "painted" "painted" (defArgs s_Ppainted) (defBody s_Ppainted) (defScope s_Ppainted) .none kV3 dc3 pm3 an3 cd3 ct3), sl3⟩) (c3 : PySem.W.codeIn K cd3 "painted" = true) (k3 : PySem.W.keepIn K (.ref f3) = true)
    (a4 : PySem.W.nsIn K mainGlobals "lots_of" = some (some (.ref f4))) (l4 : K.lookup f4 = some ⟨oc4, od4, .func (PySem.W.fnOf "lots_of" "lots_of" (defArgs s_Plots_of) (defBody s_Plots_of) (defScope s_Plots_of) .none kV4 dc4 pm4 an4 cd4 ct4), sl4⟩) (c4 : PySem.W.codeIn K cd4 "lots_of" = true) (k4 : PySem.W.keepIn K (.ref f4) = true)
    (a5 : PySem.W.nsIn K mainGlobals "outside" = some (some (.ref f5))) (l5 : K.lookup f5 = some ⟨oc5, od5, .func (PySem.W.fnOf "outside" "outside" (defArgs s_Poutside) (defBody s_Poutside) (defScope s_Poutside) .none kV5 dc5 pm5 an5 cd5 ct5), sl5⟩) (c5 : PySem.W.codeIn K cd5 "outside" = true) (k5 : PySem.W.keepIn K (.ref f5) = true)
    (a6 : PySem.W.nsIn K mainGlobals "joined" = some (some (.ref f6))) (l6 : K.lookup f6 = some ⟨oc6, od6, .func (PySem.W.fnOf "joined" "joined" (defArgs s_Pjoined) (defBody s_Pjoined) (defScope s_Pjoined) .none kV6 dc6 pm6 an6 cd6 ct6), sl6⟩) (c6 : PySem.W.codeIn K cd6 "joined" = true) (k6 : PySem.W.keepIn K (.ref f6) = true)
    (a7 : PySem.W.nsIn K mainGlobals "_law_deck" = some (some (.ref f7))) (l7 : K.lookup f7 = some ⟨oc7, od7, .func (PySem.W.fnOf "_law_deck" "_law_deck" (defArgs s_deck) (defBody s_deck) (defScope s_deck) .none kV7 dc7 pm7 an7 cd7 ct7), sl7⟩) (c7 : PySem.W.codeIn K cd7 "_law_deck" = true) (k7 : PySem.W.keepIn K (.ref f7) = true)
    (a8 : PySem.W.nsIn K mainGlobals "_law_draw" = some (some (.ref f8))) (l8 : K.lookup f8 = some ⟨oc8, od8, .func (PySem.W.fnOf "_law_draw" "_law_draw" (defArgs s_draw) (defBody s_draw) (defScope s_draw) .none kV8 dc8 pm8 an8 cd8 ct8), sl8⟩) (c8 : PySem.W.codeIn K cd8 "_law_draw" = true) (k8 : PySem.W.keepIn K (.ref f8) = true)
    (a9 : PySem.W.nsIn K mainGlobals "_law_table" = some (some (.ref f9))) (l9 : K.lookup f9 = some ⟨oc9, od9, .func (PySem.W.fnOf "_law_table" "_law_table" (defArgs s_table) (defBody s_table) (defScope s_table) .none kV9 dc9 pm9 an9 cd9 ct9), sl9⟩) (c9 : PySem.W.codeIn K cd9 "_law_table" = true) (k9 : PySem.W.keepIn K (.ref f9) = true)
    (a10 : PySem.W.nsIn K mainGlobals "_law_lots" = some (some (.ref f10))) (l10 : K.lookup f10 = some ⟨oc10, od10, .func (PySem.W.fnOf "_law_lots" "_law_lots" (defArgs s_lots) (defBody s_lots) (defScope s_lots) .none kV10 dc10 pm10 an10 cd10 ct10), sl10⟩) (c10 : PySem.W.codeIn K cd10 "_law_lots" = true) (k10 : PySem.W.keepIn K (.ref f10) = true)
    (a11 : PySem.W.nsIn K mainGlobals "_law_spread" = some (some (.ref f11))) (l11 : K.lookup f11 = some ⟨oc11, od11, .func (PySem.W.fnOf "_law_spread" "_law_spread" (defArgs s_spread) (defBody s_spread) (defScope s_spread) .none kV11 dc11 pm11 an11 cd11 ct11), sl11⟩) (c11 : PySem.W.codeIn K cd11 "_law_spread" = true) (k11 : PySem.W.keepIn K (.ref f11) = true)
    (a12 : PySem.W.nsIn K mainGlobals "_law_named" = some (some (.ref f12))) (l12 : K.lookup f12 = some ⟨oc12, od12, .func (PySem.W.fnOf "_law_named" "_law_named" (defArgs s_named) (defBody s_named) (defScope s_named) .none kV12 dc12 pm12 an12 cd12 ct12), sl12⟩) (c12 : PySem.W.codeIn K cd12 "_law_named" = true) (k12 : PySem.W.keepIn K (.ref f12) = true)
    (a13 : PySem.W.nsIn K mainGlobals "_law_set_in" = some (some (.ref f13))) (l13 : K.lookup f13 = some ⟨oc13, od13, .func (PySem.W.fnOf "_law_set_in" "_law_set_in" (defArgs s_set_in) (defBody s_set_in) (defScope s_set_in) .none kV13 dc13 pm13 an13 cd13 ct13), sl13⟩) (c13 : PySem.W.codeIn K cd13 "_law_set_in" = true) (k13 : PySem.W.keepIn K (.ref f13) = true)
    (a14 : PySem.W.nsIn K mainGlobals "_law_led" = some (some (.ref f14))) (l14 : K.lookup f14 = some ⟨oc14, od14, .func (PySem.W.fnOf "_law_led" "_law_led" (defArgs s_led) (defBody s_led) (defScope s_led) .none kV14 dc14 pm14 an14 (.ref cc14) ct14), sl14⟩) (c14 : PySem.W.codeIn K (.ref cc14) "_law_led" = true) (k14 : PySem.W.keepIn K (.ref f14) = true)
    {odc14 : Option Addr} {vsc14 : Array Value} {slc14 : Array (Option Value)} (hc14 : K.lookup cc14 = some ⟨.type "code", odc14, .fields vsc14, slc14⟩) (hv14 : vsc14[11]? = some (.ref Pt14)) (ch14 : PySem.W.codeHdIn K cc14 Pt14 = true) (np14 : K.lookup Pt14 = none) (tp14 : h.get? Pt14 = some (PySem.W.tabObj #[]))
    (a15 : PySem.W.nsIn K mainGlobals "part" = some (some (.ref f15))) (l15 : K.lookup f15 = some ⟨oc15, od15, .func (PySem.W.fnOf "part" "part" (defArgs s_Ppart) (defBody s_Ppart) (defScope s_Ppart) .none kV15 dc15 pm15 an15 cd15 ct15), sl15⟩) (c15 : PySem.W.codeIn K cd15 "part" = true) (k15 : PySem.W.keepIn K (.ref f15) = true)
    (a16 : PySem.W.nsIn K mainGlobals "renamed" = some (some (.ref f16))) (l16 : K.lookup f16 = some ⟨oc16, od16, .func (PySem.W.fnOf "renamed" "renamed" (defArgs s_Prenamed) (defBody s_Prenamed) (defScope s_Prenamed) .none kV16 dc16 pm16 an16 cd16 ct16), sl16⟩) (c16 : PySem.W.codeIn K cd16 "renamed" = true) (k16 : PySem.W.keepIn K (.ref f16) = true)
    (a17 : PySem.W.nsIn K mainGlobals "all_lots" = some (some (.ref f17))) (l17 : K.lookup f17 = some ⟨oc17, od17, .func (PySem.W.fnOf "all_lots" "all_lots" (defArgs s_Pall_lots) (defBody s_Pall_lots) (defScope s_Pall_lots) .none kV17 dc17 pm17 an17 cd17 ct17), sl17⟩) (c17 : PySem.W.codeIn K cd17 "all_lots" = true) (k17 : PySem.W.keepIn K (.ref f17) = true)
    (a18 : PySem.W.nsIn K mainGlobals "telling" = some (some (.ref f18))) (l18 : K.lookup f18 = some ⟨oc18, od18, .func (PySem.W.fnOf "telling" "telling" (defArgs s_Ptelling) (defBody s_Ptelling) (defScope s_Ptelling) .none kV18 dc18 pm18 an18 cd18 ct18), sl18⟩) (c18 : PySem.W.codeIn K cd18 "telling" = true) (k18 : PySem.W.keepIn K (.ref f18) = true)
    (a19 : PySem.W.nsIn K mainGlobals "_law_one" = some (some (.ref f19))) (l19 : K.lookup f19 = some ⟨oc19, od19, .func (PySem.W.fnOf "_law_one" "_law_one" (defArgs s_one) (defBody s_one) (defScope s_one) .none kV19 dc19 pm19 an19 cd19 ct19), sl19⟩) (c19 : PySem.W.codeIn K cd19 "_law_one" = true) (k19 : PySem.W.keepIn K (.ref f19) = true)
    (a20 : PySem.W.nsIn K mainGlobals "_law_mixed" = some (some (.ref f20))) (l20 : K.lookup f20 = some ⟨oc20, od20, .func (PySem.W.fnOf "_law_mixed" "_law_mixed" (defArgs s_mixed) (defBody s_mixed) (defScope s_mixed) .none kV20 dc20 pm20 an20 cd20 ct20), sl20⟩) (c20 : PySem.W.codeIn K cd20 "_law_mixed" = true) (k20 : PySem.W.keepIn K (.ref f20) = true)
    (a21 : PySem.W.nsIn K mainGlobals "_law_is_firm" = some (some (.ref f21))) (l21 : K.lookup f21 = some ⟨oc21, od21, .func (PySem.W.fnOf "_law_is_firm" "_law_is_firm" (defArgs s_is_firm) (defBody s_is_firm) (defScope s_is_firm) .none kV21 dc21 pm21 an21 cd21 ct21), sl21⟩) (c21 : PySem.W.codeIn K cd21 "_law_is_firm" = true) (k21 : PySem.W.keepIn K (.ref f21) = true)
    (a22 : PySem.W.nsIn K mainGlobals "growing" = some (some (.ref f22))) (l22 : K.lookup f22 = some ⟨oc22, od22, .func (PySem.W.fnOf "growing" "growing" (defArgs s_Pgrowing) (defBody s_Pgrowing) (defScope s_Pgrowing) .none kV22 dc22 pm22 an22 cd22 ct22), sl22⟩) (c22 : PySem.W.codeIn K cd22 "growing" = true) (k22 : PySem.W.keepIn K (.ref f22) = true)
    (a23 : PySem.W.nsIn K mainGlobals "_law_menu" = some (some (.ref f23))) (l23 : K.lookup f23 = some ⟨oc23, od23, .func (PySem.W.fnOf "_law_menu" "_law_menu" (defArgs s_menu) (defBody s_menu) (defScope s_menu) .none kV23 dc23 pm23 an23 cd23 ct23), sl23⟩) (c23 : PySem.W.codeIn K cd23 "_law_menu" = true) (k23 : PySem.W.keepIn K (.ref f23) = true)
    (a24 : PySem.W.nsIn K mainGlobals "_law_rows" = some (some (.ref f24))) (l24 : K.lookup f24 = some ⟨oc24, od24, .func (PySem.W.fnOf "_law_rows" "_law_rows" (defArgs s_rows) (defBody s_rows) (defScope s_rows) .none kV24 dc24 pm24 an24 cd24 ct24), sl24⟩) (c24 : PySem.W.codeIn K cd24 "_law_rows" = true) (k24 : PySem.W.keepIn K (.ref f24) = true)
    (a25 : PySem.W.nsIn K mainGlobals "_law_paints" = some (some (.ref f25))) (l25 : K.lookup f25 = some ⟨oc25, od25, .func (PySem.W.fnOf "_law_paints" "_law_paints" (defArgs s_paints) (defBody s_paints) (defScope s_paints) .none kV25 dc25 pm25 an25 cd25 ct25), sl25⟩) (c25 : PySem.W.codeIn K cd25 "_law_paints" = true) (k25 : PySem.W.keepIn K (.ref f25) = true)
    (a26 : PySem.W.nsIn K mainGlobals "least_piece" = some (some (.ref f26))) (l26 : K.lookup f26 = some ⟨oc26, od26, .func (PySem.W.fnOf "least_piece" "least_piece" (defArgs s_Pleast_piece) (defBody s_Pleast_piece) (defScope s_Pleast_piece) .none kV26 dc26 pm26 an26 cd26 ct26), sl26⟩) (c26 : PySem.W.codeIn K cd26 "least_piece" = true) (k26 : PySem.W.keepIn K (.ref f26) = true)
    (a27 : PySem.W.nsIn K mainGlobals "_law_core" = some (some (.ref f27))) (l27 : K.lookup f27 = some ⟨oc27, od27, .func (PySem.W.fnOf "_law_core" "_law_core" (defArgs s_core) (defBody s_core) (defScope s_core) .none kV27 dc27 pm27 an27 cd27 ct27), sl27⟩) (c27 : PySem.W.codeIn K cd27 "_law_core" = true) (k27 : PySem.W.keepIn K (.ref f27) = true)
    (a28 : PySem.W.nsIn K mainGlobals "is_firm" = some (some (.ref f28))) (l28 : K.lookup f28 = some ⟨oc28, od28, .func (PySem.W.fnOf "is_firm" "is_firm" (defArgs s_Pis_firm) (defBody s_Pis_firm) (defScope s_Pis_firm) .none kV28 dc28 pm28 an28 cd28 ct28), sl28⟩) (c28 : PySem.W.codeIn K cd28 "is_firm" = true) (k28 : PySem.W.keepIn K (.ref f28) = true)
    (a29 : PySem.W.nsIn K mainGlobals "_law_small" = some (some (.ref f29))) (l29 : K.lookup f29 = some ⟨oc29, od29, .func (PySem.W.fnOf "_law_small" "_law_small" (defArgs s_small) (defBody s_small) (defScope s_small) .none kV29 dc29 pm29 an29 cd29 ct29), sl29⟩) (c29 : PySem.W.codeIn K cd29 "_law_small" = true) (k29 : PySem.W.keepIn K (.ref f29) = true)
    (a30 : PySem.W.nsIn K mainGlobals "is_firm_lot" = some (some (.ref f30))) (l30 : K.lookup f30 = some ⟨oc30, od30, .func (PySem.W.fnOf "is_firm_lot" "is_firm_lot" (defArgs s_Pis_firm_lot) (defBody s_Pis_firm_lot) (defScope s_Pis_firm_lot) .none kV30 dc30 pm30 an30 cd30 ct30), sl30⟩) (c30 : PySem.W.codeIn K cd30 "is_firm_lot" = true) (k30 : PySem.W.keepIn K (.ref f30) = true)
    (a31 : PySem.W.nsIn K mainGlobals "_law_made" = some (some (.ref f31))) (l31 : K.lookup f31 = some ⟨oc31, od31, .func (PySem.W.fnOf "_law_made" "_law_made" (defArgs s_made) (defBody s_made) (defScope s_made) .none kV31 dc31 pm31 an31 cd31 ct31), sl31⟩) (c31 : PySem.W.codeIn K cd31 "_law_made" = true) (k31 : PySem.W.keepIn K (.ref f31) = true)
    (a32 : PySem.W.nsIn K mainGlobals "firm_lots" = some (some (.ref f32))) (l32 : K.lookup f32 = some ⟨oc32, od32, .func (PySem.W.fnOf "firm_lots" "firm_lots" (defArgs s_Pfirm_lots) (defBody s_Pfirm_lots) (defScope s_Pfirm_lots) .none kV32 dc32 pm32 an32 cd32 ct32), sl32⟩) (c32 : PySem.W.codeIn K cd32 "firm_lots" = true) (k32 : PySem.W.keepIn K (.ref f32) = true)
    (a33 : PySem.W.nsIn K mainGlobals "_law_any" = some (some (.ref f33))) (l33 : K.lookup f33 = some ⟨oc33, od33, .func (PySem.W.fnOf "_law_any" "_law_any" (defArgs s_any) (defBody s_any) (defScope s_any) .none kV33 dc33 pm33 an33 cd33 ct33), sl33⟩) (c33 : PySem.W.codeIn K cd33 "_law_any" = true) (k33 : PySem.W.keepIn K (.ref f33) = true)
    (a34 : PySem.W.nsIn K mainGlobals "_law_is_right" = some (some (.ref f34))) (l34 : K.lookup f34 = some ⟨oc34, od34, .func (PySem.W.fnOf "_law_is_right" "_law_is_right" (defArgs s_is_right) (defBody s_is_right) (defScope s_is_right) .none kV34 dc34 pm34 an34 cd34 ct34), sl34⟩) (c34 : PySem.W.codeIn K cd34 "_law_is_right" = true) (k34 : PySem.W.keepIn K (.ref f34) = true)
    (a35 : PySem.W.nsIn K mainGlobals "law" = some (some (.ref f35))) (l35 : K.lookup f35 = some ⟨oc35, od35, .func (PySem.W.fnOf "law" "law" (defArgs s_law) (defBody s_law) (defScope s_law) .none kV35 dc35 pm35 an35 cd35 ct35), sl35⟩) (c35 : PySem.W.codeIn K cd35 "law" = true) (k35 : PySem.W.keepIn K (.ref f35) = true)
    (z_len : PySem.W.nsIn K mainGlobals "len" = some none) (z_list : PySem.W.nsIn K mainGlobals "list" = some none) (z_tuple : PySem.W.nsIn K mainGlobals "tuple" = some none) (z_range : PySem.W.nsIn K mainGlobals "range" = some none) (z_repr : PySem.W.nsIn K mainGlobals "repr" = some none) (z_all : PySem.W.nsIn K mainGlobals "all" = some none) (z_any : PySem.W.nsIn K mainGlobals "any" = some none) (z_sum : PySem.W.nsIn K mainGlobals "sum" = some none) (z_int : PySem.W.nsIn K mainGlobals "int" = some none) (z_str : PySem.W.nsIn K mainGlobals "str" = some none) (z_min : PySem.W.nsIn K mainGlobals "min" = some none) (z_max : PySem.W.nsIn K mainGlobals "max" = some none) (z_sorted : PySem.W.nsIn K mainGlobals "sorted" = some none) (z_set : PySem.W.nsIn K mainGlobals "set" = some none) (z_enumerate : PySem.W.nsIn K mainGlobals "enumerate" = some none) (z_isinstance : PySem.W.nsIn K mainGlobals "isinstance" = some none) (z_bool : PySem.W.nsIn K mainGlobals "bool" = some none) (z_dict : PySem.W.nsIn K mainGlobals "dict" = some none) (z_zip : PySem.W.nsIn K mainGlobals "zip" = some none) (z_abs : PySem.W.nsIn K mainGlobals "abs" = some none) :
    Dm.LawT l.prog w K mg 9 "_law_script" fa h CX0 := by
  have e := hfa.symm.trans (PySem.W.mg_of X G a35)
  cases e
  have T : Blt mg := ⟨PySem.W.mg_none_of X G z_len, PySem.W.mg_none_of X G z_list, PySem.W.mg_none_of X G z_tuple, PySem.W.mg_none_of X G z_range, PySem.W.mg_none_of X G z_repr, PySem.W.mg_none_of X G z_all, PySem.W.mg_none_of X G z_any, PySem.W.mg_none_of X G z_sum, PySem.W.mg_none_of X G z_int, PySem.W.mg_none_of X G z_str, PySem.W.mg_none_of X G z_min, PySem.W.mg_none_of X G z_max, PySem.W.mg_none_of X G z_sorted, PySem.W.mg_none_of X G z_set, PySem.W.mg_none_of X G z_enumerate, PySem.W.mg_none_of X G z_isinstance, PySem.W.mg_none_of X G z_bool, PySem.W.mg_none_of X G z_dict, PySem.W.mg_none_of X G z_zip, PySem.W.mg_none_of X G z_abs⟩
  have F1 := fun_mk (st := s_Ppicked) l1 c1 k1
  have F2 := fun_mk (st := s_Pturned) l2 c2 k2
  have F3 := fun_mk (st := s_Ppainted) l3 c3 k3
  have F4 := fun_mk (st := s_Plots_of) l4 c4 k4
  have F5 := fun_mk (st := s_Poutside) l5 c5 k5
  have F6 := fun_mk (st := s_Pjoined) l6 c6 k6
  have F7 := fun_mk (st := s_deck) l7 c7 k7
  have F8 := fun_mk (st := s_draw) l8 c8 k8
  have F9 := fun_mk (st := s_table) l9 c9 k9
  have F10 := fun_mk (st := s_lots) l10 c10 k10
  have F11 := fun_mk (st := s_spread) l11 c11 k11
  have F12 := fun_mk (st := s_named) l12 c12 k12
  have F13 := fun_mk (st := s_set_in) l13 c13 k13
  have F14 := fun_mk (st := s_led) l14 c14 k14
  have F15 := fun_mk (st := s_Ppart) l15 c15 k15
  have F16 := fun_mk (st := s_Prenamed) l16 c16 k16
  have F17 := fun_mk (st := s_Pall_lots) l17 c17 k17
  have F18 := fun_mk (st := s_Ptelling) l18 c18 k18
  have F19 := fun_mk (st := s_one) l19 c19 k19
  have F20 := fun_mk (st := s_mixed) l20 c20 k20
  have F21 := fun_mk (st := s_is_firm) l21 c21 k21
  have F22 := fun_mk (st := s_Pgrowing) l22 c22 k22
  have F23 := fun_mk (st := s_menu) l23 c23 k23
  have F24 := fun_mk (st := s_rows) l24 c24 k24
  have F25 := fun_mk (st := s_paints) l25 c25 k25
  have F26 := fun_mk (st := s_Pleast_piece) l26 c26 k26
  have F27 := fun_mk (st := s_core) l27 c27 k27
  have F28 := fun_mk (st := s_Pis_firm) l28 c28 k28
  have F29 := fun_mk (st := s_small) l29 c29 k29
  have F30 := fun_mk (st := s_Pis_firm_lot) l30 c30 k30
  have F31 := fun_mk (st := s_made) l31 c31 k31
  have F32 := fun_mk (st := s_Pfirm_lots) l32 c32 k32
  have F33 := fun_mk (st := s_any) l33 c33 k33
  have F34 := fun_mk (st := s_is_right) l34 c34 k34
  have F35 := fun_mk (st := s_law) l35 c35 k35
  refine ⟨[(cc14, Pt14, ("_law_led" : Str) ++ (".<locals>." : Str) ++ ("<lambda>" : Str))], PySem.W.fnOf "law" "law" (defArgs s_law) (defBody s_law) (defScope s_law) .none kV35 dc35 pm35 an35 cd35 ct35, List.forall_mem_cons.mpr ⟨⟨tp14, np14, PySem.W.codeHd_of_K X ch14⟩, fun _ h => nomatch h⟩, fun s v => .of_eq rfl, fun base _ _ TB => ?_⟩
  letI tc : TabC := tabC [(cc14, Pt14, ("_law_led" : Str) ++ (".<locals>." : Str) ++ ("<lambda>" : Str))]
  have TL14 : LamT mg base (.ref cc14) (("_law_led" : Str) ++ (".<locals>." : Str) ++ ("<lambda>" : Str)) := ⟨cc14, Pt14, rfl, TB _ (.head _), (show (Pt14, ("_law_led" : Str) ++ (".<locals>." : Str) ++ ("<lambda>" : Str)) ∈ ([(Pt14, ("_law_led" : Str) ++ (".<locals>." : Str) ++ ("<lambda>" : Str))] : List (Addr × Str)) from .head _), (show ∀ t ∈ ([(Pt14, ("_law_led" : Str) ++ (".<locals>." : Str) ++ ("<lambda>" : Str))] : List (Addr × Str)), t.1 = Pt14 → t.2 = ("_law_led" : Str) ++ (".<locals>." : Str) ++ ("<lambda>" : Str) from List.forall_mem_cons.mpr ⟨fun _ => rfl, fun _ h => nomatch h⟩)⟩
  have d_Ppicked : D_Ppicked l.prog w K mg base := ⟨_, _, _, F1, ok_Ppicked F1 T , PySem.W.mg_of X G a1, F1.binds (ps := ["table", "things"]) fun _ _ _ _ _ _ us hl => match us, hl with | [_, _], _ => rfl⟩
  have d_PpickedT : D_PpickedT l.prog w K mg base := ⟨_, _, _, F1, ok_PpickedT F1 T , PySem.W.mg_of X G a1, F1.binds (ps := ["table", "things"]) fun _ _ _ _ _ _ us hl => match us, hl with | [_, _], _ => rfl⟩
  have d_Pturned : D_Pturned l.prog w K mg base := ⟨_, _, _, F2, ok_Pturned F2 T , PySem.W.mg_of X G a2, F2.binds (ps := ["table"]) fun _ _ _ _ _ _ us hl => match us, hl with | [_], _ => rfl⟩
  have d_Ppainted : D_Ppainted l.prog w K mg base := ⟨_, _, _, F3, ok_Ppainted F3 T , PySem.W.mg_of X G a3, F3.binds (ps := ["table", "paints"]) fun _ _ _ _ _ _ us hl => match us, hl with | [_, _], _ => rfl⟩
  have d_Plots_of : D_Plots_of l.prog w K mg base := ⟨_, _, _, F4, ok_Plots_of F4 T , PySem.W.mg_of X G a4, F4.binds (ps := ["size", "many"]) fun _ _ _ _ _ _ us hl => match us, hl with | [_, _], _ => rfl⟩
  have d_Poutside : D_Poutside l.prog w K mg base := ⟨_, _, _, F5, ok_Poutside F5 T , PySem.W.mg_of X G a5, F5.binds (ps := ["size", "lot"]) fun _ _ _ _ _ _ us hl => match us, hl with | [_, _], _ => rfl⟩
  have d_Pjoined : D_Pjoined l.prog w K mg base := ⟨_, _, _, F6, ok_Pjoined F6 T , PySem.W.mg_of X G a6, F6.binds (ps := ["lot", "other"]) fun _ _ _ _ _ _ us hl => match us, hl with | [_, _], _ => rfl⟩
  have d_deck : D_deck l.prog w K mg base := ⟨_, _, _, F7, ok_deck F7 T  pool_ok, PySem.W.mg_of X G a7, F7.binds (ps := ["_law_script"]) fun _ _ _ _ _ _ us hl => match us, hl with | [_], _ => rfl⟩
  have d_draw : D_draw l.prog w K mg base := ⟨_, _, _, F8, ok_draw F8 T , PySem.W.mg_of X G a8, F8.binds (ps := ["_law_deck_here", "_law_many"]) fun _ _ _ _ _ _ us hl => match us, hl with | [_, _], _ => rfl⟩
  have d_table : D_table l.prog w K mg base := ⟨_, _, _, F9, ok_table F9 T , PySem.W.mg_of X G a9, F9.binds (ps := ["_law_rows_here"]) fun _ _ _ _ _ _ us hl => match us, hl with | [_], _ => rfl⟩
  have d_lots : D_lots l.prog w K mg base := ⟨_, _, _, F10, ok_lots F10 T , PySem.W.mg_of X G a10, F10.binds (ps := ["_law_size"]) fun _ _ _ _ _ _ us hl => match us, hl with | [_], _ => rfl⟩
  have d_spread : D_spread l.prog w K mg base := ⟨_, _, _, F11, ok_spread F11 T , PySem.W.mg_of X G a11, F11.binds (ps := ["_law_rows_here", "_law_lot", "_law_first", "_law_second"]) fun _ _ _ _ _ _ us hl => match us, hl with | [_, _, _, _], _ => rfl⟩
  have d_named : D_named l.prog w K mg base := ⟨_, _, _, F12, ok_named F12 T , PySem.W.mg_of X G a12, F12.binds (ps := ["_law_rows_here", "_law_naming"]) fun _ _ _ _ _ _ us hl => match us, hl with | [_, _], _ => rfl⟩
  have d_set_in : D_set_in l.prog w K mg base := ⟨_, _, _, F13, ok_set_in F13 T , PySem.W.mg_of X G a13, F13.binds (ps := ["_law_rows_here", "_law_thing", "_law_other"]) fun _ _ _ _ _ _ us hl => match us, hl with | [_, _, _], _ => rfl⟩
  have d_led : D_led l.prog w K mg base := ⟨_, _, _, F14, ok_led F14 T TL14 , PySem.W.mg_of X G a14, F14.binds (ps := ["_law_lots_here", "_law_naming"]) fun _ _ _ _ _ _ us hl => match us, hl with | [_, _], _ => rfl⟩
  have d_Ppart : D_Ppart l.prog w K mg base := ⟨_, _, _, F15, ok_Ppart F15 T d_Ppicked d_PpickedT , PySem.W.mg_of X G a15, F15.binds (ps := ["table", "lot"]) fun _ _ _ _ _ _ us hl => match us, hl with | [_, _], _ => rfl⟩
  have d_Prenamed : D_Prenamed l.prog w K mg base := ⟨_, _, _, F16, ok_Prenamed F16 T d_Ppicked d_PpickedT , PySem.W.mg_of X G a16, F16.binds (ps := ["table", "naming"]) fun _ _ _ _ _ _ us hl => match us, hl with | [_, _], _ => rfl⟩
  have d_Pall_lots : D_Pall_lots l.prog w K mg base := ⟨_, _, _, F17, ok_Pall_lots F17 T d_Plots_of , PySem.W.mg_of X G a17, F17.binds (ps := ["size"]) fun _ _ _ _ _ _ us hl => match us, hl with | [_], _ => rfl⟩
  have d_Ptelling : D_Ptelling l.prog w K mg base := ⟨_, _, _, F18, ok_Ptelling F18 T d_Poutside , PySem.W.mg_of X G a18, F18.binds (ps := ["table", "lot"]) fun _ _ _ _ _ _ us hl => match us, hl with | [_, _], _ => rfl⟩
  have d_one : D_one l.prog w K mg base := ⟨_, _, _, F19, ok_one F19 T d_draw , PySem.W.mg_of X G a19, F19.binds (ps := ["_law_deck_here", "_law_items"]) fun _ _ _ _ _ _ us hl => match us, hl with | [_, _], _ => rfl⟩
  have d_oneL : D_oneL l.prog w K mg base := ⟨_, _, _, F19, ok_oneL F19 T d_draw , PySem.W.mg_of X G a19, F19.binds (ps := ["_law_deck_here", "_law_items"]) fun _ _ _ _ _ _ us hl => match us, hl with | [_, _], _ => rfl⟩
  have d_mixed : D_mixed l.prog w K mg base := ⟨_, _, _, F20, ok_mixed F20 T d_draw , PySem.W.mg_of X G a20, F20.binds (ps := ["_law_deck_here", "_law_items"]) fun _ _ _ _ _ _ us hl => match us, hl with | [_, _], _ => rfl⟩
  have d_is_firm : D_is_firm l.prog w K mg base := ⟨_, _, _, F21, ok_is_firm F21 T d_spread , PySem.W.mg_of X G a21, F21.binds (ps := ["_law_rows_here", "_law_lot"]) fun _ _ _ _ _ _ us hl => match us, hl with | [_, _], _ => rfl⟩
  have d_Pgrowing : D_Pgrowing l.prog w K mg base := ⟨_, _, _, F22, ok_Pgrowing F22 T d_Ptelling d_Pjoined , PySem.W.mg_of X G a22, F22.binds (ps := ["table", "lot"]) fun _ _ _ _ _ _ us hl => match us, hl with | [_, _], _ => rfl⟩
  have d_menu : D_menu l.prog w K mg base := ⟨_, _, _, F23, ok_menu F23 T d_draw d_one d_oneL , PySem.W.mg_of X G a23, F23.binds (ps := ["_law_deck_here"]) fun _ _ _ _ _ _ us hl => match us, hl with | [_], _ => rfl⟩
  have d_rows : D_rows l.prog w K mg base := ⟨_, _, _, F24, ok_rows F24 T d_draw d_mixed d_one d_oneL , PySem.W.mg_of X G a24, F24.binds (ps := ["_law_deck_here", "_law_size", "_law_menu_here"]) fun _ _ _ _ _ _ us hl => match us, hl with | [_, _, _], _ => rfl⟩
  have d_paints : D_paints l.prog w K mg base := ⟨_, _, _, F25, ok_paints F25 T d_mixed d_draw , PySem.W.mg_of X G a25, F25.binds (ps := ["_law_deck_here", "_law_rows_here"]) fun _ _ _ _ _ _ us hl => match us, hl with | [_, _], _ => rfl⟩
  have d_Pleast_piece : D_Pleast_piece l.prog w K mg base := ⟨_, _, _, F26, ok_Pleast_piece F26 T d_Pjoined d_Pgrowing , PySem.W.mg_of X G a26, F26.binds (ps := ["table", "lot"]) fun _ _ _ _ _ _ us hl => match us, hl with | [_, _], _ => rfl⟩
  have d_core : D_core l.prog w K mg base := ⟨_, _, _, F27, ok_core F27 T d_rows d_is_firm , PySem.W.mg_of X G a27, F27.binds (ps := ["_law_deck_here", "_law_size", "_law_menu_here"]) fun _ _ _ _ _ _ us hl => match us, hl with | [_, _, _], _ => rfl⟩
  have d_Pis_firm : D_Pis_firm l.prog w K mg base := ⟨_, _, _, F28, ok_Pis_firm F28 T d_Plots_of d_Pleast_piece , PySem.W.mg_of X G a28, F28.binds (ps := ["table"]) fun _ _ _ _ _ _ us hl => match us, hl with | [_], _ => rfl⟩
  have d_small : D_small l.prog w K mg base := ⟨_, _, _, F29, ok_small F29 T d_draw d_rows d_core d_one d_oneL , PySem.W.mg_of X G a29, F29.binds (ps := ["_law_deck_here", "_law_size", "_law_menu_here"]) fun _ _ _ _ _ _ us hl => match us, hl with | [_, _, _], _ => rfl⟩
  have d_Pis_firm_lot : D_Pis_firm_lot l.prog w K mg base := ⟨_, _, _, F30, ok_Pis_firm_lot F30 T d_Pis_firm d_Ppart , PySem.W.mg_of X G a30, F30.binds (ps := ["table", "lot"]) fun _ _ _ _ _ _ us hl => match us, hl with | [_, _], _ => rfl⟩
  have d_made : D_made l.prog w K mg base := ⟨_, _, _, F31, ok_made F31 T d_named d_mixed d_set_in d_draw d_small , PySem.W.mg_of X G a31, F31.binds (ps := ["_law_deck_here", "_law_size", "_law_menu_here"]) fun _ _ _ _ _ _ us hl => match us, hl with | [_, _, _], _ => rfl⟩
  have d_Pfirm_lots : D_Pfirm_lots l.prog w K mg base := ⟨_, _, _, F32, ok_Pfirm_lots F32 T d_Pall_lots d_Pis_firm_lot , PySem.W.mg_of X G a32, F32.binds (ps := ["table"]) fun _ _ _ _ _ _ us hl => match us, hl with | [_], _ => rfl⟩
  have d_any : D_any l.prog w K mg base := ⟨_, _, _, F33, ok_any F33 T d_draw d_core d_rows d_made , PySem.W.mg_of X G a33, F33.binds (ps := ["_law_deck_here", "_law_size", "_law_menu_here"]) fun _ _ _ _ _ _ us hl => match us, hl with | [_, _, _], _ => rfl⟩
  have d_is_right : D_is_right l.prog w K mg base := ⟨_, _, _, F34, ok_is_right F34 T d_Pfirm_lots d_table d_paints d_lots d_mixed d_Pturned d_Prenamed d_is_firm d_Pis_firm d_Ppainted d_Ppart d_led , PySem.W.mg_of X G a34, F34.binds (ps := ["_law_deck_here", "_law_rows_here"]) fun _ _ _ _ _ _ us hl => match us, hl with | [_, _], _ => rfl⟩
  exact ok_law F35 T d_deck d_menu d_one d_oneL d_draw d_set_in d_lots d_is_right d_core d_any d_Pfirm_lots d_table d_is_firm  law_ok
end Kp
open PySem PySem.W PyProof.Rows
set_option maxRecDepth 100000 in
set_option maxHeartbeats 0 in
theorem PySem.Challenge.cw_piecetrees_k20_firm_lots_by_parts_turned_holds : PySem.Challenge.rw_piecetrees_k20_firm_lots_by_parts_turned.Holds := by
  w_on; o_law; k_head; (case hw => w_witness2)
  k_fill
  refine Dm.walkG (l := PySem.Challenge.rw_piecetrees_k20_firm_lots_by_parts_turned) (k := 9) (x := "_law_script") (CX := fun _ => L2.CX0) rfl rfl ⟨by decide, by decide, by decide⟩ (fun w h Y => PySem.W.km_in_of Y) ?F (fun _ _ _ _ _ z => z)
  case F =>
    intro w mg fa h Y KX G hmg
    refine' Kp.all_mk KX G hmg ?a1 ?l1 ?c1 ?k1 ?a2 ?l2 ?c2 ?k2 ?a3 ?l3 ?c3 ?k3 ?a4 ?l4 ?c4 ?k4 ?a5 ?l5 ?c5 ?k5 ?a6 ?l6 ?c6 ?k6 ?a7 ?l7 ?c7 ?k7 ?a8 ?l8 ?c8 ?k8 ?a9 ?l9 ?c9 ?k9 ?a10 ?l10 ?c10 ?k10 ?a11 ?l11 ?c11 ?k11 ?a12 ?l12 ?c12 ?k12 ?a13 ?l13 ?c13 ?k13 ?a14 ?l14 ?c14 ?k14 ?hc14 ?hv14 ?ch14 ?np14 ?tp14 ?a15 ?l15 ?c15 ?k15 ?a16 ?l16 ?c16 ?k16 ?a17 ?l17 ?c17 ?k17 ?a18 ?l18 ?c18 ?k18 ?a19 ?l19 ?c19 ?k19 ?a20 ?l20 ?c20 ?k20 ?a21 ?l21 ?c21 ?k21 ?a22 ?l22 ?c22 ?k22 ?a23 ?l23 ?c23 ?k23 ?a24 ?l24 ?c24 ?k24 ?a25 ?l25 ?c25 ?k25 ?a26 ?l26 ?c26 ?k26 ?a27 ?l27 ?c27 ?k27 ?a28 ?l28 ?c28 ?k28 ?a29 ?l29 ?c29 ?k29 ?a30 ?l30 ?c30 ?k30 ?a31 ?l31 ?c31 ?k31 ?a32 ?l32 ?c32 ?k32 ?a33 ?l33 ?c33 ?k33 ?a34 ?l34 ?c34 ?k34 ?a35 ?l35 ?c35 ?k35 ?z_len ?z_list ?z_tuple ?z_range ?z_repr ?z_all ?z_any ?z_sum ?z_int ?z_str ?z_min ?z_max ?z_sorted ?z_set ?z_enumerate ?z_isinstance ?z_bool ?z_dict ?z_zip ?z_abs
    (case a1 => k_is)
    (case l1 => k_is)
    (case c1 => k_is)
    (case k1 => k_is)
    (case a2 => k_is)
    (case l2 => k_is)
    (case c2 => k_is)
    (case k2 => k_is)
    (case a3 => k_is)
    (case l3 => k_is)
    (case c3 => k_is)
    (case k3 => k_is)
    (case a4 => k_is)
    (case l4 => k_is)
    (case c4 => k_is)
    (case k4 => k_is)
    (case a5 => k_is)
    (case l5 => k_is)
    (case c5 => k_is)
    (case k5 => k_is)
    (case a6 => k_is)
    (case l6 => k_is)
    (case c6 => k_is)
    (case k6 => k_is)
    (case a7 => k_is)
    (case l7 => k_is)
    (case c7 => k_is)
    (case k7 => k_is)
    (case a8 => k_is)
    (case l8 => k_is)
    (case c8 => k_is)
    (case k8 => k_is)
    (case a9 => k_is)
    (case l9 => k_is)
    (case c9 => k_is)
    (case k9 => k_is)
    (case a10 => k_is)
    (case l10 => k_is)
    (case c10 => k_is)
    (case k10 => k_is)
    (case a11 => k_is)
    (case l11 => k_is)
    (case c11 => k_is)
    (case k11 => k_is)
    (case a12 => k_is)
    (case l12 => k_is)
    (case c12 => k_is)
    (case k12 => k_is)
    (case a13 => k_is)
    (case l13 => k_is)
    (case c13 => k_is)
    (case k13 => k_is)
    (case a14 => k_is)
    (case l14 => k_is)
    (case c14 => k_is)
    (case k14 => k_is)
    (case hc14 => k_is)
    (case hv14 => exact rfl)
    (case ch14 => kernel_rfl)
    (case np14 => kernel_rfl)
    (case tp14 => exact PySem.W.km_tabs_of Y _ (by k_mem))
    (case a15 => k_is)
    (case l15 => k_is)
    (case c15 => k_is)
    (case k15 => k_is)
    (case a16 => k_is)
    (case l16 => k_is)
    (case c16 => k_is)
    (case k16 => k_is)
    (case a17 => k_is)
    (case l17 => k_is)
    (case c17 => k_is)
    (case k17 => k_is)
    (case a18 => k_is)
    (case l18 => k_is)
    (case c18 => k_is)
    (case k18 => k_is)
    (case a19 => k_is)
    (case l19 => k_is)
    (case c19 => k_is)
    (case k19 => k_is)
    (case a20 => k_is)
    (case l20 => k_is)
    (case c20 => k_is)
    (case k20 => k_is)
    (case a21 => k_is)
    (case l21 => k_is)
    (case c21 => k_is)
    (case k21 => k_is)
    (case a22 => k_is)
    (case l22 => k_is)
    (case c22 => k_is)
    (case k22 => k_is)
    (case a23 => k_is)
    (case l23 => k_is)
    (case c23 => k_is)
    (case k23 => k_is)
    (case a24 => k_is)
    (case l24 => k_is)
    (case c24 => k_is)
    (case k24 => k_is)
    (case a25 => k_is)
    (case l25 => k_is)
    (case c25 => k_is)
    (case k25 => k_is)
    (case a26 => k_is)
    (case l26 => k_is)
    (case c26 => k_is)
    (case k26 => k_is)
    (case a27 => k_is)
    (case l27 => k_is)
    (case c27 => k_is)
    (case k27 => k_is)
    (case a28 => k_is)
    (case l28 => k_is)
    (case c28 => k_is)
    (case k28 => k_is)
    (case a29 => k_is)
    (case l29 => k_is)
    (case c29 => k_is)
    (case k29 => k_is)
    (case a30 => k_is)
    (case l30 => k_is)
    (case c30 => k_is)
    (case k30 => k_is)
    (case a31 => k_is)
    (case l31 => k_is)
    (case c31 => k_is)
    (case k31 => k_is)
    (case a32 => k_is)
    (case l32 => k_is)
    (case c32 => k_is)
    (case k32 => k_is)
    (case a33 => k_is)
    (case l33 => k_is)
    (case c33 => k_is)
    (case k33 => k_is)
    (case a34 => k_is)
    (case l34 => k_is)
    (case c34 => k_is)
    (case k34 => k_is)
    (case a35 => k_is)
    (case l35 => k_is)
    (case c35 => k_is)
    (case k35 => k_is)
    (case z_len => k_is)
    (case z_list => k_is)
    (case z_tuple => k_is)
    (case z_range => k_is)
    (case z_repr => k_is)
    (case z_all => k_is)
    (case z_any => k_is)
    (case z_sum => k_is)
    (case z_int => k_is)
    (case z_str => k_is)
    (case z_min => k_is)
    (case z_max => k_is)
    (case z_sorted => k_is)
    (case z_set => k_is)
    (case z_enumerate => k_is)
    (case z_isinstance => k_is)
    (case z_bool => k_is)
    (case z_dict => k_is)
    (case z_zip => k_is)
    (case z_abs => k_is)

