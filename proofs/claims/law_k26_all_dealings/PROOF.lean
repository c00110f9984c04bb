import PyProof.Rows.All
import HandS.ForMost
import HandS.Conv
import HandS.Zip
import HandS.TupAny
import HandS.Wide
import HandS.EndBits
import HandS.Exc
import HandS.ExcOwn
import HandS.ExcInit
import HandS.ExcField
import HandS.ExcIs
import HandS.TryMany
import HandS.WordsExc
import HandS.OwnEq
import HandS.RaiseMore
import HandS.IsInst
import HandS.Walk
import HandS.TryOnly
import HandS.TupMul
import HandS.Style
import HandS.Text
import HandS.CallSlots
import KE.KExcIs
import HandS.Head0
import HandS.Head1
import HandS.Head2
import HandS.HeadEnd
import HandS.HeadHook1
import HandS.HeadHook2
import HandS.Words
import HandS.Defaults
import HandS.Deep
import HandS.HeadNt
import KE.KIsNot
import HandS.More
import PyProof.StrOps2
import HandS.Dict
import HandS.SetKeys
import HandS.Iter
import HandS.WordsDict
import KE.SortData
import KE.KDictPairs
import HandS.TupSets
import HandS.Strs
import HandS.Star
import PySem.Challenge.RW_dealtarrays_k26_all_dealings
set_option Elab.async false
set_option linter.all false
set_option maxRecDepth 100000
namespace DD
open PySem PySem.Spec PyProof.Rows L2
/-! ### tuples whose one object is known: without attributes of their own -/
def tupO (its : List Value) : Obj := { cls := .type "tuple", data := .seq its.toArray }
abbrev TpQ (Q : VK) (H : Hp) (xs : List V) : Prop := ∀ (p : Addr) (o : Obj), H p = none → o.dict = none → Q (.ref p) (upd H p (.frz o (.tup xs)))
section
variable {X : Cx} {pins : List (Addr × Obj)} {σ : L2.St} {H : Hp} {s : Shared}
theorem okP {P : Program} {w : World} {H : Hp} {h : Heap} {a : Addr} {xs : List V} {its : List Value} (hz : xs.length ≤ sizeLine) (r : Vals xs its) (e : h.get? a = some (tupO its)) : ObjOk P w H h a (.frz (tupO its) (.tup xs)) :=
  ⟨e, hz, its, r, _, e, rfl, _, rfl⟩
theorem ep_new {xs : List V} {its : List Value} {Q : VK} {h' : Heap} {tk : Nat} (I : L2.Inv X pins σ H { s with heap := h', toks := tk }) (hz : xs.length ≤ sizeLine) (r : Vals xs its) (q : TpQ Q H xs) :
    EP X pins σ Q (.ref h'.objs.size) { s with heap := h'.push (tupO its), toks := tk } :=
  ⟨.ref h'.objs.size, _, I.laid (t' := tk) (fun b o e => Heap.get?_push_of_some _ e) (Nat.le_refl _) (okP hz r (Heap.get?_push_size _ rfl)), rfl, q _ _ (I.hok.fresh (Nat.le_refl _)) rfl⟩
variable {es : List Expr} {t : TA} {pos : Pos}
def tTupP (t : TA) : TE := fun σ H Q => t σ H fun xs H1 => xs.length ≤ sizeLine ∧ TpQ Q H1 xs
theorem pe_tupP {x1} (h : PA X es t) : PE X (.Tuple es x1 pos) (tTupP t) := by
  refine ⟨fun pins s σ H Q I hq => ?_⟩
  refine wpAny_Tuple_spliced (thn (h.run pos pins s σ H _ I hq) fun us s1 ⟨xs, H1, I1, r, z, q⟩ => ⟨by rw [← r.length]; exact z, ?_⟩)
  exact ep_new (s := s1) (h' := s1.heap) (tk := s1.toks) I1 z r q
def rCatP (K : PySem.W.Frag) : R2 := fun x y H Q => ∃ a b xs ys, x = .ref a ∧ y = .ref b ∧ SqT K H a xs ∧ SqT K H b ys ∧ xs.length + ys.length ≤ sizeLine ∧
  (xs = [] → Q (.ref b) H) ∧ (xs ≠ [] → ys = [] → Q (.ref a) H) ∧ (xs ≠ [] → ys ≠ [] → TpQ Q H (xs ++ ys))
theorem op_catP : OpR X (binaryOp .Add) (rCatP X.K) := by
  intro pins s σ H x y v u Q I rx ry h
  obtain ⟨a, b, xs, ys, rfl, rfl, ha, hb, hz, q0, q1, q2⟩ := h
  cases rx
  cases ry
  obtain ⟨its, r1, p1, _⟩ := I.tuple ha
  obtain ⟨its2, r2, p2, _⟩ := I.tuple hb
  by_cases hx : xs = []
  · subst hx
    cases r1
    exact cat_tup0 p1 p2 ⟨.ref b, H, I, rfl, q0 rfl⟩
  · refine HT.cat_tup p1 p2 (fun z => hx (r1.nil_iff.mp z)) (fun z => ⟨.ref a, H, I, rfl, q1 hx (r2.nil_iff.mp z)⟩) (fun z => ?_) (by rw [← r1.length, ← r2.length]; exact hz)
    exact ep_new (s := s) (h' := s.heap) (tk := s.toks) I (by rw [List.length_append]; exact hz) (r1.append r2) (q2 hx fun w => z (r2.nil_iff.mpr w))
def rSlP (K : PySem.W.Frag) : V → Option Int → Option Int → Hp → VK → Prop := fun x lo hi H Q => ∃ a xs, x = .ref a ∧ SqT K H a xs ∧
  (HT.sIx xs.length 0 lo = 0 ∧ HT.sIx xs.length xs.length hi = xs.length → Q (.ref a) H) ∧ (¬ (HT.sIx xs.length 0 lo = 0 ∧ HT.sIx xs.length xs.length hi = xs.length) → TpQ Q H (cutV xs lo hi))
theorem sl_tupP : SlR X (rSlP X.K) := by
  intro pins s σ H x v vl vu lo hi sl Q I rx hs pl pu h
  obtain ⟨a, xs, rfl, hx, q1, q2⟩ := h
  cases rx
  obtain ⟨its, r, ht, hz⟩ := I.tuple hx
  have hlen : its.toArray.size = xs.length := by rw [List.size_toArray]; exact r.length.symm
  refine ⟨"tuple", _, PyProof.Rows.slot_tuple_getitem.lookup, ht.typeIs, ?_⟩
  by_cases hw : HT.sIx xs.length 0 lo = 0 ∧ HT.sIx xs.length xs.length hi = xs.length
  · exact getItem_tuple_whole ht hs pl pu (by rw [hlen]; exact hw) ⟨.ref a, H, I, rfl, q1 hw⟩
  · refine HT.getItem_tuple_cut ht hs pl pu (by rw [hlen]; exact hw) ?_ (by rw [hlen]; exact hz)
    rw [hlen]
    exact ep_new (s := s) (h' := s.heap) (tk := s.toks) I (Nat.le_trans (cutV_length xs lo hi) hz) ((r.drop (HT.sIx xs.length 0 lo)).take (HT.sIx xs.length xs.length hi - HT.sIx xs.length 0 lo)) (q2 hw)
theorem call_tupleP : CallR X (.type "tuple") (fun xs H Q => ∃ p ys, xs = [.ref p] ∧ ((SqL X.K H p ys ∧ TpQ Q H ys) ∨ (SqT X.K H p ys ∧ Q (.ref p) H))) := by
  intro pins s σ H xs us Q I r h
  obtain ⟨p, ys, rfl, h⟩ := h
  obtain ⟨u, rfl, rx⟩ := vals1 r
  cases rx
  rcases h with ⟨hq, q⟩ | ⟨hq, q⟩
  · obtain ⟨its, r', pl, hz⟩ := I.list hq
    have hlen := r'.length
    refine call_tuple_list pl.isList (fun h' kp => ?_) (by simp only [List.size_toArray] <;> omega)
    exact ep_new (s := s) (h' := h') (tk := s.toks) (I.kept (t' := s.toks) kp) hz r' q
  · obtain ⟨its, r', pl, hz⟩ := I.tuple hq
    exact call_tuple_same pl ⟨.ref p, H, I, rfl, q⟩
def tTupRgP (te : L2.St → Hp → (Int → Int → Hp → Prop) → Prop) : TE := fun σ H Q => te σ H fun a b H1 => RgOk a b ∧ TpQ Q H1 (rgV a b)
theorem pe_tupRgP {e : Expr} {te : L2.St → Hp → (Int → Int → Hp → Prop) → Prop} {p pos : Pos} (hc : X.calm = true) (hg : Gl X "tuple") (hm : X.mg "tuple" = none) (he : PRg X e te) (na : starEach [e] X.env = (false, eval e X.env) :: starEach [] X.env := by rfl) : PE X (.Call (.Name "tuple" p) [e] [] pos) (tTupRgP te) := by
  refine ⟨fun pins s σ H Q I h => ?_⟩
  refine Call_ (ld_blt I hg hm boot_tuple (PyProof.Rows.callWith_type1 (args_cons (thn (he pins s σ H _ I h) fun x s1 ⟨r, a, b, t, u, v, H1, ex, hr, I1, ok, q⟩ => args_nil ?_) na) na))
  subst ex
  obtain ⟨b1, b2, b3, b4, b5⟩ := ok
  refine call_tuple_range (n := (b - a).toNat) (I1.ok.hd hc) hr (small_one b1 b2 b3 b4) (rangeSize_nat a b) b5 fun h' tk acc hk hi => ?_
  have h2 := ep_new (s := s1) (h' := h') (tk := tk) (I1.kept hk) (by rw [rgV_length, sizeLine_eq]; omega) (vals_rg hi) q
  unfold tupO at h2
  rw [Array.toArray_toList] at h2
  exact h2

/-! ### zip: pairs whose object is known -/
def ItzP (K : PySem.W.Frag) (a b : Addr) : It :=
  ⟨(Itz K a b).go, fun i H v H' => ∃ T o x y, v = .ref T ∧ H T = none ∧ o.dict = none ∧ H' = upd H T (.frz o (.tup [x, y])) ∧ (∀ xs, SqL K H a xs → xs[i]? = some x) ∧ ∀ ys, SqL K H b ys → ys[i]? = some y, (Itz K a b).stop⟩
def ItzTP (K : PySem.W.Frag) (a b : Addr) : It :=
  ⟨(RZ.ItzT K a b).go, fun i H v H' => ∃ T o x y, v = .ref T ∧ H T = none ∧ o.dict = none ∧ H' = upd H T (.frz o (.tup [x, y])) ∧ (∀ xs, SqT K H a xs → xs[i]? = some x) ∧ ∀ ys, SqT K H b ys → ys[i]? = some y, (RZ.ItzT K a b).stop⟩
/-- what a turn of zip leaves, the pair laid with its object -/
theorem zip_turn {X : Cx} {pins : List (Addr × Obj)} {σ : L2.St} {H : Hp} {s : Shared} {z TI TO i1 i2 a b : Addr} {x y : V} {u u2 : Value} {h'' : Heap} (D : ZipApart z TI TO i1 i2 a b) (I : L2.Inv X pins σ H s) (hf : ∀ c ∈ [z, TI, TO, i1, i2], FpOk X pins H c)
    (hzl : z < s.heap.objs.size) (hT : h''.get? s.heap.objs.size = some (tupO [u, u2])) (ru : RelV x u) (ru2 : RelV y u2) (lt : ∀ c ∈ [z, TI, TO, i1, i2], c < s.heap.objs.size)
    (hk : ∀ c o, c ∉ [z, TI, TO, i1, i2] → s.heap.get? c = some o → h''.get? c = some o) :
    L2.Inv X pins σ (upd H s.heap.objs.size (.frz (tupO [u, u2]) (.tup [x, y]))) { s with heap := h'' } ∧ ∀ c ∈ [z, TI, TO, i1, i2], upd H s.heap.objs.size (.frz (tupO [u, u2]) (.tup [x, y])) c = none :=
  ⟨I.turnedNew (t' := s.toks) (ch := [z, TI, TO, i1, i2]) hk hf (Nat.le_refl _) (okP (by show 2 ≤ sizeLine; decide) (.cons ru (.cons ru2 .nil)) hT),
   fun c hc => by rw [upd_ne (Nat.ne_of_lt (lt c hc))]; exact (hf c hc).1⟩
section
variable {P : Program} {w : World} {K : PySem.W.Frag} {elts : List Expr} {kk : Nat} {tpos : Pos} {a b z TI TO i1 i2 : Addr}
theorem turn_zipP (D : ZipApart z TI TO i1 i2 a b) :
    Turn P w K (.Tuple elts kk tpos) (ItzP K a b) [z, TI, TO, i1, i2] z (fun i h => IsZip h z TI TO .none ∧ IsPair h TI (.ref i1) (.ref i2) ∧ (∃ x y, IsPair h TO x y) ∧ h.IsListIter i1 a i ∧ h.IsListIter i2 b i) :=
  { mem := (turn_zip (P := P) (w := w) (K := K) (elts := elts) (kk := kk) (tpos := tpos) D).mem
    obj := (turn_zip (P := P) (w := w) (K := K) (elts := elts) (kk := kk) (tpos := tpos) D).obj
    keep := (turn_zip (P := P) (w := w) (K := K) (elts := elts) (kk := kk) (tpos := tpos) D).keep
    done := (turn_zip (P := P) (w := w) (K := K) (elts := elts) (kk := kk) (tpos := tpos) D).done
    self := (turn_zip (P := P) (w := w) (K := K) (elts := elts) (kk := kk) (tpos := tpos) D).self
    item := by
      intro X hP hw hK hc i pins s σ H E I hf st hg
      subst hP hw hK
      obtain ⟨hz, hTI, ⟨x0, y0, hTO⟩, h1, h2⟩ := st
      obtain ⟨xs, ys, x, y, hqx, hqy, hx, hy⟩ := hg
      obtain ⟨its, rv, p, _⟩ := I.list hqx
      obtain ⟨its2, rv2, p2, _⟩ := I.list hqy
      obtain ⟨u, hu, ru⟩ := rv.get hx
      obtain ⟨u2, hu2, ru2⟩ := rv2.get hy
      have lt : ∀ c ∈ [z, TI, TO, i1, i2], c < s.heap.objs.size := fun c hc => by
        obtain ⟨o, e, _⟩ := (turn_zip (P := X.prog) (w := X.w) (K := X.K) (elts := elts) (kk := kk) (tpos := tpos) D).obj i s.heap ⟨hz, hTI, ⟨x0, y0, hTO⟩, h1, h2⟩ c hc
        exact Heap.lt_size e
      have hzl : z < s.heap.objs.size := Heap.lt_size hz
      refine wpAny_pyNext_zip_item D hz hTI hTO h1 h2 p.isList p2.isList (x := u) (y := u2) (by simpa using hu) (by simpa using hu2) fun h' z' TO' h1' h2' hT hsz hk => ?_
      refine ⟨_, rfl, wpAny_letOwnedTupleGo_zip (s := { s with heap := h' }) z' fun h'' z'' sb => ?_⟩
      obtain ⟨I1, n1⟩ := zip_turn (h'' := h'') D I hf hzl ((sb.2 _ (Nat.ne_of_gt hzl)).trans hT) ru ru2 lt fun c o hb q => (sb.2 c (fun q' => hb (by simp [q']))).trans (hk c o (fun q' => hb (by simp [q'])) (fun q' => hb (by simp [q'])) (fun q' => hb (by simp [q'])) (fun q' => hb (by simp [q'])) q)
      exact ⟨.ref s.heap.objs.size, _, I1, rfl, ⟨_, _, x, y, rfl, I.hok.fresh (Nat.le_refl _), rfl, rfl, fun l hl => by rw [I.list_inj hl hqx]; exact hx, fun l hl => by rw [I.list_inj hl hqy]; exact hy⟩,
        ⟨z'', (sb.2 _ D.TIz).trans (hk _ _ D.TIz D.TITO D.TIi1 D.TIi2 hTI), ⟨u, u2, (sb.2 _ D.TOz).trans TO'⟩, h1'.at fun o q => (sb.2 _ D.i1z).trans q, h2'.at fun o q => (sb.2 _ D.i2z).trans q⟩, n1⟩ }
theorem turn_zipTP (D : ZipApart z TI TO i1 i2 a b) :
    Turn P w K (.Tuple elts kk tpos) (ItzTP K a b) [z, TI, TO, i1, i2] z (fun i h => IsZip h z TI TO .none ∧ IsPair h TI (.ref i1) (.ref i2) ∧ (∃ x y, IsPair h TO x y) ∧ h.IsTupleIter i1 a i ∧ h.IsTupleIter i2 b i) :=
  { mem := (RZ.turn_zipT (P := P) (w := w) (K := K) (elts := elts) (kk := kk) (tpos := tpos) D).mem
    obj := (RZ.turn_zipT (P := P) (w := w) (K := K) (elts := elts) (kk := kk) (tpos := tpos) D).obj
    keep := (RZ.turn_zipT (P := P) (w := w) (K := K) (elts := elts) (kk := kk) (tpos := tpos) D).keep
    done := (RZ.turn_zipT (P := P) (w := w) (K := K) (elts := elts) (kk := kk) (tpos := tpos) D).done
    self := (RZ.turn_zipT (P := P) (w := w) (K := K) (elts := elts) (kk := kk) (tpos := tpos) D).self
    item := by
      intro X hP hw hK hc i pins s σ H E I hf st hg
      subst hP hw hK
      obtain ⟨hz, hTI, ⟨x0, y0, hTO⟩, h1, h2⟩ := st
      obtain ⟨xs, ys, x, y, hqx, hqy, hx, hy⟩ := hg
      obtain ⟨its, rv, p, _⟩ := I.tuple hqx
      obtain ⟨its2, rv2, p2, _⟩ := I.tuple hqy
      obtain ⟨u, hu, ru⟩ := rv.get hx
      obtain ⟨u2, hu2, ru2⟩ := rv2.get hy
      have lt : ∀ c ∈ [z, TI, TO, i1, i2], c < s.heap.objs.size := fun c hc => by
        obtain ⟨o, e, _⟩ := (RZ.turn_zipT (P := X.prog) (w := X.w) (K := X.K) (elts := elts) (kk := kk) (tpos := tpos) D).obj i s.heap ⟨hz, hTI, ⟨x0, y0, hTO⟩, h1, h2⟩ c hc
        exact Heap.lt_size e
      have hzl : z < s.heap.objs.size := Heap.lt_size hz
      refine RZ.pyNext_zipT_item D hz hTI hTO h1 h2 p p2 (x := u) (y := u2) (by simpa using hu) (by simpa using hu2) fun h' z' TO' h1' h2' hT hsz hk => ?_
      refine ⟨_, rfl, wpAny_letOwnedTupleGo_zip (s := { s with heap := h' }) z' fun h'' z'' sb => ?_⟩
      obtain ⟨I1, n1⟩ := zip_turn (h'' := h'') D I hf hzl ((sb.2 _ (Nat.ne_of_gt hzl)).trans hT) ru ru2 lt fun c o hb q => (sb.2 c (fun q' => hb (by simp [q']))).trans (hk c o (fun q' => hb (by simp [q'])) (fun q' => hb (by simp [q'])) (fun q' => hb (by simp [q'])) (fun q' => hb (by simp [q'])) q)
      exact ⟨.ref s.heap.objs.size, _, I1, rfl, ⟨_, _, x, y, rfl, I.hok.fresh (Nat.le_refl _), rfl, rfl, fun l hl => by rw [I.tuple_inj hl hqx]; exact hx, fun l hl => by rw [I.tuple_inj hl hqy]; exact hy⟩,
        ⟨z'', (sb.2 _ D.TIz).trans (hk _ _ D.TIz D.TITO D.TIi1 D.TIi2 hTI), ⟨u, u2, (sb.2 _ D.TOz).trans TO'⟩, h1'.at fun o q => (sb.2 _ D.i1z).trans q, h2'.at fun o q => (sb.2 _ D.i2z).trans q⟩, n1⟩ }
end
section
def iZipP (K : PySem.W.Frag) (ta : TA) : L2.TI := fun σ H R => ta σ H fun vs H1 => ∃ a b xs ys, vs = [.ref a, .ref b] ∧ ((SqL K H1 a xs ∧ SqL K H1 b ys ∧ R (ItzP K a b) H1) ∨ (SqT K H1 a xs ∧ SqT K H1 b ys ∧ R (ItzTP K a b) H1))
theorem pi_zipP {X : Cx} {e e2 : Expr} {ta : TA} {p pos tpos : Pos} {elts : List Expr} {kk : Nat} (hg : Gl X "zip") (hm : X.mg "zip" = none) (ha : PA X [e, e2] ta)
    (hs : starEach [e, e2] X.env = (false, eval e X.env) :: starEach [e2] X.env := by rfl) (hpl : (backTo pos (starEach [e2] X.env)).any (·.1) = false := by rfl) :
    PI X (.Tuple elts kk tpos) (.Call (.Name "zip" p) [e, e2] [] pos) (iZipP X.K ta) := by
  refine ⟨fun pins s σ H R I h => ?_⟩
  refine Call_ (ld_blt I hg hm PyProof.Rows.boot_zip (PyProof.Rows.callWith_type1 (thn (ha.run pos pins s σ H _ I h) fun us s1 ⟨vs, H1, I1, r1, q1⟩ => ?_) hs hpl))
  obtain ⟨a, b, xs, ys, rfl, q1⟩ := q1
  obtain ⟨ua, ub, rfl, r, r'⟩ : ∃ ua ub, us = [ua, ub] ∧ RelV (.ref a) ua ∧ RelV (.ref b) ub := by
    cases r1 with
    | cons r rr =>
      cases rr with
      | cons r' rr => cases rr; exact ⟨_, _, rfl, r, r'⟩
  cases r
  cases r'
  have fresh5 : ∀ c, c ∈ [s1.heap.objs.size + 4, s1.heap.objs.size + 2, s1.heap.objs.size + 3, s1.heap.objs.size, s1.heap.objs.size + 1] → FpOk X pins H1 c := fun c hcm => by
    have hle : s1.heap.objs.size ≤ c := by simp at hcm; omega
    exact I1.fpOk hle (I1.hok.fresh hle)
  rcases q1 with ⟨hqx, hqy, q⟩ | ⟨hqx, hqy, q⟩
  · obtain ⟨its, rv, p1, _⟩ := I1.list hqx
    obtain ⟨its2, rv2, p2, _⟩ := I1.list hqy
    exact call_zip_2 p1.isList p2.isList fun h' hz hTI hTO h1 h2 hsz hk => wpAny_pyIter_zip hz
      ⟨_, _, _, _, H1, rfl, I1.kept (t' := s1.toks) hk, turn_zipP (PySem.W.ktu_apart s1.heap.objs.size a b p1.lt p2.lt), ⟨hz, hTI, ⟨_, _, hTO⟩, h1, h2⟩, fresh5, q⟩
  · obtain ⟨its, rv, p1, _⟩ := I1.tuple hqx
    obtain ⟨its2, rv2, p2, _⟩ := I1.tuple hqy
    obtain ⟨o1, ho1, _⟩ := id p1
    obtain ⟨o2, ho2, _⟩ := id p2
    exact RZ.call_zipT (show s1.heap.IsTuple a its.toArray from p1) (show s1.heap.IsTuple b its2.toArray from p2) fun h' hz hTI hTO h1 h2 hsz hk => wpAny_pyIter_zip hz
      ⟨_, _, _, _, H1, rfl, I1.kept (t' := s1.toks) hk, turn_zipTP (PySem.W.ktu_apart s1.heap.objs.size a b (Heap.lt_size ho1) (Heap.lt_size ho2)), ⟨hz, hTI, ⟨_, _, hTO⟩, h1, h2⟩, fresh5, q⟩
end
end
end DD

set_option Elab.async false
set_option linter.all false
set_option maxRecDepth 100000
namespace DD
open PySem PySem.Spec PyProof.Rows L2

/-- plain data; objects that change stand in a store and are named by their place there -/
inductive D where
  | non | bl (b : Bool) | int (i : Int) | str (x : Str) | tup (xs : List D) | rol (xs : List D) | ref (n : Nat) | glo (x : Str) | ty (n : String)
/-- an object of the store -/
inductive O where
  | lst (xs : List D) | ins (c : Str) (fs : List (Str × D)) | dct (kvs : List (Key × D)) | ldc (kvs : List (Key × D)) | exi (c : Str) (fs : List (Str × D))
abbrev So := List O
/-- a slot: without a value, with one, with the caught error -/
inductive Sv where
  | no | v (d : D) | exn (c : Str) (fs : List (Str × D))
abbrev Sl := List Sv

/-- the written part and the module's names -/
structure G where
  K : PySem.W.Frag
  mg : Str → Option Value

/-- a list that nobody changes -/
def SqF (K : PySem.W.Frag) (H : Hp) (a : Addr) (xs : List V) : Prop :=
  (∃ o, H a = some (.frz o (.lst xs))) ∨
    ∃ (o : Obj) (its : Array Value) (n : Nat), K.lookup a = some o ∧ o.cls = .type "list" ∧ o.dict = none ∧ o.data = .seq its n ∧ its.size ≤ sizeLine ∧ Vals xs its.toList
theorem SqF.seq {K : PySem.W.Frag} {H : Hp} {a : Addr} {xs : List V} (h : SqF K H a xs) : SqL K H a xs := by
  rcases h with h | h
  · exact .inl (.inr h)
  · exact .inr h

/-- a tuple: tracked, or one of the written part -/
def SqU (K : PySem.W.Frag) (H : Hp) (a : Addr) (xs : List V) : Prop :=
  (∃ o : Obj, H a = some (.frz o (.tup xs)) ∧ o.dict = none) ∨ ∃ (o : Obj) (its : Array Value) (n : Nat), K.lookup a = some o ∧ o.cls = .type "tuple" ∧ o.data = .seq its n ∧ its.size ≤ sizeLine ∧ Vals xs its.toList ∧ o.dict = none
theorem SqU.t {K : PySem.W.Frag} {H : Hp} {a : Addr} {xs : List V} (h : SqU K H a xs) : SqT K H a xs := h.elim (fun ⟨o, h, _⟩ => .inl (.inr ⟨o, h⟩)) fun ⟨o, its, n, h1, h2, h3, h4, h5, _⟩ => .inr ⟨o, its, n, h1, h2, h3, h4, h5⟩
mutual
inductive R (g : G) (ι : List Addr) (H : Hp) : D → V → Prop
  | non : R g ι H .non .non
  | bl (b : Bool) : R g ι H (.bl b) (.bl b)
  | int (i : Int) : R g ι H (.int i) (.int i)
  | str (x : Str) : R g ι H (.str x) (.str x)
  | tup {a : Addr} {vs : List V} {xs : List D} : SqU g.K H a vs → Rs g ι H xs vs → R g ι H (.tup xs) (.ref a)
  | rol {a : Addr} {vs : List V} {xs : List D} : SqF g.K H a vs → Rs g ι H xs vs → R g ι H (.rol xs) (.ref a)
  | ref {n : Nat} {a : Addr} : ι[n]? = some a → R g ι H (.ref n) (.ref a)
  | glo {x : Str} {u : Value} {v : V} : g.mg x = some u → RelV v u → R g ι H (.glo x) v
  | ty (n : String) : R g ι H (.ty n) (.ty n)
inductive Rs (g : G) (ι : List Addr) (H : Hp) : List D → List V → Prop
  | nil : Rs g ι H [] []
  | cons {d : D} {v : V} {ds : List D} {vs : List V} : R g ι H d v → Rs g ι H ds vs → Rs g ι H (d :: ds) (v :: vs)
end

/-- a sequence -/
def SeqHO : HO → Prop
  | .lst _ => True
  | .tup _ => True
  | _ => False
/-- what stays: tuples, locked sequences, the dicts of errors -/
structure Ex (H H' : Hp) : Prop where
  tup : ∀ b xs, H b = some (.tup xs) → H' b = some (.tup xs)
  frz : ∀ b o u, SeqHO u → H b = some (.frz o u) → H' b = some (.frz o u)
  xd : ∀ b fs, H b = some (.xd fs) → H' b = some (.xd fs)
  exd : ∀ b fs, H b = some (L2.exd b fs) → H' b = some (L2.exd b fs)
theorem Ex.refl (H : Hp) : Ex H H := ⟨fun _ _ h => h, fun _ _ _ _ h => h, fun _ _ h => h, fun _ _ h => h⟩
theorem Ex.trans {H H1 H2 : Hp} (a : Ex H H1) (b : Ex H1 H2) : Ex H H2 := ⟨fun c x h => b.tup c x (a.tup c x h), fun c o x q h => b.frz c o x q (a.frz c o x q h), fun c x h => b.xd c x (a.xd c x h), fun c x h => b.exd c x (a.exd c x h)⟩
theorem Ex.new {H : Hp} {p : Addr} {o : HO} (h : H p = none) : Ex H (upd H p o) :=
  ⟨fun b x e => by rw [upd_ne (ne_of_none e h)]; exact e, fun b u x _ e => by rw [upd_ne (ne_of_none e h)]; exact e, fun b x e => by rw [upd_ne (ne_of_none e h)]; exact e, fun b x e => by rw [upd_ne (ne_of_none e h)]; exact e⟩
theorem exd_case {b : Addr} {xs : List (Str × V)} {q : HO} (z : q = L2.exd b xs) : ∃ φ, q = .ext φ := ⟨_, z⟩
theorem Ex.wr {H : Hp} {p : Addr} {o q : HO} (h : H p = some q) (h1 : ∀ xs, q ≠ .tup xs) (h2 : ∀ o u, SeqHO u → q ≠ .frz o u) (h3 : ∀ xs, q ≠ .xd xs) (h4 : ∀ b xs, q ≠ L2.exd b xs := by intro b xs z; obtain ⟨φ, z⟩ := exd_case z; cases z) : Ex H (upd H p o) :=
  ⟨fun b x e => by rw [upd_ne (ne_of e h (fun z => h1 _ z.symm))]; exact e, fun b u x _ e => by rw [upd_ne (ne_of e h (fun z => h2 _ _ ‹_› z.symm))]; exact e, fun b x e => by rw [upd_ne (ne_of e h (fun z => h3 _ z.symm))]; exact e, fun b x e => by rw [upd_ne (ne_of e h (fun z => h4 _ _ z.symm))]; exact e⟩

abbrev Pre (ι ι' : List Addr) : Prop := ∀ (n : Nat) (a : Addr), ι[n]? = some a → ι'[n]? = some a
theorem Pre.refl (ι : List Addr) : Pre ι ι := fun _ _ h => h
theorem Pre.trans {ι ι1 ι2 : List Addr} (a : Pre ι ι1) (b : Pre ι1 ι2) : Pre ι ι2 := fun n x h => b n x (a n x h)
theorem Pre.app (ι l : List Addr) : Pre ι (ι ++ l) := fun n a h => by
  rw [List.getElem?_append_left (List.getElem?_eq_some_iff.mp h).1]; exact h

theorem sqT_ex {K : PySem.W.Frag} {H H' : Hp} {a : Addr} {xs : List V} (e : Ex H H') (h : SqT K H a xs) : SqT K H' a xs := by
  rcases h with (h | ⟨o, h⟩) | h
  · exact .inl (.inl (e.tup _ _ h))
  · exact .inl (.inr ⟨o, e.frz _ _ _ trivial h⟩)
  · exact .inr h
theorem sqU_ex {K : PySem.W.Frag} {H H' : Hp} {a : Addr} {xs : List V} (e : Ex H H') (h : SqU K H a xs) : SqU K H' a xs := h.elim (fun ⟨o, h, z⟩ => .inl ⟨o, e.frz _ _ _ trivial h, z⟩) .inr
theorem sqF_ex {K : PySem.W.Frag} {H H' : Hp} {a : Addr} {xs : List V} (e : Ex H H') (h : SqF K H a xs) : SqF K H' a xs := by
  rcases h with ⟨o, h⟩ | h
  · exact .inl ⟨o, e.frz _ _ _ trivial h⟩
  · exact .inr h

section
variable {g : G} {ι ι' : List Addr} {H H' : Hp}
mutual
theorem R.mono (p : Pre ι ι') (e : Ex H H') : ∀ (d : D) (v : V), R g ι H d v → R g ι' H' d v
  | .non, _, h => by cases h; exact .non
  | .bl _, _, h => by cases h; exact .bl _
  | .int _, _, h => by cases h; exact .int _
  | .str _, _, h => by cases h; exact .str _
  | .tup xs, _, h => by
    cases h with
    | tup h1 h2 => exact .tup (sqU_ex e h1) (Rs.mono p e xs _ h2)
  | .rol xs, _, h => by
    cases h with
    | rol h1 h2 => exact .rol (sqF_ex e h1) (Rs.mono p e xs _ h2)
  | .ref _, _, h => by
    cases h with
    | ref h1 => exact .ref (p _ _ h1)
  | .glo _, _, h => by
    cases h with
    | glo h1 h2 => exact .glo h1 h2
  | .ty _, _, h => by cases h; exact .ty _
theorem Rs.mono (p : Pre ι ι') (e : Ex H H') : ∀ (ds : List D) (vs : List V), Rs g ι H ds vs → Rs g ι' H' ds vs
  | [], _, h => by cases h; exact .nil
  | d :: ds, _, h => by
    cases h with
    | cons h1 h2 => exact .cons (R.mono p e d _ h1) (Rs.mono p e ds _ h2)
end
theorem Rs.length : ∀ {ds : List D} {vs : List V}, Rs g ι H ds vs → ds.length = vs.length
  | [], _, h => by cases h; rfl
  | _ :: _, _, h => by
    cases h with
    | cons _ h2 => simp [Rs.length h2]
theorem Rs.get : ∀ {ds : List D} {vs : List V} {i : Nat} {d : D}, Rs g ι H ds vs → ds[i]? = some d → ∃ v, vs[i]? = some v ∧ R g ι H d v
  | [], _, _, _, _, e => by simp at e
  | _ :: _, _, 0, _, h, e => by
    cases h with
    | cons h1 _ => simp at e; subst e; exact ⟨_, rfl, h1⟩
  | _ :: _, _, i + 1, d, h, e => by
    cases h with
    | cons _ h2 =>
      obtain ⟨v, h3, h4⟩ := Rs.get (i := i) (d := d) h2 (by simpa using e)
      exact ⟨v, by simpa using h3, h4⟩
theorem Rs.getV : ∀ {ds : List D} {vs : List V} {i : Nat} {v : V}, Rs g ι H ds vs → vs[i]? = some v → ∃ d, ds[i]? = some d ∧ R g ι H d v
  | _, [], _, _, _, e => by simp at e
  | _, _ :: _, 0, _, h, e => by
    cases h with
    | cons h1 _ => simp at e; subst e; exact ⟨_, rfl, h1⟩
  | _, _ :: _, i + 1, v, h, e => by
    cases h with
    | cons _ h2 =>
      obtain ⟨d, h3, h4⟩ := Rs.getV (i := i) (v := v) h2 (by simpa using e)
      exact ⟨d, by simpa using h3, h4⟩
theorem Rs.append : ∀ {ds es : List D} {vs us : List V}, Rs g ι H ds vs → Rs g ι H es us → Rs g ι H (ds ++ es) (vs ++ us)
  | [], _, _, _, h, k => by cases h; exact k
  | _ :: _, _, _, _, h, k => by
    cases h with
    | cons h1 h2 => exact .cons h1 (Rs.append h2 k)
theorem Rs.take : ∀ {ds : List D} {vs : List V} (n : Nat), Rs g ι H ds vs → Rs g ι H (ds.take n) (vs.take n)
  | _, _, 0, _ => .nil
  | [], _, _ + 1, h => by cases h; exact .nil
  | _ :: _, _, n + 1, h => by
    cases h with
    | cons h1 h2 => exact .cons h1 (Rs.take n h2)
theorem Rs.drop : ∀ {ds : List D} {vs : List V} (n : Nat), Rs g ι H ds vs → Rs g ι H (ds.drop n) (vs.drop n)
  | _, _, 0, h => h
  | [], _, _ + 1, h => by cases h; exact .nil
  | _ :: _, _, n + 1, h => by
    cases h with
    | cons _ h2 => exact Rs.drop n h2
theorem Rs.set {d : D} {v : V} (r : R g ι H d v) : ∀ {ds : List D} {vs : List V} (i : Nat), Rs g ι H ds vs → Rs g ι H (ds.set i d) (vs.set i v)
  | [], _, _, h => by cases h; exact .nil
  | _ :: _, _, 0, h => by
    cases h with
    | cons _ h2 => exact .cons r h2
  | _ :: _, _, i + 1, h => by
    cases h with
    | cons h1 h2 => exact .cons h1 (Rs.set r i h2)
end

/-- named fields -/
inductive Fs (g : G) (ι : List Addr) (H : Hp) : List (Str × D) → List (Str × V) → Prop
  | nil : Fs g ι H [] []
  | cons {f : Str} {d : D} {v : V} {fs : List (Str × D)} {gs : List (Str × V)} : R g ι H d v → Fs g ι H fs gs → Fs g ι H ((f, d) :: fs) ((f, v) :: gs)
theorem Fs.mono {g : G} {ι ι' : List Addr} {H H' : Hp} (p : Pre ι ι') (e : Ex H H') : ∀ {fs : List (Str × D)} {gs : List (Str × V)}, Fs g ι H fs gs → Fs g ι' H' fs gs
  | _, _, .nil => .nil
  | _, _, .cons r t => .cons (R.mono p e _ _ r) (Fs.mono p e t)
theorem Fs.look {g : G} {ι : List Addr} {H : Hp} {f : Str} : ∀ {fs : List (Str × D)} {gs : List (Str × V)} {d : D}, Fs g ι H fs gs → fs.lookup f = some d → ∃ v, gs.lookup f = some v ∧ R g ι H d v
  | _, _, _, .nil, e => by simp at e
  | _, _, d, .cons (f := k) r t, e => by
    cases q : (f == k) with
    | true => simp only [List.lookup, q] at e ⊢; cases e; exact ⟨_, rfl, r⟩
    | false => simp only [List.lookup, q] at e ⊢; exact Fs.look t e
theorem Fs.look_none {g : G} {ι : List Addr} {H : Hp} {f : Str} : ∀ {fs : List (Str × D)} {gs : List (Str × V)}, Fs g ι H fs gs → fs.lookup f = none → gs.lookup f = none
  | _, _, .nil, _ => rfl
  | _, _, .cons (f := k) r t, e => by
    cases q : (f == k) with
    | true => simp only [List.lookup, q] at e; cases e
    | false => simp only [List.lookup, q] at e ⊢; exact Fs.look_none t e
theorem Fs.length {g : G} {ι : List Addr} {H : Hp} : ∀ {fs : List (Str × D)} {gs : List (Str × V)}, Fs g ι H fs gs → fs.length = gs.length
  | _, _, .nil => rfl
  | _, _, .cons _ t => by simp [Fs.length t]
def putD (f : Str) (v : D) : List (Str × D) → List (Str × D)
  | [] => [(f, v)]
  | (k, x) :: r => if k = f then (k, v) :: r else (k, x) :: putD f v r
theorem Fs.put {g : G} {ι : List Addr} {H : Hp} {f : Str} {d : D} {v : V} (r : R g ι H d v) : ∀ {fs : List (Str × D)} {gs : List (Str × V)}, Fs g ι H fs gs → Fs g ι H (putD f d fs) (putF f v gs)
  | _, _, .nil => .cons r .nil
  | _, _, .cons (f := k) q t => by
    unfold putD putF
    by_cases h : k = f
    · rw [if_pos h, if_pos h]; exact .cons r t
    · rw [if_neg h, if_neg h]; exact .cons q (Fs.put r t)

def OR (g : G) (ι : List Addr) (H : Hp) : O → Addr → Prop
  | .lst xs, a => ∃ vs, H a = some (.lst vs) ∧ Rs g ι H xs vs
  | .ins c fs, a => ∃ C dx gs, H a = some (.ins C dx gs) ∧ g.mg c = some (.ref C) ∧ Fs g ι H fs gs
  | .exi c fs, a => ∃ C d gs, H a = some (exo a C (some d)) ∧ H d = some (L2.exd d gs) ∧ g.mg c = some (.ref C) ∧ Fs g ι H fs gs
  | .dct kvs, a => ∃ vs, H a = some (.dK vs) ∧ kvs.map (·.1) = vs.map (·.1) ∧ Rs g ι H (kvs.map (·.2)) (vs.map (·.2))
  | .ldc kvs, a => ∃ od vs, H a = some (.frz od (.dK vs)) ∧ kvs.map (·.1) = vs.map (·.1) ∧ Rs g ι H (kvs.map (·.2)) (vs.map (·.2))
theorem OR.move {g : G} {ι ι' : List Addr} {H H' : Hp} {o : O} {a : Addr} (p : Pre ι ι') (e : Ex H H') (k : H' a = H a) (h : OR g ι H o a) : OR g ι' H' o a := by
  cases o with
  | lst xs => obtain ⟨vs, h1, h2⟩ := h; exact ⟨vs, k.trans h1, Rs.mono p e _ _ h2⟩
  | ins c fs => obtain ⟨C, dx, gs, h1, h2, h3⟩ := h; exact ⟨C, dx, gs, k.trans h1, h2, h3.mono p e⟩
  | dct kvs => obtain ⟨vs, h1, h2, h3⟩ := h; exact ⟨vs, k.trans h1, h2, Rs.mono p e _ _ h3⟩
  | ldc kvs => obtain ⟨od, vs, h1, h2, h3⟩ := h; exact ⟨od, vs, k.trans h1, h2, Rs.mono p e _ _ h3⟩
  | exi c fs => obtain ⟨C, d, gs, h1, h2, h3, h4⟩ := h; exact ⟨C, d, gs, k.trans h1, e.exd _ _ h2, h3, h4.mono p e⟩
theorem exo_case {e C : Addr} {d : Option Addr} {q : HO} (z : exo e C d = q) : ∃ φ, q = .ext φ := ⟨_, z.symm⟩
theorem or_some {g : G} {ι : List Addr} {H : Hp} {o : O} {a : Addr} (h : OR g ι H o a) : ∃ q, H a = some q ∧ (∀ xs, q ≠ .tup xs) ∧ (∀ o u, SeqHO u → q ≠ .frz o u) ∧ ∀ xs, q ≠ .xd xs := by
  cases o with
  | lst xs => obtain ⟨vs, h1, h2⟩ := h; exact ⟨_, h1, fun _ z => (by cases z), fun _ _ _ z => (by cases z), fun _ z => (by cases z)⟩
  | ins c fs => obtain ⟨C, dx, gs, h1, h2, h3⟩ := h; exact ⟨_, h1, fun _ z => (by cases z), fun _ _ _ z => (by cases z), fun _ z => (by cases z)⟩
  | dct kvs => obtain ⟨vs, h1, h2, h3⟩ := h; exact ⟨_, h1, fun _ z => (by cases z), fun _ _ _ z => (by cases z), fun _ z => (by cases z)⟩
  | ldc kvs => obtain ⟨od, vs, h1, h2, h3⟩ := h; exact ⟨_, h1, fun _ z => (by cases z), fun _ _ q z => (by cases z; exact q.elim), fun _ z => (by cases z)⟩
  | exi c fs =>
    obtain ⟨C, d, gs, h1, h2, h3, h4⟩ := h
    exact ⟨_, h1, fun _ z => (by obtain ⟨φ, z⟩ := exo_case z; cases z), fun _ _ _ z => (by obtain ⟨φ, z⟩ := exo_case z; cases z), fun _ z => (by obtain ⟨φ, z⟩ := exo_case z; cases z)⟩

structure Sim (g : G) (ι : List Addr) (S : So) (H : Hp) : Prop where
  len : ι.length = S.length
  nd : ι.Nodup
  obj : ∀ (n : Nat) (a : Addr) (o : O), ι[n]? = some a → S[n]? = some o → OR g ι H o a
section
variable {g : G} {ι : List Addr} {S : So} {H H' : Hp}
theorem Sim.get (s : Sim g ι S H) {n : Nat} {o : O} (e : S[n]? = some o) : ∃ a, ι[n]? = some a ∧ OR g ι H o a := by
  have h1 : n < ι.length := by rw [s.len]; exact (List.getElem?_eq_some_iff.mp e).1
  exact ⟨ι[n], List.getElem?_eq_getElem h1, s.obj n _ o (List.getElem?_eq_getElem h1) e⟩
theorem Sim.at (s : Sim g ι S H) {n : Nat} {a : Addr} (e : ι[n]? = some a) : ∃ o, S[n]? = some o ∧ OR g ι H o a := by
  have h1 : n < S.length := by rw [← s.len]; exact (List.getElem?_eq_some_iff.mp e).1
  exact ⟨S[n], List.getElem?_eq_getElem h1, s.obj n a _ e (List.getElem?_eq_getElem h1)⟩
/-- the heap grew or changed elsewhere -/
theorem Sim.keep (s : Sim g ι S H) (e : Ex H H') (k : ∀ (n : Nat) (a : Addr), ι[n]? = some a → H' a = H a) : Sim g ι S H' :=
  ⟨s.len, s.nd, fun n a o h1 h2 => (s.obj n a o h1 h2).move (Pre.refl ι) e (k n a h1)⟩
theorem Sim.fresh (s : Sim g ι S H) {p : Addr} (h : H p = none) {n : Nat} {a : Addr} (e : ι[n]? = some a) : a ≠ p := by
  obtain ⟨o, _, h2⟩ := s.at e
  obtain ⟨q, hq, _⟩ := or_some h2
  exact ne_of_none hq h
theorem Sim.tup (s : Sim g ι S H) {p : Addr} {o : HO} (h : H p = none) : Sim g ι S (upd H p o) :=
  s.keep (Ex.new h) fun n a e => upd_ne (s.fresh h e)
/-- a new object -/
theorem Sim.new (s : Sim g ι S H) (e : Ex H H') (k : ∀ (n : Nat) (a : Addr), ι[n]? = some a → H' a = H a) {p : Addr} {o : O} (h : H p = none) (ho : OR g (ι ++ [p]) H' o p) : Sim g (ι ++ [p]) (S ++ [o]) H' := by
  have nm : p ∉ ι := fun hm => by
    obtain ⟨n, hn⟩ := List.mem_iff_getElem?.mp hm
    exact s.fresh h hn rfl
  refine ⟨by simp [s.len], List.nodup_append.mpr ⟨s.nd, by simp, fun a ha b hb z => nm (by simp at hb; rw [← hb, ← z]; exact ha)⟩, fun n a o' h1 h2 => ?_⟩
  by_cases hn : n < ι.length
  · rw [List.getElem?_append_left hn] at h1
    rw [List.getElem?_append_left (by rw [← s.len]; exact hn)] at h2
    exact (s.obj n a o' h1 h2).move (Pre.app ι [p]) e (k n a h1)
  · have hn' : ι.length ≤ n := Nat.le_of_not_lt hn
    rw [List.getElem?_append_right hn'] at h1
    rw [List.getElem?_append_right (by rw [← s.len]; exact hn'), ← s.len] at h2
    have z : n - ι.length = 0 := by
      have := (List.getElem?_eq_some_iff.mp h1).1
      simp at this
      omega
    rw [z] at h1 h2
    cases h1
    cases h2
    exact ho
theorem Sim.newAt (s : Sim g ι S H) {p : Addr} : (ι ++ [p])[S.length]? = some p := by
  rw [← s.len, List.getElem?_append_right (Nat.le_refl _)]
  simp
/-- an object is changed -/
theorem Sim.wr (s : Sim g ι S H) {n : Nat} {a : Addr} {o' : O} {q : HO} (e : ι[n]? = some a) (ho : OR g ι (upd H a q) o' a) (ex : Ex H (upd H a q)) : Sim g ι (S.set n o') (upd H a q) ∧ Ex H (upd H a q) := by
  obtain ⟨o, h1, h2⟩ := s.at e
  obtain ⟨z, hz, z1, z2, z3⟩ := or_some h2
  refine ⟨⟨by simp [s.len], s.nd, fun m b u e1 e2 => ?_⟩, ex⟩
  by_cases hm : m = n
  · subst hm
    rw [e] at e1
    cases e1
    have hl : m < S.length := (List.getElem?_eq_some_iff.mp h1).1
    rw [List.getElem?_set_self hl] at e2
    cases e2
    exact ho
  · rw [List.getElem?_set_ne (Ne.symm hm)] at e2
    have hb : b ≠ a := fun x => by
      subst x
      have l1 := (List.getElem?_eq_some_iff.mp e1)
      have l2 := (List.getElem?_eq_some_iff.mp e)
      obtain ⟨i1, j1⟩ := l1
      obtain ⟨i2, j2⟩ := l2
      exact hm ((List.getElem_inj s.nd).mp (j1.trans j2.symm))
    exact (s.obj m b u e1 e2).move (Pre.refl ι) ex (upd_ne hb)
end

/-- the caught error: its address, its class, its dict -/
structure Xa where
  a : Addr
  cls : Value
  d : Option Addr
/-- the slots -/
def Er1 (g : G) (xa : Xa) (ι : List Addr) (H : Hp) (y : Sv) (v : Option V) : Prop :=
  match y with
  | .no => True
  | .v d => ∃ x, v = some x ∧ R g ι H d x
  | .exn c fs => v = some (.ref xa.a) ∧ (∃ C, xa.cls = .ref C ∧ g.mg c = some (.ref C)) ∧ ∃ dd gs, xa.d = some dd ∧ H dd = some (.xd gs) ∧ Fs g ι H fs gs
def Er (g : G) (xa : Xa) (ι : List Addr) (H : Hp) (e : Sl) (σ : L2.St) : Prop := e.length = σ.length ∧ ∀ (i : Nat) (y : Sv) (z : Option V), e[i]? = some y → σ[i]? = some z → Er1 g xa ι H y z
section
variable {g : G} {xa : Xa} {ι ι' : List Addr} {H H' : Hp} {e : Sl} {σ : L2.St}
theorem Er.mono (p : Pre ι ι') (x : Ex H H') (h : Er g xa ι H e σ) : Er g xa ι' H' e σ := ⟨h.1, fun i y z e1 e2 => by
  have q := h.2 i y z e1 e2
  cases y with
  | no => trivial
  | v d => obtain ⟨v, h1, h2⟩ := q; exact ⟨v, h1, R.mono p x _ _ h2⟩
  | exn c fs => obtain ⟨h1, h2, dd, gs, h3, h4, h5⟩ := q; exact ⟨h1, h2, dd, gs, h3, x.xd _ _ h4, h5.mono p x⟩⟩
theorem Er.get (h : Er g xa ι H e σ) {i : Nat} {d : D} (q : e[i]? = some (.v d)) : ∃ v, σ[i]? = some (some v) ∧ R g ι H d v := by
  have hl : i < σ.length := by rw [← h.1]; exact (List.getElem?_eq_some_iff.mp q).1
  obtain ⟨v, h1, h2⟩ := h.2 i _ σ[i] q (List.getElem?_eq_getElem hl)
  exact ⟨v, by rw [List.getElem?_eq_getElem hl, h1], h2⟩
theorem Er.set (h : Er g xa ι H e σ) {i : Nat} {d : D} {v : V} (r : R g ι H d v) : Er g xa ι H (e.set i (.v d)) (σ.set i (some v)) := by
  refine ⟨by simp [h.1], fun j y z e1 e2 => ?_⟩
  by_cases hj : j = i
  · subst hj
    have hl : j < e.length := by have := (List.getElem?_eq_some_iff.mp e1).1; simpa using this
    rw [List.getElem?_set_self hl] at e1
    rw [List.getElem?_set_self (by rw [← h.1]; exact hl)] at e2
    cases e1; cases e2
    exact ⟨v, rfl, r⟩
  · rw [List.getElem?_set_ne (Ne.symm hj)] at e1
    rw [List.getElem?_set_ne (Ne.symm hj)] at e2
    exact h.2 j y z e1 e2
theorem Er.clear (h : Er g xa ι H e σ) {i : Nat} {z : Option V} : Er g xa ι H (e.set i .no) (σ.set i z) := by
  refine ⟨by simp [h.1], fun j y u e1 e2 => ?_⟩
  by_cases hj : j = i
  · subst hj
    have hl : j < e.length := by have := (List.getElem?_eq_some_iff.mp e1).1; simpa using this
    rw [List.getElem?_set_self hl] at e1
    cases e1
    trivial
  · rw [List.getElem?_set_ne (Ne.symm hj)] at e1
    rw [List.getElem?_set_ne (Ne.symm hj)] at e2
    exact h.2 j y u e1 e2
end
end DD

set_option Elab.async false
set_option linter.all false
set_option maxRecDepth 100000
namespace DD
open PySem PySem.Spec PyProof.Rows L2

/-- a result: a value, or an error of the class c with its fields -/
inductive Re (α : Type) where
  | ok (a : α) | ex (c : Str) (fs : List (Str × D))
abbrev MM (α : Type) := Sl → So → Option (Re α × So)
def bindM {α β : Type} (m : MM α) (k : α → MM β) : MM β := fun e S => match m e S with
  | some (.ok a, S1) => k a e S1
  | some (.ex c fs, S1) => some (.ex c fs, S1)
  | none => none
def retM {α : Type} (a : α) : MM α := fun _ S => some (.ok a, S)
theorem bindM_some {α β : Type} {m : MM α} {k : α → MM β} {e : Sl} {S S' : So} {r : Re β} (h : bindM m k e S = some (r, S')) :
    (∃ a S1, m e S = some (.ok a, S1) ∧ k a e S1 = some (r, S')) ∨ ∃ c fs, m e S = some (.ex c fs, S') ∧ r = .ex c fs := by
  unfold bindM at h
  split at h
  · rename_i a S1 q; exact .inl ⟨a, S1, q, h⟩
  · rename_i c fs S1 q; cases h; exact .inr ⟨c, fs, q, rfl⟩
  · cases h
inductive Fl where
  | nx | rt (d : D) | bk | ct | ex (c : Str) (fs : List (Str × D))
abbrev MS := Sl → So → Option (Fl × Sl × So)
def bindS {α : Type} (m : MM α) (k : α → MS) : MS := fun e S => match m e S with
  | some (.ok a, S1) => k a e S1
  | some (.ex c fs, S1) => some (.ex c fs, e, S1)
  | none => none
theorem bindS_some {α : Type} {m : MM α} {k : α → MS} {e e' : Sl} {S S' : So} {f : Fl} (h : bindS m k e S = some (f, e', S')) :
    (∃ a S1, m e S = some (.ok a, S1) ∧ k a e S1 = some (f, e', S')) ∨ ∃ c fs, m e S = some (.ex c fs, S') ∧ f = .ex c fs ∧ e' = e := by
  unfold bindS at h
  split at h
  · rename_i a S1 q; exact .inl ⟨a, S1, q, h⟩
  · rename_i c fs S1 q; cases h; exact .inr ⟨c, fs, q, rfl, rfl⟩
  · cases h
def seqS (m k : MS) : MS := fun e S => match m e S with
  | some (.nx, e1, S1) => k e1 S1
  | o => o

section
variable (g : G) (xa : Xa) (W : WX)
def FinX (σ : L2.St) (ι : List Addr) (H : Hp) (c : Str) (fs : List (Str × D)) (S' : So) : Prop :=
  ∀ (ι' : List Addr) (H' : Hp) (C dd : Addr) (gs : List (Str × V)), Pre ι ι' → Ex H H' → Sim g ι' S' H' → g.mg c = some (.ref C) → H' dd = some (.xd gs) → Fs g ι' H' fs gs → W (.ref C) (some dd) σ H'
abbrev Rel (α γ : Type) := List Addr → Hp → α → γ → Prop
def FinG {α γ : Type} (ρ : Rel α γ) (σ : L2.St) (Q : γ → Hp → Prop) (ι : List Addr) (H : Hp) (r : Re α) (S' : So) : Prop := match r with
  | .ok a => ∀ (ι' : List Addr) (H' : Hp) (v : γ), Pre ι ι' → Ex H H' → Sim g ι' S' H' → ρ ι' H' a v → Q v H'
  | .ex c fs => FinX g W σ ι H c fs S'
/-- a reading by a run m -/
def tG {α γ : Type} (ρ : Rel α γ) (m : MM α) (σ : L2.St) (H : Hp) (Q : γ → Hp → Prop) : Prop :=
  ∃ (ι : List Addr) (S : So) (e : Sl) (r : Re α) (S' : So), Sim g ι S H ∧ Er g xa ι H e σ ∧ m e S = some (r, S') ∧ FinG g W ρ σ Q ι H r S'
abbrev ρD : Rel D V := fun ι H d v => R g ι H d v
abbrev ρA : Rel (List D) (List V) := fun ι H d v => Rs g ι H d v
abbrev ρB : Rel Bool Bool := fun _ _ a b => a = b
abbrev ρO : Rel (Option Int) (Option Int) := fun _ _ a b => a = b
abbrev tE (m : MM D) : TE := fun σ H Q => tG g xa W (ρD g) m σ H Q
abbrev tT (m : MM Bool) : TT := fun σ H Q => tG g xa W ρB m σ H Q
abbrev tA (m : MM (List D)) : TA := fun σ H Q => tG g xa W (ρA g) m σ H Q
abbrev tO (m : MM (Option Int)) : TO := fun σ H Q => tG g xa W ρO m σ H Q
def FinS (Dd : Ends) (ι : List Addr) (H : Hp) (f : Fl) (e' : Sl) (S' : So) : Prop :=
  ∀ (ι' : List Addr) (H' : Hp), Pre ι ι' → Ex H H' → Sim g ι' S' H' → match f with
  | .nx => ∀ σ', Er g xa ι' H' e' σ' → Dd.nx σ' H'
  | .bk => ∀ σ', Er g xa ι' H' e' σ' → Dd.bk σ' H'
  | .ct => ∀ σ', Er g xa ι' H' e' σ' → Dd.ct σ' H'
  | .rt d => ∀ v, R g ι' H' d v → Dd.rt v H'
  | .ex c fs => ∀ σ' C dd gs, Er g xa ι' H' e' σ' → g.mg c = some (.ref C) → H' dd = some (.xd gs) → Fs g ι' H' fs gs → W (.ref C) (some dd) σ' H'
def tS (m : MS) : TS := fun Dd σ H =>
  ∃ (ι : List Addr) (S : So) (e : Sl) (f : Fl) (e' : Sl) (S' : So), Sim g ι S H ∧ Er g xa ι H e σ ∧ m e S = some (f, e', S') ∧ FinS g xa W Dd ι H f e' S'
end

section
variable {g : G} {xa : Xa} {W : WX} {ι ι1 : List Addr} {H H1 : Hp} {σ : L2.St} {S S' : So} {e : Sl}
theorem FinX.mono {c : Str} {fs : List (Str × D)} (p : Pre ι ι1) (x : Ex H H1) (h : FinX g W σ ι H c fs S') : FinX g W σ ι1 H1 c fs S' :=
  fun ι' H' C dd gs p' x' => h ι' H' C dd gs (p.trans p') (x.trans x')
theorem FinG.mono {α γ : Type} {ρ : Rel α γ} {Q : γ → Hp → Prop} {r : Re α} (p : Pre ι ι1) (x : Ex H H1) (h : FinG g W ρ σ Q ι H r S') : FinG g W ρ σ Q ι1 H1 r S' := by
  cases r with
  | ok a => exact fun ι' H' v p' x' => h ι' H' v (p.trans p') (x.trans x')
  | ex c fs => exact FinX.mono p x h
theorem FinS.mono {Dd : Ends} {f : Fl} {e' : Sl} (p : Pre ι ι1) (x : Ex H H1) (h : FinS g xa W Dd ι H f e' S') : FinS g xa W Dd ι1 H1 f e' S' :=
  fun ι' H' p' x' => h ι' H' (p.trans p') (x.trans x')
/-- a run's first part -/
theorem stepG {α β γ δ : Type} {ρ : Rel α γ} {ρ' : Rel β δ} {m : MM α} {k : α → MM β} {r : Re β} {Q : δ → Hp → Prop} {P : γ → Hp → Prop}
    (hs : Sim g ι S H) (he : Er g xa ι H e σ) (hm : bindM m k e S = some (r, S')) (hf : FinG g W ρ' σ Q ι H r S')
    (hk : ∀ (a : α) (S1 : So) (ι1 : List Addr) (H1 : Hp) (v : γ), k a e S1 = some (r, S') → Pre ι ι1 → Ex H H1 → Sim g ι1 S1 H1 → Er g xa ι1 H1 e σ → ρ ι1 H1 a v → FinG g W ρ' σ Q ι1 H1 r S' → P v H1) :
    tG g xa W ρ m σ H P := by
  rcases bindM_some hm with ⟨a, S1, h1, h2⟩ | ⟨c, fs, h1, rfl⟩
  · exact ⟨ι, S, e, .ok a, S1, hs, he, h1, fun ι' H' v p x s r' => hk a S1 ι' H' v h2 p x s (he.mono p x) r' (hf.mono p x)⟩
  · exact ⟨ι, S, e, .ex c fs, S', hs, he, h1, hf⟩
theorem stepS {α γ : Type} {ρ : Rel α γ} {m : MM α} {k : α → MS} {f : Fl} {e' : Sl} {Dd : Ends} {P : γ → Hp → Prop}
    (hs : Sim g ι S H) (he : Er g xa ι H e σ) (hm : bindS m k e S = some (f, e', S')) (hf : FinS g xa W Dd ι H f e' S')
    (hk : ∀ (a : α) (S1 : So) (ι1 : List Addr) (H1 : Hp) (v : γ), k a e S1 = some (f, e', S') → Pre ι ι1 → Ex H H1 → Sim g ι1 S1 H1 → Er g xa ι1 H1 e σ → ρ ι1 H1 a v → FinS g xa W Dd ι1 H1 f e' S' → P v H1) :
    tG g xa W ρ m σ H P := by
  rcases bindS_some hm with ⟨a, S1, h1, h2⟩ | ⟨c, fs, h1, rfl, rfl⟩
  · exact ⟨ι, S, e, .ok a, S1, hs, he, h1, fun ι' H' v p x s r' => hk a S1 ι' H' v h2 p x s (he.mono p x) r' (hf.mono p x)⟩
  · exact ⟨ι, S, e', .ex c fs, S', hs, he, h1, fun ι' H' C dd gs p x s h3 h4 h5 => hf ι' H' p x s σ C dd gs (he.mono p x) h3 h4 h5⟩
end

section
variable {X : Cx}
theorem _root_.L2.PE.viaM {e : Expr} {t t' : TE} (h : PE X e t) (i : ∀ σ H Q, t' σ H Q → t σ H Q) : PE X e t' := ⟨fun pins s σ H Q I q => h.run pins s σ H Q I (i σ H Q q)⟩
theorem _root_.L2.PT.viaM {e : Expr} {t t' : TT} (h : PT X e t) (i : ∀ σ H Q, t' σ H Q → t σ H Q) : PT X e t' := ⟨fun pins s σ H Q I q => h.run pins s σ H Q I (i σ H Q q)⟩
theorem _root_.L2.PW.viaM {e : Expr} {t t' : TT} (h : PW X e t) (i : ∀ σ H Q, t' σ H Q → t σ H Q) : PW X e t' := ⟨fun wh pins s σ H Q I q => h.run wh pins s σ H Q I (i σ H Q q)⟩
theorem _root_.L2.PA.viaM {e : List Expr} {t t' : TA} (h : PA X e t) (i : ∀ σ H Q, t' σ H Q → t σ H Q) : PA X e t' := ⟨fun p pins s σ H Q I q => h.run p pins s σ H Q I (i σ H Q q)⟩
theorem _root_.L2.PO.viaM {e : Option Expr} {t t' : TO} (h : PO X e t) (i : ∀ σ H Q, t' σ H Q → t σ H Q) : PO X e t' := ⟨fun pins s σ H Q I q => h.run pins s σ H Q I (i σ H Q q)⟩
theorem _root_.L2.PS.viaM {e : Stmt} {t t' : TS} (h : PS X e t) (i : ∀ D σ H, t' D σ H → t D σ H) : PS X e t' := ⟨fun pins s σ H D I q => h.run pins s σ H D I (i D σ H q)⟩
theorem _root_.L2.PSs.viaM {e : List Stmt} {t t' : TS} (h : PSs X e t) (i : ∀ D σ H, t' D σ H → t D σ H) : PSs X e t' := ⟨fun pins s σ H D I q => h.run pins s σ H D I (i D σ H q)⟩
theorem _root_.L2.PI.viaM {tg e : Expr} {t t' : TI} (h : PI X tg e t) (i : ∀ σ H Q, t' σ H Q → t σ H Q) : PI X tg e t' := ⟨fun pins s σ H Q I q => h.run pins s σ H Q I (i σ H Q q)⟩
theorem _root_.L2.PI.orM {tg e : Expr} {t t' : TI} (h : PI X tg e t) (h' : PI X tg e t') : PI X tg e (fun σ H Q => t σ H Q ∨ t' σ H Q) := ⟨fun pins s σ H Q I q => q.elim (h.run pins s σ H Q I) (h'.run pins s σ H Q I)⟩
end

/-! ### names, constants -/
section
variable {X : Cx} {g : G} {xa : Xa} {W : WX} {pos : Pos}
def mVar (i : Nat) : MM D := fun e S => match e[i]? with
  | some (.v d) => some (.ok d, S)
  | _ => none
theorem mVar_some {i : Nat} {e : Sl} {S S' : So} {r : Re D} (h : mVar i e S = some (r, S')) : ∃ d, e[i]? = some (.v d) ∧ r = .ok d ∧ S' = S := by
  unfold mVar at h
  split at h
  · rename_i d q; cases h; exact ⟨d, q, rfl, rfl⟩
  · cases h
theorem em_var (i : Nat) {x : Str} (hN : X.N[i]? = some x := by rfl) (hv : Vis X.env.scope x := by first | exact Or.inl rfl | exact Or.inr (Or.inl rfl) | exact Or.inr (Or.inr rfl)) (hd : (x == ("__debug__" : Str)) = false := by decide)
    (hcd : (x == ("__classdict__" : Str)) = false := by decide) : PE X (.Name x pos) (tE g xa W (mVar i)) := by
  refine (pe_var (i := i) hN hv hd hcd).viaM fun σ H Q h => ?_
  obtain ⟨ι, S, e, r, S', hs, he, hm, hf⟩ := h
  obtain ⟨d, h1, rfl, rfl⟩ := mVar_some hm
  obtain ⟨v, h2, h3⟩ := he.get h1
  exact ⟨v, h2, hf ι H v (Pre.refl ι) (Ex.refl H) hs h3⟩
theorem em_const {e : Expr} {d : D} {v : V} (h : PE X e (tC v)) (r : ∀ ι H, R g ι H d v) : PE X e (tE g xa W (retM d)) := by
  refine h.viaM fun σ H Q h => ?_
  obtain ⟨ι, S, e, r', S', hs, he, hm, hf⟩ := h
  cases hm
  exact hf ι H v (Pre.refl ι) (Ex.refl H) hs (r ι H)
theorem em_int {i : Int} {j : Nat} : PE X (.Constant (.int i) j pos) (tE g xa W (retM (.int i))) := em_const pe_int fun _ _ => .int i
theorem em_bl {b : Bool} {j : Nat} : PE X (.Constant (.bool b) j pos) (tE g xa W (retM (.bl b))) := em_const pe_bl fun _ _ => .bl b
theorem em_non {j : Nat} : PE X (.Constant .none j pos) (tE g xa W (retM .non)) := em_const pe_non fun _ _ => .non
theorem em_str {x : Str} {j : Nat} : PE X (.Constant (.str x) j pos) (tE g xa W (retM (.str x))) := em_const pe_str fun _ _ => .str x
/-- a module's own def or class as a value -/
theorem em_glob {x : Str} {u : Value} {v : V} (hg : Gl X x) (hm : X.mg x = some u) (hm2 : g.mg x = some u) (r : RelV v u) (hd : (x == ("__debug__" : Str)) = false := by decide) : PE X (.Name x pos) (tE g xa W (retM (.glo x))) :=
  em_const (pe_glob hg hm r hd) fun _ _ => .glo hm2 r
/-- a module's plain constant -/
theorem em_gint {x : Str} {i : Int} {t : Tok} (hg : Gl X x) (hm : X.mg x = some (.int i t)) (hd : (x == ("__debug__" : Str)) = false := by decide) : PE X (.Name x pos) (tE g xa W (retM (.int i))) :=
  em_const (pe_glob (v := .int i) hg hm ⟨t, rfl⟩ hd) fun _ _ => .int i
theorem em_gstr {x y : Str} {t : Tok} (hg : Gl X x) (hm : X.mg x = some (.str y t)) (hd : (x == ("__debug__" : Str)) = false := by decide) : PE X (.Name x pos) (tE g xa W (retM (.str y))) :=
  em_const (pe_glob (v := .str y) hg hm ⟨t, rfl⟩ hd) fun _ _ => .str y

/-! ### argument lists -/
def mNil : MM (List D) := retM []
def mCons (m : MM D) (k : MM (List D)) : MM (List D) := bindM m fun d => bindM k fun ds => retM (d :: ds)
theorem am_nil : PA X [] (tA g xa W mNil) := pa_nil.viaM fun σ H Q h => by
  obtain ⟨ι, S, e, r, S', hs, he, hm, hf⟩ := h
  cases hm
  exact hf ι H [] (Pre.refl ι) (Ex.refl H) hs .nil
theorem am_cons {e : Expr} {es : List Expr} {m : MM D} {k : MM (List D)} (h : PE X e (tE g xa W m)) (hr : PA X es (tA g xa W k)) (hs : starEach (e :: es) X.env = (false, eval e X.env) :: starEach es X.env := by rfl) : PA X (e :: es) (tA g xa W (mCons m k)) := by
  refine (pa_cons h hr hs).viaM fun σ H Q h => ?_
  obtain ⟨ι, S, e, r, S', hs, he, hm, hf⟩ := h
  refine stepG hs he hm hf fun d S1 ι1 H1 v h1 p1 x1 s1 e1 r1 f1 => ?_
  refine stepG s1 e1 h1 f1 fun ds S2 ι2 H2 vs h2 p2 x2 s2 e2 r2 f2 => ?_
  cases h2
  exact f2 ι2 H2 (v :: vs) (Pre.refl ι2) (Ex.refl H2) s2 (.cons (R.mono p2 x2 _ _ r1) r2)

/-! ### operators by values -/
/-- a reading of values -/
def Does {α γ : Type} (g : G) (ρ : Rel α γ) (ι : List Addr) (H : Hp) (a : α) (S' : So) (Q : γ → Hp → Prop) : Prop :=
  ∀ (ι' : List Addr) (H' : Hp) (v : γ), Pre ι ι' → Ex H H' → Sim g ι' S' H' → ρ ι' H' a v → Q v H'
theorem Does.here {α γ : Type} {g : G} {ρ : Rel α γ} {ι : List Addr} {H : Hp} {a : α} {S : So} {Q : γ → Hp → Prop} {v : γ} (h : Does g ρ ι H a S Q) (s : Sim g ι S H) (r : ρ ι H a v) : Q v H := h ι H v (Pre.refl ι) (Ex.refl H) s r
abbrev F1 := D → So → Option (D × So)
abbrev F2 := D → D → So → Option (D × So)
abbrev FA := List D → So → Option (D × So)
def Op2 (g : G) (r : R2) (f : F2) : Prop := ∀ (ι : List Addr) (S S' : So) (H : Hp) (a b d : D) (x y : V) (Q : VK), Sim g ι S H → R g ι H a x → R g ι H b y → f a b S = some (d, S') → Does g (ρD g) ι H d S' Q → r x y H Q
def Op1 (g : G) (r : V → Hp → VK → Prop) (f : F1) : Prop := ∀ (ι : List Addr) (S S' : So) (H : Hp) (a d : D) (x : V) (Q : VK), Sim g ι S H → R g ι H a x → f a S = some (d, S') → Does g (ρD g) ι H d S' Q → r x H Q
def OpA (g : G) (r : List V → Hp → VK → Prop) (f : FA) : Prop := ∀ (ι : List Addr) (S S' : So) (H : Hp) (a : List D) (d : D) (x : List V) (Q : VK), Sim g ι S H → Rs g ι H a x → f a S = some (d, S') → Does g (ρD g) ι H d S' Q → r x H Q
def liftF {α : Type} (o : So → Option (α × So)) : MM α := fun _ S => match o S with
  | some (d, S1) => some (.ok d, S1)
  | none => none
theorem liftF_some {α : Type} {o : So → Option (α × So)} {e : Sl} {S S' : So} {r : Re α} (h : liftF o e S = some (r, S')) : ∃ d, o S = some (d, S') ∧ r = .ok d := by
  unfold liftF at h
  split at h
  · rename_i d S1 q; cases h; exact ⟨d, q, rfl⟩
  · cases h
def mOp2 (f : F2) (ma mb : MM D) : MM D := bindM ma fun a => bindM mb fun b => liftF (f a b)
def mOp1 (f : F1) (ma : MM D) : MM D := bindM ma fun a => liftF (f a)
def mOpA (f : FA) (ma : MM (List D)) : MM D := bindM ma fun a => liftF (f a)
theorem op2_step {r : R2} {f : F2} (hf : Op2 g r f) {ma mb : MM D} {σ : L2.St} {H : Hp} {Q : VK} (h : tE g xa W (mOp2 f ma mb) σ H Q) : tOp r (tE g xa W ma) (tE g xa W mb) σ H Q := by
  obtain ⟨ι, S, e, r, S', hs, he, hm, hf'⟩ := h
  refine stepG hs he hm hf' fun a S1 ι1 H1 v h1 p1 x1 s1 e1 r1 f1 => ?_
  refine stepG s1 e1 h1 f1 fun b S2 ι2 H2 u h2 p2 x2 s2 e2 r2 f2 => ?_
  obtain ⟨d, h3, rfl⟩ := liftF_some h2
  exact hf ι2 S2 S' H2 a b d v u Q s2 (R.mono p2 x2 _ _ r1) r2 h3 f2
theorem opA_step {r : List V → Hp → VK → Prop} {f : FA} (hf : OpA g r f) {ma : MM (List D)} {σ : L2.St} {H : Hp} {Q : VK} (h : tE g xa W (mOpA f ma) σ H Q) : tA g xa W ma σ H fun vs H1 => r vs H1 Q := by
  obtain ⟨ι, S, e, r, S', hs, he, hm, hf'⟩ := h
  refine stepG hs he hm hf' fun a S1 ι1 H1 v h1 p1 x1 s1 e1 r1 f1 => ?_
  obtain ⟨d, h3, rfl⟩ := liftF_some h1
  exact hf ι1 S1 S' H1 a d v Q s1 r1 h3 f1
theorem op1_step {r : V → Hp → VK → Prop} {f : F1} (hf : Op1 g r f) {ma : MM D} {σ : L2.St} {H : Hp} {Q : VK} (h : tE g xa W (mOp1 f ma) σ H Q) : tE g xa W ma σ H fun vs H1 => r vs H1 Q := by
  obtain ⟨ι, S, e, r, S', hs, he, hm, hf'⟩ := h
  refine stepG hs he hm hf' fun a S1 ι1 H1 v h1 p1 x1 s1 e1 r1 f1 => ?_
  obtain ⟨d, h3, rfl⟩ := liftF_some h1
  exact hf ι1 S1 S' H1 a d v Q s1 r1 h3 f1
theorem em_op {a b : Expr} {op : Operator} {r : R2} {f : F2} {ma mb : MM D} (ho : OpR X (binaryOp op) r) (hf : Op2 g r f) (ha : PE X a (tE g xa W ma)) (hb : PE X b (tE g xa W mb)) : PE X (.BinOp a op b pos) (tE g xa W (mOp2 f ma mb)) :=
  (pe_op ho ha hb).viaM fun _ _ _ h => op2_step hf h
theorem em_un {a : Expr} {op : UnaryOp} {r : V → Hp → VK → Prop} {f : F1} {ma : MM D} (ho : UnR X (unaryOp op) r) (hf : Op1 g r f) (ha : PE X a (tE g xa W ma)) : PE X (.UnaryOp op a pos) (tE g xa W (mOp1 f ma)) :=
  (pe_un ho ha).viaM fun _ _ _ h => op1_step hf h
theorem em_cmp {a b : Expr} {op : CmpOp} {r : R2} {f : F2} {ma mb : MM D} (ho : OpR X (compareOp op) r) (hf : Op2 g r f) (ha : PE X a (tE g xa W ma)) (hb : PE X b (tE g xa W mb)) (hm : behindInMarks op b = false) : PE X (.Compare a [op] [b] pos) (tE g xa W (mOp2 f ma mb)) :=
  (pe_cmpR ho ha hb hm).viaM fun _ _ _ h => op2_step hf h
/-- the bool of a comparison -/
def asB (d : D) : MM Bool := fun _ S => match d with
  | .bl b => some (.ok b, S)
  | _ => none
theorem asB_some {d : D} {e : Sl} {S S' : So} {r : Re Bool} (h : asB d e S = some (r, S')) : ∃ b, d = .bl b ∧ r = .ok b ∧ S' = S := by
  unfold asB at h
  split at h
  · cases h; exact ⟨_, rfl, rfl, rfl⟩
  · cases h
def mTst (m : MM D) : MM Bool := bindM m asB
theorem tst_step {t : TE} {m : MM D} (ht : ∀ σ H Q, tE g xa W m σ H Q → t σ H Q) {σ : L2.St} {H : Hp} {Q : Bool → Hp → Prop} (h : tT g xa W (mTst m) σ H Q) : t σ H fun x H' => ∃ k, x = .bl k ∧ Q k H' := by
  obtain ⟨ι, S, e, r, S', hs, he, hm, hf'⟩ := h
  refine ht _ _ _ (stepG hs he hm hf' fun a S1 ι1 H1 v h1 p1 x1 s1 e1 r1 f1 => ?_)
  obtain ⟨b, rfl, rfl, rfl⟩ := asB_some h1
  cases r1
  exact ⟨b, rfl, f1 ι1 H1 b (Pre.refl _) (Ex.refl _) s1 rfl⟩
theorem tm_cmp {a b : Expr} {op : CmpOp} {r : R2} {f : F2} {ma mb : MM D} (ho : OpR X (compareOp op) r) (hf : Op2 g r f) (ha : PE X a (tE g xa W ma)) (hb : PE X b (tE g xa W mb)) (hm : behindInMarks op b = false) : PT X (.Compare a [op] [b] pos) (tT g xa W (mTst (mOp2 f ma mb))) :=
  (pt_cmpR ho ha hb hm).viaM fun _ _ _ h => tst_step (fun _ _ _ h => op2_step hf h) h
/-- an expression that gives a bool -/
theorem tm_val {e : Expr} {m : MM D} (h : PE X e (tE g xa W m)) (he : ∀ whole, isTrue e X.env whole = (do let v ← whole; standAt e.pos; holding [v] (truthy v)) := by intro _; rfl) : PT X e (tT g xa W (mTst m)) :=
  (pt_val h he).viaM fun _ _ _ h => tst_step (fun _ _ _ h => h) h
def mNot (m : MM Bool) : MM Bool := bindM m fun b => retM (!b)
theorem tm_not {a : Expr} {m : MM Bool} (ha : PT X a (tT g xa W m)) : PT X (.UnaryOp .Not a pos) (tT g xa W (mNot m)) := by
  refine (pt_not ha).viaM fun σ H Q h => ?_
  obtain ⟨ι, S, e, r, S', hs, he, hm, hf'⟩ := h
  refine stepG hs he hm hf' fun a S1 ι1 H1 v h1 p1 x1 s1 e1 r1 f1 => ?_
  cases r1
  cases h1
  exact f1 ι1 H1 _ (Pre.refl _) (Ex.refl _) s1 rfl
def mAnd (m k : MM Bool) : MM Bool := bindM m fun b => if b then k else retM false
def mOr (m k : MM Bool) : MM Bool := bindM m fun b => if b then retM true else k
theorem wm_and1 {a : Expr} {m : MM Bool} (ha : PT X a (tT g xa W m)) : PW X (.BoolOp .And [a] pos) (tT g xa W m) := pw_and1 ha
theorem wm_or1 {a : Expr} {m : MM Bool} (ha : PT X a (tT g xa W m)) : PW X (.BoolOp .Or [a] pos) (tT g xa W m) := pw_or1 ha
theorem wm_and {a b : Expr} {rest : List Expr} {m k : MM Bool} (ha : PT X a (tT g xa W m)) (hb : PW X (.BoolOp .And (b :: rest) pos) (tT g xa W k)) : PW X (.BoolOp .And (a :: b :: rest) pos) (tT g xa W (mAnd m k)) := by
  refine (pw_and ha hb).viaM fun σ H Q h => ?_
  obtain ⟨ι, S, e, r, S', hs, he, hm, hf'⟩ := h
  refine stepG hs he hm hf' fun a S1 ι1 H1 v h1 p1 x1 s1 e1 r1 f1 => ?_
  cases r1
  cases a with
  | true => exact ⟨ι1, S1, e, r, S', s1, e1, h1, f1⟩
  | false => cases h1; exact f1 ι1 H1 _ (Pre.refl _) (Ex.refl _) s1 rfl
theorem wm_or {a b : Expr} {rest : List Expr} {m k : MM Bool} (ha : PT X a (tT g xa W m)) (hb : PW X (.BoolOp .Or (b :: rest) pos) (tT g xa W k)) : PW X (.BoolOp .Or (a :: b :: rest) pos) (tT g xa W (mOr m k)) := by
  refine (pw_or ha hb).viaM fun σ H Q h => ?_
  obtain ⟨ι, S, e, r, S', hs, he, hm, hf'⟩ := h
  refine stepG hs he hm hf' fun a S1 ι1 H1 v h1 p1 x1 s1 e1 r1 f1 => ?_
  cases r1
  cases a with
  | true => cases h1; exact f1 ι1 H1 _ (Pre.refl _) (Ex.refl _) s1 rfl
  | false => exact ⟨ι1, S1, e, r, S', s1, e1, h1, f1⟩
/-- and, or, not as values of bools -/
def mAndV (m k : MM D) : MM D := bindM m fun d => bindM (asB d) fun b => if b then k else retM (.bl false)
def mOrV (m k : MM D) : MM D := bindM m fun d => bindM (asB d) fun b => if b then retM (.bl true) else k
def mNotV (m : MM D) : MM D := bindM m fun d => bindM (asB d) fun b => retM (.bl (!b))
theorem bind_asB {β : Type} {d : D} {k : Bool → MM β} {e : Sl} {S S' : So} {r : Re β} (h : bindM (asB d) k e S = some (r, S')) : ∃ b, d = .bl b ∧ k b e S = some (r, S') := by
  rcases bindM_some h with ⟨b, S1, h1, h2⟩ | ⟨c, fs, h1, _⟩
  · obtain ⟨b', rfl, e1, rfl⟩ := asB_some h1; cases e1; exact ⟨b, rfl, h2⟩
  · obtain ⟨b', _, e1, _⟩ := asB_some h1; cases e1
theorem em_one {op : BoolOp} {a : Expr} {m : MM D} (h : PE X a (tE g xa W m)) : PE X (.BoolOp op [a] pos) (tE g xa W m) := pe_one h
theorem em_and {a b : Expr} {rest : List Expr} {m k : MM D} (ha : PE X a (tE g xa W m)) (hb : PE X (.BoolOp .And (b :: rest) pos) (tE g xa W k)) : PE X (.BoolOp .And (a :: b :: rest) pos) (tE g xa W (mAndV m k)) := by
  refine (pe_and ha hb).viaM fun σ H Q h => ?_
  obtain ⟨ι, S, e, r, S', hs, he, hm, hf'⟩ := h
  refine stepG hs he hm hf' fun a S1 ι1 H1 v h1 p1 x1 s1 e1 r1 f1 => ?_
  obtain ⟨b, rfl, h2⟩ := bind_asB h1
  cases r1
  refine ⟨b, rfl, ?_⟩
  cases b with
  | true => exact ⟨ι1, S1, e, r, S', s1, e1, h2, f1⟩
  | false => cases h2; exact f1 ι1 H1 _ (Pre.refl _) (Ex.refl _) s1 (.bl _)
theorem em_or {a b : Expr} {rest : List Expr} {m k : MM D} (ha : PE X a (tE g xa W m)) (hb : PE X (.BoolOp .Or (b :: rest) pos) (tE g xa W k)) : PE X (.BoolOp .Or (a :: b :: rest) pos) (tE g xa W (mOrV m k)) := by
  refine (pe_or ha hb).viaM fun σ H Q h => ?_
  obtain ⟨ι, S, e, r, S', hs, he, hm, hf'⟩ := h
  refine stepG hs he hm hf' fun a S1 ι1 H1 v h1 p1 x1 s1 e1 r1 f1 => ?_
  obtain ⟨b, rfl, h2⟩ := bind_asB h1
  cases r1
  refine ⟨b, rfl, ?_⟩
  cases b with
  | true => cases h2; exact f1 ι1 H1 _ (Pre.refl _) (Ex.refl _) s1 (.bl _)
  | false => exact ⟨ι1, S1, e, r, S', s1, e1, h2, f1⟩
theorem em_not {a : Expr} {m : MM D} (ha : PE X a (tE g xa W m)) : PE X (.UnaryOp .Not a pos) (tE g xa W (mNotV m)) := by
  refine (pe_not ha).viaM fun σ H Q h => ?_
  obtain ⟨ι, S, e, r, S', hs, he, hm, hf'⟩ := h
  refine stepG hs he hm hf' fun a S1 ι1 H1 v h1 p1 x1 s1 e1 r1 f1 => ?_
  obtain ⟨b, rfl, h2⟩ := bind_asB h1
  cases r1
  cases h2
  exact ⟨b, rfl, f1 ι1 H1 _ (Pre.refl _) (Ex.refl _) s1 (.bl _)⟩
def mIf (t : MM Bool) (m k : MM D) : MM D := bindM t fun b => if b then m else k
theorem em_if {c a b : Expr} {t : MM Bool} {m k : MM D} (hc : PT X c (tT g xa W t)) (ha : PE X a (tE g xa W m)) (hb : PE X b (tE g xa W k)) : PE X (.IfExp c a b pos) (tE g xa W (mIf t m k)) := by
  refine (pe_ifExp hc ha hb).viaM fun σ H Q h => ?_
  obtain ⟨ι, S, e, r, S', hs, he, hm, hf'⟩ := h
  refine stepG hs he hm hf' fun a S1 ι1 H1 v h1 p1 x1 s1 e1 r1 f1 => ?_
  cases r1
  cases a with
  | true => exact ⟨ι1, S1, e, r, S', s1, e1, h1, f1⟩
  | false => exact ⟨ι1, S1, e, r, S', s1, e1, h1, f1⟩
/-- a op b op c -/
def mChain (f f' : F2) (ma mb mc : MM D) : MM D := bindM ma fun a => bindM mb fun b => bindM (liftF (f a b)) fun d => bindM (asB d) fun k => if k then bindM mc fun c => liftF (f' b c) else retM (.bl false)
theorem chain_step {r r' : R2} {f f' : F2} (hf : Op2 g r f) (hf2 : Op2 g r' f') {ma mb mc : MM D} {σ : L2.St} {H : Hp} {Q : VK} (h : tE g xa W (mChain f f' ma mb mc) σ H Q) : tChain r r' (tE g xa W ma) (tE g xa W mb) (tE g xa W mc) σ H Q := by
  obtain ⟨ι, S, e, r, S', hs, he, hm, hf'⟩ := h
  refine stepG hs he hm hf' fun a S1 ι1 H1 v h1 p1 x1 s1 e1 r1 f1 => ?_
  refine stepG s1 e1 h1 f1 fun b S2 ι2 H2 u h2 p2 x2 s2 e2 r2 f2 => ?_
  rcases bindM_some h2 with ⟨d, S3, h3, h4⟩ | ⟨c, fs, h3, _⟩
  · obtain ⟨d', h5, z⟩ := liftF_some h3
    cases z
    refine hf ι2 S2 S3 H2 a b d v u _ s2 (R.mono p2 x2 _ _ r1) r2 h5 fun ι3 H3 w p3 x3 s3 r3 => ?_
    obtain ⟨k, rfl, h6⟩ := bind_asB h4
    cases r3
    refine ⟨k, rfl, ?_⟩
    have f3 := f2.mono p3 x3
    have e3 := e2.mono p3 x3
    cases k with
    | true =>
      rw [if_pos rfl] at h6 ⊢
      refine stepG s3 e3 h6 f3 fun c S4 ι4 H4 z h7 p4 x4 s4 e4 r4 f4 => ?_
      obtain ⟨d', h8, rfl⟩ := liftF_some h7
      exact hf2 ι4 S4 S' H4 b c d' u z Q s4 (R.mono p4 x4 _ _ (R.mono p3 x3 _ _ r2)) r4 h8 f4
    | false =>
      rw [if_neg Bool.false_ne_true] at h6 ⊢
      cases h6
      exact f3 ι3 H3 _ (Pre.refl _) (Ex.refl _) s3 (.bl _)
  · obtain ⟨d, _, z⟩ := liftF_some h3; cases z
theorem em_chain {a b c : Expr} {op op' : CmpOp} {r r' : R2} {f f' : F2} {ma mb mc : MM D} (ho : OpR X (compareOp op) r) (hf : Op2 g r f) (ho' : OpR X (compareOp op') r') (hf' : Op2 g r' f') (ha : PE X a (tE g xa W ma)) (hb : PE X b (tE g xa W mb)) (hc : PE X c (tE g xa W mc))
    (hm : lastMarks [op, op'] [b, c] = false := by with_unfolding_all rfl) : PE X (.Compare a [op, op'] [b, c] pos) (tE g xa W (mChain f f' ma mb mc)) :=
  (pe_chain ho ho' ha hb hc hm).viaM fun _ _ _ h => chain_step hf hf' h
theorem tm_chain {a b c : Expr} {op op' : CmpOp} {r r' : R2} {f f' : F2} {ma mb mc : MM D} (ho : OpR X (compareOp op) r) (hf : Op2 g r f) (ho' : OpR X (compareOp op') r') (hf' : Op2 g r' f') (ha : PE X a (tE g xa W ma)) (hb : PE X b (tE g xa W mb)) (hc : PE X c (tE g xa W mc))
    (hm : lastMarks [op, op'] [b, c] = false := by with_unfolding_all rfl) : PT X (.Compare a [op, op'] [b, c] pos) (tT g xa W (mTst (mChain f f' ma mb mc))) :=
  (pt_chain ho ho' ha hb hc hm).viaM fun _ _ _ h => tst_step (fun _ _ _ h => chain_step hf hf' h) h
end
end DD

set_option Elab.async false
set_option linter.all false
set_option maxRecDepth 100000
namespace DD
open PySem PySem.Spec PyProof.Rows L2

section
variable {g : G} {ι : List Addr} {H : Hp}
theorem lst_here {n : Nat} {a : Addr} {S : So} {ys : List D} (s : Sim g ι S H) (q : ι[n]? = some a) (h : S[n]? = some (.lst ys)) : ∃ vs, H a = some (.lst vs) ∧ Rs g ι H ys vs := s.obj n a _ q h
/-- the items of a sequence (true: of a tuple) -/
def seqOf (d : D) (S : So) : Option (Bool × List D) := match d with
  | .tup xs => some (true, xs)
  | .rol xs => some (false, xs)
  | .ref n => match S[n]? with
    | some (.lst xs) => some (false, xs)
    | _ => none
  | _ => none
theorem seqOf_R {d : D} {S : So} {b : Bool} {xs : List D} {v : V} (h : seqOf d S = some (b, xs)) (s : Sim g ι S H) (r : R g ι H d v) : ∃ a vs, v = .ref a ∧ Rs g ι H xs vs ∧ (b = true → SqU g.K H a vs) ∧ (b = false → SqL g.K H a vs) := by
  cases r with
  | tup h1 h2 => cases h; exact ⟨_, _, rfl, h2, fun _ => h1, nofun⟩
  | rol h1 h2 => cases h; exact ⟨_, _, rfl, h2, nofun, fun _ => h1.seq⟩
  | ref h1 =>
    unfold seqOf at h
    dsimp only at h
    split at h
    · rename_i ys q
      cases h
      obtain ⟨vs, h4, h5⟩ := lst_here s h1 q
      exact ⟨_, vs, rfl, h5, nofun, fun _ => SqL.of h4⟩
    · cases h
  | _ => cases h
end
section
variable {X : Cx} {g : G} {xa : Xa} {W : WX} {pos : Pos}
/-! ### statements -/
def nxS : MS := fun e S => some (.nx, e, S)
theorem FinS.nx {Dd : Ends} {ι : List Addr} {H : Hp} {e : Sl} {S : So} {σ : L2.St} (h : FinS g xa W Dd ι H .nx e S) (s : Sim g ι S H) (r : Er g xa ι H e σ) : Dd.nx σ H := h ι H (Pre.refl _) (Ex.refl _) s σ r
theorem sm_nil : PSs X [] (tS g xa W nxS) := pss_nil.viaM fun Dd σ H h => by
  obtain ⟨ι, S, e, f, e', S', hs, he, hm, hf⟩ := h
  cases hm
  exact hf.nx hs he
theorem seq_step {m k : MS} {t : TS} {Dd : Ends} {σ : L2.St} {H : Hp} (ht : ∀ D σ H, tS g xa W m D σ H → t D σ H) (h : tS g xa W (seqS m k) Dd σ H) : t { Dd with nx := tS g xa W k Dd } σ H := by
  obtain ⟨ι, S, e, f, e', S', hs, he, hm, hf⟩ := h
  unfold seqS at hm
  split at hm
  · rename_i e1 S1 q
    exact ht _ _ _ ⟨ι, S, e, .nx, e1, S1, hs, he, q, fun ι' H' p x s σ' r => ⟨ι', S1, e1, f, e', S', s, r, hm, hf.mono p x⟩⟩
  · rename_i q
    refine ht _ _ _ ⟨ι, S, e, f, e', S', hs, he, hm, ?_⟩
    cases f with
    | nx => exact absurd hm (q e' S')
    | rt d => exact fun ι' H' p x s => hf ι' H' p x s
    | bk => exact fun ι' H' p x s => hf ι' H' p x s
    | ct => exact fun ι' H' p x s => hf ι' H' p x s
    | ex c fs => exact fun ι' H' p x s => hf ι' H' p x s
theorem sm_cons {st : Stmt} {rest : List Stmt} {m k : MS} (h1 : PS X st (tS g xa W m)) (h2 : PSs X rest (tS g xa W k)) : PSs X (st :: rest) (tS g xa W (seqS m k)) :=
  (pss_cons h1 h2).viaM fun _ _ _ h => seq_step (t := tS g xa W m) (fun _ _ _ h => h) h
theorem sm_one {st : Stmt} {m : MS} (h1 : PS X st (tS g xa W m)) : PSs X [st] (tS g xa W m) := pss_one h1
def fS (f : Fl) : MS := fun e S => some (f, e, S)
theorem sm_pass : PS X (.Pass pos) (tS g xa W nxS) := ps_pass.viaM fun Dd σ H h => by
  obtain ⟨ι, S, e, f, e', S', hs, he, hm, hf⟩ := h
  cases hm
  exact hf.nx hs he
theorem sm_break : PS X (.Break pos) (tS g xa W (fS .bk)) := ps_break.viaM fun Dd σ H h => by
  obtain ⟨ι, S, e, f, e', S', hs, he, hm, hf⟩ := h
  cases hm
  exact hf ι H (Pre.refl _) (Ex.refl _) hs σ he
theorem sm_continue : PS X (.Continue pos) (tS g xa W (fS .ct)) := ps_continue.viaM fun Dd σ H h => by
  obtain ⟨ι, S, e, f, e', S', hs, he, hm, hf⟩ := h
  cases hm
  exact hf ι H (Pre.refl _) (Ex.refl _) hs σ he
def exprS (m : MM D) : MS := bindS m fun _ => nxS
theorem sm_expr {e : Expr} {m : MM D} (he : PE X e (tE g xa W m)) (hs : swapsWith e none pos.line X.env = pure false := by rfl) : PS X (.Expr e pos) (tS g xa W (exprS m)) := (ps_expr he hs).viaM fun Dd σ H h => by
  obtain ⟨ι, S, e, f, e', S', hs, he, hm, hf⟩ := h
  refine stepS hs he hm hf fun a S1 ι1 H1 v h1 p1 x1 s1 e1 r1 f1 => ?_
  cases h1
  exact f1.nx s1 e1
theorem sm_doc {x j pos'} : PS X (.Expr (.Constant (.str x) j pos) pos') (tS g xa W nxS) := ps_doc.viaM fun Dd σ H h => by
  obtain ⟨ι, S, e, f, e', S', hs, he, hm, hf⟩ := h
  cases hm
  exact hf.nx hs he
def retS (m : MM D) : MS := bindS m fun d => fS (.rt d)
theorem sm_ret {e : Expr} {m : MM D} (he : PE X e (tE g xa W m)) : PS X (.Return (some e) pos) (tS g xa W (retS m)) := (ps_ret he).viaM fun Dd σ H h => by
  obtain ⟨ι, S, e, f, e', S', hs, he, hm, hf⟩ := h
  refine stepS hs he hm hf fun a S1 ι1 H1 v h1 p1 x1 s1 e1 r1 f1 => ?_
  cases h1
  exact f1 ι1 H1 (Pre.refl _) (Ex.refl _) s1 v r1
theorem sm_retN : PS X (.Return none pos) (tS g xa W (fS (.rt .non))) := ps_retN.viaM fun Dd σ H h => by
  obtain ⟨ι, S, e, f, e', S', hs, he, hm, hf⟩ := h
  cases hm
  exact hf ι H (Pre.refl _) (Ex.refl _) hs .non .non
def ifS (t : MM Bool) (m k : MS) : MS := bindS t fun b => if b then m else k
theorem sm_if {c : Expr} {a b : List Stmt} {t : MM Bool} {m k : MS} (hc : PT X c (tT g xa W t)) (ha : PSs X a (tS g xa W m)) (hb : PSs X b (tS g xa W k)) : PS X (.If c a b pos) (tS g xa W (ifS t m k)) := (ps_if hc ha hb).viaM fun Dd σ H h => by
  obtain ⟨ι, S, e, f, e', S', hs, he, hm, hf⟩ := h
  refine stepS hs he hm hf fun a S1 ι1 H1 v h1 p1 x1 s1 e1 r1 f1 => ?_
  cases r1
  cases a with
  | true => exact ⟨ι1, S1, e, f, e', S', s1, e1, h1, f1⟩
  | false => exact ⟨ι1, S1, e, f, e', S', s1, e1, h1, f1⟩

/-! ### targets -/
abbrev Tg := D → So → Sl → Option Sl
abbrev Tgs := List D → So → Sl → Option Sl
def tGt (g : G) (xa : Xa) (t : Tg) : TG := fun v σ H Q => ∃ (ι : List Addr) (S : So) (e e' : Sl) (d : D), Sim g ι S H ∧ Er g xa ι H e σ ∧ R g ι H d v ∧ t d S e = some e' ∧ ∀ σ', Er g xa ι H e' σ' → Q σ' H
def tGts (g : G) (xa : Xa) (t : Tgs) : TGs := fun v σ H Q => ∃ (ι : List Addr) (S : So) (e e' : Sl) (d : List D), Sim g ι S H ∧ Er g xa ι H e σ ∧ Rs g ι H d v ∧ t d S e = some e' ∧ ∀ σ', Er g xa ι H e' σ' → Q σ' H
theorem _root_.L2.PG.viaM {e : Expr} {t t' : TG} (h : PG X e t) (i : ∀ v σ H Q, t' v σ H Q → t v σ H Q) : PG X e t' := ⟨fun pins s σ H v u Q I r q => h.run pins s σ H v u Q I r (i v σ H Q q)⟩
theorem _root_.L2.PGs.viaM {e : List Expr} {t t' : TGs} (h : PGs X e t) (i : ∀ v σ H Q, t' v σ H Q → t v σ H Q) : PGs X e t' := ⟨fun pins s σ H v u Q I r q => h.run pins s σ H v u Q I r (i v σ H Q q)⟩
def nmT (i : Nat) : Tg := fun d _ e => some (e.set i (.v d))
def nilT : Tgs := fun ds _ e => match ds with
  | [] => some e
  | _ => none
def consT (t : Tg) (u : Tgs) : Tgs := fun ds S e => match ds with
  | d :: r => (t d S e).bind (u r S)
  | _ => none
def tupT (n : Nat) (t : Tgs) : Tg := fun d S e => match seqOf d S with
  | some (_, ds) => if ds.length = n then t ds S e else none
  | none => none
theorem _root_.L2.PG.orM {e : Expr} {t t' : TG} (h : PG X e t) (h' : PG X e t') : PG X e (fun v σ H Q => t v σ H Q ∨ t' v σ H Q) := ⟨fun pins s σ H v u Q I r q => q.elim (h.run pins s σ H v u Q I r) (h'.run pins s σ H v u Q I r)⟩
theorem gm_name (i : Nat) {x : Str} (hN : X.N.Nodup) (hi : X.N[i]? = some x := by rfl) (hx : Loc X.env.scope x := by first | exact Or.inl rfl | exact Or.inr rfl) (hf : X.fn x = true ∨ X.env.scope.names.lookup x = some .local := by first | exact .inl rfl | exact .inr rfl) : PG X (.Name x pos) (tGt g xa (nmT i)) :=
  (pg_name (i := i) hN hi hx hf).viaM fun v σ H Q h => by
    obtain ⟨ι, S, e, e', d, hs, he, r, ht, q⟩ := h
    cases ht
    exact q _ (he.set r)
theorem gms_nil : PGs X [] (tGts g xa nilT) := pgs_nil.viaM fun v σ H Q h => by
  obtain ⟨ι, S, e, e', d, hs, he, r, ht, q⟩ := h
  cases d with
  | nil => cases ht; cases r; exact ⟨rfl, q _ he⟩
  | cons _ _ => cases ht
theorem gms_cons {e : Expr} {es : List Expr} {t : Tg} {u : Tgs} (h1 : PG X e (tGt g xa t)) (h2 : PGs X es (tGts g xa u))
    (hs : (assignEach (e :: es) X.env).map (·.2) = assign e X.env :: (assignEach es X.env).map (·.2) := by rfl) : PGs X (e :: es) (tGts g xa (consT t u)) := (pgs_cons h1 h2 hs).viaM fun v σ H Q h => by
  obtain ⟨ι, S, e, e', d, hs, he, r, ht, q⟩ := h
  cases d with
  | nil => cases ht
  | cons d ds =>
    cases r with
    | cons r1 r2 =>
      have ht' : (t d S e).bind (u ds S) = some e' := ht
      cases h3 : t d S e with
      | none => rw [h3] at ht'; cases ht'
      | some e1 =>
        rw [h3] at ht'
        exact ⟨_, _, rfl, ι, S, e, e1, d, hs, he, r1, h3, fun σ1 he1 => ⟨ι, S, e1, e', ds, hs, he1, r2, ht', q⟩⟩
theorem gm_tup {es : List Expr} {k n : Nat} {t : Tgs} (hc : X.calm = true) (h : PGs X es (tGts g xa t)) (hK : X.K = g.K := by rfl)
    (hn : (assignEach es X.env).length = n := by rfl) (hst : (assignEach es X.env).findIdx? (·.1) = none := by rfl) : PG X (.Tuple es k pos) (tGt g xa (tupT n t)) := ((pg_tup hc h hn hst).orM (pg_lst hc h hn hst)).viaM fun v σ H Q h => by
  obtain ⟨ι, S, e, e', d, hs, he, r, ht, q⟩ := h
  unfold tupT at ht
  split at ht
  · rename_i b ds hsq
    split at ht
    · rename_i hl
      obtain ⟨a, vs, rfl, h2, t1, l1⟩ := seqOf_R hsq hs r
      cases b with
      | true => exact .inl ⟨_, _, rfl, by rw [hK]; exact (t1 rfl).t, by rw [← Rs.length h2]; exact hl, ι, S, e, e', ds, hs, he, h2, ht, q⟩
      | false => exact .inr ⟨_, _, rfl, by rw [hK]; exact l1 rfl, by rw [← Rs.length h2]; exact hl, ι, S, e, e', ds, hs, he, h2, ht, q⟩
    · cases ht
  · cases ht
def asgS (m : MM D) (t : Tg) : MS := bindS m fun d e S => match t d S e with
  | some e' => some (.nx, e', S)
  | none => none
theorem asg_step {m : MM D} {t : Tg} {te : TE} {Dd : Ends} {σ : L2.St} {H : Hp} (hm : ∀ σ H Q, tE g xa W m σ H Q → te σ H Q) (h : tS g xa W (asgS m t) Dd σ H) : te σ H fun x H1 => tGt g xa t x σ H1 Dd.nx := by
  obtain ⟨ι, S, e, f, e', S', hs, he, hm', hf⟩ := h
  refine hm _ _ _ (stepS hs he hm' hf fun a S1 ι1 H1 v h1 p1 x1 s1 e1 r1 f1 => ?_)
  split at h1
  · rename_i e2 q
    cases h1
    exact ⟨ι1, _, e, e', a, s1, e1, r1, q, fun σ' r => f1 ι1 H1 (Pre.refl _) (Ex.refl _) s1 σ' r⟩
  · cases h1
theorem sm_asg {tg e : Expr} {m : MM D} {t : Tg} (he : PE X e (tE g xa W m)) (hg : PG X tg (tGt g xa t)) (hs : swapsWithSole [tg] e pos.line X.env = pure false := by rfl) (hw : swappedStores [tg] e X.env = pure none := by rfl)
    (h1 : (assignEach [tg] X.env).map (·.2) = [assign tg X.env] := by rfl) : PS X (.Assign [tg] e pos) (tS g xa W (asgS m t)) :=
  (ps_asg he hg hs hw h1).viaM fun _ _ _ h => asg_step (fun _ _ _ h => h) h
theorem sm_set (i : Nat) {x : Str} {e : Expr} {m : MM D} {pos' : Pos} (hN : X.N.Nodup) (he : PE X e (tE g xa W m)) (hi : X.N[i]? = some x := by rfl) (hx : Loc X.env.scope x := by first | exact Or.inl rfl | exact Or.inr rfl) (hs : swapsWith e (some (.Name x pos')) pos.line X.env = pure false := by rfl) (hf : X.fn x = true ∨ X.env.scope.names.lookup x = some .local := by first | exact .inl rfl | exact .inr rfl) :
    PS X (.Assign [.Name x pos'] e pos) (tS g xa W (asgS m (nmT i))) := (ps_set (i := i) hN hi hx he hs hf).viaM fun Dd σ H h => by
  obtain ⟨ι, S, e, f, e', S', hs, he, hm', hf⟩ := h
  refine stepS hs he hm' hf fun a S1 ι1 H1 v h1 p1 x1 s1 e1 r1 f1 => ?_
  cases h1
  exact f1 ι1 H1 (Pre.refl _) (Ex.refl _) s1 _ (e1.set r1)
/-- a, b = x, y -/
def parS (i j : Nat) (m : MM (List D)) : MS := bindS m fun ds e S => match ds with
  | [a, b] => some (.nx, (e.set i (.v a)).set j (.v b), S)
  | _ => none
theorem sm_par (i j : Nat) {x y : Str} {a b : Expr} {m : MM (List D)} {px py pt : Pos} {kt k2 : Nat} {pt2 : Pos} (hc : X.calm = true) (hN : X.N.Nodup) (ha : PA X [a, b] (tA g xa W m)) (hi : X.N[i]? = some x := by rfl) (hj : X.N[j]? = some y := by rfl) (hij : i ≠ j := by decide)
    (hx : X.env.scope.names.lookup x = some .local := by rfl) (hy : X.env.scope.names.lookup y = some .local := by rfl)
    (hw : swappedStores [.Tuple [.Name x px, .Name y py] kt pt] (.Tuple [a, b] k2 pt2) X.env = pure (some [x, y]) := by rfl)
    (hs : swapsWithSole [.Tuple [.Name x px, .Name y py] kt pt] (.Tuple [a, b] k2 pt2) pos.line X.env = pure false := by rfl) :
    PS X (.Assign [.Tuple [.Name x px, .Name y py] kt pt] (.Tuple [a, b] k2 pt2) pos) (tS g xa W (parS i j m)) := (ps_par hc hN hi hj hij hx hy ha hw hs).viaM fun Dd σ H h => by
  obtain ⟨ι, S, e, f, e', S', hs, he, hm', hf⟩ := h
  refine stepS hs he hm' hf fun ds S1 ι1 H1 v h1 p1 x1 s1 e1 r1 f1 => ?_
  split at h1
  · cases h1
    cases r1 with
    | cons q1 r =>
      cases r with
      | cons q2 r =>
        cases r
        exact ⟨_, _, rfl, f1 ι1 H1 (Pre.refl _) (Ex.refl _) s1 _ ((e1.set q1).set q2)⟩
  · cases h1

end
end DD

set_option Elab.async false
set_option linter.all false
set_option maxRecDepth 100000
namespace DD
open PySem PySem.Spec PyProof.Rows L2

/-- what is walked: at most n turns; what stands at turn i (none: it can't be told; some none: the end) -/
structure Itm where
  n : Nat
  get : Nat → So → Option (Option D)
def Wk (g : G) : Rel Itm It := fun ι H it J => ∀ (i : Nat) (ι1 : List Addr) (H1 : Hp) (S1 : So), Pre ι ι1 → Ex H H1 → Sim g ι1 S1 H1 →
  (it.get i S1 = some none → J.stop i H1) ∧ ∀ d, it.get i S1 = some (some d) → J.go i H1 ∧ ∀ v H2, J.yld i H1 v H2 → Ex H1 H2 ∧ Sim g ι1 S1 H2 ∧ R g ι1 H2 d v
abbrev tI (g : G) (xa : Xa) (W : WX) (m : MM Itm) : TI := fun σ H R => tG g xa W (Wk g) m σ H R
def signs (z : Str) : List D := z.cps.toList.map fun c => D.str ⟨#[c]⟩
def itFix (xs : List D) : Itm := ⟨xs.length, fun i _ => some xs[i]?⟩
def itLst (n k : Nat) : Itm := ⟨k, fun i S => match S[n]? with
  | some (.lst ys) => some ys[i]?
  | _ => none⟩
def seqI (d : D) : MM Itm := fun _ S => match d with
  | .tup xs => some (.ok (itFix xs), S)
  | .rol xs => some (.ok (itFix xs), S)
  | .str z => some (.ok (itFix (signs z)), S)
  | .ref n => match S[n]? with
    | some (.lst ys) => some (.ok (itLst n ys.length), S)
    | _ => none
  | _ => none
def mSeq (m : MM D) : MM Itm := bindM m seqI

section
variable {X : Cx} {g : G} {xa : Xa} {W : WX} {pos : Pos} {ι : List Addr} {H : Hp}
theorem wk_list {a : Addr} {xs : List D} {vs : List V} (r : Rs g ι H xs vs) (q : SqF g.K H a vs) : Wk g ι H (itFix xs) (Itl g.K a) := fun i ι1 H1 S1 p x s => by
  have q1 := sqF_ex x q
  have r1 := Rs.mono p x _ _ r
  refine ⟨fun e => ⟨vs, q1.seq, ?_⟩, fun d e => ?_⟩
  · have e' : xs[i]? = none := Option.some.inj e
    rw [← Rs.length r]; exact List.getElem?_eq_none_iff.mp e'
  · have e' : xs[i]? = some d := Option.some.inj e
    obtain ⟨v, h1, h2⟩ := Rs.get r1 e'
    refine ⟨⟨vs, v, q1.seq, h1⟩, fun u H2 y => ?_⟩
    obtain ⟨rfl, y⟩ := y
    have z := y vs q1.seq
    rw [h1] at z; cases z
    exact ⟨Ex.refl _, s, h2⟩
theorem wk_tup {a : Addr} {xs : List D} {vs : List V} (r : Rs g ι H xs vs) (q : SqT g.K H a vs) : Wk g ι H (itFix xs) (Itt g.K a) := fun i ι1 H1 S1 p x s => by
  have q1 := sqT_ex x q
  have r1 := Rs.mono p x _ _ r
  refine ⟨fun e => ⟨vs, q1, ?_⟩, fun d e => ?_⟩
  · have e' : xs[i]? = none := Option.some.inj e
    rw [← Rs.length r]; exact List.getElem?_eq_none_iff.mp e'
  · have e' : xs[i]? = some d := Option.some.inj e
    obtain ⟨v, h1, h2⟩ := Rs.get r1 e'
    refine ⟨⟨vs, v, q1, h1⟩, fun u H2 y => ?_⟩
    obtain ⟨rfl, y⟩ := y
    have z := y vs q1
    rw [h1] at z; cases z
    exact ⟨Ex.refl _, s, h2⟩
theorem wk_ref {a : Addr} {n k : Nat} (q : ι[n]? = some a) : Wk g ι H (itLst n k) (Itl g.K a) := fun i ι1 H1 S1 p x s => by
  have q1 := p _ _ q
  refine ⟨fun e => ?_, fun d e => ?_⟩
  · unfold itLst at e
    dsimp only at e
    split at e
    · rename_i ys h
      obtain ⟨vs, h1, h2⟩ := lst_here s q1 h
      have e' : ys[i]? = none := Option.some.inj e
      exact ⟨vs, SqL.of h1, by rw [← Rs.length h2]; exact List.getElem?_eq_none_iff.mp e'⟩
    · cases e
  · unfold itLst at e
    dsimp only at e
    split at e
    · rename_i ys h
      obtain ⟨vs, h1, h2⟩ := lst_here s q1 h
      have e' : ys[i]? = some d := Option.some.inj e
      obtain ⟨v, h3, h4⟩ := Rs.get h2 e'
      refine ⟨⟨vs, v, SqL.of h1, h3⟩, fun u H2 y => ?_⟩
      obtain ⟨rfl, y⟩ := y
      have z := y vs (SqL.of h1)
      rw [h3] at z; cases z
      exact ⟨Ex.refl _, s, h4⟩
    · cases e
theorem wk_str {z : Str} : Wk g ι H (itFix (signs z)) (Its z) := fun i ι1 H1 S1 p x s => by
  have hl : (signs z).length = z.cps.size := by simp [signs]
  refine ⟨fun e => ?_, fun d e => ?_⟩
  · have e' : (signs z)[i]? = none := Option.some.inj e
    have := List.getElem?_eq_none_iff.mp e'
    show z.cps.size ≤ i
    omega
  · have e' : (signs z)[i]? = some d := Option.some.inj e
    refine ⟨?_, fun u H2 y => ?_⟩
    · have := (List.getElem?_eq_some_iff.mp e').1
      show i < z.cps.size
      omega
    · obtain ⟨rfl, c, e1, rfl⟩ := y
      have : (signs z)[i]? = some (.str ⟨#[c]⟩) := by simp [signs, e1]
      rw [this] at e'; cases e'
      exact ⟨Ex.refl _, s, .str _⟩
theorem im_seq {tg e : Expr} {m : MM D} (he : PE X e (tE g xa W m)) (hK : X.K = g.K := by rfl) : PI X tg e (tI g xa W (mSeq m)) := by
  refine (((pi_list he).orM (pi_tup he)).orM (pi_str he)).viaM fun σ H Rk h => ?_
  obtain ⟨ι, S, ev, r, S', hs, hev, hm, hf⟩ := h
  have key : ∀ {P : V → Hp → Prop}, (∀ d S1 ι1 H1 v, m ev S = some (.ok d, S1) → seqI d ev S1 = some (r, S') → Pre ι ι1 → Ex H H1 → Sim g ι1 S1 H1 → R g ι1 H1 d v → FinG g W (Wk g) σ Rk ι1 H1 r S' → P v H1) → tE g xa W m σ H P := fun hk => by
    rcases bindM_some hm with ⟨d, S1, h1, h2⟩ | ⟨c, fs, h1, rfl⟩
    · exact ⟨ι, S, ev, .ok d, S1, hs, hev, h1, fun ι1 H1 v p x s rv => hk d S1 ι1 H1 v h1 h2 p x s rv (hf.mono p x)⟩
    · exact ⟨ι, S, ev, .ex c fs, S', hs, hev, h1, hf⟩
  rw [hK]
  by_cases hz : ∃ z S1, m ev S = some (.ok (.str z), S1)
  · refine .inr (key fun d S1 ι1 H1 v h1 h2 p x s rv f1 => ?_)
    obtain ⟨z, S2, h3⟩ := hz
    rw [h3] at h1
    cases h1
    cases h2
    cases rv
    exact ⟨z, rfl, f1 ι1 H1 _ (Pre.refl _) (Ex.refl _) s wk_str⟩
  · by_cases ht : ∃ xs S1, m ev S = some (.ok (.tup xs), S1)
    · refine .inl (.inr (key fun d S1 ι1 H1 v h1 h2 p x s rv f1 => ?_))
      obtain ⟨z, S2, h3⟩ := ht
      rw [h3] at h1
      cases h1
      cases h2
      cases rv with
      | tup q1 q2 => exact ⟨_, rfl, ⟨_, q1.t⟩, f1 ι1 H1 _ (Pre.refl _) (Ex.refl _) s (wk_tup q2 q1.t)⟩
    · refine .inl (.inl (key fun d S1 ι1 H1 v h1 h2 p x s rv f1 => ?_))
      cases d with
      | str z => exact absurd ⟨z, S1, h1⟩ hz
      | tup xs => exact absurd ⟨xs, S1, h1⟩ ht
      | rol xs =>
        cases h2
        cases rv with
        | rol q1 q2 => exact ⟨_, rfl, ⟨_, q1.seq⟩, f1 ι1 H1 _ (Pre.refl _) (Ex.refl _) s (wk_list q2 q1)⟩
      | ref n =>
        unfold seqI at h2
        dsimp only at h2
        split at h2
        · rename_i ys q
          cases h2
          cases rv with
          | ref q1 =>
            obtain ⟨vs, h4, h5⟩ := lst_here s q1 q
            exact ⟨_, rfl, ⟨vs, SqL.of h4⟩, f1 ι1 H1 _ (Pre.refl _) (Ex.refl _) s (wk_ref q1)⟩
        · cases h2
      | _ => cases h2
def itRng (lo : Int) (n : Nat) : Itm := ⟨n, fun i _ => some (if i < n then some (D.int (lo + (i : Int))) else none)⟩
theorem wk_rng {lo : Int} {n : Nat} : Wk g ι H (itRng lo n) (Itr lo n) := fun i ι1 H1 S1 p x s => by
  refine ⟨fun e => ?_, fun d e => ?_⟩
  · have e' : (if i < n then some (D.int (lo + (i : Int))) else none) = none := Option.some.inj e
    show n ≤ i
    by_cases h : i < n
    · rw [if_pos h] at e'; cases e'
    · omega
  · have e' : (if i < n then some (D.int (lo + (i : Int))) else none) = some d := Option.some.inj e
    by_cases h : i < n
    · rw [if_pos h] at e'
      cases e'
      refine ⟨h, fun u H2 y => ?_⟩
      obtain ⟨rfl, rfl⟩ := y
      exact ⟨Ex.refl _, s, .int _⟩
    · rw [if_neg h] at e'; cases e'
def rng1 (ds : List D) : MM Itm := fun _ S => match ds with
  | [.int j] => if -(2 ^ 62) ≤ j ∧ j < 2 ^ 62 then some (.ok (itRng 0 j.toNat), S) else none
  | _ => none
def rng2 (ds : List D) : MM Itm := fun _ S => match ds with
  | [.int i, .int j] => if (-(2 ^ 62) ≤ i ∧ i < 2 ^ 62) ∧ -(2 ^ 62) ≤ j ∧ j < 2 ^ 62 then some (.ok (itRng i (j - i).toNat), S) else none
  | _ => none
def mRng1 (m : MM (List D)) : MM Itm := bindM m rng1
def mRng2 (m : MM (List D)) : MM Itm := bindM m rng2
theorem im_range1 {tg a : Expr} {m : MM (List D)} {p : Pos} (hm : X.mg "range" = none) (ha : PA X [a] (tA g xa W m)) (hg : Gl X "range" := by rfl) (hs : starEach [a] X.env = [(false, eval a X.env)] := by rfl) : PI X tg (.Call (.Name "range" p) [a] [] pos) (tI g xa W (mRng1 m)) :=
  (pi_range1 hg hm ha hs).viaM fun σ H Rk h => by
    obtain ⟨ι, S, ev, r, S', hs, hev, hm, hf⟩ := h
    refine stepG hs hev hm hf fun ds S1 ι1 H1 vs h1 p1 x1 s1 e1 r1 f1 => ?_
    unfold rng1 at h1
    split at h1
    · rename_i j
      split at h1
      · rename_i hb
        cases h1
        cases r1 with
        | cons q1 q2 =>
          cases q2
          cases q1
          exact ⟨j, rfl, hb.1, hb.2, f1 ι1 H1 _ (Pre.refl _) (Ex.refl _) s1 wk_rng⟩
      · cases h1
    · cases h1
theorem im_range2 {tg a b : Expr} {m : MM (List D)} {p : Pos} (hm : X.mg "range" = none) (ha : PA X [a, b] (tA g xa W m)) (hg : Gl X "range" := by rfl) (hs : starEach [a, b] X.env = [(false, eval a X.env), (false, eval b X.env)] := by rfl) (hs2 : starEach [b] X.env = [(false, eval b X.env)] := by rfl) : PI X tg (.Call (.Name "range" p) [a, b] [] pos) (tI g xa W (mRng2 m)) :=
  (pi_range2 hg hm ha hs hs2).viaM fun σ H Rk h => by
    obtain ⟨ι, S, ev, r, S', hs, hev, hm, hf⟩ := h
    refine stepG hs hev hm hf fun ds S1 ι1 H1 vs h1 p1 x1 s1 e1 r1 f1 => ?_
    unfold rng2 at h1
    split at h1
    · rename_i i j
      split at h1
      · rename_i hb
        cases h1
        cases r1 with
        | cons q1 q2 =>
          cases q2 with
          | cons q2 q3 =>
            cases q3
            cases q1
            cases q2
            exact ⟨i, j, rfl, ⟨hb.1.1, hb.1.2, hb.2.1, hb.2.2⟩, f1 ι1 H1 _ (Pre.refl _) (Ex.refl _) s1 wk_rng⟩
      · cases h1
    · cases h1

/-! ### zip -/
def pairAt (a b : D) : Nat → So → Option (Option D) := fun i S => match seqOf a S, seqOf b S with
  | some (k, xs), some (k', ys) => if k = k' then some (match xs[i]?, ys[i]? with
    | some x, some y => some (.tup [x, y])
    | _, _ => none) else none
  | _, _ => none
def zipI (ds : List D) : MM Itm := fun _ S => match ds with
  | [a, b] => match seqOf a S, seqOf b S with
    | some (k, xs), some (k', ys) => if k = k' then some (.ok ⟨min xs.length ys.length, pairAt a b⟩, S) else none
    | _, _ => none
  | _ => none
def mZip (m : MM (List D)) : MM Itm := bindM m zipI
theorem wk_zip {a b : D} {p q : Addr} {k : Bool} (ra : R g ι H a (.ref p)) (rb : R g ι H b (.ref q)) (hk : ∀ ι1 H1 S1 k1 k2 xs ys, Pre ι ι1 → Ex H H1 → Sim g ι1 S1 H1 → seqOf a S1 = some (k1, xs) → seqOf b S1 = some (k2, ys) → k1 = k2 → k1 = k) :
    Wk g ι H ⟨0, pairAt a b⟩ (if k = true then ItzTP g.K p q else ItzP g.K p q) := fun i ι1 H1 S1 pr x s => by
  have ra1 := R.mono pr x _ _ ra
  have rb1 := R.mono pr x _ _ rb
  have main : ∀ z, pairAt a b i S1 = some z → ∃ xs ys vs us, z = (match xs[i]?, ys[i]? with | some x, some y => some (D.tup [x, y]) | _, _ => none) ∧ Rs g ι1 H1 xs vs ∧ Rs g ι1 H1 ys us ∧
      ((k = true ∧ SqT g.K H1 p vs ∧ SqT g.K H1 q us) ∨ (k = false ∧ SqL g.K H1 p vs ∧ SqL g.K H1 q us)) := fun z hz => by
    unfold pairAt at hz
    split at hz
    · rename_i k1 xs k2 ys e1 e2
      split at hz
      · rename_i ek
        have kk := hk ι1 H1 S1 k1 k2 xs ys pr x s e1 e2 ek
        obtain ⟨a1, vs, z1, r1, t1, l1⟩ := seqOf_R e1 s ra1
        obtain ⟨b1, us, z2, r2, t2, l2⟩ := seqOf_R e2 s rb1
        cases z1; cases z2
        refine ⟨xs, ys, vs, us, (Option.some.inj hz).symm, r1, r2, ?_⟩
        subst ek
        cases k1 with
        | true => exact .inl ⟨kk.symm, (t1 rfl).t, (t2 rfl).t⟩
        | false => exact .inr ⟨kk.symm, l1 rfl, l2 rfl⟩
      · cases hz
    · cases hz
  refine ⟨fun e => ?_, fun d e => ?_⟩
  · obtain ⟨xs, ys, vs, us, hz, r1, r2, hq⟩ := main _ e
    have hl : vs.length ≤ i ∨ us.length ≤ i := by
      cases e1 : xs[i]? with
      | none => exact .inl (by rw [← Rs.length r1]; exact List.getElem?_eq_none_iff.mp e1)
      | some a' => cases e2 : ys[i]? with
        | none => exact .inr (by rw [← Rs.length r2]; exact List.getElem?_eq_none_iff.mp e2)
        | some b' => rw [e1, e2] at hz; cases hz
    rcases hq with ⟨rfl, h1, h2⟩ | ⟨rfl, h1, h2⟩
    · exact ⟨vs, us, h1, h2, hl⟩
    · exact ⟨vs, us, h1, h2, hl⟩
  · obtain ⟨xs, ys, vs, us, hz, r1, r2, hq⟩ := main _ e
    cases e1 : xs[i]? with
    | none => rw [e1] at hz; cases hz
    | some a' => cases e2 : ys[i]? with
      | none => rw [e1, e2] at hz; cases hz
      | some b' =>
        rw [e1, e2] at hz
        cases hz
        obtain ⟨v1, g1, q1⟩ := Rs.get r1 e1
        obtain ⟨v2, g2, q2⟩ := Rs.get r2 e2
        have fin : ∀ (T : Addr) (o : Obj), o.dict = none → H1 T = none → Ex H1 (upd H1 T (.frz o (.tup [v1, v2]))) ∧ Sim g ι1 S1 (upd H1 T (.frz o (.tup [v1, v2]))) ∧ R g ι1 (upd H1 T (.frz o (.tup [v1, v2]))) (.tup [a', b']) (.ref T) := fun T o zo nT => by
          have x2 : Ex H1 (upd H1 T (.frz o (.tup [v1, v2]))) := Ex.new nT
          exact ⟨x2, s.tup nT, .tup (.inl ⟨o, upd_same, zo⟩) (.cons (R.mono (Pre.refl _) x2 _ _ q1) (.cons (R.mono (Pre.refl _) x2 _ _ q2) .nil))⟩
        rcases hq with ⟨rfl, h1, h2⟩ | ⟨rfl, h1, h2⟩
        · refine ⟨⟨vs, us, v1, v2, h1, h2, g1, g2⟩, fun v H2 y => ?_⟩
          obtain ⟨T, o, x', y', rfl, nT, zo, rfl, f1, f2⟩ := y
          have z1 := f1 vs h1
          have z2 := f2 us h2
          rw [g1] at z1; rw [g2] at z2; cases z1; cases z2
          exact fin T o zo nT
        · refine ⟨⟨vs, us, v1, v2, h1, h2, g1, g2⟩, fun v H2 y => ?_⟩
          obtain ⟨T, o, x', y', rfl, nT, zo, rfl, f1, f2⟩ := y
          have z1 := f1 vs h1
          have z2 := f2 us h2
          rw [g1] at z1; rw [g2] at z2; cases z1; cases z2
          exact fin T o zo nT
end
end DD

set_option Elab.async false
set_option linter.all false
set_option maxRecDepth 100000
namespace DD
open PySem PySem.Spec PyProof.Rows L2
section
variable {X : Cx} {g : G} {xa : Xa} {W : WX} {pos : Pos} {ι : List Addr} {H : Hp}
def isTup : D → Bool
  | .tup _ => true
  | _ => false
theorem seqOf_kind {d : D} {S : So} {k : Bool} {xs : List D} (h : seqOf d S = some (k, xs)) : k = isTup d := by
  cases d with
  | tup _ => cases h; rfl
  | rol _ => cases h; rfl
  | ref n =>
    unfold seqOf at h
    dsimp only at h
    split at h
    · cases h; rfl
    · cases h
  | _ => cases h
theorem im_zip {a b : Expr} {m : MM (List D)} {p tpos : Pos} {elts : List Expr} {kk : Nat} (hm : X.mg "zip" = none) (ha : PA X [a, b] (tA g xa W m)) (hg : Gl X "zip" := by rfl) (hK : X.K = g.K := by rfl)
    (hs : starEach [a, b] X.env = (false, eval a X.env) :: starEach [b] X.env := by rfl) (hpl : (backTo pos (starEach [b] X.env)).any (·.1) = false := by rfl) :
    PI X (.Tuple elts kk tpos) (.Call (.Name "zip" p) [a, b] [] pos) (tI g xa W (mZip m)) :=
  (pi_zipP hg hm ha hs hpl).viaM fun σ H Rk h => by
    obtain ⟨ι, S, ev, r, S', hs, hev, hm, hf⟩ := h
    refine stepG hs hev hm hf fun ds S1 ι1 H1 vs h1 p1 x1 s1 e1 r1 f1 => ?_
    unfold zipI at h1
    split at h1
    · rename_i a' b'
      split at h1
      · rename_i k xs k' ys q1 q2
        split at h1
        · rename_i ek
          cases h1
          subst ek
          cases r1 with
          | cons ra r =>
            cases r with
            | cons rb r =>
              cases r
              obtain ⟨pa, us, z1, rs1, t1, l1⟩ := seqOf_R q1 s1 ra
              obtain ⟨pb, ws, z2, rs2, t2, l2⟩ := seqOf_R q2 s1 rb
              subst z1 z2
              have wk := wk_zip (k := k) ra rb fun ι2 H2 S2 k1 k2 xs2 ys2 _ _ _ e1 e2 ek => by rw [seqOf_kind e1, seqOf_kind q1]
              have wk' : Wk g ι1 H1 ⟨min xs.length ys.length, pairAt a' b'⟩ (if k = true then ItzTP g.K pa pb else ItzP g.K pa pb) := wk
              have fin := f1 ι1 H1 _ (Pre.refl _) (Ex.refl _) s1 wk'
              rw [hK]
              cases k with
              | true => exact ⟨pa, pb, us, ws, rfl, .inr ⟨(t1 rfl).t, (t2 rfl).t, fin⟩⟩
              | false => exact ⟨pa, pb, us, ws, rfl, .inl ⟨l1 rfl, l2 rfl, fin⟩⟩
        · cases h1
      · cases h1
    · cases h1

/-! ### for -/
def loopI (get : Nat → So → Option (Option D)) (t : Tg) (b : MS) : Nat → Nat → MS
  | 0, i, e, S => match get i S with
    | some none => some (.nx, e, S)
    | _ => none
  | k + 1, i, e, S => match get i S with
    | some none => some (.nx, e, S)
    | some (some x) => match t x S e with
      | none => none
      | some e1 => match b e1 S with
        | some (.nx, e2, S2) => loopI get t b k (i + 1) e2 S2
        | some (.ct, e2, S2) => loopI get t b k (i + 1) e2 S2
        | some (.bk, e2, S2) => some (.nx, e2, S2)
        | o => o
    | none => none
def forS (m : MM Itm) (t : Tg) (b : MS) : MS := bindS m fun it => loopI it.get t b it.n 0
theorem turn_end {b : MS} {next : MS} {Dd : Ends} {ι : List Addr} {S : So} {H : Hp} {e1 e' : Sl} {f : Fl} {S' : So} {σ : L2.St} {Nx : L2.St → Hp → Prop}
    (hs : Sim g ι S H) (he : Er g xa ι H e1 σ)
    (hm : (match b e1 S with
      | some (.nx, e2, S2) => next e2 S2
      | some (.ct, e2, S2) => next e2 S2
      | some (.bk, e2, S2) => some (.nx, e2, S2)
      | o => o) = some (f, e', S')) (hf : FinS g xa W Dd ι H f e' S')
    (hn : ∀ ι2 H2 e2 S2 σ2, Pre ι ι2 → Ex H H2 → Sim g ι2 S2 H2 → Er g xa ι2 H2 e2 σ2 → next e2 S2 = some (f, e', S') → FinS g xa W Dd ι2 H2 f e' S' → Nx σ2 H2) :
    tS g xa W b { Dd with nx := Nx, ct := Nx, bk := Dd.nx } σ H := by
  split at hm
  · rename_i e2 S2 q
    exact ⟨ι, S, e1, _, e2, S2, hs, he, q, fun ι' H' p x s σ' r => hn ι' H' e2 S2 σ' p x s r hm (hf.mono p x)⟩
  · rename_i e2 S2 q
    exact ⟨ι, S, e1, _, e2, S2, hs, he, q, fun ι' H' p x s σ' r => hn ι' H' e2 S2 σ' p x s r hm (hf.mono p x)⟩
  · rename_i q
    cases hm
    exact ⟨ι, S, e1, _, _, _, hs, he, q, fun ι' H' p x s σ' r => hf ι' H' p x s σ' r⟩
  · rename_i o q1 q2 q3
    refine ⟨ι, S, e1, f, e', S', hs, he, hm, ?_⟩
    cases f with
    | nx => exact absurd hm (q1 _ _)
    | ct => exact absurd hm (q2 _ _)
    | bk => exact absurd hm (q3 _ _)
    | rt d => exact fun ι' H' p x s => hf ι' H' p x s
    | ex c fs => exact fun ι' H' p x s => hf ι' H' p x s
theorem sm_for {tg iter : Expr} {body : List Stmt} {m : MM Itm} {t : Tg} {b : MS} (hp : PassesOwn (model X.prog X.w) X.A X.env X.xe) (hc : X.calm = true) (hi : PI X tg iter (tI g xa W m)) (hg : PG X tg (tGt g xa t)) (hb : PSs X body (tS g xa W b))
    (hs : ∀ x, foldedSetIterable iter X.env x = pure x := by intro _; rfl) : PS X (.For tg iter body [] pos) (tS g xa W (forS m t b)) := (ps_for hp hc hi hg hb hs).viaM fun Dd σ H h => by
  obtain ⟨ι, S, e, f, e', S', hs, he, hm, hf⟩ := h
  refine stepS hs he hm hf fun it S1 ι1 H1 J h1 p1 x1 s1 e1 wk f1 => ?_
  refine ⟨fun i m σ2 H2 => ∃ ι2 S2 e2, Pre ι1 ι2 ∧ Ex H1 H2 ∧ Sim g ι2 S2 H2 ∧ Er g xa ι2 H2 e2 σ2 ∧ loopI it.get t b m i e2 S2 = some (f, e', S'), ⟨it.n, ι1, S1, e, Pre.refl _, Ex.refl _, s1, e1, h1⟩, ?_⟩
  rintro i m σ2 H2 ⟨ι2, S2, e2, p2, x2, s2, r2, q⟩
  have w := wk i ι2 H2 S2 p2 x2 s2
  have stop : it.get i S2 = some none → (J.stop i H2 ∧ Dd.nx σ2 H2) := fun z => by
    refine ⟨w.1 z, ?_⟩
    have q' : some (Fl.nx, e2, S2) = some (f, e', S') := by
      cases m with
      | zero => unfold loopI at q; rw [z] at q; exact q
      | succ k => unfold loopI at q; rw [z] at q; exact q
    cases q'
    exact (f1.mono p2 x2).nx s2 r2
  cases hget : it.get i S2 with
  | none =>
    cases m with
    | zero => unfold loopI at q; rw [hget] at q; cases q
    | succ k => unfold loopI at q; rw [hget] at q; cases q
  | some o => cases o with
    | none => exact .inl (stop hget)
    | some d =>
      cases m with
      | zero => unfold loopI at q; rw [hget] at q; cases q
      | succ k =>
        unfold loopI at q
        rw [hget] at q
        dsimp only at q
        obtain ⟨w1, w2⟩ := w.2 d hget
        refine .inr ⟨w1, fun σ3 H3 => ∃ ι3 S3 e3, Pre ι1 ι3 ∧ Ex H1 H3 ∧ Sim g ι3 S3 H3 ∧ Er g xa ι3 H3 e3 σ3 ∧ loopI it.get t b k (i + 1) e3 S3 = some (f, e', S'), fun σ3 H3 n3 => ⟨k, Nat.lt_succ_self k, n3⟩, fun v H3 y => ?_⟩
        obtain ⟨x3, s3, r3⟩ := w2 v H3 y
        split at q
        · cases q
        · rename_i e3 ht
          refine ⟨ι2, S2, e2, e3, d, s3, r2.mono (Pre.refl _) x3, r3, ht, fun σ4 r4 => ?_⟩
          refine turn_end (next := loopI it.get t b k (i + 1)) s3 r4 q (f1.mono p2 (x2.trans x3)) ?_
          intro ι5 H5 e5 S5 σ5 p5 x5 s5 r5 q5 _
          exact ⟨ι5, S5, e5, p2.trans p5, (x2.trans x3).trans x5, s5, r5, q5⟩

/-! ### comprehensions -/
abbrev WF : WX := fun _ _ _ _ => False
def tGc (g : G) (xa : Xa) (own : List Nat) (t : Tg) : TG := fun v σ H Q => ∃ (ι : List Addr) (S : So) (e e' : Sl) (d : D), Sim g ι S H ∧ Er g xa ι H e σ ∧ R g ι H d v ∧ t d S e = some e' ∧ ∀ σ', Er g xa ι H e' σ' → wipe σ' own = wipe σ own → Q σ' H
def tGcs (g : G) (xa : Xa) (own : List Nat) (t : Tgs) : TGs := fun v σ H Q => ∃ (ι : List Addr) (S : So) (e e' : Sl) (d : List D), Sim g ι S H ∧ Er g xa ι H e σ ∧ Rs g ι H d v ∧ t d S e = some e' ∧ ∀ σ', Er g xa ι H e' σ' → wipe σ' own = wipe σ own → Q σ' H
theorem wipe_set {σ : L2.St} {i : Nat} {z : Option V} : ∀ {own : List Nat}, i ∈ own → wipe (σ.set i z) own = wipe σ own := by
  have comm : ∀ (own : List Nat), wipe (σ.set i z) own = (wipe σ own).set i z ∨ wipe (σ.set i z) own = wipe σ own := by
    intro own
    induction own with
    | nil => exact .inl rfl
    | cons v vs ih =>
      unfold wipe
      rcases ih with h | h
      · by_cases hv : v = i
        · subst hv
          rw [h]
          exact .inr (by rw [List.set_set])
        · rw [h]
          exact .inl (by rw [List.set_comm _ _ hv])
      · exact .inr (by rw [h])
  intro own
  induction own with
  | nil => intro h; cases h
  | cons v vs ih =>
    intro h
    unfold wipe
    rcases List.mem_cons.mp h with e | e
    · subst e
      rcases comm vs with q | q
      · rw [q, List.set_set]
      · rw [q]
    · rw [ih e]
theorem gc_name (i : Nat) {own : List Nat} {x : Str} (hN : X.N.Nodup) (hi : X.N[i]? = some x := by rfl) (ho : i ∈ own := by decide) (hx : Loc X.env.scope x := by first | exact Or.inl rfl | exact Or.inr rfl) (hf : X.fn x = true ∨ X.env.scope.names.lookup x = some .local := by first | exact .inr rfl | exact .inl rfl) : PG X (.Name x pos) (tGc g xa own (nmT i)) :=
  (pg_name (i := i) hN hi hx hf).viaM fun v σ H Q h => by
    obtain ⟨ι, S, e, e', d, hs, he, r, ht, q⟩ := h
    cases ht
    exact q _ (he.set r) (wipe_set ho)
theorem gcs_nil {own : List Nat} : PGs X [] (tGcs g xa own nilT) := pgs_nil.viaM fun v σ H Q h => by
  obtain ⟨ι, S, e, e', d, hs, he, r, ht, q⟩ := h
  cases d with
  | nil => cases ht; cases r; exact ⟨rfl, q _ he rfl⟩
  | cons _ _ => cases ht
theorem gcs_cons {own : List Nat} {e : Expr} {es : List Expr} {t : Tg} {u : Tgs} (h1 : PG X e (tGc g xa own t)) (h2 : PGs X es (tGcs g xa own u))
    (hs : (assignEach (e :: es) X.env).map (·.2) = assign e X.env :: (assignEach es X.env).map (·.2) := by rfl) : PGs X (e :: es) (tGcs g xa own (consT t u)) := (pgs_cons h1 h2 hs).viaM fun v σ H Q h => by
  obtain ⟨ι, S, e, e', d, hs, he, r, ht, q⟩ := h
  cases d with
  | nil => cases ht
  | cons d ds =>
    cases r with
    | cons r1 r2 =>
      have ht' : (t d S e).bind (u ds S) = some e' := ht
      cases h3 : t d S e with
      | none => rw [h3] at ht'; cases ht'
      | some e1 =>
        rw [h3] at ht'
        exact ⟨_, _, rfl, ι, S, e, e1, d, hs, he, r1, h3, fun σ1 he1 w1 => ⟨ι, S, e1, e', ds, hs, he1, r2, ht', fun σ2 r w2 => q σ2 r (w2.trans w1)⟩⟩
theorem gc_tup {own : List Nat} {es : List Expr} {k n : Nat} {t : Tgs} (hc : X.calm = true) (h : PGs X es (tGcs g xa own t)) (hK : X.K = g.K := by rfl)
    (hn : (assignEach es X.env).length = n := by rfl) (hst : (assignEach es X.env).findIdx? (·.1) = none := by rfl) : PG X (.Tuple es k pos) (tGc g xa own (tupT n t)) := ((pg_tup hc h hn hst).orM (pg_lst hc h hn hst)).viaM fun v σ H Q h => by
  obtain ⟨ι, S, e, e', d, hs, he, r, ht, q⟩ := h
  unfold tupT at ht
  split at ht
  · rename_i b ds hsq
    split at ht
    · rename_i hl
      obtain ⟨a, vs, rfl, h2, t1, l1⟩ := seqOf_R hsq hs r
      cases b with
      | true => exact .inl ⟨_, _, rfl, by rw [hK]; exact (t1 rfl).t, by rw [← Rs.length h2]; exact hl, ι, S, e, e', ds, hs, he, h2, ht, q⟩
      | false => exact .inr ⟨_, _, rfl, by rw [hK]; exact l1 rfl, by rw [← Rs.length h2]; exact hl, ι, S, e, e', ds, hs, he, h2, ht, q⟩
    · cases ht
  · cases ht
def wipeE (e : Sl) : List Nat → Sl
  | [] => e
  | v :: vs => (wipeE e vs).set v .no
theorem Er.wipe {e : Sl} {σ : L2.St} (h : Er g xa ι H e σ) : ∀ own, Er g xa ι H (wipeE e own) (L2.wipe σ own)
  | [] => h
  | _ :: vs => (Er.wipe h vs).clear
/-- the list that is made stands at n0 -/
def compI (get : Nat → So → Option (Option D)) (t : Tg) (tt : MM Bool) (te : MM D) (n0 : Nat) (e : Sl) : Nat → Nat → So → Option So
  | 0, i, S => match get i S with
    | some none => some S
    | _ => none
  | k + 1, i, S => match get i S with
    | some none => some S
    | some (some x) => match t x S e with
      | none => none
      | some e1 => match tt e1 S with
        | some (.ok true, S2) => match te e1 S2 with
          | some (.ok d, S3) => match S3[n0]? with
            | some (.lst acc) => if acc.length < sizeLine then compI get t tt te n0 e k (i + 1) (S3.set n0 (.lst (acc ++ [d]))) else none
            | _ => none
          | _ => none
        | some (.ok false, S2) => compI get t tt te n0 e k (i + 1) S2
        | _ => none
    | none => none
def compM (own : List Nat) (m : MM Itm) (t : Tg) (tt : MM Bool) (te : MM D) : MM D := bindM m fun it e S =>
  match compI it.get t tt te S.length (wipeE e own) it.n 0 (S ++ [.lst []]) with
  | some S' => some (.ok (.ref S.length), S')
  | none => none
def yesM : MM Bool := retM true
theorem comp_step {m : MM Itm} {own : List Nat} {t : Tg} {tt : MM Bool} {te : MM D} {σ : L2.St} {H : Hp} {Q : VK} (h : tE g xa W (compM own m t tt te) σ H Q) :
    tLc (tI g xa W m) (tGc g xa own t) (tT g xa WF tt) (tE g xa WF te) own σ H Q := by
  obtain ⟨ι, S, e, r, S', hs, he, hm, hf⟩ := h
  refine stepG hs he hm hf fun it S1 ι1 H1 J h1 p1 x1 s1 e1 wk f1 => ?_
  intro Da nD
  split at h1
  case h_2 => cases h1
  rename_i S9 hc
  cases h1
  have xD : Ex H1 (upd H1 Da (.lst [])) := Ex.new nD
  have sD : Sim g (ι1 ++ [Da]) (S1 ++ [.lst []]) (upd H1 Da (.lst [])) := s1.new xD (fun n a q => upd_ne (s1.fresh nD q)) nD ⟨[], upd_same, .nil⟩
  have atD : (ι1 ++ [Da])[S1.length]? = some Da := s1.newAt
  refine ⟨fun i m H2 => ∃ ι2 S2, Pre (ι1 ++ [Da]) ι2 ∧ Ex H1 H2 ∧ Sim g ι2 S2 H2 ∧ compI it.get t tt te S1.length (wipeE e own) m i S2 = some S', ⟨it.n, ι1 ++ [Da], S1 ++ [.lst []], Pre.refl _, xD, sD, hc⟩, ?_⟩
  rintro i m H2 ⟨ι2, S2, p2, x2, s2, q⟩
  have p12 : Pre ι1 ι2 := (Pre.app ι1 [Da]).trans p2
  have w := wk i ι2 H2 S2 p12 x2 s2
  have stop : it.get i S2 = some none → (J.stop i H2 ∧ Q (.ref Da) H2) := fun z => by
    refine ⟨w.1 z, ?_⟩
    have q' : some S2 = some S' := by
      cases m with
      | zero => unfold compI at q; rw [z] at q; exact q
      | succ k => unfold compI at q; rw [z] at q; exact q
    cases q'
    exact f1 ι2 H2 (.ref Da) p12 x2 s2 (.ref (p2 _ _ atD))
  cases hget : it.get i S2 with
  | none =>
    cases m with
    | zero => unfold compI at q; rw [hget] at q; cases q
    | succ k => unfold compI at q; rw [hget] at q; cases q
  | some o => cases o with
    | none => exact .inl (stop hget)
    | some d =>
      cases m with
      | zero => unfold compI at q; rw [hget] at q; cases q
      | succ k =>
        unfold compI at q
        rw [hget] at q
        dsimp only at q
        obtain ⟨w1, w2⟩ := w.2 d hget
        refine .inr ⟨w1, fun H3 => ∃ ι3 S3, Pre (ι1 ++ [Da]) ι3 ∧ Ex H1 H3 ∧ Sim g ι3 S3 H3 ∧ compI it.get t tt te S1.length (wipeE e own) k (i + 1) S3 = some S', fun H3 n3 => ⟨k, Nat.lt_succ_self k, n3⟩, fun v H3 y => ?_⟩
        obtain ⟨x3, s3, r3⟩ := w2 v H3 y
        have x13 := x2.trans x3
        split at q
        · cases q
        · rename_i e3 ht
          refine ⟨ι2, S2, wipeE e own, e3, d, s3, ((e1.mono p12 x13).wipe own), r3, ht, fun σ4 r4 w4 => ⟨?_, ?_⟩⟩
          · have idem : ∀ (own : List Nat) (τ : L2.St), L2.wipe (L2.wipe τ own) own = L2.wipe τ own := by
              intro own τ
              have sub : ∀ (l : List Nat), (∀ v ∈ l, v ∈ own) → L2.wipe (L2.wipe τ l) own = L2.wipe τ own := by
                intro l
                induction l with
                | nil => intro _; rfl
                | cons v vs ih =>
                  intro hv
                  show L2.wipe ((L2.wipe τ vs).set v none) own = _
                  rw [wipe_set (hv v (List.mem_cons_self ..)), ih fun u hu => hv u (List.mem_cons_of_mem _ hu)]
              exact sub own fun _ h => h
            rw [w4, idem]
          · split at q
            · rename_i S5 q5
              refine ⟨ι2, S2, e3, .ok true, S5, s3, r4, q5, fun ι6 H6 b p6 x6 s6 eb => ?_⟩
              cases eb
              rw [if_pos rfl]
              split at q
              · rename_i d7 S7 q7
                refine ⟨ι6, S5, e3, .ok d7, S7, s6, r4.mono p6 x6, q7, fun ι8 H8 u p8 x8 s8 r8 => ?_⟩
                split at q
                · rename_i acc q9
                  split at q
                  · rename_i hl
                    have a8 : ι8[S1.length]? = some Da := p8 _ _ (p6 _ _ (p2 _ _ atD))
                    obtain ⟨vs, h9, r9⟩ := s8.obj _ _ _ a8 q9
                    refine ⟨vs, h9, by rw [← Rs.length r9]; exact hl, ?_⟩
                    have xw : Ex H8 (upd H8 Da (.lst (vs ++ [u]))) := Ex.wr h9 (fun _ z => by cases z) (fun _ _ _ z => by cases z) fun _ z => by cases z
                    obtain ⟨sw, _⟩ := s8.wr (o' := .lst (acc ++ [d7])) (q := .lst (vs ++ [u])) a8 ⟨_, upd_same, (Rs.mono (Pre.refl _) xw _ _ r9).append (.cons (R.mono (Pre.refl _) xw _ _ r8) .nil)⟩ xw
                    exact ⟨ι8, _, ((p2.trans p6).trans p8), ((x13.trans x6).trans x8).trans xw, sw, q⟩
                  · cases q
                · cases q
              · cases q
            · rename_i S5 q5
              refine ⟨ι2, S2, e3, .ok false, S5, s3, r4, q5, fun ι6 H6 b p6 x6 s6 eb => ?_⟩
              cases eb
              rw [if_neg Bool.false_ne_true]
              exact ⟨ι6, S5, p2.trans p6, x13.trans x6, s6, q⟩
            · cases q
theorem sm_yes : PTs X [] (tT g xa WF yesM) := ⟨fun pins s σ H Q I h => pts_nil.run pins s σ H Q I (by
  obtain ⟨ι, S, e, r, S', hs, he, hm, hf⟩ := h
  cases hm
  exact hf ι H true (Pre.refl _) (Ex.refl _) hs rfl)⟩
theorem sm_one_if {c : Expr} {t : MM Bool} (h : PT X c (tT g xa WF t)) : PTs X [c] (tT g xa WF t) := pts_one h
theorem em_lc {elt tg iter : Expr} {ifs : List Expr} {scope : Scope} {m : MM Itm} {t : Tg} {tt : MM Bool} {te : MM D} (own : List (Str × Nat)) (hc : X.calm = true) (hN : X.N.Nodup) (hi : PI X tg iter (tI g xa W m)) (ok : BlkOk X.N X.env.scope scope own)
    (hg : ∀ (s : Shared) (H : Hp) (C : Addr) (cl : List (Str × Addr)) (fp : List Addr), PG (X.blk s H scope (compEnvC scope cl C X.env) fp) tg (tGc g xa (own.map (·.2)) t)) (ht : ∀ (s : Shared) (H : Hp) (C : Addr) (cl : List (Str × Addr)) (fp : List Addr), PTs (X.blk s H scope (compEnvC scope cl C X.env) fp) ifs (tT g xa WF tt))
    (he : ∀ (s : Shared) (H : Hp) (C : Addr) (cl : List (Str × Addr)) (fp : List Addr), PE (X.blk s H scope (compEnvC scope cl C X.env) fp) elt (tE g xa WF te)) (hs : ∀ x, foldedSetIterable iter X.env x = pure x := by intro _; rfl) :
    PE X (.ListComp elt [⟨tg, iter, ifs, 0⟩] scope pos) (tE g xa W (compM (own.map (·.2)) m t tt te)) :=
  (pe_lc hc hN hi ok hg ht he hs).viaM fun _ _ _ h => comp_step h
theorem sm_setLc (i : Nat) {y : Str} {py spos : Pos} {elt tg iter : Expr} {ifs : List Expr} {scope : Scope} {m : MM Itm} {t : Tg} {tt : MM Bool} {te : MM D} (own : List (Str × Nat)) (hc : X.calm = true) (hN : X.N.Nodup) (hy : X.N[i]? = some y) (hyl : X.env.scope.names.lookup y = some .local)
    (hsw : swapsWith (.ListComp elt [⟨tg, iter, ifs, 0⟩] scope pos) (some (.Name y py)) spos.line X.env = pure true) (hi : PI X tg iter (tI g xa W m)) (ok : BlkOk X.N X.env.scope scope own)
    (hg : ∀ (s : Shared) (H : Hp) (C : Addr) (cl : List (Str × Addr)) (fp : List Addr), PG (X.blk s H scope (compEnvC scope cl C X.env) fp) tg (tGc g xa (own.map (·.2)) t)) (ht : ∀ (s : Shared) (H : Hp) (C : Addr) (cl : List (Str × Addr)) (fp : List Addr), PTs (X.blk s H scope (compEnvC scope cl C X.env) fp) ifs (tT g xa WF tt))
    (he : ∀ (s : Shared) (H : Hp) (C : Addr) (cl : List (Str × Addr)) (fp : List Addr), PE (X.blk s H scope (compEnvC scope cl C X.env) fp) elt (tE g xa WF te)) (hs : ∀ x, foldedSetIterable iter X.env x = pure x := by intro _; rfl) :
    PS X (.Assign [.Name y py] (.ListComp elt [⟨tg, iter, ifs, 0⟩] scope pos) spos) (tS g xa W (asgS (compM (own.map (·.2)) m t tt te) (nmT i))) :=
  (ps_setLc (i := i) hc hN hy hyl hsw hi ok hg ht he hs).viaM fun Dd σ H h => by
    obtain ⟨ι, S, e, f, e', S', hs, he, hm, hf⟩ := h
    refine comp_step (stepS hs he hm hf fun a S1 ι1 H1 v h1 p1 x1 s1 e1 r1 f1 => ?_)
    cases h1
    exact f1 ι1 H1 (Pre.refl _) (Ex.refl _) s1 _ (e1.set r1)
end
end DD

set_option Elab.async false
set_option linter.all false
set_option maxRecDepth 100000
namespace DD
open PySem PySem.Spec PyProof.Rows L2

section
variable {X : Cx} {g : G} {xa : Xa} {W : WX} {pos : Pos} {ι : List Addr} {H : Hp}
theorem Op2.or {r r' : R2} {f : F2} (p : D → D → So → Bool) (h : ∀ ι S S' H a b d x y Q, p a b S = true → Sim g ι S H → R g ι H a x → R g ι H b y → f a b S = some (d, S') → Does g (ρD g) ι H d S' Q → r x y H Q)
    (h' : ∀ ι S S' H a b d x y Q, p a b S = false → Sim g ι S H → R g ι H a x → R g ι H b y → f a b S = some (d, S') → Does g (ρD g) ι H d S' Q → r' x y H Q) : Op2 g (fun x y H Q => r x y H Q ∨ r' x y H Q) f := fun ι S S' H a b d x y Q s ra rb hf hd => by
  cases q : p a b S with
  | true => exact .inl (h ι S S' H a b d x y Q q s ra rb hf hd)
  | false => exact .inr (h' ι S S' H a b d x y Q q s ra rb hf hd)
/-- a new object -/
theorem Does.new {S : So} {o : O} {ho : HO} {Q : VK} {p : Addr} (h : Does g (ρD g) ι H (.ref S.length) (S ++ [o]) Q) (s : Sim g ι S H) (np : H p = none) (r : OR g (ι ++ [p]) (upd H p ho) o p) : Q (.ref p) (upd H p ho) :=
  h (ι ++ [p]) _ _ (Pre.app ι [p]) (Ex.new np) (s.new (Ex.new np) (fun n a q => upd_ne (s.fresh np q)) np r) (.ref s.newAt)
theorem Does.lst {S : So} {xs : List D} {vs : List V} {Q : VK} {p : Addr} (h : Does g (ρD g) ι H (.ref S.length) (S ++ [.lst xs]) Q) (s : Sim g ι S H) (np : H p = none) (r : Rs g ι H xs vs) : Q (.ref p) (upd H p (.lst vs)) :=
  h.new s np ⟨vs, upd_same, Rs.mono (Pre.app ι [p]) (Ex.new np) _ _ r⟩
theorem Does.tup {S : So} {xs : List D} {vs : List V} {Q : VK} {p : Addr} (h : Does g (ρD g) ι H (.tup xs) S Q) (s : Sim g ι S H) (np : H p = none) (r : Rs g ι H xs vs) {o : Obj} (zo : o.dict = none) : Q (.ref p) (upd H p (.frz o (.tup vs))) :=
  h ι _ _ (Pre.refl _) (Ex.new np) (s.tup np) (.tup (.inl ⟨o, upd_same, zo⟩) (Rs.mono (Pre.refl _) (Ex.new np) _ _ r))

/-! ### + -/
def fAdd : F2 := fun a b S => match a, b with
  | .int i, .int j => some (.int (i + j), S)
  | .str x, .str y => if x.length + y.length ≤ sizeLine then some (.str (x ++ y), S) else none
  | .tup xs, .tup ys => if xs.length + ys.length ≤ sizeLine then some (.tup (xs ++ ys), S) else none
  | .ref n, .ref m => match S[n]?, S[m]? with
    | some (.lst xs), some (.lst ys) => if xs.length + ys.length ≤ sizeLine then some (.ref S.length, S ++ [.lst (xs ++ ys)]) else none
    | _, _ => none
  | _, _ => none
def rAddM (K : PySem.W.Frag) : R2 := fun x y H Q => (rI0 (fun i j => .int (i + j)) x y H Q ∨ (∃ i j, x = .str i ∧ y = .str j ∧ i.length + j.length ≤ sizeLine ∧ Q (.str (i ++ j)) H)) ∨ rCatP K x y H Q ∨ rCat x y H Q
theorem op_addM (hK : X.K = g.K) : OpR X (binaryOp .Add) (rAddM g.K) := by
  rw [← hK]
  exact ((op_add.or op_add_str).or (op_catP.or op_cat))
theorem f_add : Op2 g (rAddM g.K) fAdd := fun ι S S' H a b d x y Q s ra rb hf hd => by
  unfold fAdd at hf
  split at hf
  · cases hf; cases ra; cases rb
    exact .inl (.inl ⟨_, _, rfl, rfl, hd.here s (.int _)⟩)
  · split at hf
    · rename_i hl
      cases hf; cases ra; cases rb
      exact .inl (.inr ⟨_, _, rfl, rfl, hl, hd.here s (.str _)⟩)
    · cases hf
  · rename_i xs ys
    split at hf
    · rename_i hl
      cases hf
      cases ra with
      | tup h1 h2 =>
        cases rb with
        | tup h3 h4 =>
          refine .inr (.inl ⟨_, _, _, _, rfl, rfl, h1.t, h3.t, by rw [← Rs.length h2, ← Rs.length h4]; exact hl, fun e => ?_, fun _ e => ?_, fun _ _ p o np zo => hd.tup s np (h2.append h4) zo⟩)
          · subst e
            cases h2
            exact hd.here s (.tup h3 h4)
          · subst e
            cases h4
            exact hd.here s (.tup h1 (by rw [List.append_nil]; exact h2))
    · cases hf
  · split at hf
    · rename_i xs ys q1 q2
      split at hf
      · rename_i hl
        cases hf
        cases ra with
        | ref h1 =>
          cases rb with
          | ref h2 =>
            obtain ⟨vs, e1, r1⟩ := lst_here s h1 q1
            obtain ⟨us, e2, r2⟩ := lst_here s h2 q2
            exact .inr (.inr ⟨_, _, _, _, rfl, rfl, e1, e2, by rw [← Rs.length r1, ← Rs.length r2]; exact hl, fun p np => hd.lst s np (r1.append r2)⟩)
      · cases hf
    · cases hf
  · cases hf
theorem em_add {a b : Expr} {ma mb : MM D} (ha : PE X a (tE g xa W ma)) (hb : PE X b (tE g xa W mb)) (hK : X.K = g.K := by rfl) : PE X (.BinOp a .Add b pos) (tE g xa W (mOp2 fAdd ma mb)) := em_op (op_addM hK) f_add ha hb

/-! ### ints -/
theorem f_int0 {k : Int → Int → V} {f : Int → Int → D} (hk : ∀ i j ι H, R g ι H (f i j) (k i j)) : Op2 g (rI0 k) (fun a b S => match a, b with
    | .int i, .int j => some (f i j, S)
    | _, _ => none) := fun ι S S' H a b d x y Q s ra rb hf hd => by
  dsimp only at hf
  split at hf
  · cases hf; cases ra; cases rb
    exact ⟨_, _, rfl, rfl, hd.here s (hk _ _ _ _)⟩
  · cases hf
def fSub : F2 := fun a b S => match a, b with
    | .int i, .int j => some (.int (i - j), S)
    | _, _ => none
theorem em_sub {a b : Expr} {ma mb : MM D} (ha : PE X a (tE g xa W ma)) (hb : PE X b (tE g xa W mb)) : PE X (.BinOp a .Sub b pos) (tE g xa W (mOp2 fSub ma mb)) := em_op op_sub (f_int0 (f := fun i j => .int (i - j)) fun _ _ _ _ => .int _) ha hb
instance {i j : Int} : Decidable (CMulW i j) := inferInstanceAs (Decidable (_ < _))
instance {i j : Int} : Decidable (CDivW i j) := inferInstanceAs (Decidable (_ ∧ _))
instance {i j : Int} : Decidable (CPow i j) := inferInstanceAs (Decidable (_ ∧ _ ∧ _))
theorem f_intC {C : Int → Int → Prop} [∀ i j, Decidable (C i j)] {k : Int → Int → Int} : Op2 g (rI C fun i j => .int (k i j)) (fun a b S => match a, b with
    | .int i, .int j => if C i j then some (.int (k i j), S) else none
    | _, _ => none) := fun ι S S' H a b d x y Q s ra rb hf hd => by
  dsimp only at hf
  split at hf
  · split at hf
    · rename_i hc
      cases hf; cases ra; cases rb
      exact ⟨_, _, rfl, rfl, hc, hd.here s (.int _)⟩
    · cases hf
  · cases hf
instance {i j : Int} : Decidable (CMul i j) := inferInstanceAs (Decidable (_ ∨ _))
def fMul : F2 := fun a b S => match a, b with
    | .int i, .int j => if CMul i j ∨ CMulW i j then some (.int (i * j), S) else none
    | _, _ => none
def fDiv : F2 := fun a b S => match a, b with
    | .int i, .int j => if CDivW i j then some (.int (i / j), S) else none
    | _, _ => none
def fMod : F2 := fun a b S => match a, b with
    | .int i, .int j => if 0 < j then some (.int (i % j), S) else none
    | _, _ => none
def fPow : F2 := fun a b S => match a, b with
    | .int i, .int j => if CPow i j then some (.int (i ^ j.toNat), S) else none
    | _, _ => none
theorem f_mul : Op2 g (fun x y H Q => rI CMul (fun i j => .int (i * j)) x y H Q ∨ rI CMulW (fun i j => .int (i * j)) x y H Q) fMul := fun ι S S' H a b d x y Q s ra rb hf hd => by
  unfold fMul at hf
  split at hf
  · split at hf
    · rename_i hc
      cases hf; cases ra; cases rb
      rcases hc with hc | hc
      · exact .inl ⟨_, _, rfl, rfl, hc, hd.here s (.int _)⟩
      · exact .inr ⟨_, _, rfl, rfl, hc, hd.here s (.int _)⟩
    · cases hf
  · cases hf
theorem em_mul {a b : Expr} {ma mb : MM D} (ha : PE X a (tE g xa W ma)) (hb : PE X b (tE g xa W mb)) : PE X (.BinOp a .Mult b pos) (tE g xa W (mOp2 fMul ma mb)) := em_op (op_mul.or op_mulW) f_mul ha hb
theorem em_div {a b : Expr} {ma mb : MM D} (ha : PE X a (tE g xa W ma)) (hb : PE X b (tE g xa W mb)) : PE X (.BinOp a .FloorDiv b pos) (tE g xa W (mOp2 fDiv ma mb)) := em_op op_fdivW (f_intC (C := CDivW) (k := fun i j => i / j)) ha hb
theorem em_mod {a b : Expr} {ma mb : MM D} (ha : PE X a (tE g xa W ma)) (hb : PE X b (tE g xa W mb)) : PE X (.BinOp a .Mod b pos) (tE g xa W (mOp2 fMod ma mb)) := em_op op_mod (f_intC (C := fun _ j => 0 < j) (k := fun i j => i % j)) ha hb
theorem em_pow {a b : Expr} {ma mb : MM D} (ha : PE X a (tE g xa W ma)) (hb : PE X b (tE g xa W mb)) : PE X (.BinOp a .Pow b pos) (tE g xa W (mOp2 fPow ma mb)) := em_op op_pow (f_intC (C := CPow) (k := fun i j => i ^ j.toNat)) ha hb
def fNeg : F1 := fun a S => match a with
  | .int i => some (.int (-i), S)
  | _ => none
theorem em_neg {a : Expr} {ma : MM D} (ha : PE X a (tE g xa W ma)) : PE X (.UnaryOp .USub a pos) (tE g xa W (mOp1 fNeg ma)) := em_un un_neg (fun ι S S' H a d x Q s ra hf hd => by
  unfold fNeg at hf
  split at hf
  · cases hf; cases ra
    exact ⟨_, rfl, hd.here s (.int _)⟩
  · cases hf) ha

/-! ### order -/
def fOrd (p : Int → Int → Bool) (q : List Nat → List Nat → Bool) : F2 := fun a b S => match a, b with
  | .int i, .int j => some (.bl (p i j), S)
  | .str x, .str y => some (.bl (q x.cps.toList y.cps.toList), S)
  | _, _ => none
def rOrd (p : Int → Int → Bool) (q : List Nat → List Nat → Bool) : R2 := fun x y H Q => rI0 (fun i j => .bl (p i j)) x y H Q ∨ ∃ i j, x = .str i ∧ y = .str j ∧ Q (.bl (q i.cps.toList j.cps.toList)) H
theorem f_ord {p : Int → Int → Bool} {q : List Nat → List Nat → Bool} : Op2 g (rOrd p q) (fOrd p q) := fun ι S S' H a b d x y Q s ra rb hf hd => by
  unfold fOrd at hf
  split at hf
  · cases hf; cases ra; cases rb
    exact .inl ⟨_, _, rfl, rfl, hd.here s (.bl _)⟩
  · cases hf; cases ra; cases rb
    exact .inr ⟨_, _, rfl, rfl, hd.here s (.bl _)⟩
  · cases hf
abbrev pLt : Int → Int → Bool := fun i j => decide (i < j)
abbrev pLe : Int → Int → Bool := fun i j => decide (i ≤ j)
abbrev pGt : Int → Int → Bool := fun i j => decide (j < i)
abbrev pGe : Int → Int → Bool := fun i j => decide (j ≤ i)
abbrev qLt : List Nat → List Nat → Bool := fun i j => decide (i < j)
abbrev qLe : List Nat → List Nat → Bool := fun i j => !decide (j < i)
abbrev qGt : List Nat → List Nat → Bool := fun i j => decide (j < i)
abbrev qGe : List Nat → List Nat → Bool := fun i j => !decide (i < j)
theorem op_ltM : OpR X (compareOp .Lt) (rOrd pLt qLt) := op_lt.or op_lt_str
theorem op_leM : OpR X (compareOp .LtE) (rOrd pLe qLe) := op_le.or op_le_str
theorem op_gtM : OpR X (compareOp .Gt) (rOrd pGt qGt) := op_gt.or op_gt_str
theorem op_geM : OpR X (compareOp .GtE) (rOrd pGe qGe) := op_ge.or op_ge_str

/-! ### data -/
mutual
def toPy (S : So) : Nat → D → Option PyData
  | _, .non => some .none
  | _, .bl b => some (.bool b)
  | _, .int i => some (.int i)
  | _, .str x => some (.str x)
  | n, .tup xs => (toPys S n xs).map .tuple
  | n, .rol xs => (toPys S n xs).map .list
  | 0, .ref _ => none
  | n + 1, .ref m => match S[m]? with
    | some (.lst xs) => (toPys S n xs).map .list
    | _ => none
  | _, .glo _ => none
  | _, .ty _ => none
termination_by n d => (n, sizeOf d)
def toPys (S : So) : Nat → List D → Option (List PyData)
  | _, [] => some []
  | n, d :: ds => match toPy S n d, toPys S n ds with
    | some p, some ps => some (p :: ps)
    | _, _ => none
termination_by n ds => (n, sizeOf ds)
end

section
variable {g : G} {ι : List Addr} {H : Hp} {S : So}
mutual
theorem toPy_R (s : Sim g ι S H) : ∀ (n : Nat) (d : D) (v : V) (p : PyData), toPy S n d = some p → R g ι H d v → Dp g.K H v p
  | n, .non, v, p, h, r => by unfold toPy at h; cases h; cases r; exact .non
  | n, .bl b, v, p, h, r => by unfold toPy at h; cases h; cases r; exact .bl b
  | n, .int i, v, p, h, r => by unfold toPy at h; cases h; cases r; exact .int i
  | n, .str x, v, p, h, r => by unfold toPy at h; cases h; cases r; exact .str x
  | n, .tup xs, v, p, h, r => by
    unfold toPy at h
    cases q : toPys S n xs with
    | none => rw [q] at h; cases h
    | some ps =>
      rw [q] at h
      cases h
      cases r with
      | tup h1 h2 => exact .tup h1.t (toPys_R s n xs _ ps q h2)
  | n, .rol xs, v, p, h, r => by
    unfold toPy at h
    cases q : toPys S n xs with
    | none => rw [q] at h; cases h
    | some ps =>
      rw [q] at h
      cases h
      cases r with
      | rol h1 h2 => exact .lst h1.seq (toPys_R s n xs _ ps q h2)
  | 0, .ref m, v, p, h, r => by unfold toPy at h; cases h
  | n + 1, .ref m, v, p, h, r => by
    unfold toPy at h
    split at h
    · rename_i xs e
      cases q : toPys S n xs with
      | none => rw [q] at h; cases h
      | some ps =>
        rw [q] at h
        cases h
        cases r with
        | ref h1 =>
          obtain ⟨vs, h2, h3⟩ := lst_here s h1 e
          exact .lst (SqL.of h2) (toPys_R s n xs _ ps q h3)
    · cases h
  | n, .glo x, v, p, h, r => by unfold toPy at h; cases h
  | n, .ty x, v, p, h, r => by unfold toPy at h; cases h
termination_by n d => (n, sizeOf d)
theorem toPys_R (s : Sim g ι S H) : ∀ (n : Nat) (ds : List D) (vs : List V) (ps : List PyData), toPys S n ds = some ps → Rs g ι H ds vs → DpAll g.K H vs ps
  | n, [], vs, ps, h, r => by unfold toPys at h; cases h; cases r; exact .nil
  | n, d :: ds, vs, ps, h, r => by
    unfold toPys at h
    split at h
    · rename_i p ps' e1 e2
      cases h
      cases r with
      | cons r1 r2 => exact .cons (toPy_R s n d _ p e1 r1) (toPys_R s n ds _ ps' e2 r2)
    · cases h
termination_by n ds => (n, sizeOf ds)
end
end
section
variable {X : Cx} {g : G} {xa : Xa} {W : WX} {pos : Pos} {ι : List Addr} {H : Hp}
/-- data, nested lists at most nine deep -/
abbrev py (d : D) (S : So) : Option PyData := toPy S 9 d
def rEqM (K : PySem.W.Frag) : R2 := fun x y H Q => rEq x y H Q ∨ rEqD K x y H Q
def rNeM (K : PySem.W.Frag) : R2 := fun x y H Q => rNe x y H Q ∨ rNeD K x y H Q
def eqD (k : Bool → Bool) : F2 := fun a b S => match py a S, py b S with
  | some p, some q => if SeqAt.shaped p = true ∧ SeqAt.shaped q = true then some (.bl (k (PyData.eqv p q)), S) else none
  | _, _ => none
def fEq : F2 := fun a b S => match a, b with
  | .str x, .str y => some (.bl (decide (x = y)), S)
  | a, b => eqD id a b S
def fNe : F2 := fun a b S => match a, b with
  | .str x, .str y => some (.bl (!decide (x = y)), S)
  | a, b => eqD (!·) a b S
theorem f_eq : Op2 g (rEqM g.K) fEq := fun ι S S' H a b d x y Q s ra rb hf hd => by
  unfold fEq at hf
  split at hf
  · cases hf; cases ra; cases rb
    refine .inl ⟨rfl, ?_⟩
    have e : ∀ u v : Str, decide (V.str u = V.str v) = decide (u = v) := fun u v => by simp
    rw [e]
    exact hd.here s (.bl _)
  · unfold eqD at hf
    split at hf
    · rename_i p q e1 e2
      split at hf
      · rename_i hc
        cases hf
        exact .inr ⟨p, q, toPy_R s 9 a x p e1 ra, toPy_R s 9 b y q e2 rb, hc.1, hc.2, hd.here s (.bl _)⟩
      · cases hf
    · cases hf
theorem f_ne : Op2 g (rNeM g.K) fNe := fun ι S S' H a b d x y Q s ra rb hf hd => by
  unfold fNe at hf
  split at hf
  · cases hf; cases ra; cases rb
    refine .inl ⟨rfl, ?_⟩
    have e : ∀ u v : Str, decide (V.str u = V.str v) = decide (u = v) := fun u v => by simp
    rw [e]
    exact hd.here s (.bl _)
  · unfold eqD at hf
    split at hf
    · rename_i p q e1 e2
      split at hf
      · rename_i hc
        cases hf
        exact .inr ⟨p, q, toPy_R s 9 a x p e1 ra, toPy_R s 9 b y q e2 rb, hc.1, hc.2, hd.here s (.bl _)⟩
      · cases hf
    · cases hf
theorem op_eqM (hK : X.K = g.K) (hu : X.A.units + 64 < cLine) : OpR X (compareOp .Eq) (rEqM g.K) := by rw [← hK]; exact op_eq.or (op_eqD hu)
theorem op_neM (hK : X.K = g.K) (hu : X.A.units + 64 < cLine) : OpR X (compareOp .NotEq) (rNeM g.K) := by rw [← hK]; exact op_ne.or (op_neD hu)
/-- is, is not of None and of bools -/
def fIs (neg : Bool) : F2 := fun a b S => match a, b with
  | .bl i, .bl j => some (.bl (neg ^^ decide (i = j)), S)
  | .non, .non => some (.bl (neg ^^ true), S)
  | .bl _, .non => some (.bl (neg ^^ false), S)
  | .int _, .non => some (.bl (neg ^^ false), S)
  | .str _, .non => some (.bl (neg ^^ false), S)
  | .tup _, .non => some (.bl (neg ^^ false), S)
  | .ref _, .non => some (.bl (neg ^^ false), S)
  | _, _ => none
def rIsM : R2 := fun x y H Q => rIsB x y H Q ∨ (y = .non ∧ Q (.bl (decide (x = .non))) H)
def rIsNotM : R2 := fun x y H Q => rNotB x y H Q ∨ (y = .non ∧ Q (.bl (!decide (x = .non))) H)
theorem op_isM : OpR X (compareOp .Is) rIsM := op_isBl.or op_isN
theorem op_isNotM : OpR X (compareOp .IsNot) rIsNotM := op_notBl.or op_notN
theorem f_is : Op2 g rIsM (fIs false) := fun ι S S' H a b d x y Q s ra rb hf hd => by
  unfold fIs at hf
  split at hf <;> first | (cases hf; done) | skip
  · cases hf; cases ra; cases rb
    exact .inl ⟨_, _, rfl, rfl, hd.here s (by rw [Bool.false_xor]; exact .bl _)⟩
  all_goals (cases hf; cases rb; cases ra; exact .inr ⟨rfl, hd.here s (.bl _)⟩)
theorem f_isNot : Op2 g rIsNotM (fIs true) := fun ι S S' H a b d x y Q s ra rb hf hd => by
  unfold fIs at hf
  split at hf <;> first | (cases hf; done) | skip
  · cases hf; cases ra; cases rb
    exact .inl ⟨_, _, rfl, rfl, hd.here s (by rw [Bool.true_xor]; exact .bl _)⟩
  all_goals (cases hf; cases rb; cases ra; exact .inr ⟨rfl, hd.here s (.bl _)⟩)

/-! ### displays, items, slices -/
def fTup : FA := fun ds S => if ds.length ≤ sizeLine then some (.tup ds, S) else none
def fLst : FA := fun ds S => if ds.length ≤ sizeLine then some (.ref S.length, S ++ [.lst ds]) else none
theorem em_tup {es : List Expr} {m : MM (List D)} {x1 : Nat} (h : PA X es (tA g xa W m)) : PE X (.Tuple es x1 pos) (tE g xa W (mOpA fTup m)) := (pe_tupP h).viaM fun σ H Q h => by
  refine opA_step (r := fun xs H1 Q => xs.length ≤ sizeLine ∧ TpQ Q H1 xs) (fun ι S S' H a d x Q s r hf hd => ?_) h
  unfold fTup at hf
  split at hf
  · rename_i hl
    cases hf
    exact ⟨by rw [← Rs.length r]; exact hl, fun p o np zo => hd.tup s np r zo⟩
  · cases hf
theorem em_lst {es : List Expr} {m : MM (List D)} (h : PA X es (tA g xa W m)) : PE X (.List es pos) (tE g xa W (mOpA fLst m)) := (pe_lst h).viaM fun σ H Q h => by
  refine opA_step (r := fun xs H1 Q => xs.length ≤ sizeLine ∧ ∀ p, H1 p = none → Q (.ref p) (upd H1 p (.lst xs))) (fun ι S S' H a d x Q s r hf hd => ?_) h
  unfold fLst at hf
  split at hf
  · rename_i hl
    cases hf
    exact ⟨by rw [← Rs.length r]; exact hl, fun p np => hd.lst s np r⟩
  · cases hf
def fIx : F2 := fun a b S => match a, b with
  | .str z, .int i => if z.length ≤ sizeLine then (atI z.cps.toList i).map fun c => (.str ⟨#[c]⟩, S) else none
  | a, .int i => match seqOf a S with
    | some (_, xs) => (atI xs i).map fun d => (d, S)
    | none => none
  | _, _ => none
theorem atI_R {xs : List D} {vs : List V} {i : Int} {d : D} (r : Rs g ι H xs vs) (h : atI xs i = some d) : ∃ v, atI vs i = some v ∧ R g ι H d v := by
  unfold atI at h ⊢
  rw [← Rs.length r]
  cases e : ixN xs.length i with
  | none => rw [e] at h; cases h
  | some j =>
    rw [e] at h
    obtain ⟨v, h1, h2⟩ := Rs.get r h
    exact ⟨v, h1, h2⟩
theorem f_ix : Op2 g (rIx g.K) fIx := fun ι S S' H a b d x y Q s ra rb hf hd => by
  unfold fIx at hf
  split at hf
  · rename_i z i
    split at hf
    · rename_i hl
      cases e : atI z.cps.toList i with
      | none => rw [e] at hf; cases hf
      | some c =>
        rw [e] at hf
        cases hf; cases ra; cases rb
        exact .inr (.inr ⟨_, _, c, rfl, rfl, hl, e, hd.here s (.str _)⟩)
    · cases hf
  · rename_i i _
    split at hf
    · rename_i k xs e
      cases e2 : atI xs i with
      | none => rw [e2] at hf; cases hf
      | some c =>
        rw [e2] at hf
        cases hf
        obtain ⟨p, vs, rfl, r, t1, l1⟩ := seqOf_R e s ra
        obtain ⟨v, h1, h2⟩ := atI_R r e2
        cases rb
        cases k with
        | true => exact .inr (.inl ⟨_, _, _, _, rfl, rfl, (t1 rfl).t, h1, hd.here s h2⟩)
        | false => exact .inl ⟨_, _, _, _, rfl, rfl, l1 rfl, h1, hd.here s h2⟩
    · cases hf
  · cases hf
theorem ix_seqM (hK : X.K = g.K) : IxR X (rIx g.K) := by rw [← hK]; exact ix_seq
theorem em_ix {a b : Expr} {ma mb : MM D} (ha : PE X a (tE g xa W ma)) (hb : PE X b (tE g xa W mb)) (hK : X.K = g.K := by rfl) (hs : PlainIx b := by exact fun _ _ => rfl) : PE X (.Subscript a b pos) (tE g xa W (mOp2 fIx ma mb)) :=
  (pe_ix (ix_seqM hK) ha hb hs).viaM fun _ _ _ h => op2_step f_ix h
/-- a slice's part -/
def mNoPart : MM (Option Int) := retM none
def mPart (m : MM D) : MM (Option Int) := bindM m fun d _ S => match d with
  | .int i => some (.ok (some i), S)
  | _ => none
theorem om_none : PO X none (tO g xa W mNoPart) := po_none.viaM fun σ H Q h => by
  obtain ⟨ι, S, e, r, S', hs, he, hm, hf⟩ := h
  cases hm
  exact hf ι H none (Pre.refl _) (Ex.refl _) hs rfl
theorem om_some {e : Expr} {m : MM D} (h : PE X e (tE g xa W m)) : PO X (some e) (tO g xa W (mPart m)) := (po_some h).viaM fun σ H Q h => by
  obtain ⟨ι, S, e, r, S', hs, he, hm, hf⟩ := h
  refine stepG hs he hm hf fun d S1 ι1 H1 v h1 p1 x1 s1 e1 r1 f1 => ?_
  split at h1
  · cases h1; cases r1
    exact ⟨_, rfl, f1 ι1 H1 _ (Pre.refl _) (Ex.refl _) s1 rfl⟩
  · cases h1
def cutD (xs : List D) (lo hi : Option Int) : List D := (xs.drop (HT.sIx xs.length 0 lo)).take (HT.sIx xs.length xs.length hi - HT.sIx xs.length 0 lo)
theorem cutD_R {xs : List D} {vs : List V} {lo hi : Option Int} (r : Rs g ι H xs vs) : Rs g ι H (cutD xs lo hi) (cutV vs lo hi) := by
  unfold cutD cutV
  rw [← Rs.length r]
  exact (r.drop _).take _
def fSl (a : D) (lo hi : Option Int) (S : So) : Option (D × So) := match a with
  | .str z => if z.length ≤ sizeLine then some (.str (cutS z lo hi), S) else none
  | .tup xs => some (.tup (cutD xs lo hi), S)
  | a => match seqOf a S with
    | some (_, xs) => some (.ref S.length, S ++ [.lst (cutD xs lo hi)])
    | none => none
def mSl (ma : MM D) (ml mh : MM (Option Int)) : MM D := bindM ma fun a => bindM ml fun l => bindM mh fun h => liftF (fSl a l h)
def rSlM (K : PySem.W.Frag) : V → Option Int → Option Int → Hp → VK → Prop := fun x lo hi H Q => rSlP K x lo hi H Q ∨ rSlL K x lo hi H Q ∨ rSlS x lo hi H Q
theorem sl_M (hK : X.K = g.K) : SlR X (rSlM g.K) := by rw [← hK]; exact sl_tupP.or (sl_list.or sl_str)
theorem cut_whole {xs : List V} {lo hi : Option Int} (h : HT.sIx xs.length 0 lo = 0 ∧ HT.sIx xs.length xs.length hi = xs.length) : cutV xs lo hi = xs := by
  unfold cutV
  rw [h.1, h.2]
  simp
theorem cutD_whole {xs : List D} {lo hi : Option Int} (h : HT.sIx xs.length 0 lo = 0 ∧ HT.sIx xs.length xs.length hi = xs.length) : cutD xs lo hi = xs := by
  unfold cutD
  rw [h.1, h.2]
  simp
theorem f_sl {a d : D} {lo hi : Option Int} {S S' : So} {x : V} {Q : VK} (s : Sim g ι S H) (ra : R g ι H a x) (hf : fSl a lo hi S = some (d, S')) (hd : Does g (ρD g) ι H d S' Q) : rSlM g.K x lo hi H Q := by
  unfold fSl at hf
  split at hf
  · split at hf
    · rename_i hl
      cases hf; cases ra
      exact .inr (.inr ⟨_, rfl, hl, hd.here s (.str _)⟩)
    · cases hf
  · rename_i xs
    cases hf
    cases ra with
    | tup h1 h2 =>
      refine .inl ⟨_, _, rfl, h1.t, fun w => ?_, fun _ p o np zo => hd.tup s np (cutD_R h2) zo⟩
      rw [← Rs.length h2] at w
      exact hd.here s (by rw [cutD_whole w]; exact .tup h1 h2)
  · rename_i hn1 hn2
    split at hf
    · rename_i k xs e
      cases hf
      obtain ⟨p, vs, rfl, r, t1, l1⟩ := seqOf_R e s ra
      have hk : k = false := by
        have := seqOf_kind e
        cases a with
        | tup ys => exact absurd rfl (hn2 ys)
        | _ => exact this
      exact .inr (.inl ⟨_, _, rfl, l1 hk, fun q nq => hd.lst s nq (cutD_R r)⟩)
    · cases hf
theorem em_slice {a : Expr} {lo hi : Option Expr} {p2 : Pos} {ma : MM D} {ml mh : MM (Option Int)} (ha : PE X a (tE g xa W ma)) (hl : PO X lo (tO g xa W ml)) (hh : PO X hi (tO g xa W mh)) (hK : X.K = g.K := by rfl) :
    PE X (.Subscript a (.Slice lo hi none p2) pos) (tE g xa W (mSl ma ml mh)) := (pe_slice (sl_M hK) ha hl hh).viaM fun σ H Q h => by
  obtain ⟨ι, S, e, r, S', hs, he, hm, hf⟩ := h
  refine stepG hs he hm hf fun d S1 ι1 H1 v h1 p1 x1 s1 e1 r1 f1 => ?_
  refine stepG s1 e1 h1 f1 fun l S2 ι2 H2 v2 h2 p2 x2 s2 e2 r2 f2 => ?_
  refine stepG s2 e2 h2 f2 fun u S3 ι3 H3 v3 h3 p3 x3 s3 e3 r3 f3 => ?_
  obtain ⟨d', h4, rfl⟩ := liftF_some h3
  cases r2
  cases r3
  exact f_sl s3 (R.mono p3 x3 _ _ (R.mono p2 x2 _ _ r1)) h4 f3

/-! ### builtins -/
theorem em_callB {x : Str} {p : Pos} {a : Expr} {es : List Expr} {id : String} {r : List V → Hp → VK → Prop} {f : FA} {m : MM (List D)} (hc : CallR X (.builtin id) r) (hf : OpA g r f) (hm : X.mg x = none) (ha : PA X (a :: es) (tA g xa W m)) (hv : bootBuiltins x = some (.builtin id) := by decide +kernel) (hg : Gl X x := by rfl) (hn : x ≠ "__name__" := by decide) (hdb : (x == ("__debug__" : Str)) = false := by decide)
    (he : starEach (a :: es) X.env = (false, eval a X.env) :: starEach es X.env := by rfl) (hpl : (backTo pos (starEach es X.env)).any (·.1) = false := by rfl) : PE X (.Call (.Name x p) (a :: es) [] pos) (tE g xa W (mOpA f m)) :=
  (pe_callB hc hg hm hv ha hn hdb he hpl).viaM fun _ _ _ h => opA_step hf h
theorem em_callTy {x : Str} {p : Pos} {a : Expr} {es : List Expr} {T : String} {r : List V → Hp → VK → Prop} {f : FA} {m : MM (List D)} (hc : CallR X (.type T) r) (hf : OpA g r f) (hm : X.mg x = none) (ha : PA X (a :: es) (tA g xa W m)) (hv : bootBuiltins x = some (.type T) := by decide +kernel) (hg : Gl X x := by rfl) (hn : x ≠ "__name__" := by decide) (hdb : (x == ("__debug__" : Str)) = false := by decide)
    (he : starEach (a :: es) X.env = (false, eval a X.env) :: starEach es X.env := by rfl) (hpl : (backTo pos (starEach es X.env)).any (·.1) = false := by rfl) : PE X (.Call (.Name x p) (a :: es) [] pos) (tE g xa W (mOpA f m)) :=
  (pe_callTy hc hg hm hv ha hn hdb he hpl).viaM fun _ _ _ h => opA_step hf h
def fAbs : FA := fun ds S => match ds with
  | [.int i] => some (.int (if i < 0 then -i else i), S)
  | _ => none
theorem f_abs : OpA g (fun xs H Q => ∃ i, xs = [.int i] ∧ Q (.int (if i < 0 then -i else i)) H) fAbs := fun ι S S' H a d x Q s r hf hd => by
  unfold fAbs at hf
  split at hf
  · cases hf
    cases r with
    | cons r1 r2 => cases r2; cases r1; exact ⟨_, rfl, hd.here s (.int _)⟩
  · cases hf
def fInt : FA := fun ds S => match ds with
  | [.int i] => some (.int i, S)
  | [.bl b] => some (.int (if b then 1 else 0), S)
  | _ => none
theorem f_int : OpA g (fun xs H Q => (∃ i, xs = [.int i] ∧ Q (.int i) H) ∨ ∃ k, xs = [.bl k] ∧ Q (.int (if k then 1 else 0)) H) fInt := fun ι S S' H a d x Q s r hf hd => by
  unfold fInt at hf
  split at hf
  · cases hf
    cases r with
    | cons r1 r2 => cases r2; cases r1; exact .inl ⟨_, rfl, hd.here s (.int _)⟩
  · cases hf
    cases r with
    | cons r1 r2 => cases r2; cases r1; exact .inr ⟨_, rfl, hd.here s (.int _)⟩
  · cases hf
def fLen : FA := fun ds S => match ds with
  | [.str x] => if x.length ≤ sizeLine then some (.int x.length, S) else none
  | [a] => match seqOf a S with
    | some (_, xs) => some (.int xs.length, S)
    | none => none
  | _ => none
theorem f_len : OpA g (fun xs H Q => ∃ x n, xs = [x] ∧ LenV g.K x H n ∧ Q (.int n) H) fLen := fun ι S S' H a d x Q s r hf hd => by
  unfold fLen at hf
  split at hf
  · split at hf
    · rename_i hl
      cases hf
      cases r with
      | cons r1 r2 => cases r2; cases r1; exact ⟨_, _, rfl, ⟨hl, rfl⟩, hd.here s (.int _)⟩
    · cases hf
  · split at hf
    · rename_i k xs e
      cases hf
      cases r with
      | cons r1 r2 =>
        cases r2
        obtain ⟨p, vs, rfl, r, t1, l1⟩ := seqOf_R e s r1
        refine ⟨_, xs.length, rfl, ?_, hd.here s (.int _)⟩
        cases k with
        | true => exact .inr ⟨vs, (t1 rfl).t, Rs.length r⟩
        | false => exact .inl ⟨vs, l1 rfl, Rs.length r⟩
    · cases hf
  · cases hf
theorem call_lenM (hK : X.K = g.K) : CallR X (.builtin "len") (fun xs H Q => ∃ x n, xs = [x] ∧ LenV g.K x H n ∧ Q (.int n) H) := by rw [← hK]; exact call_len
def fList : FA := fun ds S => match ds with
  | [a] => match seqOf a S with
    | some (_, xs) => some (.ref S.length, S ++ [.lst xs])
    | none => none
  | _ => none
theorem f_list : OpA g (fun xs H Q => ∃ p ys, xs = [.ref p] ∧ (SqL g.K H p ys ∨ SqT g.K H p ys) ∧ ∀ l, H l = none → Q (.ref l) (upd H l (.lst ys))) fList := fun ι S S' H a d x Q s r hf hd => by
  unfold fList at hf
  split at hf
  · split at hf
    · rename_i k xs e
      cases hf
      cases r with
      | cons r1 r2 =>
        cases r2
        obtain ⟨p, vs, rfl, r, t1, l1⟩ := seqOf_R e s r1
        refine ⟨_, vs, rfl, ?_, fun l nl => hd.lst s nl r⟩
        cases k with
        | true => exact .inr (t1 rfl).t
        | false => exact .inl (l1 rfl)
    · cases hf
  · cases hf
theorem call_listM (hK : X.K = g.K) : CallR X (.type "list") (fun xs H Q => ∃ p ys, xs = [.ref p] ∧ (SqL g.K H p ys ∨ SqT g.K H p ys) ∧ ∀ l, H l = none → Q (.ref l) (upd H l (.lst ys))) := by rw [← hK]; exact call_list_of
def fTuple : FA := fun ds S => match ds with
  | [a] => match seqOf a S with
    | some (_, xs) => some (.tup xs, S)
    | none => none
  | _ => none
theorem f_tuple : OpA g (fun xs H Q => ∃ p ys, xs = [.ref p] ∧ ((SqL g.K H p ys ∧ TpQ Q H ys) ∨ (SqT g.K H p ys ∧ Q (.ref p) H))) fTuple := fun ι S S' H a d x Q s r hf hd => by
  unfold fTuple at hf
  split at hf
  · split at hf
    · rename_i k xs e
      cases hf
      cases r with
      | cons r1 r2 =>
        cases r2
        obtain ⟨p, vs, rfl, r, t1, l1⟩ := seqOf_R e s r1
        refine ⟨_, vs, rfl, ?_⟩
        cases k with
        | true => exact .inr ⟨(t1 rfl).t, hd.here s (.tup (t1 rfl) r)⟩
        | false => exact .inl ⟨l1 rfl, fun l o nl zo => hd.tup s nl r zo⟩
    · cases hf
  · cases hf
theorem call_tupleM (hK : X.K = g.K) : CallR X (.type "tuple") (fun xs H Q => ∃ p ys, xs = [.ref p] ∧ ((SqL g.K H p ys ∧ TpQ Q H ys) ∨ (SqT g.K H p ys ∧ Q (.ref p) H))) := by rw [← hK]; exact call_tupleP
def fStr : FA := fun ds S => match ds with
  | [.int i] => if i.natAbs.log2 < 1920 then some (.str (toString i), S) else none
  | _ => none
theorem f_str : OpA g (fun xs H Q => ∃ i : Int, xs = [.int i] ∧ i.natAbs.log2 < 1920 ∧ Q (.str (toString i)) H) fStr := fun ι S S' H a d x Q s r hf hd => by
  unfold fStr at hf
  split at hf
  · split at hf
    · rename_i hl
      cases hf
      cases r with
      | cons r1 r2 => cases r2; cases r1; exact ⟨_, rfl, hl, hd.here s (.str _)⟩
    · cases hf
  · cases hf

/-! ### methods of built-in types -/
abbrev FM := D → List D → So → Option (D × So)
def OpM (g : G) (r : V → List V → Hp → VK → Prop) (f : FM) : Prop := ∀ (ι : List Addr) (S S' : So) (H : Hp) (a : D) (b : List D) (d : D) (x : V) (y : List V) (Q : VK), Sim g ι S H → R g ι H a x → Rs g ι H b y → f a b S = some (d, S') → Does g (ρD g) ι H d S' Q → r x y H Q
def mMeth (ty : D → So → Bool) (f : FM) (mo : MM D) (ma : MM (List D)) : MM D := bindM mo fun a e S => if ty a S = true then bindM ma (fun ds => liftF (f a ds)) e S else none
theorem em_bm {o a : Expr} {es : List Expr} {name : Str} {T id : String} {apos : Pos} {mo : MM D} {ma : MM (List D)} {ty : D → So → Bool} {f : FM} {r : V → List V → Hp → VK → Prop} (pa : PlainAttrs T) (slot : Slot T name id) (hty : typeOf (.builtin id) = pure (.type "method_descriptor")) (hm : MtR X id r)
    (hT : ∀ (ι : List Addr) (S : So) (H : Hp) (a : D) (x : V), Sim g ι S H → R g ι H a x → ty a S = true → tyV X.K T x H) (hf : OpM g r f) (ho : PE X o (tE g xa W mo)) (ha : PA X (a :: es) (tA g xa W ma))
    (hbase : attributeBase o name X.env (eval o X.env) = eval o X.env := by rfl)
    (hfew : ((backTo pos (starEach (a :: es) X.env)).all (fun x => !x.1) && (backToKw pos (keywordEach [] X.env)).all (fun x => x.1.isSome)
      && decide ((a :: es).length + ([] : List Keyword).length + (if ([] : List Keyword).isEmpty then 0 else 1) < 30)) = true := by rfl)
    (hline : (apos.endLine == pos.line) = true := by rfl) (hs : starEach (a :: es) X.env = (false, eval a X.env) :: starEach es X.env := by rfl) (hplain : (backTo pos (starEach es X.env)).any (·.1) = false := by rfl) :
    PE X (.Call (.Attribute o name apos) (a :: es) [] pos) (tE g xa W (mMeth ty f mo ma)) :=
  (pe_bm pa slot hty hm ho ha hbase hfew hline hs hplain).viaM fun σ H Q h => by
    obtain ⟨ι, S, e, r, S', hs, he, hm, hf'⟩ := h
    refine stepG hs he hm hf' fun d S1 ι1 H1 v h1 p1 x1 s1 e1 r1 f1 => ?_
    split at h1
    · rename_i hty
      refine ⟨hT ι1 S1 H1 d v s1 r1 hty, ?_⟩
      refine stepG s1 e1 h1 f1 fun ds S2 ι2 H2 vs h2 p2 x2 s2 e2 r2 f2 => ?_
      obtain ⟨d', h3, rfl⟩ := liftF_some h2
      exact hf ι2 S2 S' H2 d ds d' v vs Q s2 (R.mono p2 x2 _ _ r1) r2 h3 f2
    · cases h1
def isL (a : D) (S : So) : Bool := match a with
  | .ref n => match S[n]? with
    | some (.lst _) => true
    | _ => false
  | _ => false
theorem isL_ty {K : PySem.W.Frag} {a : D} {S : So} {x : V} (s : Sim g ι S H) (r : R g ι H a x) (h : isL a S = true) : tyV K "list" x H := by
  unfold isL at h
  split at h
  · split at h
    · rename_i xs e
      cases r with
      | ref q =>
        obtain ⟨vs, h1, _⟩ := lst_here s q e
        exact .inl ⟨rfl, vs, SqL.of h1⟩
    · cases h
  · cases h
def isS (a : D) (_ : So) : Bool := match a with
  | .str _ => true
  | _ => false
theorem isS_ty {K : PySem.W.Frag} {a : D} {S : So} {x : V} (r : R g ι H a x) (h : isS a S = true) : tyV K "str" x H := by
  unfold isS at h
  split at h
  · cases r; rfl
  · cases h
def fAppend : FM := fun a ds S => match a, ds with
  | .ref n, [y] => match S[n]? with
    | some (.lst xs) => if xs.length < sizeLine then some (.non, S.set n (.lst (xs ++ [y]))) else none
    | _ => none
  | _, _ => none
/-- a list of the store is rewritten -/
theorem Does.wr {S : So} {n : Nat} {a : Addr} {xs : List D} {vs ws : List V} {d : D} {v : V} {Q : VK} (h : Does g (ρD g) ι H d (S.set n (.lst xs)) Q) (s : Sim g ι S H) (q : ι[n]? = some a) (e : H a = some (.lst ws)) (r : Rs g ι H xs vs) (rd : R g ι H d v) : Q v (upd H a (.lst vs)) := by
  have xw : Ex H (upd H a (.lst vs)) := Ex.wr e (fun _ z => by cases z) (fun _ _ _ z => by cases z) fun _ z => by cases z
  obtain ⟨sw, _⟩ := s.wr (o' := .lst xs) (q := .lst vs) q ⟨vs, upd_same, Rs.mono (Pre.refl _) xw _ _ r⟩ xw
  exact h ι _ v (Pre.refl _) xw sw (R.mono (Pre.refl _) xw _ _ rd)
theorem f_append : OpM g rAppend fAppend := fun ι S S' H a b d x y Q s ra rb hf hd => by
  unfold fAppend at hf
  split at hf
  · rename_i n y'
    split at hf
    · rename_i xs e
      split at hf
      · rename_i hl
        cases hf
        cases ra with
        | ref q =>
          cases rb with
          | cons r1 r2 =>
            cases r2
            obtain ⟨vs, h1, h2⟩ := lst_here s q e
            exact ⟨_, vs, _, rfl, rfl, h1, by rw [← Rs.length h2]; exact hl, hd.wr s q h1 (h2.append (.cons r1 .nil)) .non⟩
      · cases hf
    · cases hf
  · cases hf
theorem em_append {o a : Expr} {apos : Pos} {mo : MM D} {ma : MM (List D)} (ho : PE X o (tE g xa W mo)) (ha : PA X [a] (tA g xa W ma))
    (hbase : attributeBase o "append" X.env (eval o X.env) = eval o X.env := by rfl)
    (hfew : ((backTo pos (starEach [a] X.env)).all (fun x => !x.1) && (backToKw pos (keywordEach [] X.env)).all (fun x => x.1.isSome)
      && decide ([a].length + ([] : List Keyword).length + (if ([] : List Keyword).isEmpty then 0 else 1) < 30)) = true := by rfl)
    (hline : (apos.endLine == pos.line) = true := by rfl) (hs : starEach [a] X.env = (false, eval a X.env) :: starEach [] X.env := by rfl) (hplain : (backTo pos (starEach [] X.env)).any (·.1) = false := by rfl) :
    PE X (.Call (.Attribute o "append" apos) [a] [] pos) (tE g xa W (mMeth isL fAppend mo ma)) :=
  em_bm PySem.F.plainAttrs_list PySem.F.slot_list_append PySem.F.type_list_append mt_append (fun _ _ _ _ _ s r h => isL_ty s r h) f_append ho ha hbase hfew hline hs hplain
/-- a[i] = v -/
def fSet (a i v : D) (S : So) : Option So := match a, i with
  | .ref n, .int k => match S[n]? with
    | some (.lst xs) => (ixN xs.length k).map fun j => S.set n (.lst (xs.set j v))
    | _ => none
  | _, _ => none
def setS (mv mo mi : MM D) : MS := bindS mv fun v => bindS mo fun o => bindS mi fun i e S => (fSet o i v S).map fun S' => (.nx, e, S')
theorem sm_setix {o i e : Expr} {p' : Pos} {mv mo mi : MM D} (he : PE X e (tE g xa W mv)) (ho : PE X o (tE g xa W mo)) (hi : PE X i (tE g xa W mi))
    (hs : swapsWithSole [.Subscript o i p'] e pos.line X.env = pure false := by rfl) (hw : swappedStores [.Subscript o i p'] e X.env = pure none := by rfl)
    (h1 : (assignEach [.Subscript o i p'] X.env).map (·.2) = [assign (.Subscript o i p') X.env] := by rfl)
    (hA : ∀ v, assign (.Subscript o i p') X.env v = (do
      let ov ← holding [v] (eval o X.env)
      let iv ← holding [v, ov] (eval i X.env)
      standAt p'
      holding [v, ov, iv] (setItem ov iv v)
      release [v, ov, iv] []) := by intro _; rfl) : PS X (.Assign [.Subscript o i p'] e pos) (tS g xa W (setS mv mo mi)) :=
  (ps_asg he (pg_sub ho hi set_list hA) hs hw h1).viaM fun Dd σ H h => by
    obtain ⟨ι, S, e, f, e', S', hs, he, hm, hf⟩ := h
    refine stepS hs he hm hf fun v S1 ι1 H1 vv h1 p1 x1 s1 e1 r1 f1 => ?_
    refine stepS s1 e1 h1 f1 fun o S2 ι2 H2 ov h2 p2 x2 s2 e2 r2 f2 => ?_
    refine stepS s2 e2 h2 f2 fun i S3 ι3 H3 iv h3 p3 x3 s3 e3 r3 f3 => ?_
    cases hq : fSet o i v S3 with
    | none => rw [hq] at h3; cases h3
    | some S4 =>
      rw [hq] at h3
      cases h3
      unfold fSet at hq
      split at hq
      · rename_i n k
        split at hq
        · rename_i xs q
          cases hj : ixN xs.length k with
          | none => rw [hj] at hq; cases hq
          | some j =>
            rw [hj] at hq
            cases hq
            have r2' := R.mono p3 x3 _ _ r2
            have r1' := R.mono p3 x3 _ _ (R.mono p2 x2 _ _ r1)
            cases r2' with
            | ref qa =>
              cases r3
              obtain ⟨vs, h4, h5⟩ := lst_here s3 qa q
              refine ⟨_, vs, k, j, rfl, rfl, h4, by rw [← Rs.length h5]; exact hj, ?_⟩
              have xw : Ex H3 (upd H3 _ (.lst (vs.set j vv))) := Ex.wr h4 (fun _ z => by cases z) (fun _ _ _ z => by cases z) fun _ z => by cases z
              obtain ⟨sw, _⟩ := s3.wr (o' := .lst (xs.set j v)) (q := .lst (vs.set j vv)) qa ⟨_, upd_same, Rs.mono (Pre.refl _) xw _ _ (h5.set r1' j)⟩ xw
              exact f3 ι3 _ (Pre.refl _) xw sw σ (e3.mono (Pre.refl _) xw)
        · cases hq
      · cases hq
end
end
end DD

set_option Elab.async false
set_option linter.all false
set_option maxRecDepth 100000
namespace DD
open PySem PySem.Spec PyProof.Rows L2

/-! ### defs -/
abbrev FnD := List D → So → Option (Re D × So)
abbrev GK (K : PySem.W.Frag) (mg : Str → Option Value) : G := ⟨K, mg⟩
/-- what a call promises, by a run φ -/
def spM (g : G) (φ : FnD) : Sp := fun vs H Q E => ∃ (ι : List Addr) (S : So) (ds : List D) (r : Re D) (S' : So), Sim g ι S H ∧ Rs g ι H ds vs ∧ φ ds S = some (r, S') ∧ match r with
  | .ok d => Does g (ρD g) ι H d S' Q
  | .ex c fs => ∀ (ι' : List Addr) (H' : Hp) (C dd : Addr) (gs : List (Str × V)), Pre ι ι' → Ex H H' → Sim g ι' S' H' → g.mg c = some (.ref C) → H' dd = some (.xd gs) → Fs g ι' H' fs gs → E (.ref C) (some dd) H'
/-- the def at f runs as φ, where no guard stands -/
structure FnG (P : Program) (w : World) (K : PySem.W.Frag) (mg : Str → Option Value) (base : Heap) (k : Nat) (f : Addr) (fd : FuncData) (ps : List Str) (φ : FnD) : Prop where
  len : ∀ ds S r, φ ds S = some r → ds.length = ps.length
  run : ∀ (A : Around) (outer : List Env) (s : Shared) (H : Hp) (args : Args) (us : List Value) (vs : List V) (Q : VK) (E : XK), Room k A → A.guards = some [] → Env0 P w K mg base A outer s H →
    BindsTo s fd args (ps.zip us) → Vals vs us → spM (GK K mg) φ vs H Q E → codeAny (model P w) A (.call (.ref f) args) (CR (L2.CX P w) outer P w H s Q E) s
theorem FnG.mono {P : Program} {w : World} {K : PySem.W.Frag} {mg : Str → Option Value} {base : Heap} {j k : Nat} {f : Addr} {fd : FuncData} {ps : List Str} {φ : FnD} (F : FnG P w K mg base j f fd ps φ) (h : j ≤ k) : FnG P w K mg base k f fd ps φ :=
  ⟨F.len, fun A outer s H args us vs Q E hr => F.run A outer s H args us vs Q E (hr.mono h)⟩
def startE (n : Nat) (ds : List D) : Sl := ds.map Sv.v ++ List.replicate (n - ds.length) Sv.no
/-- a def of np parameters and n names in all, by its body's run -/
def fnM (np n : Nat) (m : MS) : FnD := fun ds S => if ds.length = np then match m (startE n ds) S with
  | some (.nx, _, S') => some (.ok .non, S')
  | some (.rt d, _, S') => some (.ok d, S')
  | some (.ex c fs, _, S') => some (.ex c fs, S')
  | _ => none else none
section
variable {P : Program} {w : World} {K : PySem.W.Frag} {mg : Str → Option Value} {base : Heap}
theorem er_start {g : G} {xa : Xa} {ι : List Addr} {H : Hp} {ds : List D} {vs : List V} (N : List Str) (r : Rs g ι H ds vs) : Er g xa ι H (startE N.length ds) (L2.start N vs) := by
  have hl := Rs.length r
  refine ⟨by simp [startE, L2.start, hl], fun i y z e1 e2 => ?_⟩
  by_cases hi : i < ds.length
  · unfold startE at e1
    rw [List.getElem?_append_left (by simpa using hi), List.getElem?_map, List.getElem?_eq_getElem hi] at e1
    cases e1
    obtain ⟨v, h1, h2⟩ := Rs.get r (List.getElem?_eq_getElem hi)
    unfold L2.start at e2
    rw [List.getElem?_append_left (by simpa [← hl] using hi), List.getElem?_map, h1] at e2
    cases e2
    exact ⟨v, rfl, h2⟩
  · unfold startE at e1
    rw [List.getElem?_append_right (by simpa using Nat.le_of_not_lt hi), List.getElem?_replicate] at e1
    split at e1
    · cases e1; trivial
    · cases e1
abbrev xa0 : Xa := ⟨0, .none, none⟩
theorem fng_of {x qual : Str} {st : Stmt} {f : Addr} {fd : FuncData} {N ps : List Str} {k : Nat} {m : MS} (F : Fun K x qual st f fd) (Sc : FnScope N ps (defScope st))
    (hb : ∀ (cdv : Value) (A : Around) (outer : List Env) (s : Shared) (H : Hp) (E : XK), Room k (A.deeper (envOfC qual (defScope st) s.heap.objs.size f cdv)) → A.guards = some [] →
      PSs (cxOf (L2.CX P w) P w K mg base N qual (defScope st) f cdv A outer s H E) (defBody st) (tS (GK K mg) xa0 (fun cls d _ H => E cls d H) m)) :
    FnG P w K mg base (k + 1) f fd ps (fnM ps.length N.length m) := by
  obtain ⟨oc, od, kV, doc, pm, an, cdv, ct, osl, rfl, lk, hcd⟩ := F.ex
  have lenOf : ∀ (ds : List D) (S : So) (r : Re D × So), fnM ps.length N.length m ds S = some r → ds.length = ps.length := fun ds S r h => by
    unfold fnM at h
    split at h
    · assumption
    · cases h
  refine ⟨lenOf, fun A outer s H args us vs Q E hr hG e0 hbnd rv hsp => ?_⟩
  obtain ⟨ι, S, ds, r, S', hs, rs, hφ, hf⟩ := hsp
  have hl : vs.length = ps.length := by rw [← Rs.length rs]; exact lenOf _ _ _ hφ
  have inK : K.In s.heap := e0.mod.kin.keeps fun b o q => (e0.bs b o q).1
  have noLim : s.heap.NoLimit := e0.mod.nolimit.keeps fun b o q => (e0.bs b o q).1
  have kinds : ∀ y ∈ ps.zip us, (defScope st).names.lookup y.1 = some .local ∨ ((defScope st).names.lookup y.1 = some .cell ∧ ((cellsFrom (s.heap.objs.size + 1) (defScope st).names []).lookup y.1).isSome = true) := by
    rintro ⟨n, v⟩ hy
    rcases Sc.par n (List.of_mem_zip hy).1 with q | q
    · exact .inl q
    · exact .inr ⟨q, PySem.W.cellsFrom_some _ _ _ (.inl q)⟩
  refine codeAny_call_function hr.depth (inK _ _ lk) rfl Sc.co Sc.gen rfl (PySem.W.codeRec_of inK hcd) (hbnd _ _ _ _ ?_)
  refine wpAny_newFunctionEnv_cells Sc.kind kinds fun env he s1 x => ?_
  subst he
  refine ⟨noLim.keeps x.toInCall.keep, codeAny_func ?_⟩
  have I := inv_start (CX := L2.CX P w) (qual := qual) (f := f) (cd := cdv) (E := E) Sc hr.hd e0 hl rv x
  unfold fnM at hφ
  rw [if_pos (by rw [Rs.length rs, hl])] at hφ
  have main : tS (GK K mg) xa0 (fun cls d _ H => E cls d H) m { nx := fun _ H' => Q .non H', rt := Q } (L2.start N vs) H := by
    split at hφ
    · rename_i e1 S1 q
      cases hφ
      exact ⟨ι, S, _, _, e1, _, hs, er_start N rs, q, fun ι' H' p x s σ' _ => hf ι' H' .non p x s .non⟩
    · rename_i d e1 S1 q
      cases hφ
      exact ⟨ι, S, _, _, e1, _, hs, er_start N rs, q, fun ι' H' p x s v rv => hf ι' H' v p x s rv⟩
    · rename_i c fs e1 S1 q
      cases hφ
      exact ⟨ι, S, _, _, e1, _, hs, er_start N rs, q, fun ι' H' p x s σ' C dd gs _ h1 h2 h3 => hf ι' H' C dd gs p x s h1 h2 h3⟩
    · cases hφ
  refine wpAny_mono ((hb cdv A outer s H E (hr.deeper _) hG).run [] s1 (L2.start N vs) H _ I main) (fun fl s' hq => ?_) fun e s' hq => hq
  cases fl with
  | ret u =>
    obtain ⟨v, σ', H', J, q1, q2⟩ := hq
    exact ⟨v, H', J.os, J.bare, J.base, J.hok, q1, q2⟩
  | next =>
    obtain ⟨σ', H', J, q2⟩ := hq
    exact ⟨.non, H', J.os, J.bare, J.base, J.hok, rfl, q2⟩
  | brk =>
    obtain ⟨σ', H', _, q2⟩ := hq
    exact False.elim q2
  | cont =>
    obtain ⟨σ', H', _, q2⟩ := hq
    exact False.elim q2
end
theorem passM {X : Cx} {E : XK} {W : WX} {σ : L2.St} {pins : List (Addr × Obj)} {H : Hp} {s s' : Shared} {e : Value} (tk : Takes X W) (I : Inv X pins σ H s) (hE : ∀ cls d H', E cls d H' → W cls d σ H') (c : L2.CX X.prog X.w X.stack H s E e s') : X.xe e s' := tk e s' (XE.of_call I hE c)

section
variable {X : Cx} {W : WX} {pos : Pos} {k : Nat} {f : Addr} {fd : FuncData} {ps : List Str} {φ : FnD} {xa : Xa}
abbrev gX (X : Cx) : G := ⟨X.K, X.mg⟩
/-- the callee runs -/
theorem run_fng {pins : List (Addr × Obj)} {σ : L2.St} {H : Hp} {s : Shared} {Q : VK} {us : List Value} {vs : List V} (F : FnG X.prog X.w X.K X.mg X.base k f fd ps φ) (hr : Room k X.A) (hG : X.A.guards = some []) (hb : Binds X.K fd ps []) (tk : Takes X W)
    (I : Inv X pins σ H s) (r : Vals vs us) (h : spM (gX X) φ vs H Q (fun cls d H' => W cls d σ H')) : wpAny (model X.prog X.w) X.A (call (.ref f) us) (EP X pins σ Q) X.xe s := by
  have hl : us.length = ps.length := by
    obtain ⟨ι, S, ds, r', S', hs, rs, hφ, hf⟩ := id h
    rw [← r.length, ← Rs.length rs]
    exact F.len _ _ _ hφ
  have b := hb s us I.kIn (by rw [List.append_nil]; exact hl)
  rw [List.append_nil] at b
  refine wpAny_call (codeAny_mono (F.run X.A X.stack s H ⟨us, []⟩ us vs Q _ hr hG I.env0 b r h) fun r s' hq => ?_)
  cases r with
  | error e => exact passM tk I (fun _ _ _ z => z) hq
  | ok fl => cases fl <;> first | exact I.after hq | exact False.elim hq
def mCall (φ : FnD) (m : MM (List D)) : MM D := bindM m fun ds _ S => φ ds S
theorem call_step {m : MM (List D)} {σ : L2.St} {H : Hp} {Q : VK} (h : tE (gX X) xa W (mCall φ m) σ H Q) : tA (gX X) xa W m σ H fun vs H1 => spM (gX X) φ vs H1 Q (fun cls d H' => W cls d σ H') := by
  obtain ⟨ι, S, e, r, S', hs, he, hm, hf⟩ := h
  refine stepG hs he hm hf fun ds S1 ι1 H1 vs h1 p1 x1 s1 e1 r1 f1 => ?_
  refine ⟨ι1, S1, ds, r, S', s1, r1, h1, ?_⟩
  cases r with
  | ok d => exact f1
  | ex c fs => exact fun ι' H' C dd gs p x s h1 h2 h3 => f1 ι' H' C dd gs p x s h1 h2 h3
theorem em_call {x : Str} {p : Pos} {e : Expr} {es : List Expr} {m : MM (List D)} (F : FnG X.prog X.w X.K X.mg X.base k f fd ps φ) (hr : Room k X.A) (hG : X.A.guards = some []) (tk : Takes X W) (hm : X.mg x = some (.ref f)) (hk : PySem.W.keepIn X.K (.ref f) = true) (hb : Binds X.K fd ps [])
    (ha : PA X (e :: es) (tA (gX X) xa W m)) (hg : Gl X x := by rfl) (hdb : (x == ("__debug__" : Str)) = false := by decide) (he : starEach (e :: es) X.env = (false, eval e X.env) :: starEach es X.env := by rfl) (hpl : (backTo pos (starEach es X.env)).any (·.1) = false := by rfl) :
    PE X (.Call (.Name x p) (e :: es) [] pos) (tE (gX X) xa W (mCall φ m)) := by
  refine ⟨fun pins s σ H Q I h => wpAny_Call_Name_kw (ld_glob I hg hm ?_ hdb)⟩
  refine PySem.W.callWith_K (h₀ := X.base) I.ok.mod.kin hk (thn (ha.run pos pins s σ H _ I (call_step h)) fun us s1 ⟨vs, H1, I1, r, q⟩ => ⟨I1.kIn, ?_⟩) he hpl
  exact run_fng F hr hG hb tk I1 r q
theorem em_call0 {x : Str} {p : Pos} (F : FnG X.prog X.w X.K X.mg X.base k f fd ps φ) (hr : Room k X.A) (hG : X.A.guards = some []) (tk : Takes X W) (hm : X.mg x = some (.ref f)) (hk : PySem.W.keepIn X.K (.ref f) = true) (hb : Binds X.K fd ps []) (hg : Gl X x := by rfl) (hdb : (x == ("__debug__" : Str)) = false := by decide) :
    PE X (.Call (.Name x p) [] [] pos) (tE (gX X) xa W (mCall φ mNil)) := by
  refine ⟨fun pins s σ H Q I h => wpAny_Call_Name_kw (ld_glob I hg hm ?_ hdb)⟩
  obtain ⟨ι, S, e, r, S', hs, he, hm, hf⟩ := h
  refine PySem.W.callWith_K0 I.kIn hk (run_fng (us := []) (vs := []) F hr hG hb tk I .nil ⟨ι, S, [], r, S', hs, .nil, hm, ?_⟩)
  cases r with
  | ok d => exact hf
  | ex c fs => exact fun ι' H' C dd gs p x s h1 h2 h3 => hf ι' H' C dd gs p x s h1 h2 h3
end
end DD

set_option Elab.async false
set_option linter.all false
set_option maxRecDepth 100000
namespace DD
open PySem PySem.Spec PyProof.Rows L2

abbrev TyN := String ⊕ Str
/-- what is known of the classes -/
structure Tab where
  kit : TyN → TyN → Option Bool
  catches : Str → Str → Option Bool
  attr : Str → Str → Bool
  ins : Str → Bool
  exc : Str → Bool
  xattr : Str → Str → Bool
def ValOf (g : G) (t : TyN) (v : Value) : Prop := match t with
  | .inl n => v = .type n
  | .inr x => ∃ C, g.mg x = some (.ref C) ∧ v = .ref C
/-- what isinstance asks of an instance's class -/
structure InsK (K : PySem.W.Frag) (C : Addr) : Prop where
  cl : Cls K C
  ha : PySem.W.findIn K (.ref C) "__class__" = some (some (.builtin "object.__class__"))
  hn : PySem.W.specialIn K (.builtin "object.__class__") "__get__" = some (some (.builtin "getset_descriptor.__get__"))
  ht : PySem.W.takesIn K (.builtin "object.__class__") = some true
  hm : PySem.W.mroIn K C (.type "object") = some true
structure Facts (g : G) (T : Tab) : Prop where
  kit : ∀ t c b tv cv, T.kit t c = some b → ValOf g t tv → ValOf g c cv → PySem.W.kitOne g.K tv cv = some b
  attr : ∀ c f C, T.attr c f = true → g.mg c = some (.ref C) → Cls g.K C ∧ NoAttr g.K C f
  ins : ∀ c C, T.ins c = true → g.mg c = some (.ref C) → InsK g.K C
  exc : ∀ c C, T.exc c = true → g.mg c = some (.ref C) → ExcC g.K C
  xattr : ∀ c f C, T.xattr c f = true → g.mg c = some (.ref C) → XfC g.K C ∧ PySem.W.findIn g.K (.ref C) f = some none

def tyOf (T : Tab) (d : D) (S : So) : Option TyN := match d with
  | .non => some (.inl "NoneType")
  | .bl _ => some (.inl "bool")
  | .int _ => some (.inl "int")
  | .str _ => some (.inl "str")
  | .tup _ => some (.inl "tuple")
  | .rol _ => some (.inl "list")
  | .ref n => match S[n]? with
    | some (.lst _) => some (.inl "list")
    | some (.dct _) => some (.inl "dict")
    | some (.ins c _) => if T.ins c = true then some (.inr c) else none
    | _ => none
  | _ => none
def clsN (d : D) : Option TyN := match d with
  | .ty n => some (.inl n)
  | .glo x => some (.inr x)
  | _ => none
def kitAll (T : Tab) (t : TyN) : List D → Option Bool
  | [] => some false
  | c :: cs => match clsN c with
    | some n => match T.kit t n, kitAll T t cs with
      | some b, some r => some (b || r)
      | _, _ => none
    | none => none
def fIsi (T : Tab) : FA := fun ds S => match ds with
  | [x, .tup cs] => match tyOf T x S with
    | some t => (kitAll T t cs).map fun b => (.bl b, S)
    | none => none
  | [x, c] => match tyOf T x S, clsN c with
    | some t, some n => (T.kit t n).map fun b => (.bl b, S)
    | _, _ => none
  | _ => none
section
variable {X : Cx} {g : G} {xa : Xa} {W : WX} {pos : Pos} {ι : List Addr} {H : Hp} {T : Tab}
/-- isinstance(x, (c1, ..)): a tuple whose object is known -/
def rIsiP (K : PySem.W.Frag) : List V → Hp → VK → Prop := fun xs H Q => ∃ (x : V) (tp : Addr) (o : Obj) (cs : List V) (t : Value) (us : List Value) (b : Bool), xs = [x, .ref tp] ∧ H tp = some (.frz o (.tup cs)) ∧ Paired ClsV cs us ∧ TyX K H x t ∧ PySem.W.kitAny K t us = some b ∧ Q (.bl b) H
theorem call_isiP : CallR X (.builtin "isinstance") (rIsiP X.K) := by
  intro pins s σ H xs us Q I r h
  obtain ⟨x, tp, ob, cs, t, ws, b, rfl, hT, k, ty, e, q⟩ := h
  obtain ⟨u1, u2, rfl, r1, r2⟩ := vals2 r
  cases (show u2 = Value.ref tp from r2)
  obtain ⟨P, Z, p, hx⟩ := kit_of I r1 ty
  obtain ⟨_, _, its, rv, o, h1, h2, n, h3⟩ := (show ObjOk X.prog X.w H s.heap tp (.frz ob (.tup cs)) from I.hok tp _ hT)
  cases ClsV.all k rv
  obtain ⟨oc, od, dt, sl⟩ := o
  simp only at h2 h3
  subst h2 h3
  exact PySem.W.kia_tup Z I.kIn p h1 e hx fun tk => ⟨.bl b, H, I.tok tk, rfl, q⟩
theorem frz_ty {a : Addr} {xs : List V} (q : SqF g.K H a xs) : TyX g.K H (.ref a) (.type "list") := by
  rcases q with ⟨o, q⟩ | ⟨o, its, n, h1, h2, _⟩
  · exact .base (.frz q)
  · exact .kList h1 h2
theorem tup_ty {a : Addr} {xs : List V} (q : SqU g.K H a xs) : TyX g.K H (.ref a) (.type "tuple") := by
  rcases q with ⟨o, q, _⟩ | ⟨o, its, n, h1, h2, _⟩
  · exact .fTuple q
  · exact .kTuple h1 h2
theorem tyOf_R (F : Facts g T) {d : D} {S : So} {v : V} {t : TyN} (s : Sim g ι S H) (r : R g ι H d v) (h : tyOf T d S = some t) : ∃ tv, ValOf g t tv ∧ TyX g.K H v tv := by
  unfold tyOf at h
  split at h
  · cases h; cases r; exact ⟨_, rfl, .base .non⟩
  · cases h; cases r; exact ⟨_, rfl, .base (.bl _)⟩
  · cases h; cases r; exact ⟨_, rfl, .base (.int _)⟩
  · cases h; cases r; exact ⟨_, rfl, .base (.str _)⟩
  · cases h
    cases r with
    | tup h1 h2 => exact ⟨_, rfl, tup_ty h1⟩
  · cases h
    cases r with
    | rol h1 h2 => exact ⟨_, rfl, frz_ty h1⟩
  · rename_i n
    cases r with
    | ref q =>
      split at h
      · rename_i xs e
        cases h
        obtain ⟨vs, h1, _⟩ := lst_here s q e
        exact ⟨_, rfl, .base (.lst h1)⟩
      · rename_i kvs e
        cases h
        obtain ⟨vs, h1, _⟩ := s.obj _ _ _ q e
        exact ⟨_, rfl, .base (.dK h1)⟩
      · rename_i c fs e
        split at h
        · rename_i hc
          cases h
          obtain ⟨C, dx, gs, h1, h2, _⟩ := s.obj _ _ _ q e
          have k := F.ins c C hc h2
          exact ⟨.ref C, ⟨C, h2, rfl⟩, .base (.ins h1 k.cl k.ha k.hn k.ht k.hm)⟩
        · cases h
      · cases h
  · cases h
theorem cls_R {d : D} {v : V} {n : TyN} (r : R g ι H d v) (h : clsN d = some n) (hc : ∃ tv, ValOf g n tv) : ∃ cv, ValOf g n cv ∧ ClsV v cv := by
  unfold clsN at h
  split at h
  · cases h; cases r; exact ⟨_, rfl, .ty _⟩
  · cases h
    cases r with
    | glo h1 h2 =>
      obtain ⟨tv, C, h3, _⟩ := hc
      rw [h1] at h3
      cases h3
      cases v with
      | ref a => cases h2; exact ⟨_, ⟨_, h1, rfl⟩, .own _⟩
      | non => cases h2
      | bl _ => cases h2
      | int _ => obtain ⟨_, q⟩ := h2; cases q
      | str _ => obtain ⟨_, q⟩ := h2; cases q
      | byt _ => obtain ⟨_, q⟩ := h2; cases q
      | flt _ => obtain ⟨_, q⟩ := h2; cases q
      | ty _ => cases h2
  · cases h
/-- a class that is named is one -/
def Named (g : G) (T : Tab) : Prop := ∀ t n b, T.kit t n = some b → ∃ cv, ValOf g n cv
theorem kitAll_R (F : Facts g T) (nm : Named g T) {t : TyN} {tv : Value} (ht : ValOf g t tv) : ∀ {cs : List D} {vs : List V} {b : Bool}, Rs g ι H cs vs → kitAll T t cs = some b → ∃ us, Paired ClsV vs us ∧ PySem.W.kitAny g.K tv us = some b
  | [], _, b, r, h => by
    cases r
    cases h
    exact ⟨[], .nil, kitAny_nil⟩
  | c :: cs, _, b, r, h => by
    cases r with
    | cons r1 r2 =>
      unfold kitAll at h
      split at h
      · rename_i n e1
        split at h
        · rename_i b1 b2 e2 e3
          cases h
          obtain ⟨cv, h1, h2⟩ := cls_R r1 e1 (nm t n b1 e2)
          obtain ⟨us, h3, h4⟩ := kitAll_R F nm ht r2 e3
          refine ⟨cv :: us, .cons h2 h3, kitAny_cons (F.kit t n b1 tv cv e2 ht h1) (fun z => ?_) fun z => ?_⟩
          · subst z; rw [Bool.false_or]; exact h4
          · subst z; rfl
        · cases h
      · cases h
theorem f_isi (F : Facts g T) (nm : Named g T) : OpA g (fun xs H Q => rIsi g.K xs H Q ∨ rIsiP g.K xs H Q ∨ rIsiK g.K xs H Q) (fIsi T) := fun ι S S' H a d x Q s r hf hd => by
  unfold fIsi at hf
  split at hf
  · rename_i y cs
    cases r with
    | cons r1 r =>
      cases r with
      | cons r2 r =>
        cases r
        split at hf
        · rename_i t et
          cases hk : kitAll T t cs with
          | none => rw [hk] at hf; cases hf
          | some b =>
            rw [hk] at hf
            cases hf
            obtain ⟨tv, h1, h2⟩ := tyOf_R F s r1 et
            cases r2 with
            | tup q1 q2 =>
              obtain ⟨us, h3, h4⟩ := kitAll_R F nm h1 q2 hk
              rcases q1 with ⟨o, q1, _⟩ | ⟨o, its, n, k1, k2, k3, _, k4, _⟩
              · exact .inr (.inl ⟨_, _, o, _, tv, us, b, rfl, q1, h3, h2, h4, hd.here s (.bl _)⟩)
              · have e : its.toList = us := ClsV.all h3 k4
                obtain ⟨oc, od, dt, sl⟩ := o
                dsimp only at k2 k3
                subst k2 k3 e
                exact .inr (.inr ⟨_, _, od, its.toList, n, sl, tv, b, rfl, by rw [Array.toArray_toList]; exact k1, h2, h4, hd.here s (.bl _)⟩)
        · cases hf
  · rename_i y c hn
    cases r with
    | cons r1 r =>
      cases r with
      | cons r2 r =>
        cases r
        split at hf
        · rename_i t n et en
          cases hk : T.kit t n with
          | none => rw [hk] at hf; cases hf
          | some b =>
            rw [hk] at hf
            cases hf
            obtain ⟨tv, h1, h2⟩ := tyOf_R F s r1 et
            obtain ⟨cv, h3, h4⟩ := cls_R r2 en (nm t n b hk)
            exact .inl ⟨_, _, tv, cv, b, rfl, h4, h2, F.kit t n b tv cv hk h1 h3, hd.here s (.bl _)⟩
        · cases hf
  · cases hf
end
end DD

set_option Elab.async false
set_option linter.all false
set_option maxRecDepth 100000
namespace DD
open PySem PySem.Spec PyProof.Rows L2
section
variable {X : Cx} {g : G} {xa : Xa} {W : WX} {pos : Pos} {ι : List Addr} {H : Hp} {T : Tab}
/-! ### isinstance, repr, join, all, any -/
theorem call_isiM (hK : X.K = g.K) : CallR X (.builtin "isinstance") (fun xs H Q => rIsi g.K xs H Q ∨ rIsiP g.K xs H Q ∨ rIsiK g.K xs H Q) := by
  rw [← hK]; exact call_isi.or (call_isiP.or call_isiK)
/-- a built-in class as a value -/
theorem em_ty {x : Str} {n : String} (hm : X.mg x = none) (hv : bootBuiltins x = some (.type n) := by decide +kernel) (hg : Gl X x := by rfl) (hn : x ≠ "__name__" := by decide) (hd : (x == ("__debug__" : Str)) = false := by decide) : PE X (.Name x pos) (tE g xa W (retM (.ty n))) :=
  em_const (pe_bltn (v := .ty n) hg hm hv rfl hn hd) fun _ _ => .ty n
def okShow (p : PyData) : Bool := p.showable && (!p.hasDict && (decide (p.depth ≤ 64) && decide (p.shown.length ≤ sizeLine)))
def fRepr : FA := fun ds S => match ds with
  | [a] => match py a S with
    | some p => if okShow p = true then some (.str p.shown, S) else none
    | none => none
  | _ => none
def rRepr (K : PySem.W.Frag) : List V → Hp → VK → Prop := fun xs H Q => ∃ x p, xs = [x] ∧ Dp K H x p ∧ okShow p = true ∧ Q (.str p.shown) H
theorem call_reprM (hG : X.A.guards = some []) (hu : X.A.units + 66 < cLine) : CallR X (.builtin "repr") (rRepr X.K) := by
  intro pins s σ H xs us Q I r h
  obtain ⟨x, p, rfl, hd, ok, q⟩ := h
  obtain ⟨u, rfl, ru⟩ := vals1 r
  unfold okShow at ok
  simp only [Bool.and_eq_true, Bool.not_eq_true', decide_eq_true_eq] at ok
  obtain ⟨o1, o2, o3, o4⟩ := ok
  obtain ⟨as, rd⟩ := Dp.reads I p x u hd ru
  cases hd with
  | non => cases ru; exact PySem.P.repr_of_none ⟨V.str _, H, I.tok _, ⟨_, rfl⟩, by rw [PyData.shown_none] at q; exact q⟩
  | bl b =>
    cases ru
    rw [PyData.shown_bool] at q
    cases b with
    | true => exact PySem.P.repr_of_bool (b := true) ⟨V.str _, H, I.tok _, ⟨_, rfl⟩, q⟩
    | false => exact PySem.P.repr_of_bool (b := false) ⟨V.str _, H, I.tok _, ⟨_, rfl⟩, q⟩
  | int i =>
    obtain ⟨t, rfl⟩ := ru
    rw [PyData.shown_int] at q
    exact PySem.P.repr_of_int (by simpa [PyData.showable] using o1) ⟨V.str _, H, I.tok _, ⟨_, rfl⟩, q⟩
  | str z =>
    obtain ⟨t, rfl⟩ := ru
    rw [PyData.shown_str] at q o4
    exact PySem.P.repr_of_str ⟨V.str _, H, I.tok _, ⟨_, rfl⟩, q⟩ o4
  | lst h1 h2 =>
    cases ru
    exact repr_of_reads' rd o1 (PyData.noDict_hsm o2) hG (by omega) (fun _ _ e => e) (fun h' u tk hk => ⟨V.str _, H, I.kept (t' := tk) hk, ⟨u, rfl⟩, q⟩) o4
  | tup h1 h2 =>
    cases ru
    exact repr_of_reads' rd o1 (PyData.noDict_hsm o2) hG (by omega) (fun _ _ e => e) (fun h' u tk hk => ⟨V.str _, H, I.kept (t' := tk) hk, ⟨u, rfl⟩, q⟩) o4
theorem f_repr : OpA g (rRepr g.K) fRepr := fun ι S S' H a d x Q s r hf hd => by
  unfold fRepr at hf
  split at hf
  · split at hf
    · rename_i p e
      split at hf
      · rename_i ok
        cases hf
        cases r with
        | cons r1 r2 => cases r2; exact ⟨_, p, rfl, toPy_R s 9 _ _ p e r1, ok, hd.here s (.str _)⟩
      · cases hf
    · cases hf
  · cases hf
theorem call_reprG (hK : X.K = g.K) (hG : X.A.guards = some []) (hu : X.A.units + 66 < cLine) : CallR X (.builtin "repr") (rRepr g.K) := by rw [← hK]; exact call_reprM hG hu
def strsOf : List D → Option (List Str)
  | [] => some []
  | .str x :: r => (strsOf r).map (x :: ·)
  | _ => none
theorem strsOf_R : ∀ {ds : List D} {vs : List V} {xs : List Str}, Rs g ι H ds vs → strsOf ds = some xs → vs = xs.map V.str
  | [], _, _, r, h => by cases h; cases r; rfl
  | d :: ds, _, xs, r, h => by
    cases d with
    | str z =>
      cases r with
      | cons r1 r2 =>
        have h' : (strsOf ds).map (z :: ·) = some xs := h
        cases e : strsOf ds with
        | none => rw [e] at h'; cases h'
        | some ys =>
          rw [e] at h'
          cases h'
          cases r1
          rw [strsOf_R r2 e]
          rfl
    | _ => cases h
def fJoin : FM := fun a ds S => match a, ds with
  | .str z, [b] => match seqOf b S with
    | some (_, xs) => match strsOf xs with
      | some ys => if (ys.map (·.length)).sum + ys.length * z.length ≤ 16777216 then some (.str (Txt.join z ys), S) else none
      | none => none
    | none => none
  | _, _ => none
theorem f_join : OpM g (fun x xs H Q => ∃ a p, ∃ ys : List Str, x = .str a ∧ xs = [.ref p] ∧ (SqL g.K H p (ys.map V.str) ∨ SqT g.K H p (ys.map V.str)) ∧ (ys.map (·.length)).sum + ys.length * a.length ≤ 16777216 ∧ Q (.str (Txt.join a ys)) H) fJoin := fun ι S S' H a b d x y Q s ra rb hf hd => by
  unfold fJoin at hf
  split at hf
  · split at hf
    · rename_i k xs e
      split at hf
      · rename_i ys e2
        split at hf
        · rename_i hl
          cases hf
          cases ra
          cases rb with
          | cons r1 r2 =>
            cases r2
            obtain ⟨p, vs, rfl, r, t1, l1⟩ := seqOf_R e s r1
            have ev := strsOf_R r e2
            subst ev
            refine ⟨_, p, ys, rfl, rfl, ?_, hl, hd.here s (.str _)⟩
            cases k with
            | true => exact .inr (t1 rfl).t
            | false => exact .inl (l1 rfl)
        · cases hf
      · cases hf
    · cases hf
  · cases hf
theorem mt_joinM (hK : X.K = g.K) : MtR X "str.join" (fun x xs H Q => ∃ a p, ∃ ys : List Str, x = .str a ∧ xs = [.ref p] ∧ (SqL g.K H p (ys.map V.str) ∨ SqT g.K H p (ys.map V.str)) ∧ (ys.map (·.length)).sum + ys.length * a.length ≤ 16777216 ∧ Q (.str (Txt.join a ys)) H) := by rw [← hK]; exact mt_join
def blsOf : List D → Option (List Bool)
  | [] => some []
  | .bl x :: r => (blsOf r).map (x :: ·)
  | _ => none
theorem blsOf_R : ∀ {ds : List D} {vs : List V} {xs : List Bool}, Rs g ι H ds vs → blsOf ds = some xs → vs = xs.map V.bl
  | [], _, _, r, h => by cases h; cases r; rfl
  | d :: ds, _, xs, r, h => by
    cases d with
    | bl z =>
      cases r with
      | cons r1 r2 =>
        have h' : (blsOf ds).map (z :: ·) = some xs := h
        cases e : blsOf ds with
        | none => rw [e] at h'; cases h'
        | some ys =>
          rw [e] at h'
          cases h'
          cases r1
          rw [blsOf_R r2 e]
          rfl
    | _ => cases h
def fAllB (k : List Bool → Bool) : FA := fun ds S => match ds with
  | [b] => match seqOf b S with
    | some (false, xs) => match blsOf xs with
      | some ys => some (.bl (k ys), S)
      | none => none
    | _ => none
  | _ => none
theorem f_allB {k : List Bool → Bool} : OpA g (fun vs H Q => ∃ (a : Addr) (bs : List Bool), vs = [V.ref a] ∧ SqL g.K H a (bs.map V.bl) ∧ Q (.bl (k bs)) H) (fAllB k) := fun ι S S' H a d x Q s r hf hd => by
  unfold fAllB at hf
  split at hf
  · split at hf
    · rename_i xs e
      split at hf
      · rename_i ys e2
        cases hf
        cases r with
        | cons r1 r2 =>
          cases r2
          obtain ⟨p, vs, rfl, r, t1, l1⟩ := seqOf_R e s r1
          have ev := blsOf_R r e2
          subst ev
          exact ⟨p, ys, rfl, l1 rfl, hd.here s (.bl _)⟩
      · cases hf
    · cases hf
  · cases hf
abbrev fAll : FA := fAllB fun bs => bs.all id
abbrev fAny : FA := fAllB fun bs => bs.any id
theorem call_allM (hK : X.K = g.K) (hc : X.calm = true) : CallR X (.builtin "all") (fun vs H Q => ∃ (a : Addr) (bs : List Bool), vs = [V.ref a] ∧ SqL g.K H a (bs.map V.bl) ∧ Q (.bl (bs.all id)) H) := by rw [← hK]; exact cr_all hc
theorem call_anyM (hK : X.K = g.K) (hc : X.calm = true) : CallR X (.builtin "any") (fun vs H Q => ∃ (a : Addr) (bs : List Bool), vs = [V.ref a] ∧ SqL g.K H a (bs.map V.bl) ∧ Q (.bl (bs.any id)) H) := by rw [← hK]; exact cr_any hc
/-! ### attributes -/
def fFld (T : Tab) (f : Str) : F1 := fun a S => match a with
  | .ref n => match S[n]? with
    | some (.ins c fs) => if T.attr c f = true then (fs.lookup f).map fun d => (d, S) else none
    | _ => none
  | _ => none
theorem em_fld {e : Expr} {f : Str} {m : MM D} (F : Facts g T) (he : PE X e (tE g xa W m)) (hK : X.K = g.K := by rfl) (hb : attributeBase e f X.env (eval e X.env) = eval e X.env := by rfl) : PE X (.Attribute e f pos) (tE g xa W (mOp1 (fFld T f) m)) :=
  (pe_fld he hb).viaM fun σ H Q h => by
    refine op1_step (r := fun x H1 Q => ∃ a C dx fs v, x = .ref a ∧ H1 a = some (.ins C dx fs) ∧ Cls X.K C ∧ NoAttr X.K C f ∧ fs.lookup f = some v ∧ Q v H1) (fun ι S S' H a d x Q s r hf hd => ?_) h
    unfold fFld at hf
    split at hf
    · split at hf
      · rename_i c fs e
        split at hf
        · rename_i ha
          cases hl : fs.lookup f with
          | none => rw [hl] at hf; cases hf
          | some z =>
            rw [hl] at hf
            cases hf
            cases r with
            | ref q =>
              obtain ⟨C, dx, gs, h1, h2, h3⟩ := s.obj _ _ _ q e
              obtain ⟨v, h4, h5⟩ := h3.look hl
              obtain ⟨k1, k2⟩ := F.attr c f C ha h2
              rw [hK]
              exact ⟨_, C, dx, gs, v, rfl, h1, k1, k2, h4, hd.here s h5⟩
        · cases hf
      · cases hf
    · cases hf
/-- o.f = e -/
def fldS (T : Tab) (f : Str) (mv mo : MM D) : MS := bindS mv fun v => bindS mo fun o e S => match o with
  | .ref n => match S[n]? with
    | some (.ins c fs) => if T.attr c f = true ∧ fs.length < 1000 then some (.nx, e, S.set n (.ins c (putD f v fs))) else none
    | _ => none
  | _ => none
theorem sm_fld {o e : Expr} {f : Str} {p' : Pos} {mv mo : MM D} (F : Facts g T) (he : PE X e (tE g xa W mv)) (ho : PE X o (tE g xa W mo)) (hK : X.K = g.K := by rfl) (hs : swapsWith e (some (.Attribute o f p')) pos.line X.env = pure false := by rfl) :
    PS X (.Assign [.Attribute o f p'] e pos) (tS g xa W (fldS T f mv mo)) := (ps_fld ho he hs).viaM fun Dd σ H h => by
  obtain ⟨ι, S, e, f', e', S', hs, he, hm, hf⟩ := h
  refine stepS hs he hm hf fun v S1 ι1 H1 vv h1 p1 x1 s1 e1 r1 f1 => ?_
  refine stepS s1 e1 h1 f1 fun o S2 ι2 H2 ov h2 p2 x2 s2 e2 r2 f2 => ?_
  split at h2
  · split at h2
    · rename_i c fs q
      split at h2
      · rename_i hc
        cases h2
        cases r2 with
        | ref qa =>
          obtain ⟨C, dx, gs, h3, h4, h5⟩ := s2.obj _ _ _ qa q
          obtain ⟨k1, k2⟩ := F.attr c f C hc.1 h4
          rw [hK]
          refine ⟨_, C, dx, gs, rfl, h3, k1, k2, by rw [← h5.length]; exact hc.2, ?_⟩
          have xw : Ex H2 (upd H2 _ (.ins C dx (putF f vv gs))) := Ex.wr h3 (fun _ z => by cases z) (fun _ _ _ z => by cases z) fun _ z => by cases z
          obtain ⟨sw, _⟩ := s2.wr (o' := .ins c (putD f v fs)) (q := .ins C dx (putF f vv gs)) qa ⟨C, dx, _, upd_same, h4, (h5.mono (Pre.refl _) xw).put (R.mono (Pre.refl _) xw _ _ (R.mono p2 x2 _ _ r1))⟩ xw
          exact f2 ι2 _ (Pre.refl _) xw sw σ (e2.mono (Pre.refl _) xw)
      · cases h2
    · cases h2
  · cases h2
end

/-! ### own instances made -/
section
variable {X : Cx} {W : WX} {pos : Pos} {k : Nat} {f C : Addr} {fd : FuncData} {ps : List Str} {φ : FnD} {xa : Xa}
theorem guards_make {A : Around} {args : Args} (h : A.guards = some []) : (A.under (.builtin "type.__call__" args)).guards = some [] := by
  have e : pushGuards (Code.builtin "type.__call__" args).guards A.guards = A.guards := by
    first | rfl | simp [Code.guards, Code.isGuard, guardIds, pushGuards]
  exact e.trans h
def makeF (c : Str) (φ : FnD) : FnD := fun ds S => match φ (.ref S.length :: ds) (S ++ [.ins c []]) with
  | some (.ok .non, S') => some (.ok (.ref S.length), S')
  | some (.ex c fs, S') => some (.ex c fs, S')
  | _ => none
theorem run_makeM {x : Str} {pins : List (Addr × Obj)} {σ : L2.St} {H : Hp} {s : Shared} {Q : VK} {us : List Value} {vs : List V} (M : Mk X.K C f) (F : FnG X.prog X.w X.K X.mg X.base k f fd ps φ) (hr : Room (k + 1) X.A) (hG : X.A.guards = some []) (hm : X.mg x = some (.ref C)) (hb : Binds X.K fd ps []) (tk : Takes X W)
    (I : Inv X pins σ H s) (r : Vals vs us) (h : spM (gX X) (makeF x φ) vs H Q (fun cls d H' => W cls d σ H')) : wpAny (model X.prog X.w) X.A (call (.ref C) us) (EP X pins σ Q) X.xe s := by
  obtain ⟨ι, S, ds, re, S', hs, rs, hφ, hf⟩ := h
  have nx : H (s.heap.objs.size + 1) = none := I.hok.fresh (Nat.le_succ _)
  have nd : H s.heap.objs.size = none := I.hok.fresh (Nat.le_refl _)
  have ne : s.heap.objs.size ≠ s.heap.objs.size + 1 := Nat.ne_of_lt (Nat.lt_succ_self _)
  have I2 := Inv.made (C := C) I
  have sD : Sim (gX X) ι S (upd H s.heap.objs.size (.own (s.heap.objs.size + 1))) := hs.tup nd
  have nx2 : upd H s.heap.objs.size (.own (s.heap.objs.size + 1)) (s.heap.objs.size + 1) = none := by rw [upd_ne (Ne.symm ne)]; exact nx
  have xD : Ex H (upd H s.heap.objs.size (.own (s.heap.objs.size + 1))) := Ex.new nd
  have xN := xD.trans (Ex.new (o := .ins C s.heap.objs.size []) nx2)
  have sN : Sim (gX X) (ι ++ [s.heap.objs.size + 1]) (S ++ [.ins x []]) (upd (upd H s.heap.objs.size (.own (s.heap.objs.size + 1))) (s.heap.objs.size + 1) (.ins C s.heap.objs.size [])) :=
    sD.new (Ex.new nx2) (fun n a q => upd_ne (sD.fresh nx2 q)) nx2 ⟨C, _, [], upd_same, hm, .nil⟩
  have aN : (ι ++ [s.heap.objs.size + 1])[S.length]? = some (s.heap.objs.size + 1) := hs.newAt
  have pN := Pre.app ι [s.heap.objs.size + 1]
  have r2 : Vals (V.ref (s.heap.objs.size + 1) :: vs) (Value.ref (s.heap.objs.size + 1) :: us) := .cons rfl r
  unfold makeF at hφ
  have lenA : (Value.ref (s.heap.objs.size + 1) :: us).length = ps.length := by
    rw [← r2.length]
    cases q : φ (.ref S.length :: ds) (S ++ [.ins x []]) with
    | none => rw [q] at hφ; cases hφ
    | some z =>
      have := F.len _ _ _ q
      rw [← this]
      simp [Rs.length rs]
  have bnd := hb ({ s with heap := (s.heap.push PySem.W.emptyDict).push (PySem.W.instObj C s.heap.objs.size) }) (Value.ref (s.heap.objs.size + 1) :: us) I2.kIn (by rw [List.append_nil]; exact lenA)
  rw [List.append_nil] at bnd
  have sp : spM (gX X) φ (V.ref (s.heap.objs.size + 1) :: vs) (upd (upd H s.heap.objs.size (.own (s.heap.objs.size + 1))) (s.heap.objs.size + 1) (.ins C s.heap.objs.size [])) (fun v H2 => v = .non ∧ Q (.ref (s.heap.objs.size + 1)) H2) (fun cls d H' => W cls d σ H') := by
    split at hφ
    · rename_i S2 q
      cases hφ
      refine ⟨_, _, _, _, _, sN, .cons (.ref aN) (Rs.mono pN xN _ _ rs), q, fun ι' H' v p x s r => ?_⟩
      cases r
      exact ⟨rfl, hf ι' H' _ (pN.trans p) (xN.trans x) s (.ref (p _ _ aN))⟩
    · rename_i c fs S2 q
      cases hφ
      exact ⟨_, _, _, _, _, sN, .cons (.ref aN) (Rs.mono pN xN _ _ rs), q, fun ι' H' C' dd gs p x s => hf ι' H' C' dd gs (pN.trans p) (xN.trans x) s⟩
    · cases hφ
  refine wpAny_call (make_map (f := f) I.kIn M.makes M.init (beq_iff_eq.mp M.fn) (codeAny_mono (F.run _ X.stack _ _ ⟨Value.ref (s.heap.objs.size + 1) :: us, []⟩ _ _ _ _ (hr.make C us []) (guards_make hG) (I2.env0.make C us []) bnd r2 sp) fun res s' hq => ?_))
  cases res with
  | error e => exact passM tk I2 (fun _ _ _ z => z) hq
  | ok fl => cases fl with
    | ret u =>
      obtain ⟨v, H', I3, rv, ev, q3⟩ := I2.after hq
      subst ev
      exact ⟨rv, ⟨V.ref (s.heap.objs.size + 1), H', I3, rfl, q3⟩⟩
    | next => exact False.elim hq
    | brk => exact False.elim hq
    | cont => exact False.elim hq
theorem em_make {x : Str} {p : Pos} {e : Expr} {es : List Expr} {m : MM (List D)} (M : Mk X.K C f) (F : FnG X.prog X.w X.K X.mg X.base k f fd ps φ) (hr : Room (k + 1) X.A) (hG : X.A.guards = some []) (tk : Takes X W) (hm : X.mg x = some (.ref C)) (hb : Binds X.K fd ps [])
    (ha : PA X (e :: es) (tA (gX X) xa W m)) (hg : Gl X x := by rfl) (hdb : (x == ("__debug__" : Str)) = false := by decide) (he : starEach (e :: es) X.env = (false, eval e X.env) :: starEach es X.env := by rfl) (hpl : (backTo pos (starEach es X.env)).any (·.1) = false := by rfl) :
    PE X (.Call (.Name x p) (e :: es) [] pos) (tE (gX X) xa W (mCall (makeF x φ) m)) := by
  refine ⟨fun pins s σ H Q I h => wpAny_Call_Name_kw (ld_glob I hg hm ?_ hdb)⟩
  refine PySem.W.callWith_K (h₀ := X.base) I.ok.mod.kin M.kp (thn (ha.run pos pins s σ H _ I (call_step h)) fun us s1 ⟨vs, H1, I1, r, q⟩ => ⟨I1.kIn, ?_⟩) he hpl
  exact run_makeM M F hr hG hm hb tk I1 r q
/-- o.m(e, ..), the class of o is named c -/
def mMth (c m : Str) (φ : FnD) (mo : MM D) (ma : MM (List D)) : MM D := bindM mo fun o e S => match o with
  | .ref n => match S[n]? with
    | some (.ins c' fs) => if c' = c ∧ fs.lookup m = none then bindM ma (fun ds _ S => φ (.ref n :: ds) S) e S else none
    | _ => none
  | _ => none
theorem em_meth {c m : Str} {o e : Expr} {es : List Expr} {apos : Pos} {mo : MM D} {ma : MM (List D)} {pl : Sem Bool} (he : PE X o (tE (gX X) xa W mo)) (cl : Cls X.K C) (hm : Meth X.K C m f) (hC : X.mg c = some (.ref C)) (F : FnG X.prog X.w X.K X.mg X.base k f fd ps φ) (hr : Room k X.A) (hG : X.A.guards = some []) (tk : Takes X W) (hb : Binds X.K fd ps []) (ha : PA X (e :: es) (tA (gX X) xa W ma))
    (hst : starEach (e :: es) X.env = (false, eval e X.env) :: starEach es X.env := by rfl) (hpl : (backTo pos (starEach es X.env)).any (·.1) = false := by rfl)
    (ht : eval (.Call (.Attribute o m apos) (e :: es) [] pos) X.env = (do
      let ov ← eval o X.env
      standAt apos.atName
      let (f, first) ← holding [ov] (getMethod ov m pl)
      callWith pos f first (backTo pos (starEach (e :: es) X.env)) (backToKw pos (keywordEach [] X.env))) := by rfl) :
    PE X (.Call (.Attribute o m apos) (e :: es) [] pos) (tE (gX X) xa W (mMth c m φ mo ma)) := by
  refine ⟨fun pins s σ H Q I h => ?_⟩
  obtain ⟨ι, S, ev, r, S', hs, hev, hmm, hf⟩ := h
  refine PySem.W.methodCall_KW (pl := pl) (thn (he.run pins s σ H (fun v H1 => ∃ a dx fs, v = .ref a ∧ H1 a = some (.ins C dx fs) ∧ fs.lookup m = none ∧ tA (gX X) xa W ma σ H1 fun vs H2 => spM (gX X) φ (.ref a :: vs) H2 Q (fun cls d H' => W cls d σ H')) I (stepG hs hev hmm hf fun d S1 ι1 H1 v h1 p1 x1 s1 e1 r1 f1 => ?_)) fun u s1 hu => ?_) ht
  · split at h1
    · rename_i n
      split at h1
      · rename_i c' fs q
        split at h1
        · rename_i hcc
          obtain ⟨hc1, hl⟩ := hcc
          subst hc1
          cases r1 with
          | ref qa =>
            obtain ⟨C', dx, gs, h3, h4, h5⟩ := s1.obj _ _ _ qa q
            have eC : C' = C := by
              have z : X.mg c' = some (.ref C') := h4
              rw [hC] at z
              cases z
              rfl
            subst eC
            refine ⟨_, dx, gs, rfl, h3, h5.look_none hl, ?_⟩
            refine stepG s1 e1 h1 f1 fun ds S2 ι2 H2 vs h6 p2 x2 s2 e2 r2 f2 => ?_
            refine ⟨ι2, S2, _, r, S', s2, .cons (.ref (p2 _ _ qa)) r2, h6, ?_⟩
            cases r with
            | ok d => exact f2
            | ex c fs => exact fun ι' H' C dd gs p x s h1 h2 h3 => f2 ι' H' C dd gs p x s h1 h2 h3
        · cases h1
      · cases h1
    · cases h1
  · obtain ⟨v, H1, I1, rx, a, dx, fs, rfl, ea, l, q⟩ := hu
    obtain rfl : u = Value.ref a := rx
    refine getmeth_ok I1 ea cl hm l ?_
    refine PySem.W.callWith_K (first := [.ref a]) (h₀ := X.base) I.ok.mod.kin hm.kp (thn (ha.run pos pins s1 σ H1 _ I1 q) fun us s2 ⟨vs, H2, I2, r, q2⟩ => ⟨I2.kIn, ?_⟩) hst hpl
    exact run_fng (us := .ref a :: us) (vs := .ref a :: vs) F hr hG hb tk I2 (.cons rfl r) q2
end
end DD

set_option Elab.async false
set_option linter.all false
set_option maxRecDepth 100000
set_option maxHeartbeats 2000000
namespace DD
open PySem PySem.Spec PyProof.Rows L2 PySem.HandSPX PySem.W
section
variable {M : Model} {prog : Program} {w : World} {A : Around} {E : Value → Shared → Prop} {R : Result → Shared → Prop} {h : Heap} {g : Array GenState} {d : Drawn} {t : Nat} {os : OsState}
variable {nm q : Str} {C N : Addr} {bs bm bmB : List Value} {hdct : Bool} {sn : List Str} {sub : List Value} {ab : Bool} {col : Option Bool} {dd : Option Addr} {k0 k1 k2 k3 k5 : Option Value} {B newId initId : String} {kw : List (Str × Value)} {rest : List Value}

theorem kchk_new (F : ExcBaseFacts B newId initId bmB) (hT : ∀ X : String, bm.contains (.type X) = bmB.contains (.type X)) {Q : Unit → Shared → Prop}
    (hC : h.get? C = some (excClassObj nm q C N bs bm hdct sn sub ab col dd k0 k1 k2 k3 k5 newId)) (hq : Q () ⟨h, g, d, t, os⟩) : wpAny M A
      (checkBuiltinCall newId ⟨.ref C :: rest, kw⟩) Q E ⟨h, g, d, t, os⟩ := by
  have isB : (Value.ref C :: bm).contains (.type B) = true := by
    rw [List.contains_cons, hT, F.hasB, Bool.or_true]
  have noS := F.noStar
  simp only [checkBuiltinCall, F.newKind, F.newSplit, F.newRow]
  repeat (first
    | refine wpAny_loadPart_at hC ?_
    | (refine wpAny_isSubtype_exc hC ?_; rw [isB])
    | refine wpAny_staticBase_exc hC ?_
    | refine wpAny_madeBy_exc hC ?_
    | simp only [bne_self_eq_false, Bool.false_eq_true, if_false]
    | wp_step)
  exact hq
theorem kchk_call {Q : Unit → Shared → Prop} (hC : h.get? C = some (excClassObj nm q C N bs bm hdct sn sub ab col dd k0 k1 k2 k3 k5 newId))
    (hq : Q () ⟨h, g, d, t, os⟩) : wpAny M A
      (checkBuiltinCall "type.__call__" ⟨.ref C :: rest, kw⟩) Q E ⟨h, g, d, t, os⟩ := by
  have f3 := tc_sub
  have isT : (⟨h, g, d, t, os⟩ : Shared).TypeIs (.ref C) "type" := ⟨_, hC, rfl⟩
  simp only [checkBuiltinCall, tc_kind, tc_split]
  repeat (any_goals (first
    | assumption
    | with_reducible refine wpAny_loadPart_at hC ?_
    | with_reducible refine wpAny_onRaise ?_
    | with_reducible refine wpAny_map ?_
    | wp_step))
theorem knew (F : ExcBaseFacts B newId initId bmB) (hT : ∀ X : String, bm.contains (.type X) = bmB.contains (.type X))
    (hC : h.get? C = some (excClassObj nm q C N bs bm hdct sn sub ab col dd k0 k1 k2 k3 k5 newId))
    (hq : R (.ok (.ret (.ref (h.objs.size + 1)))) ⟨(h.push (kdv_tup rest)).push (excO C h.objs.size), g, d, t, os⟩) (hrest : rest.length ≤ sizeLine) :
    codeAny (model prog w) A
      (.builtin newId ⟨.ref C :: rest, kw⟩) R ⟨h, g, d, t, os⟩ := by
  have ends := F.ends
  have isB : (Value.ref C :: bm).contains (.type B) = true := by
    rw [List.contains_cons, hT, F.hasB, Bool.or_true]
  have isA : (Value.ref C :: bm).contains (.type "AttributeError") = false := by
    rw [List.contains_cons, hT, F.noAttr]; rfl
  have isN : (Value.ref C :: bm).contains (.type "NameError") = false := by
    rw [List.contains_cons, hT, F.noName]; rfl
  refine codeAny_builtinAt F.entry ?_
  unfold Builtin.«BaseException.__new__»
  refine PySem.wpAt_bind ?_
  show PySem.wpAt _ _ _ (stack >>= _) _ _ _
  refine PySem.wpAt_bind (PySem.wpAt_stack fun p below => PySem.wpAt_of_wpAny ?_)
  wp_walk
  refine PySem.wpAt_of_wpAny ?_
  rw [F.owner]
  repeat (first
    | with_reducible refine wpAny_madeHere_exc F.canon hC ?_
    | with_reducible refine wpAny_loadPart_at hC ?_
    | (with_reducible refine wpAny_isSubtype_exc hC ?_; first | rw [isB] | rw [isA] | rw [isN])
    | wp_step)
  show R _ _
  rw [Heap.size_push]
  exact hq
theorem ktype_call (F : ExcBaseFacts B newId initId bmB) (hT : ∀ X : String, bm.contains (.type X) = bmB.contains (.type X)) {fI : Addr} {Q : Fin → Shared → Prop}
    (hC : h.get? C = some (excClassObj nm q C N bs bm hdct sn sub ab col dd k0 k1 k2 k3 k5 newId))
    (hi : W.Looks (model prog w) h (typeLookup (.ref C) "__init__") (some (.ref fI)))
    (hb : ∀ self, W.Looks (model prog w) h (bindSpecial (.ref fI) self) (.ref fI, [self])) (hrest : rest.length ≤ sizeLine)
    (hq : codeAny (model prog w) A (.call (.ref fI) ⟨.ref (h.objs.size + 1) :: rest, kw⟩)
      (fun r s' => match r with | .ok (.ret v) => v = .none ∧ Q (.done (.ret (.ref (h.objs.size + 1)))) s' | .ok _ => False | .error e => E e s')
      ⟨(h.push (kdv_tup rest)).push (excO C h.objs.size), g, d, t, os⟩) :
    wpAny (model prog w) A
      (Builtin.«type.__call__» ⟨.ref C :: rest, kw⟩) Q E ⟨h, g, d, t, os⟩ := by
  repeat (first
    | with_reducible refine wpAny_loadPart_at hC ?_
    | with_reducible refine wpAny_madeBy_exc hC ?_
    | wp_step)
  refine codeAny_call_builtin_code (Code.quiet_builtin _ F.quiet) (kchk_new F hT hC ?_)
  refine knew F hT hC ?_ hrest
  show wpAny _ _ _ _ _ _
  have up : ∀ b o, h.get? b = some o → ((h.push (kdv_tup rest)).push (excO C h.objs.size)).get? b = some o := fun b o e =>
    Heap.get?_push_of_some _ (Heap.get?_push_of_some _ e)
  have hC₁ := up _ _ hC
  have here : ((h.push (kdv_tup rest)).push (excO C h.objs.size)).get? (h.objs.size + 1) = some (excO C h.objs.size) := by heap_get
  have isC : (Value.ref C :: bm).contains (.ref C) = true := by simp
  have i1 := hi.keeps up
  have b1 := (hb (.ref (h.objs.size + 1))).keeps up
  unfold isInstance
  repeat (first
    | with_reducible refine wpAny_loadPart_at here ?_
    | (with_reducible refine wpAny_isSubtype_exc hC₁ ?_; rw [isC])
    | wp_step)
  show wpAny _ _ (typeLookup (.ref C) _) _ _ _
  refine i1.at ?_
  refine wpAny_holding (wpAny_bind (b1.at ?_))
  refine wpAny_bind (wpAny_call (codeAny_mono hq fun r s' z => ?_))
  rcases r with e | (v | _ | _ | _) <;> first | exact z | exact z.elim | skip
  obtain ⟨rfl, z⟩ := z
  first
    | exact wpAny_pure (wpAny_pure z)
    | (wp_walk; exact z)
theorem kcall_own (F : ExcBaseFacts B newId initId bmB) (hT : ∀ X : String, bm.contains (.type X) = bmB.contains (.type X)) {fI : Addr}
    (hC : h.get? C = some (excClassObj nm q C N bs bm hdct sn sub ab col dd k0 k1 k2 k3 k5 newId))
    (hi : W.Looks (model prog w) h (typeLookup (.ref C) "__init__") (some (.ref fI)))
    (hb : ∀ self, W.Looks (model prog w) h (bindSpecial (.ref fI) self) (.ref fI, [self])) (hrest : rest.length ≤ sizeLine)
    (hq : codeAny (model prog w) (A.under (.builtin "type.__call__" ⟨.ref C :: rest, kw⟩)) (.call (.ref fI) ⟨.ref (h.objs.size + 1) :: rest, kw⟩) (W.InitBack (h.objs.size + 1) R)
      ⟨(h.push (kdv_tup rest)).push (excO C h.objs.size), g, d, t, os⟩) :
    codeAny (model prog w) A
      (.call (.ref C) ⟨rest, kw⟩) R ⟨h, g, d, t, os⟩ := by
  have f1 := tc_lookup
  have f2 := tc_bind (.ref C)
  have isT : (⟨h, g, d, t, os⟩ : Shared).TypeIs (.ref C) "type" := ⟨_, hC, rfl⟩
  refine codeAny_of_tree ?_
  show wpAny _ _ (callAny (.ref C) _) _ _ _
  repeat (any_goals (first
    | assumption
    | with_reducible refine wpAny_loadPart_at hC ?_
    | wp_step))
  refine ⟨rfl, ?_⟩
  refine codeAny_call_builtin_at (Code.quiet_builtin _ (by decide +kernel)) entry_typeCall (kchk_call hC (ktype_call F hT hC hi hb hrest ?_))
  refine codeAny_mono hq fun r s' z => ?_
  rcases r with e | (v | _ | _ | _) <;> exact z
end
end DD

set_option Elab.async false
set_option linter.all false
set_option maxRecDepth 100000
namespace DD
open PySem PySem.Spec PyProof.Rows L2
/-! ### errors of own classes: made, kept as values, read -/
def stk {α : Type} : List Str → List α → List (Str × α) → List (Str × α)
  | f :: fs, v :: vs, acc => stk fs vs ((f, v) :: acc)
  | _, _, acc => acc
theorem Fs.stk {g : G} {ι : List Addr} {H : Hp} : ∀ (fs : List Str) {ds : List D} {vs : List V} {a : List (Str × D)} {b : List (Str × V)}, Rs g ι H ds vs → Fs g ι H a b → Fs g ι H (DD.stk fs ds a) (DD.stk fs vs b)
  | [], _, _, _, _, r, h => by cases r <;> exact h
  | f :: fs, _, _, _, _, r, h => by
    cases r with
    | nil => exact h
    | cons r1 r2 => exact Fs.stk fs r2 (.cons r1 h)
/-- what the __init__ of an own error class does: it keeps its arguments in the fields fns -/
def spX (K : PySem.W.Frag) (C : Addr) (fns : List Str) : Sp := fun vs H Q _ => ∃ (a : Addr) (ys : List V), vs = .ref a :: ys ∧ ys.length = fns.length ∧ H a = some (exo a C none) ∧
  ∀ d, H d = none → d ≠ a → Q .non (upd (upd H d (L2.exd d (stk fns ys []))) a (exo a C (some d)))
/-- an own error class -/
structure XI (P : Program) (w : World) (K : PySem.W.Frag) (mg : Str → Option Value) (base : Heap) (k : Nat) (C : Addr) (fns : List Str) (fI : Addr) (fd : FuncData) : Prop where
  T : OexC K C
  iC : PySem.W.findIn K (.ref C) "__init__" = some (some (.ref fI))
  tI : PySem.W.typeIn K (.ref fI) = some (.type "function")
  F : FnOk P w K mg base CX0 k fI fd (("self" : Str) :: fns) (spX K C fns)
section
variable {P : Program} {w : World} {K : PySem.W.Frag} {mg : Str → Option Value} {base : Heap}
theorem xi1 {f qual : Str} {st : Stmt} {C fI : Addr} {fd : FuncData} {p1 p2 p3 p4 : Pos} (F : Fun K "__init__" qual st fI fd) (Sc : FnScope ["self", f] ["self", f] (defScope st)) (hb : defBody st = [.Assign [.Attribute (.Name "self" p1) f p2] (.Name f p3) p4])
    (T : OexC K C) (hno : PySem.W.findIn K (.ref C) f = some none) (hv : Vis (defScope st) "self") (hv2 : Vis (defScope st) f) (hd : (f == ("__debug__" : Str)) = false) (hcd : (f == ("__classdict__" : Str)) = false) : FnOk P w K mg base CX0 1 fI fd ["self", f] (spX K C [f]) := by
  refine F.ok (k := 0) Sc (fun vs H Q E h => ?_) fun cdv A outer s H vs Q E hr h => ?_
  · obtain ⟨a, ys, rfl, hl, _⟩ := h
    simp at hl ⊢
    exact hl
  · obtain ⟨a, ys, rfl, hl, e, q⟩ := h
    obtain ⟨y, rfl⟩ : ∃ y, ys = [y] := by
      cases ys with
      | nil => cases hl
      | cons y r => cases r with
        | nil => exact ⟨y, rfl⟩
        | cons _ _ => cases hl
    rw [hb]
    refine ⟨_, pss_one (ps_ost (pe_var (i := 0) rfl hv) (pe_var (i := 1) rfl hv2 hd hcd)), ?_⟩
    exact ⟨y, rfl, .ref a, rfl, a, C, rfl, T, hno, .inl ⟨e, fun dx n ne => q dx n ne⟩⟩
theorem xi2 {f g qual : Str} {st : Stmt} {C fI : Addr} {fd : FuncData} {p1 p2 p3 p4 q1 q2 q3 q4 : Pos} (F : Fun K "__init__" qual st fI fd) (Sc : FnScope ["self", f, g] ["self", f, g] (defScope st)) (hb : defBody st = [.Assign [.Attribute (.Name "self" p1) f p2] (.Name f p3) p4, .Assign [.Attribute (.Name "self" q1) g q2] (.Name g q3) q4])
    (T : OexC K C) (hno : PySem.W.findIn K (.ref C) f = some none) (hno2 : PySem.W.findIn K (.ref C) g = some none) (hv : Vis (defScope st) "self") (hv2 : Vis (defScope st) f) (hv3 : Vis (defScope st) g) (hd : (f == ("__debug__" : Str)) = false) (hcd : (f == ("__classdict__" : Str)) = false) (hd2 : (g == ("__debug__" : Str)) = false) (hcd2 : (g == ("__classdict__" : Str)) = false) :
    FnOk P w K mg base CX0 1 fI fd ["self", f, g] (spX K C [f, g]) := by
  refine F.ok (k := 0) Sc (fun vs H Q E h => ?_) fun cdv A outer s H vs Q E hr h => ?_
  · obtain ⟨a, ys, rfl, hl, _⟩ := h
    simp at hl ⊢
    exact hl
  · obtain ⟨a, ys, rfl, hl, e, q⟩ := h
    obtain ⟨y, z, rfl⟩ : ∃ y z, ys = [y, z] := by
      cases ys with
      | nil => cases hl
      | cons y r => cases r with
        | nil => cases hl
        | cons z r => cases r with
          | nil => exact ⟨y, z, rfl⟩
          | cons _ _ => cases hl
    rw [hb]
    refine ⟨_, pss_cons (ps_ost (pe_var (i := 0) rfl hv) (pe_var (i := 1) rfl hv2 hd hcd)) (pss_one (ps_ost (pe_var (i := 0) rfl hv) (pe_var (i := 2) rfl hv3 hd2 hcd2))), ?_⟩
    refine ⟨y, rfl, .ref a, rfl, a, C, rfl, T, hno, .inl ⟨e, fun dx n ne => ?_⟩⟩
    refine ⟨z, rfl, .ref a, rfl, a, C, rfl, T, hno2, .inr ⟨dx, [(f, y)], upd_same, by rw [upd_ne ne]; exact upd_same, by simp, ?_⟩⟩
    have e2 : upd (upd (upd H dx (L2.exd dx [(f, y)])) a (exo a C (some dx))) dx (L2.exd dx ((g, z) :: [(f, y)])) = upd (upd H dx (L2.exd dx (stk [f, g] [y, z] []))) a (exo a C (some dx)) := by
      funext b
      by_cases hb1 : b = dx
      · subst hb1
        rw [upd_same, upd_ne ne, upd_same]
        rfl
      · by_cases hb2 : b = a
        · subst hb2
          rw [upd_ne hb1, upd_same, upd_same]
        · rw [upd_ne hb1, upd_ne hb2, upd_ne hb1, upd_ne hb2, upd_ne hb1]
    rw [e2]
    exact q dx n ne
end
section
variable {X : Cx} {W : WX} {pos : Pos} {k : Nat} {C fI : Addr} {fd : FuncData} {fns : List Str} {xa : Xa}
def xmkF (c : Str) (fns : List Str) : FnD := fun ds S => if ds.length = fns.length then some (.ok (.ref S.length), S ++ [.exi c (stk fns ds [])]) else none
theorem run_xmk {x : Str} {pins : List (Addr × Obj)} {σ : L2.St} {H : Hp} {s : Shared} {Q : VK} {us rest : List Value} {kw : List (Str × Value)} {vs : List V} (M : XI X.prog X.w X.K X.mg X.base k C fns fI fd) (hr : Room (k + 1) X.A) (hm : X.mg x = some (.ref C)) (tk : Takes X W)
    (hb : ∀ (s : Shared) (v : Value), X.K.In s.heap → us.length = fns.length → BindsTo s fd ⟨v :: rest, kw⟩ ((("self" : Str) :: fns).zip (v :: us))) (hrl : rest.length ≤ sizeLine)
    (I : Inv X pins σ H s) (r : Vals vs us) (h : spM (gX X) (xmkF x fns) vs H Q (fun cls d H' => W cls d σ H')) : wpAny (model X.prog X.w) X.A (call (.ref C) rest kw) (EP X pins σ Q) X.xe s := by
  obtain ⟨ι, S, ds, re, S', hs, rs, hφ, hf⟩ := h
  unfold xmkF at hφ
  split at hφ
  case isFalse => cases hφ
  rename_i hl
  cases hφ
  obtain ⟨nm, q, N, bs, bm, sn, sub, ab, col, dd, k0, k1, k2, k3, k5, hC, hbm⟩ := M.T.cls
  obtain ⟨hp, g, dr, tk', os⟩ := s
  have hsz : hp.objs.size ≤ hp.objs.size + 1 := Nat.le_succ _
  have hn : H (hp.objs.size + 1) = none := I.hok.fresh hsz
  have kk : ∀ b o, hp.get? b = some o → ((hp.push (PySem.W.kdv_tup rest)).push (PySem.HandSPX.excO C hp.objs.size)).get? b = some o := fun b o e => Heap.get?_push_of_some _ (Heap.get?_push_of_some _ e)
  have hget : ((hp.push (PySem.W.kdv_tup rest)).push (PySem.HandSPX.excO C hp.objs.size)).get? (hp.objs.size + 1) = some (PySem.HandSPX.excO C hp.objs.size) := by heap_get
  have I2 : Inv X pins σ (upd H (hp.objs.size + 1) (exo (hp.objs.size + 1) C none)) ⟨(hp.push (PySem.W.kdv_tup rest)).push (PySem.HandSPX.excO C hp.objs.size), g, dr, tk', os⟩ :=
    I.laid (t' := tk') (a := hp.objs.size + 1) (o := exo (hp.objs.size + 1) C none) (h' := (hp.push (PySem.W.kdv_tup rest)).push (PySem.HandSPX.excO C hp.objs.size)) kk hsz (exo_ok hget)
  have r2 : Vals (V.ref (hp.objs.size + 1) :: vs) (Value.ref (hp.objs.size + 1) :: us) := .cons rfl r
  have lv : vs.length = fns.length := by rw [← Rs.length rs, hl]
  have sp : spX X.K C fns (V.ref (hp.objs.size + 1) :: vs) (upd H (hp.objs.size + 1) (exo (hp.objs.size + 1) C none)) (fun v H2 => v = .non ∧ Q (.ref (hp.objs.size + 1)) H2) (fun _ _ _ => False) := by
    refine ⟨_, vs, rfl, lv, upd_same, fun d nd ne => ⟨rfl, ?_⟩⟩
    have nd0 : H d = none := by rw [upd_ne ne] at nd; exact nd
    have same : ∀ b, b ≠ d → b ≠ hp.objs.size + 1 → (upd (upd (upd H (hp.objs.size + 1) (exo (hp.objs.size + 1) C none)) d (L2.exd d (stk fns vs []))) (hp.objs.size + 1) (exo (hp.objs.size + 1) C (some d))) b = H b := fun b h1 h2 => by rw [upd_ne h2, upd_ne h1, upd_ne h2]
    have ex : Ex H (upd (upd (upd H (hp.objs.size + 1) (exo (hp.objs.size + 1) C none)) d (L2.exd d (stk fns vs []))) (hp.objs.size + 1) (exo (hp.objs.size + 1) C (some d))) :=
      ⟨fun b x e => by rw [same b (ne_of_none e nd0) (ne_of_none e hn)]; exact e, fun b u x _ e => by rw [same b (ne_of_none e nd0) (ne_of_none e hn)]; exact e, fun b x e => by rw [same b (ne_of_none e nd0) (ne_of_none e hn)]; exact e, fun b x e => by rw [same b (ne_of_none e nd0) (ne_of_none e hn)]; exact e⟩
    refine hf (ι ++ [hp.objs.size + 1]) _ _ (Pre.app ι _) ex (hs.new ex (fun n a e => ?_) hn ⟨C, d, _, upd_same, by rw [upd_ne ne]; exact upd_same, hm, ?_⟩) (.ref hs.newAt)
    · exact same a (hs.fresh nd0 e) (hs.fresh hn e)
    · exact Fs.stk fns (Rs.mono (Pre.app ι _) ex _ _ rs) .nil
  have ul : us.length = fns.length := by rw [← r.length, lv]
  have bnd := hb ⟨(hp.push (PySem.W.kdv_tup rest)).push (PySem.HandSPX.excO C hp.objs.size), g, dr, tk', os⟩ (.ref (hp.objs.size + 1)) I2.kIn ul
  refine wpAny_call (kcall_own F.excBase_ValueError (fun Y => PySem.HandSPX.refsVE_contains Y bm hbm) (I.kIn _ _ hC) (PySem.W.looks_findIn I.kIn M.iC) (fun self => PySem.W.bind_fn I.kIn self M.tI) hrl
    (codeAny_mono (M.F.run _ X.stack _ _ ⟨Value.ref (hp.objs.size + 1) :: rest, kw⟩ (Value.ref (hp.objs.size + 1) :: us) _ _ (fun _ _ _ => False) (hr.make C rest kw) (I2.env0.make C rest kw) bnd r2 sp) fun res s' hq => ?_))
  cases res with
  | error e => exact False.elim hq
  | ok fl => cases fl with
    | ret u =>
      obtain ⟨v, H', I3, rv, ev, q3⟩ := I2.after hq
      subst ev
      exact ⟨rv, ⟨V.ref (hp.objs.size + 1), H', I3, rfl, q3⟩⟩
    | next => exact False.elim hq
    | brk => exact False.elim hq
    | cont => exact False.elim hq
theorem em_xmk {x : Str} {p : Pos} {e : Expr} {es : List Expr} {m : MM (List D)} (M : XI X.prog X.w X.K X.mg X.base k C fns fI fd) (hr : Room (k + 1) X.A) (tk : Takes X W) (hm : X.mg x = some (.ref C)) (hb : Binds X.K fd (("self" : Str) :: fns) [])
    (ha : PA X (e :: es) (tA (gX X) xa W m)) (hlen : fns.length ≤ sizeLine := by decide +kernel) (hg : Gl X x := by rfl) (hdb : (x == ("__debug__" : Str)) = false := by decide) (he : starEach (e :: es) X.env = (false, eval e X.env) :: starEach es X.env := by rfl) (hpl : (backTo pos (starEach es X.env)).any (·.1) = false := by rfl) :
    PE X (.Call (.Name x p) (e :: es) [] pos) (tE (gX X) xa W (mCall (xmkF x fns) m)) := by
  refine ⟨fun pins s σ H Q I h => wpAny_Call_Name_kw (ld_glob I hg hm ?_ hdb)⟩
  refine PySem.W.callWith_K (h₀ := X.base) I.ok.mod.kin M.T.kC (thn (ha.run pos pins s σ H _ I (call_step h)) fun us s1 ⟨vs, H1, I1, r, q⟩ => ⟨I1.kIn, ?_⟩) he hpl
  have ul : us.length = fns.length := by
    obtain ⟨ι, S, ds, r', S', hs, rs, hφ, hf⟩ := id q
    unfold xmkF at hφ
    split at hφ
    · rename_i hl; rw [← r.length, ← Rs.length rs, hl]
    · cases hφ
  refine run_xmk M hr hm tk (rest := us) (fun s v hk hl => ?_) (by omega) I1 r q
  have b := hb s (v :: us) hk (by simpa using hl)
  rwa [List.append_nil] at b
/-- C(k = e, ..), the names in the fields' order -/
theorem em_xmkK {x : Str} {p : Pos} {kws : List Keyword} {m : MM (List D)} (M : XI X.prog X.w X.K X.mg X.base k C fns fI fd) (hr : Room (k + 1) X.A) (tk : Takes X W) (hm : X.mg x = some (.ref C))
    (hb : ∀ (s : Shared) (v : Value) (us : List Value), us.length = fns.length → BindsTo s fd ⟨[v], fns.zip us⟩ ((("self" : Str) :: fns).zip (v :: us)))
    (hkw : PK X kws (tA (gX X) xa W m)) (hg : Gl X x := by rfl) (hall : (backToKw pos (keywordEach kws X.env)).all (·.1.isSome) = true := by rfl) (hks : (backToKw pos (keywordEach kws X.env)).filterMap (·.1) = fns := by rfl) (hdb : (x == ("__debug__" : Str)) = false := by decide)
    (hpl : ((backTo pos (starEach [] X.env)).any (·.1) || (backToKw pos (keywordEach kws X.env)).any (·.1.isNone)) = false := by rfl) :
    PE X (.Call (.Name x p) [] kws pos) (tE (gX X) xa W (mCall (xmkF x fns) m)) := by
  refine ⟨fun pins s σ H Q I h => wpAny_Call_Name_kw (ld_glob I hg hm ?_ hdb)⟩
  refine PySem.W.callWith_KW0 (h₀ := X.base) I.ok.mod.kin M.T.kC hall ?_ hpl
  refine thn (hkw.run pos pins s σ H _ I (call_step h)) fun us s1 ⟨vs, H1, I1, r, q⟩ => ⟨I1.kIn, ?_⟩
  rw [hks]
  exact run_xmk (rest := []) M hr hm tk (fun s v hk hl => hb s v us hl) (Nat.zero_le _) I1 r q
theorem km_nil : PK X [] (tA (gX X) xa W mNil) := ⟨fun pos pins s σ H Q I h => pk_nil.run pos pins s σ H Q I (by
  obtain ⟨ι, S, e, r, S', hs, he, hm, hf⟩ := h
  cases hm
  exact hf ι H [] (Pre.refl ι) (Ex.refl H) hs .nil)⟩
theorem km_cons {nm : Option Str} {kpos : Pos} {e : Expr} {es : List Keyword} {m : MM D} {k : MM (List D)} (h : PE X e (tE (gX X) xa W m)) (hr : PK X es (tA (gX X) xa W k)) : PK X (⟨nm, e, kpos⟩ :: es) (tA (gX X) xa W (mCons m k)) := ⟨fun pos pins s σ H Q I h' => (pk_cons h hr).run pos pins s σ H Q I (by
  obtain ⟨ι, S, e, r, S', hs, he, hm, hf⟩ := h'
  refine stepG hs he hm hf fun d S1 ι1 H1 v h1 p1 x1 s1 e1 r1 f1 => ?_
  refine stepG s1 e1 h1 f1 fun ds S2 ι2 H2 vs h2 p2 x2 s2 e2 r2 f2 => ?_
  cases h2
  exact f2 ι2 H2 (v :: vs) (Pre.refl ι2) (Ex.refl H2) s2 (.cons (R.mono p2 x2 _ _ r1) r2))⟩
end
/-! ### what is asked of an error that is held -/
section
variable {X : Cx} {g : G} {xa : Xa} {W : WX} {pos : Pos} {ι : List Addr} {H : Hp} {T : Tab}
theorem exi_inst {pins : List (Addr × Obj)} {σ : L2.St} {s : Shared} {a C d : Addr} {gs : List (Str × V)} (I : Inv X pins σ H s) (e : H a = some (exo a C (some d))) (ed : H d = some (L2.exd d gs)) :
    ∃ (oe : Obj) (od : Obj), PySem.W.InstAt s.heap a oe C (some od) ∧ ∀ f, ∃ u, PySem.W.lookIn f od = some u ∧ RelO (gs.lookup f) u := by
  obtain ⟨t1, ho⟩ := exo_at I.hok e
  obtain ⟨mA, hns, hr⟩ := exd_at I.hok ed
  obtain ⟨od, h1, hl⟩ := lookIn_ns hns
  exact ⟨_, od, ⟨ho, rfl, rfl, h1⟩, fun f => ⟨mA f, by rw [hl], hr f⟩⟩
def rIsiX (K : PySem.W.Frag) : List V → Hp → VK → Prop := fun xs H Q => ∃ (a C d : Addr) (gs : List (Str × V)) (c : V) (cv : Value) (b : Bool), xs = [.ref a, c] ∧ H a = some (exo a C (some d)) ∧ H d = some (L2.exd d gs) ∧ ExcC K C ∧ ClsV c cv ∧ PySem.W.kitOne K (.ref C) cv = some b ∧ Q (.bl b) H
theorem call_isiX (hK : X.K = g.K) : CallR X (.builtin "isinstance") (rIsiX g.K) := by
  rw [← hK]
  intro pins s σ H xs us Q I r h
  obtain ⟨a, C, d, gs, c, cv, b, rfl, ea, ed, E, hc, e, q⟩ := h
  cases r with
  | cons rx rr =>
    cases rr with
    | cons rt rr =>
      cases rr
      cases rx
      obtain ⟨oe, od, J, _⟩ := exi_inst I ea ed
      have ec := ClsV.eq hc rt
      subst ec
      have hcl : (PySem.W.clsIn X.K C).isSome = true := by
        obtain ⟨cd, hc, _⟩ := PySem.W.any_some E.hd
        rw [hc]; rfl
      exact PySem.W.kia_one (PySem.W.kitx_exc hcl E.hg E.hk E.hs E.ha E.hn E.ht E.hm) I.kIn J e (fun z => nomatch z) fun tk => ⟨.bl b, H, I.kept (t' := tk) fun _ _ z => z, rfl, q⟩
theorem f_isiA (F : Facts g T) (nm : Named g T) {f' : FA} (hf' : f' = fun ds S => match ds with
    | [.ref n, c] => match S[n]? with
      | some (.exi cn _) => match clsN c with
        | some nn => if T.exc cn = true then (T.kit (.inr cn) nn).map fun b => (.bl b, S) else none
        | none => none
      | _ => fIsi T ds S
    | _ => fIsi T ds S) : OpA g (fun xs H Q => rIsiX g.K xs H Q ∨ rIsi g.K xs H Q ∨ rIsiP g.K xs H Q ∨ rIsiK g.K xs H Q) f' := fun ι S S' H a d x Q s r hf hd => by
  subst hf'
  dsimp only at hf
  split at hf
  · rename_i n c
    split at hf
    · rename_i cn fs e
      split at hf
      · rename_i nn en
        split at hf
        · rename_i hx
          cases hk : T.kit (.inr cn) nn with
          | none => rw [hk] at hf; cases hf
          | some b =>
            rw [hk] at hf
            cases hf
            cases r with
            | cons r1 r =>
              cases r with
              | cons r2 r =>
                cases r
                cases r1 with
                | ref q =>
                  obtain ⟨C, dd, gs, h1, h2, h3, h4⟩ := s.obj _ _ _ q e
                  obtain ⟨cv, h5, h6⟩ := cls_R r2 en (nm _ _ b hk)
                  exact .inl ⟨_, C, dd, gs, _, cv, b, rfl, h1, h2, F.exc cn C hx h3, h6, F.kit _ _ b _ cv hk ⟨C, h3, rfl⟩ h5, hd.here s (.bl _)⟩
        · cases hf
      · cases hf
    · exact .inr (f_isi F nm ι S S' H _ d x Q s r hf hd)
  · exact .inr (f_isi F nm ι S S' H _ d x Q s r hf hd)
def fIsiA (T : Tab) : FA := fun ds S => match ds with
    | [.ref n, c] => match S[n]? with
      | some (.exi cn _) => match clsN c with
        | some nn => if T.exc cn = true then (T.kit (.inr cn) nn).map fun b => (.bl b, S) else none
        | none => none
      | _ => fIsi T ds S
    | _ => fIsi T ds S
theorem f_isiB (F : Facts g T) (nm : Named g T) : OpA g (fun xs H Q => rIsiX g.K xs H Q ∨ rIsi g.K xs H Q ∨ rIsiP g.K xs H Q ∨ rIsiK g.K xs H Q) (fIsiA T) := f_isiA F nm rfl
theorem call_isiB (hK : X.K = g.K) : CallR X (.builtin "isinstance") (fun xs H Q => rIsiX g.K xs H Q ∨ rIsi g.K xs H Q ∨ rIsiP g.K xs H Q ∨ rIsiK g.K xs H Q) := (call_isiX hK).or (call_isiM hK)
/-- e.f, e an error that is held -/
def fXfld (T : Tab) (f : Str) : F1 := fun a S => match a with
  | .ref n => match S[n]? with
    | some (.exi c fs) => if T.xattr c f = true then (fs.lookup f).map fun d => (d, S) else none
    | _ => none
  | _ => none
theorem em_xfld {e : Expr} {f : Str} {m : MM D} (F : Facts g T) (he : PE X e (tE g xa W m)) (hK : X.K = g.K := by rfl) (hb : attributeBase e f X.env (eval e X.env) = eval e X.env := by rfl) : PE X (.Attribute e f pos) (tE g xa W (mOp1 (fXfld T f) m)) := by
  refine ⟨fun pins s σ H Q I h => ?_⟩
  have h2 := op1_step (r := fun x H1 Q => ∃ (a C d : Addr) (gs : List (Str × V)) (v : V), x = .ref a ∧ H1 a = some (exo a C (some d)) ∧ H1 d = some (L2.exd d gs) ∧ XfC g.K C ∧ PySem.W.findIn g.K (.ref C) f = some none ∧ gs.lookup f = some v ∧ Q v H1) (f := fXfld T f) (fun ι S S' H a d x Q s r hf hd => ?_) h
  · refine attr_of hb (thn (he.run pins s σ H _ I h2) fun u s1 ⟨x, H1, I1, rx, a, C, d, gs, v, ex, ea, ed, k1, k2, l, q⟩ => ?_)
    subst ex
    obtain rfl : u = Value.ref a := rx
    obtain ⟨oe, od, J, hl⟩ := exi_inst I1 ea ed
    obtain ⟨u1, h3, h4⟩ := hl f
    rw [← hK] at k1 k2
    obtain ⟨u, hu, ru⟩ := RelO.some_of (v := v) (o := u1) (by rw [← l]; exact h4)
    subst hu
    exact HandSPX.exc_get I1.kIn J k1.ga k1.gg k1.exC (PySem.W.findObj_own k1.hdC k2 rfl h3) (handed_of ru) ⟨v, H1, I1.tok _, ru, q⟩
  · unfold fXfld at hf
    split at hf
    · split at hf
      · rename_i c fs e
        split at hf
        · rename_i ha
          cases hl : fs.lookup f with
          | none => rw [hl] at hf; cases hf
          | some z =>
            rw [hl] at hf
            cases hf
            cases r with
            | ref q =>
              obtain ⟨C, dx, gs, h1, h2, h3, h4⟩ := s.obj _ _ _ q e
              obtain ⟨v, h5, h6⟩ := h4.look hl
              obtain ⟨k1, k2⟩ := F.xattr c f C ha h3
              exact ⟨_, C, dx, gs, v, rfl, h1, h2, k1, k2, h5, hd.here s h6⟩
        · cases hf
      · cases hf
    · cases hf
end
end DD

set_option Elab.async false
set_option linter.all false
set_option maxRecDepth 100000
namespace DD
open PySem PySem.Spec PyProof.Rows L2
/-! ### the end of a law -/
section
variable {P : Program} {w : World} {K : PySem.W.Frag} {mg mb : Str → Option Value} {k : Nat} {fa a : Addr} {fd : FuncData} {x : Str} {φ : FnD} {vs : List Value} {ns : List Int} {H : Hp}
theorem rs_ints {g : G} {ι : List Addr} : ∀ ns : List Int, Rs g ι H (ns.map D.int) (ns.map V.int)
  | [] => .nil
  | n :: r => .cons (.int n) (rs_ints r)
/-- from an abstract heap that holds the script alone, or nothing -/
theorem law_core {s1 : Shared} (KX : K.In s1.heap) (hns : s1.heap.Ns mainGlobals mg) (hb : s1.heap.Ns builtinsNs mb) (hbb : ∀ x : Str, x ≠ "__name__" → mb x = bootBuiltins x) (hlim : s1.heap.NoLimit) (hg : s1.gens = #[])
    (ha : s1.heap.get? a = some { cls := .type "list", data := .seq vs.toArray }) (hr : Room k callerA)
    (F : ∀ base : Heap, K.In base → base.Ns mainGlobals mg → FnG P w K mg base k fa fd [x] φ) (hbind : ∀ (s : Shared) (u : Value), BindsTo s fd ⟨[u], []⟩ [(x, u)]) (hφ : ∃ S', φ [.rol (ns.map .int)] [] = some (.ok (.bl true), S'))
    (hO : Only H) (hS : SqF K H a (ns.map V.int)) (hok : HOk P w H s1.heap) (hA : ∀ b, H b ≠ none → b = a) (hK : H a ≠ none → K.lookup a = none) :
    codeAny (model P w) callerA (.call (.ref fa) ⟨[.ref a], []⟩)
      (fun r s' => r = .ok (.ret (.bool true)) ∧ OldK s1.heap s'.heap ∧ s'.os = s1.os ∧ AllBare s'.gens) s1 := by
  have only : ∀ {b : Addr} {u : HO}, H b = some u → b = a := fun {b u} z => hA b (by rw [z]; simp)
  have low : ∀ {b : Addr} {o : Obj}, s1.heap.get? b = some o → H b = none → (hidT s1.heap H).get? b = some o := fun e n => hidT_get e n
  have noDict : ∀ {b : Addr} {o : Obj} {es : Array DictEntry} {ep : Nat}, s1.heap.get? b = some o → o.data = .dict es ep → H b = none := by
    intro b o es ep e d
    cases q : H b with
    | none => rfl
    | some u =>
      have e' := only q
      subst e'
      rw [ha] at e
      cases e
      exact nomatch (show Data.seq vs.toArray _ = Data.dict es ep from d)
  have noK : ∀ {b : Addr} {o : Obj}, K.lookup b = some o → H b = none := by
    intro b o e
    cases q : H b with
    | none => rfl
    | some u =>
      have e' := only q
      subst e'
      rw [hK (by rw [q]; simp)] at e
      cases e
  have nsUp : ∀ {b : Addr} {m : Str → Option Value}, s1.heap.Ns b m → (hidT s1.heap H).Ns b m := fun {b m} ⟨o, es, ep, e, d, r⟩ =>
    ⟨o, es, ep, low e (noDict e d), d, r⟩
  have inB : K.In (hidT s1.heap H) := fun b o e => low (KX b o e) (noK e)
  have md : Mod K mg (hidT s1.heap H) := ⟨inB, nsUp hns, ⟨mb, nsUp hb, hbb⟩, by obtain ⟨mc, h1, h2⟩ := hlim; exact ⟨mc, nsUp h1, h2⟩⟩
  have env : Env0 P w K mg (hidT s1.heap H) callerA [] s1 H :=
    ⟨rfl, md, fun b o e => of_hidT e, Nat.le_of_eq (hidT_size _ _), trivial, fun b hb => (nomatch (show b ∈ ([] : List Addr) from hb)), hok, .of_eq hg⟩
  obtain ⟨S', hφ⟩ := hφ
  have sim : Sim (GK K mg) [] [] H := ⟨rfl, List.nodup_nil, fun n a o e _ => by simp at e⟩
  have sp : spM (GK K mg) φ [V.ref a] H (fun v _ => v = .bl true) (fun _ _ _ => False) := by
    refine ⟨[], [], _, _, S', sim, .cons (.rol hS (rs_ints ns)) .nil, hφ, fun ι' H' v p x s r => ?_⟩
    cases r
    rfl
  refine codeAny_mono ((F _ inB (nsUp hns)).run callerA [] s1 H ⟨[.ref a], []⟩ [.ref a] [.ref a] _ _ hr rfl env (hbind s1 (.ref a)) (.cons rfl .nil) sp) fun r s' h => ?_
  cases r with
  | error e =>
    obtain ⟨_, _, _, _, _, _, _, _, _, _, _, _, z⟩ := h
    exact z.elim
  | ok fl =>
    cases fl with
    | ret u =>
      obtain ⟨v, H', os, bare, un, hok', rv, q⟩ := h
      have q' : v = .bl true := q
      subst q'
      obtain rfl : u = Value.bool true := rv
      refine ⟨rfl, OldK.of_keep fun b o e => ?_, os, bare⟩
      cases z : H b with
      | none => exact un.keep b o e z (fun m => nomatch (show b ∈ ([] : List Addr) from m)) (by simp)
      | some u =>
        rcases hO b with y | ⟨ob, xs, y⟩
        · rw [z] at y
          cases y
        · obtain ⟨e1, _⟩ := hok b _ y
          obtain ⟨e2, _⟩ := hok' b _ (un.frzs b ob _ y)
          rw [e] at e1
          cases e1
          exact e2
    | next => exact False.elim h
    | brk => exact False.elim h
    | cont => exact False.elim h
theorem law_callD {s1 : Shared} (KX : K.In s1.heap) (hns : s1.heap.Ns mainGlobals mg) (hb : s1.heap.Ns builtinsNs mb) (hbb : ∀ x : Str, x ≠ "__name__" → mb x = bootBuiltins x) (hlim : s1.heap.NoLimit) (hg : s1.gens = #[])
    (ha : s1.heap.get? a = some { cls := .type "list", data := .seq vs.toArray }) (hi : IntsAre vs ns) (hl : ns.length ≤ sizeLine) (hr : Room k callerA)
    (F : ∀ base : Heap, K.In base → base.Ns mainGlobals mg → FnG P w K mg base k fa fd [x] φ) (hbind : ∀ (s : Shared) (u : Value), BindsTo s fd ⟨[u], []⟩ [(x, u)]) (hφ : ∃ S', φ [.rol (ns.map .int)] [] = some (.ok (.bl true), S')) :
    codeAny (model P w) callerA (.call (.ref fa) ⟨[.ref a], []⟩)
      (fun r s' => r = .ok (.ret (.bool true)) ∧ OldK s1.heap s'.heap ∧ s'.os = s1.os ∧ AllBare s'.gens) s1 := by
  have rv := vals_ints hi
  cases hk : K.lookup a with
  | some o =>
    have e := KX a o hk
    rw [ha] at e
    cases e
    exact law_core (H := fun _ => none) KX hns hb hbb hlim hg ha hr F hbind hφ (fun _ => .inl rfl) (.inr ⟨_, vs.toArray, _, hk, rfl, rfl, rfl, by rw [List.size_toArray, hi.length]; exact hl, by simpa using rv⟩)
      (fun b u z => nomatch (show (none : Option HO) = some u from z)) (fun b z => (z rfl).elim) fun z => (z rfl).elim
  | none =>
    have same : ∀ {b : Addr} {u : HO}, (if b = a then some (HO.frz { cls := .type "list", data := .seq vs.toArray } (.lst (ns.map V.int))) else none) = some u → b = a ∧ u = HO.frz { cls := .type "list", data := .seq vs.toArray } (.lst (ns.map V.int)) := by
      intro b u z
      by_cases e : b = a
      · rw [if_pos e] at z; exact ⟨e, (Option.some.inj z).symm⟩
      · rw [if_neg e] at z; cases z
    refine law_core (H := fun b => if b = a then some (.frz { cls := .type "list", data := .seq vs.toArray } (.lst (ns.map V.int))) else none) KX hns hb hbb hlim hg ha hr F hbind hφ (fun b => ?_) (.inl ⟨_, if_pos rfl⟩) (fun b u z => ?_) (fun b z => ?_) fun _ => hk
    · by_cases e : b = a
      · exact .inr ⟨_, _, if_pos e⟩
      · exact .inl (if_neg e)
    · obtain ⟨e, rfl⟩ := same z
      subst e
      exact ⟨ha, by rw [List.length_map]; exact hl, vs, _, rv, ha⟩
    · by_cases e : b = a
      · exact e
      · exact (z (if_neg e)).elim
end
theorem walk_D {l : PySem.W.OpenLaw} {n k : Nat} {q : Program} {loose : List Str} {XP : (Str → Option Value) → Heap → Prop} {YP : World → Heap → Prop} {d : DefRec} {x : Str} (hn : l.most = some n) (hn2 : n ≤ sizeLine) (hdf : d.params.defaults = []) (hr : Room k callerA)
    (F : ∀ (w : World) (mg : Str → Option Value) (fa : Addr) (h : Heap), YP w h → h.Ns mainGlobals mg → mg d.name = some (.ref fa) → ∃ (K : PySem.W.Frag) (fd : FuncData) (φ : FnD), K.In h ∧ (∀ (s : Shared) (u : Value), BindsTo s fd ⟨[u], []⟩ [(x, u)]) ∧
      (∀ ns : List Int, ns.length ≤ n → (∀ z ∈ ns, Builtin.Int.intBits z ≤ 1048576) → ∃ S', φ [.rol (ns.map .int)] [] = some (.ok (.bl true), S')) ∧
      ∀ base : Heap, K.In base → base.Ns mainGlobals mg → FnG l.prog w K mg base k fa fd [x] φ) :
    PySem.W.WalkO q loose XP YP l.row.toRowW d [] (fun f vs => PySem.call f vs) := by
  refine Att.attach_callB hn hdf fun w s0 s1 mg mb fa o pm cd doc a vs ns G Y ho hd hcd hmg hobj hints hlen hbits hg => ?_
  obtain ⟨K, fd, φ, KX, hb, hφ, hF⟩ := F w mg fa _ Y G.T.g hmg
  exact law_callD KX G.T.g G.T.b G.T.builtins G.T.nolimit hg hobj hints (Nat.le_trans hlen hn2) hr hF hb (hφ ns hlen hbits)
end DD

set_option Elab.async false
set_option linter.all false
set_option maxRecDepth 100000
namespace DD
open PySem PySem.Spec PyProof.Rows L2
/-! ### in -/
def fIn : F2 := fun a b S => match py a S, py b S with
  | some p, some (.list qs) => if SeqAt.shaped p = true ∧ SeqAt.shaped (.list qs) = true then some (.bl (qs.any fun z => PyData.eqv z p), S) else none
  | _, _ => none
section
variable {X : Cx} {g : G}
theorem f_in : Op2 g (rInD g.K) fIn := fun ι S S' H a b d x y Q s ra rb hf hd => by
  unfold fIn at hf
  split at hf
  · rename_i p qs e1 e2
    split at hf
    · rename_i hc
      cases hf
      exact ⟨p, qs, toPy_R s 9 a x p e1 ra, toPy_R s 9 b y _ e2 rb, hc.1, hc.2, hd.here s (.bl _)⟩
    · cases hf
  · cases hf
theorem op_inM (hK : X.K = g.K) (hu : X.A.units + 66 < cLine) : OpR X (compareOp .In) (rInD g.K) := by rw [← hK]; exact op_inD (by omega)
theorem op_eqN (hK : X.K = g.K) (hu : X.A.units + 66 < cLine) : OpR X (compareOp .Eq) (rEqM g.K) := op_eqM hK (by omega)
theorem op_neN (hK : X.K = g.K) (hu : X.A.units + 66 < cLine) : OpR X (compareOp .NotEq) (rNeM g.K) := op_neM hK (by omega)
end
/-! ### facts of the written part, as one Bool -/
open He (ga ma eqO eqO_ok ba)
def valK (K : PySem.W.Frag) : TyN → Value
  | .inl n => .type n
  | .inr x => .ref (ga K x)
def isSm (a : Option Bool) : Bool := match a with
  | some b => b
  | none => false
def oexB (K : PySem.W.Frag) (C : Addr) : Bool := match K.lookup C with
  | some ⟨.type t, _, .cls cd, sl⟩ => match cd.mro, sl.toList with
    | .ref c :: bm, [_, _, _, _, some (.builtin n), _] => decide (t = "type") && (decide (c = C) && (cd.hasDict && (!cd.hasDel && (decide (n = "ValueError.__new__") && PySem.HandSPX.refsVE bm))))
    | _, _ => false
  | _ => false
theorem oexB_ok {K : PySem.W.Frag} {C : Addr} (h : oexB K C = true) : ∃ nm q N bs bm sn sub ab col dd k0 k1 k2 k3 k5, K.lookup C = some (excClassObj nm q C N bs bm true sn sub ab col dd k0 k1 k2 k3 k5 "ValueError.__new__") ∧ PySem.HandSPX.refsVE bm = true := by
  unfold oexB at h
  split at h
  · rename_i t dd cd sl e
    split at h
    · rename_i c bm k0 k1 k2 k3 n k5 e1 e2
      simp only [Bool.and_eq_true, decide_eq_true_eq, Bool.not_eq_true'] at h
      obtain ⟨rfl, rfl, h3, h4, rfl, h5⟩ := h
      obtain ⟨nm, bs, mro, ns, qn, hd, sn, sub, ab, col, del⟩ := cd
      dsimp only at e1 h3 h4
      subst e1 h3 h4
      obtain ⟨l⟩ := sl
      dsimp only at e2
      subst e2
      exact ⟨nm, qn, ns, bs, bm, sn, sub, ab, col, dd, k0, k1, k2, k3, k5, e, h5⟩
    · cases h
  · cases h
/-- an own error class x with the fields fns -/
def clsB (K : PySem.W.Frag) (p : Str × List Str) : Bool :=
  oexB K (ga K p.1) && (eqO (PySem.W.findIn K (.ref (ga K p.1)) "__setattr__") (some (some (.builtin "object.__setattr__"))) && (decide (PySem.W.typeIn K (.ref (ga K p.1)) = some (.type "type")) && (PySem.W.keepIn K (.ref (ga K p.1)) &&
    (xfB K (ga K p.1) && (eqO (PySem.W.findIn K (.ref (ga K p.1)) "__class__") (some (some (.builtin "object.__class__"))) && (eqO (PySem.W.specialIn K (.builtin "object.__class__") "__get__") (some (some (.builtin "getset_descriptor.__get__"))) &&
    (decide (PySem.W.takesIn K (.builtin "object.__class__") = some true) && (decide (PySem.W.mroIn K (ga K p.1) (.type "object") = some true) && (p.2.all (fun f => eqO (PySem.W.findIn K (.ref (ga K p.1)) f) (some none)) &&
    (eqO (PySem.W.findIn K (.ref (ga K p.1)) "__init__") (some (some (.ref (ma K (ga K p.1) "__init__")))) && (decide (PySem.W.typeIn K (.ref (ma K (ga K p.1) "__init__")) = some (.type "function")) && eqO (PySem.W.nsIn K mainGlobals p.1) (some (some (.ref (ga K p.1)))))))))))))))
structure ClsK (K : PySem.W.Frag) (x : Str) (fns : List Str) : Prop where
  T : OexC K (ga K x)
  E : ExcC K (ga K x)
  F : XfC K (ga K x)
  no : ∀ f ∈ fns, PySem.W.findIn K (.ref (ga K x)) f = some none
  iC : PySem.W.findIn K (.ref (ga K x)) "__init__" = some (some (.ref (ma K (ga K x) "__init__")))
  tI : PySem.W.typeIn K (.ref (ma K (ga K x) "__init__")) = some (.type "function")
  glo : PySem.W.nsIn K mainGlobals x = some (some (.ref (ga K x)))
theorem clsB_ok {K : PySem.W.Frag} {p : Str × List Str} (h : clsB K p = true) : ClsK K p.1 p.2 := by
  unfold clsB at h
  simp only [Bool.and_eq_true, decide_eq_true_eq, List.all_eq_true] at h
  obtain ⟨h1, h2, h3, h4, h5, h6, h7, h8, h9, h10, h11, h12, h13⟩ := h
  have xf := xfB_ok h5
  exact ⟨⟨oexB_ok h1, eqO_ok h2, xf.exC, h3, h4⟩, ⟨xf.ga, xf.gg, xf.exC, xf.hdC, eqO_ok h6, eqO_ok h7, h8, h9⟩, xf, fun f hf => eqO_ok (h10 f hf), eqO_ok h11, h12, eqO_ok h13⟩
/-- all facts: own error classes, what isinstance says, names that are the module's, names that are free -/
structure Ask where
  xcs : List (Str × List Str)
  kits : List (TyN × TyN × Bool)
  glos : List Str
  free : List Str
def Ask.ok (q : Ask) (K : PySem.W.Frag) : Bool := q.xcs.all (clsB K) && (q.kits.all (fun t => decide (PySem.W.kitOne K (valK K t.1) (valK K t.2.1) = some t.2.2)) &&
  (q.glos.all (fun x => eqO (PySem.W.nsIn K mainGlobals x) (some (some (.ref (ga K x))))) && q.free.all (fun x => eqO (PySem.W.nsIn K mainGlobals x) (some none))))
def kitL : List (TyN × TyN × Bool) → TyN → TyN → Option Bool
  | [], _, _ => none
  | (t, c, b) :: r, t', c' => if t = t' ∧ c = c' then some b else kitL r t' c'
theorem kitL_mem {t c : TyN} {b : Bool} : ∀ {l : List (TyN × TyN × Bool)}, kitL l t c = some b → (t, c, b) ∈ l
  | (t', c', b') :: r, h => by
    unfold kitL at h
    split at h
    · rename_i e
      obtain ⟨rfl, rfl⟩ := e
      cases h
      exact List.mem_cons_self ..
    · exact List.mem_cons_of_mem _ (kitL_mem h)
def xcL (l : List (Str × List Str)) (c : Str) : Option (List Str) := l.lookup c
def Ask.tab (q : Ask) : Tab where
  kit := kitL q.kits
  catches := fun _ _ => none
  attr := fun _ _ => false
  ins := fun _ => false
  exc := fun c => (q.xcs.lookup c).isSome
  xattr := fun c f => match q.xcs.lookup c with
    | some l => l.contains f
    | none => false
theorem lookup_mem {α : Type} {x : Str} {y : α} : ∀ {l : List (Str × α)}, l.lookup x = some y → (x, y) ∈ l
  | (k, v) :: r, h => by
    cases q : (x == k) with
    | true =>
      simp only [List.lookup, q] at h
      cases h
      rw [beq_iff_eq.mp q]
      exact List.mem_cons_self ..
    | false =>
      simp only [List.lookup, q] at h
      exact List.mem_cons_of_mem _ (lookup_mem h)
section
variable {q : Ask} {K : PySem.W.Frag} {h : Heap} {mg : Str → Option Value}
theorem Ask.cls (c : q.ok K = true) {p : Str × List Str} (m : p ∈ q.xcs) : ClsK K p.1 p.2 := clsB_ok (List.all_eq_true.mp (ba c).1 p m)
theorem Ask.glo (c : q.ok K = true) (X : K.In h) (G : h.Ns mainGlobals mg) {x : Str} (m : x ∈ q.glos) : mg x = some (.ref (ga K x)) := PySem.W.mg_of X G (eqO_ok (List.all_eq_true.mp (ba (ba (ba c).2).2).1 x m))
theorem Ask.fre (c : q.ok K = true) (X : K.In h) (G : h.Ns mainGlobals mg) {x : Str} (m : x ∈ q.free) : mg x = none := PySem.W.mg_none_of X G (eqO_ok (List.all_eq_true.mp (ba (ba (ba c).2).2).2 x m))
/-- each class that is asked for is the module's -/
def Ask.closed (q : Ask) : Bool := q.kits.all fun t => (match t.1 with
  | .inl _ => true
  | .inr x => q.glos.contains x) && match t.2.1 with
  | .inl _ => true
  | .inr x => q.glos.contains x
theorem valOf_val (c : q.ok K = true) (X : K.In h) (G : h.Ns mainGlobals mg) {t : TyN} (m : (match t with | .inl _ => true | .inr x => q.glos.contains x) = true) {v : Value} (hv : ValOf (GK K mg) t v) : v = valK K t := by
  cases t with
  | inl n => exact hv
  | inr x =>
    obtain ⟨C, h1, rfl⟩ := hv
    have e := Ask.glo c X G (x := x) (by simpa using m)
    have z := h1.symm.trans e
    cases z
    rfl
theorem val_valOf (c : q.ok K = true) (X : K.In h) (G : h.Ns mainGlobals mg) {t : TyN} (m : (match t with | .inl _ => true | .inr x => q.glos.contains x) = true) : ValOf (GK K mg) t (valK K t) := by
  cases t with
  | inl n => rfl
  | inr x => exact ⟨_, Ask.glo c X G (x := x) (by simpa using m), rfl⟩
theorem Ask.facts (c : q.ok K = true) (hc : q.closed = true) (X : K.In h) (G : h.Ns mainGlobals mg) : Facts (GK K mg) q.tab := by
  have gl : ∀ {p : Str × List Str}, p ∈ q.xcs → mg p.1 = some (.ref (ga K p.1)) := fun m => PySem.W.mg_of X G (Ask.cls c m).glo
  refine ⟨fun t cc b tv cv hk h1 h2 => ?_, fun _ _ _ z => (by cases z), fun _ _ z => (by cases z), fun x C hx h1 => ?_, fun x f C hx h1 => ?_⟩
  · have m := kitL_mem hk
    have m2 := List.all_eq_true.mp hc _ m
    obtain ⟨m3, m4⟩ := ba m2
    have e1 := valOf_val c X G (t := t) m3 h1
    have e2 := valOf_val c X G (t := cc) m4 h2
    subst e1 e2
    exact of_decide_eq_true (List.all_eq_true.mp (ba (ba c).2).1 _ m)
  · have hx' : (q.xcs.lookup x).isSome = true := hx
    obtain ⟨l, e⟩ := Option.isSome_iff_exists.mp hx'
    have m := lookup_mem e
    have z := h1.symm.trans (gl m)
    cases z
    exact (Ask.cls c m).E
  · have hx' : (match q.xcs.lookup x with
      | some l => l.contains f
      | none => false) = true := hx
    split at hx'
    · rename_i l e
      have m := lookup_mem e
      have z := h1.symm.trans (gl m)
      cases z
      exact ⟨(Ask.cls c m).F, (Ask.cls c m).no f (by simpa using hx')⟩
    · cases hx'
theorem Ask.named (c : q.ok K = true) (hc : q.closed = true) (X : K.In h) (G : h.Ns mainGlobals mg) : Named (GK K mg) q.tab := fun t n b hk => by
  have m2 := List.all_eq_true.mp hc _ (kitL_mem hk)
  exact ⟨_, val_valOf c X G (t := n) (ba m2).2⟩
end
/-! ### the head's own look -/
open He (FnW DefD)
abbrev Seen : Type := Bool × List FnW
def seenB (q : Ask) (fn : List DefD) (K : PySem.W.Frag) : Seen := (fn.all (DefD.ok K) && q.ok K, fn.map fun d => He.fnW K d.at_)
def seenG (n : Nat) (q : Ask) (fn : List DefD) (get : Addr → Option Obj) : Seen := seenB q fn (He.frG get (He.asD get n))
structure Told (q : Ask) (fn : List DefD) (K : PySem.W.Frag) : Prop where
  e : seenB q fn K = (true, fn.map DefD.val)
def hookB (n : Nat) (q : Ask) (fn : List DefD) : PySem.W.Hook := {
  α := Seen
  val := fun _ => (true, fn.map DefD.val)
  obs := fun s => seenG n q fn s.heap.get?
  says := fun _ h => ∃ K : PySem.W.Frag, K.In h ∧ Told q fn K
  keeps := fun _ _ _ z up => z.elim fun K hz => ⟨K, PySem.W.Frag.In.keeps hz.1 up, hz.2⟩
  of := fun _ _ z => ⟨_, He.frG_in, ⟨z⟩⟩ }
theorem seenG_eq {n : Nat} {q : Ask} {fn : List DefD} {get : Addr → Option Obj} {s : Shared} (h : ∀ a, get a = s.heap.get? a) : seenG n q fn get = (hookB n q fn).obs s := by
  obtain rfl : get = s.heap.get? := funext h
  rfl
section
variable {q : Ask} {fn : List DefD} {K : PySem.W.Frag}
theorem Told.ask (c : Told q fn K) : q.ok K = true := (ba (show (fn.all (DefD.ok K) && q.ok K) = true from congrArg Prod.fst c.e)).2
theorem Told.def_ (c : Told q fn K) (i : Nat) {d : DefD} (h : fn[i]? = some d := by rfl) : ∃ fd, FunD K d.name d.qual d.params d.body d.scope (d.dvs K) (d.kws K) (He.fAd K d.at_) fd := by
  have c1 := (ba (show (fn.all (DefD.ok K) && q.ok K) = true from congrArg Prod.fst c.e)).1
  have e : (fn.map fun d => He.fnW K d.at_)[i]? = (fn.map DefD.val)[i]? := congrArg (fun z : Seen => z.2[i]?) c.e
  rw [List.getElem?_map, List.getElem?_map, h] at e
  exact DefD.funD (Option.some.inj e) (List.all_eq_true.mp c1 d (List.mem_of_getElem? h))
end
end DD

set_option Elab.async false
set_option linter.all false
set_option maxRecDepth 100000
namespace DD
open PySem PySem.Spec PyProof.Rows L2
/-! ### calls by name -/
structure FnN (P : Program) (w : World) (K : PySem.W.Frag) (mg : Str → Option Value) (base : Heap) (k : Nat) (x : Str) (ps : List Str) (φ : FnD) : Prop where
  ex : ∃ f fd, FnG P w K mg base k f fd ps φ ∧ mg x = some (.ref f) ∧ PySem.W.keepIn K (.ref f) = true ∧ Binds K fd ps []
theorem FnN.none {P : Program} {w : World} {K : PySem.W.Frag} {mg : Str → Option Value} {base : Heap} {k : Nat} {x : Str} {ps : List Str} {φ : FnD} (F : FnN P w K mg base k x ps φ) : FnN P w K mg base 0 x ps (fun _ _ => none) := by
  obtain ⟨f, fd, h1, h2, h3, h4⟩ := F.ex
  exact ⟨f, fd, ⟨fun _ _ _ z => (by cases z), fun A outer s H args us vs Q E _ _ _ _ _ h => by obtain ⟨_, _, _, _, _, _, _, z, _⟩ := h; cases z⟩, h2, h3, h4⟩
structure XiN (P : Program) (w : World) (K : PySem.W.Frag) (mg : Str → Option Value) (base : Heap) (x : Str) (fns : List Str) : Prop where
  ex : ∃ C fI fd, XI P w K mg base 1 C fns fI fd ∧ mg x = some (.ref C) ∧ Binds K fd (("self" : Str) :: fns) [] ∧
    ∀ (s : Shared) (v : Value) (us : List Value), us.length = fns.length → BindsTo s fd ⟨[v], fns.zip us⟩ ((("self" : Str) :: fns).zip (v :: us))
section
variable {X : Cx} {W : WX} {pos : Pos} {k : Nat} {ps fns : List Str} {φ : FnD} {xa : Xa}
theorem em_callN {x : Str} {p : Pos} {e : Expr} {es : List Expr} {m : MM (List D)} (F : FnN X.prog X.w X.K X.mg X.base k x ps φ) (hr : Room k X.A) (hG : X.A.guards = some []) (tk : Takes X W)
    (ha : PA X (e :: es) (tA (gX X) xa W m)) (hg : Gl X x := by rfl) (hdb : (x == ("__debug__" : Str)) = false := by decide) (he : starEach (e :: es) X.env = (false, eval e X.env) :: starEach es X.env := by rfl) (hpl : (backTo pos (starEach es X.env)).any (·.1) = false := by rfl) :
    PE X (.Call (.Name x p) (e :: es) [] pos) (tE (gX X) xa W (mCall φ m)) := by
  obtain ⟨f, fd, h1, h2, h3, h4⟩ := F.ex
  exact em_call h1 hr hG tk h2 h3 h4 ha hg hdb he hpl
theorem em_callN0 {x : Str} {p : Pos} (F : FnN X.prog X.w X.K X.mg X.base k x ps φ) (hr : Room k X.A) (hG : X.A.guards = some []) (tk : Takes X W) (hg : Gl X x := by rfl) (hdb : (x == ("__debug__" : Str)) = false := by decide) :
    PE X (.Call (.Name x p) [] [] pos) (tE (gX X) xa W (mCall φ mNil)) := by
  obtain ⟨f, fd, h1, h2, h3, h4⟩ := F.ex
  exact em_call0 h1 hr hG tk h2 h3 h4 hg hdb
theorem em_xmkN {x : Str} {p : Pos} {e : Expr} {es : List Expr} {m : MM (List D)} (M : XiN X.prog X.w X.K X.mg X.base x fns) (hr : Room 2 X.A) (tk : Takes X W)
    (ha : PA X (e :: es) (tA (gX X) xa W m)) (hlen : fns.length ≤ sizeLine := by decide +kernel) (hg : Gl X x := by rfl) (hdb : (x == ("__debug__" : Str)) = false := by decide) (he : starEach (e :: es) X.env = (false, eval e X.env) :: starEach es X.env := by rfl) (hpl : (backTo pos (starEach es X.env)).any (·.1) = false := by rfl) :
    PE X (.Call (.Name x p) (e :: es) [] pos) (tE (gX X) xa W (mCall (xmkF x fns) m)) := by
  obtain ⟨C, fI, fd, h1, h2, h3, h4⟩ := M.ex
  exact em_xmk h1 hr tk h2 h3 ha hlen hg hdb he hpl
theorem em_xmkKN {x : Str} {p : Pos} {kws : List Keyword} {m : MM (List D)} (M : XiN X.prog X.w X.K X.mg X.base x fns) (hr : Room 2 X.A) (tk : Takes X W)
    (hkw : PK X kws (tA (gX X) xa W m)) (hg : Gl X x := by rfl) (hall : (backToKw pos (keywordEach kws X.env)).all (·.1.isSome) = true := by rfl) (hks : (backToKw pos (keywordEach kws X.env)).filterMap (·.1) = fns := by rfl) (hdb : (x == ("__debug__" : Str)) = false := by decide)
    (hpl : ((backTo pos (starEach [] X.env)).any (·.1) || (backToKw pos (keywordEach kws X.env)).any (·.1.isNone)) = false := by rfl) :
    PE X (.Call (.Name x p) [] kws pos) (tE (gX X) xa W (mCall (xmkF x fns) m)) := by
  obtain ⟨C, fI, fd, h1, h2, h3, h4⟩ := M.ex
  exact em_xmkK h1 hr tk h2 h4 hkw hg hall hks hdb hpl
theorem em_globN {x : Str} {a : Addr} (h : X.mg x = some (.ref a)) (hg : Gl X x := by rfl) (hd : (x == ("__debug__" : Str)) = false := by decide) : PE X (.Name x pos) (tE (gX X) xa W (retM (.glo x))) :=
  em_glob (v := .ref a) hg h h rfl hd
end
/-- a statement of a class's body -/
def inClass (st : Stmt) (j : Nat) : Stmt := match st with
  | .ClassDef _ _ _ body _ _ _ _ _ _ _ => body.getD j st
  | _ => st
end DD
namespace DD
open PySem PySem.Spec PyProof.Rows L2
section
variable {P : Program} {w : World} {K : PySem.W.Frag} {mg : Str → Option Value} {base : Heap}
theorem em_globE {X : Cx} {W : WX} {pos : Pos} {xa : Xa} {x : Str} (h : ∃ a, X.mg x = some (.ref a)) (hg : Gl X x := by rfl) (hd : (x == ("__debug__" : Str)) = false := by decide) : PE X (.Name x pos) (tE (gX X) xa W (retM (.glo x))) := by
  obtain ⟨a, h⟩ := h
  exact em_globN h hg hd
theorem FnN.mono {j k : Nat} {x : Str} {ps : List Str} {φ : FnD} (F : FnN P w K mg base j x ps φ) (h : j ≤ k) : FnN P w K mg base k x ps φ := by
  obtain ⟨f, fd, h1, h2, h3, h4⟩ := F.ex
  exact ⟨f, fd, h1.mono h, h2, h3, h4⟩
theorem fnn {x : Str} {st : Stmt} {fd : FuncData} {N ps : List Str} {k : Nat} {m : MS} (FD : FunD K x x (defArgs st) (defBody st) (defScope st) [] [] (He.ga K x) fd) (Sc : FnScope N ps (defScope st)) (hm : mg x = some (.ref (He.ga K x)))
    (hb : ∀ (kV doc pm : Value) (an : Option Addr) (cdv ct : Value) (us : List Value), us.length = ps.length → bindArgs (PySem.W.fnOf x x (defArgs st) (defBody st) (defScope st) .none kV doc pm an cdv ct) ⟨us, []⟩ = pure (ps.zip us))
    (body : ∀ (cdv : Value) (A : Around) (outer : List Env) (s : Shared) (H : Hp) (E : XK), Room k (A.deeper (envOfC x (defScope st) s.heap.objs.size (He.ga K x) cdv)) → A.guards = some [] →
      PSs (cxOf (L2.CX P w) P w K mg base N x (defScope st) (He.ga K x) cdv A outer s H E) (defBody st) (tS (GK K mg) xa0 (fun cls d _ H => E cls d H) m)) :
    FnN P w K mg base (k + 1) x ps (fnM ps.length N.length m) := by
  have F := He5.fun_of FD
  exact ⟨_, _, fng_of F Sc body, hm, F.kp, FD.bindsN hb⟩
end
end DD
namespace DD
open PySem PySem.Spec PyProof.Rows L2
section
variable {P : Program} {w : World} {K : PySem.W.Frag} {mg : Str → Option Value} {base : Heap}
theorem binds_eq {x qual : Str} {params : Arguments} {body : List Stmt} {scope : Scope} {kws : List (Str × V)} {f : Addr} {fd : FuncData} {a : Args} {r : List (Str × Value)} (F : FunD K x qual params body scope [] kws f fd)
    (h : ∀ (kV doc pm : Value) (an : Option Addr) (cdv ct : Value), bindArgs (PySem.W.fnOf x qual params body scope .none kV doc pm an cdv ct) a = pure r) (s : Shared) : BindsTo s fd a r := by
  obtain ⟨oc, od, dV, kV, doc, pm, an, cdv, ct, osl, rfl, lk, hcd, hD, hK⟩ := F.ex
  rcases hD with ⟨_, rfl⟩ | ⟨e, _⟩
  · exact .of_eq (h kV doc pm an cdv ct)
  · exact absurd rfl e
theorem xin1 {x f qual : Str} {st : Stmt} {fd : FuncData} {p1 p2 p3 p4 : Pos} (FD : FunD K "__init__" qual (defArgs st) (defBody st) (defScope st) [] [] (He.ma K (He.ga K x) "__init__") fd) (c : ClsK K x [f]) (hm : mg x = some (.ref (He.ga K x)))
    (Sc : FnScope ["self", f] ["self", f] (defScope st)) (hb : defBody st = [.Assign [.Attribute (.Name "self" p1) f p2] (.Name f p3) p4]) (hv : Vis (defScope st) "self") (hv2 : Vis (defScope st) f) (hd : (f == ("__debug__" : Str)) = false) (hcd : (f == ("__classdict__" : Str)) = false)
    (b1 : ∀ (kV doc pm : Value) (an : Option Addr) (cdv ct u v : Value), bindArgs (PySem.W.fnOf "__init__" qual (defArgs st) (defBody st) (defScope st) .none kV doc pm an cdv ct) ⟨[u, v], []⟩ = pure [(("self" : Str), u), (f, v)])
    (b2 : ∀ (kV doc pm : Value) (an : Option Addr) (cdv ct u v : Value), bindArgs (PySem.W.fnOf "__init__" qual (defArgs st) (defBody st) (defScope st) .none kV doc pm an cdv ct) ⟨[u], [(f, v)]⟩ = pure [(("self" : Str), u), (f, v)]) : XiN P w K mg base x [f] := by
  refine ⟨_, _, fd, ⟨c.T, c.iC, c.tI, xi1 (He5.fun_of FD) Sc hb c.T (c.no f (by simp)) hv hv2 hd hcd⟩, hm, ?_, fun s v us hl => ?_⟩
  · exact FD.bindsN fun kV doc pm an cdv ct us hl => match us, hl with | [u, v], _ => b1 kV doc pm an cdv ct u v
  · match us, hl with
    | [u], _ => exact binds_eq FD (fun kV doc pm an cdv ct => b2 kV doc pm an cdv ct v u) s
theorem xin2 {x f g qual : Str} {st : Stmt} {fd : FuncData} {p1 p2 p3 p4 q1 q2 q3 q4 : Pos} (FD : FunD K "__init__" qual (defArgs st) (defBody st) (defScope st) [] [] (He.ma K (He.ga K x) "__init__") fd) (c : ClsK K x [f, g]) (hm : mg x = some (.ref (He.ga K x)))
    (Sc : FnScope ["self", f, g] ["self", f, g] (defScope st)) (hb : defBody st = [.Assign [.Attribute (.Name "self" p1) f p2] (.Name f p3) p4, .Assign [.Attribute (.Name "self" q1) g q2] (.Name g q3) q4]) (hv : Vis (defScope st) "self") (hv2 : Vis (defScope st) f) (hv3 : Vis (defScope st) g)
    (hd : (f == ("__debug__" : Str)) = false) (hcd : (f == ("__classdict__" : Str)) = false) (hd2 : (g == ("__debug__" : Str)) = false) (hcd2 : (g == ("__classdict__" : Str)) = false)
    (b1 : ∀ (kV doc pm : Value) (an : Option Addr) (cdv ct u v y : Value), bindArgs (PySem.W.fnOf "__init__" qual (defArgs st) (defBody st) (defScope st) .none kV doc pm an cdv ct) ⟨[u, v, y], []⟩ = pure [(("self" : Str), u), (f, v), (g, y)])
    (b2 : ∀ (kV doc pm : Value) (an : Option Addr) (cdv ct u v y : Value), bindArgs (PySem.W.fnOf "__init__" qual (defArgs st) (defBody st) (defScope st) .none kV doc pm an cdv ct) ⟨[u], [(f, v), (g, y)]⟩ = pure [(("self" : Str), u), (f, v), (g, y)]) : XiN P w K mg base x [f, g] := by
  refine ⟨_, _, fd, ⟨c.T, c.iC, c.tI, xi2 (He5.fun_of FD) Sc hb c.T (c.no f (by simp)) (c.no g (by simp)) hv hv2 hv3 hd hcd hd2 hcd2⟩, hm, ?_, fun s v us hl => ?_⟩
  · exact FD.bindsN fun kV doc pm an cdv ct us hl => match us, hl with | [u, v, y], _ => b1 kV doc pm an cdv ct u v y
  · match us, hl with
    | [u, y], _ => exact binds_eq FD (fun kV doc pm an cdv ct => b2 kV doc pm an cdv ct v u y) s
end
end DD
namespace DD
open PySem PySem.Spec PyProof.Rows L2
/-- of a def nothing is asked (the bottom of a recursion) -/
theorem fnn0 {P : Program} {w : World} {K : PySem.W.Frag} {mg : Str → Option Value} {base : Heap} {x : Str} {st : Stmt} {fd : FuncData} {ps : List Str} (FD : FunD K x x (defArgs st) (defBody st) (defScope st) [] [] (He.ga K x) fd) (hm : mg x = some (.ref (He.ga K x)))
    (hb : ∀ (kV doc pm : Value) (an : Option Addr) (cdv ct : Value) (us : List Value), us.length = ps.length → bindArgs (PySem.W.fnOf x x (defArgs st) (defBody st) (defScope st) .none kV doc pm an cdv ct) ⟨us, []⟩ = pure (ps.zip us)) : FnN P w K mg base 0 x ps (fun _ _ => none) :=
  ⟨_, _, ⟨fun _ _ _ z => (by cases z), fun A outer s H args us vs Q E _ _ _ _ _ h => by obtain ⟨_, _, _, _, _, _, _, z, _⟩ := h; cases z⟩, hm, (He5.fun_of FD).kp, FD.bindsN hb⟩
end DD

set_option Elab.async false
set_option linter.all false
set_option maxRecDepth 100000
namespace DD
open PySem PySem.Spec PyProof.Rows L2
/-! ### reasoning about runs -/
def okM {α : Type} (m : MM α) (e : Sl) (S : So) (P : α → So → Prop) : Prop := ∃ a S', m e S = some (.ok a, S') ∧ P a S'
def okS (m : MS) (e : Sl) (S : So) (P : Fl → Sl → So → Prop) : Prop := ∃ f e' S', m e S = some (f, e', S') ∧ P f e' S'
def okF {α : Type} (o : Option (α × So)) (P : α → So → Prop) : Prop := ∃ d S', o = some (d, S') ∧ P d S'
def okC (o : Option (Re D × So)) (P : D → So → Prop) : Prop := ∃ d S', o = some (.ok d, S') ∧ P d S'
section
variable {α β : Type} {e : Sl} {S : So}
theorem okM.imp {m : MM α} {P Q : α → So → Prop} (h : okM m e S P) (i : ∀ a S', P a S' → Q a S') : okM m e S Q := by
  obtain ⟨a, S', h1, h2⟩ := h; exact ⟨a, S', h1, i _ _ h2⟩
theorem okS.imp {m : MS} {P Q : Fl → Sl → So → Prop} (h : okS m e S P) (i : ∀ f e' S', P f e' S' → Q f e' S') : okS m e S Q := by
  obtain ⟨a, e', S', h1, h2⟩ := h; exact ⟨a, e', S', h1, i _ _ _ h2⟩
theorem okC.imp {o : Option (Re D × So)} {P Q : D → So → Prop} (h : okC o P) (i : ∀ a S', P a S' → Q a S') : okC o Q := by
  obtain ⟨a, S', h1, h2⟩ := h; exact ⟨a, S', h1, i _ _ h2⟩
@[simp] theorem okF_some {d : α} {P : α → So → Prop} : okF (some (d, S)) P ↔ P d S := ⟨fun ⟨_, _, h, p⟩ => by cases h; exact p, fun p => ⟨_, _, rfl, p⟩⟩
@[simp] theorem okF_none {P : α → So → Prop} : okF (none : Option (α × So)) P ↔ False := ⟨fun ⟨_, _, h, _⟩ => (by cases h), fun h => h.elim⟩
@[simp] theorem okF_ite {c : Prop} [Decidable c] {o : Option (α × So)} {P : α → So → Prop} : okF (if c then o else none) P ↔ c ∧ okF o P := by
  by_cases h : c <;> simp [h]
@[simp] theorem okC_some {d : D} {P : D → So → Prop} : okC (some (.ok d, S)) P ↔ P d S := ⟨fun ⟨_, _, h, p⟩ => by cases h; exact p, fun p => ⟨_, _, rfl, p⟩⟩
@[simp] theorem okM_ret {a : α} {P : α → So → Prop} : okM (retM a) e S P ↔ P a S := ⟨fun ⟨_, _, h, p⟩ => by cases h; exact p, fun p => ⟨_, _, rfl, p⟩⟩
@[simp] theorem okM_bind {m : MM α} {k : α → MM β} {P : β → So → Prop} : okM (bindM m k) e S P ↔ okM m e S fun a S1 => okM (k a) e S1 P := by
  constructor
  · rintro ⟨b, S', h, p⟩
    rcases bindM_some h with ⟨a, S1, h1, h2⟩ | ⟨c, fs, _, z⟩
    · exact ⟨a, S1, h1, b, S', h2, p⟩
    · cases z
  · rintro ⟨a, S1, h1, b, S', h2, p⟩
    exact ⟨b, S', by unfold bindM; rw [h1]; exact h2, p⟩
@[simp] theorem okM_lift {o : So → Option (α × So)} {P : α → So → Prop} : okM (liftF o) e S P ↔ okF (o S) P := by
  constructor
  · rintro ⟨a, S', h, p⟩
    obtain ⟨d, h1, h2⟩ := liftF_some h
    cases h2
    exact ⟨_, S', h1, p⟩
  · rintro ⟨d, S', h, p⟩
    exact ⟨d, S', by unfold liftF; rw [h], p⟩
@[simp] theorem okM_var {i : Nat} {P : D → So → Prop} : okM (mVar i) e S P ↔ ∃ d, e[i]? = some (.v d) ∧ P d S := by
  constructor
  · rintro ⟨d, S', h, p⟩
    obtain ⟨d', h1, z, rfl⟩ := mVar_some h
    cases z
    exact ⟨_, h1, p⟩
  · rintro ⟨d, h, p⟩
    exact ⟨d, S, by unfold mVar; rw [h], p⟩
@[simp] theorem okM_op2 {f : F2} {a b : MM D} {P : D → So → Prop} : okM (mOp2 f a b) e S P ↔ okM a e S fun x S1 => okM b e S1 fun y S2 => okF (f x y S2) P := by unfold mOp2; simp
@[simp] theorem okM_op1 {f : F1} {a : MM D} {P : D → So → Prop} : okM (mOp1 f a) e S P ↔ okM a e S fun x S1 => okF (f x S1) P := by unfold mOp1; simp
@[simp] theorem okM_opA {f : FA} {a : MM (List D)} {P : D → So → Prop} : okM (mOpA f a) e S P ↔ okM a e S fun x S1 => okF (f x S1) P := by unfold mOpA; simp
@[simp] theorem okM_nil {P : List D → So → Prop} : okM mNil e S P ↔ P [] S := okM_ret
@[simp] theorem okM_cons {m : MM D} {k : MM (List D)} {P : List D → So → Prop} : okM (mCons m k) e S P ↔ okM m e S fun d S1 => okM k e S1 fun ds S2 => P (d :: ds) S2 := by unfold mCons; simp
@[simp] theorem okM_call {φ : FnD} {m : MM (List D)} {P : D → So → Prop} : okM (mCall φ m) e S P ↔ okM m e S fun ds S1 => okC (φ ds S1) P := by unfold mCall; simp; rfl
@[simp] theorem okM_asB {d : D} {P : Bool → So → Prop} : okM (asB d) e S P ↔ ∃ b, d = .bl b ∧ P b S := by
  constructor
  · rintro ⟨b, S', h, p⟩
    obtain ⟨b', h1, z, rfl⟩ := asB_some h
    cases z
    exact ⟨_, h1, p⟩
  · rintro ⟨b, rfl, p⟩
    exact ⟨b, S, rfl, p⟩
@[simp] theorem okM_tst {m : MM D} {P : Bool → So → Prop} : okM (mTst m) e S P ↔ okM m e S fun d S1 => ∃ b, d = .bl b ∧ P b S1 := by unfold mTst; simp
@[simp] theorem okM_not {m : MM Bool} {P : Bool → So → Prop} : okM (mNot m) e S P ↔ okM m e S fun b S1 => P (!b) S1 := by unfold mNot; simp
theorem okM_ite {c : Bool} {m k : MM α} {P : α → So → Prop} : okM (if c then m else k) e S P ↔ if c then okM m e S P else okM k e S P := by cases c <;> simp
@[simp] theorem okM_and {m k : MM Bool} {P : Bool → So → Prop} : okM (mAnd m k) e S P ↔ okM m e S fun b S1 => if b then okM k e S1 P else P false S1 := by unfold mAnd; simp [okM_ite]
@[simp] theorem okM_or {m k : MM Bool} {P : Bool → So → Prop} : okM (mOr m k) e S P ↔ okM m e S fun b S1 => if b then P true S1 else okM k e S1 P := by unfold mOr; simp [okM_ite]
@[simp] theorem okM_andV {m k : MM D} {P : D → So → Prop} : okM (mAndV m k) e S P ↔ okM m e S fun d S1 => ∃ b, d = .bl b ∧ if b then okM k e S1 P else P (.bl false) S1 := by unfold mAndV; simp [okM_ite]
@[simp] theorem okM_orV {m k : MM D} {P : D → So → Prop} : okM (mOrV m k) e S P ↔ okM m e S fun d S1 => ∃ b, d = .bl b ∧ if b then P (.bl true) S1 else okM k e S1 P := by unfold mOrV; simp [okM_ite]
@[simp] theorem okM_notV {m : MM D} {P : D → So → Prop} : okM (mNotV m) e S P ↔ okM m e S fun d S1 => ∃ b, d = .bl b ∧ P (.bl (!b)) S1 := by unfold mNotV; simp
@[simp] theorem okM_if {t : MM Bool} {m k : MM D} {P : D → So → Prop} : okM (mIf t m k) e S P ↔ okM t e S fun b S1 => if b then okM m e S1 P else okM k e S1 P := by unfold mIf; simp [okM_ite]
theorem okS_bind {m : MM α} {k : α → MS} {P : Fl → Sl → So → Prop} (h : okM m e S fun a S1 => okS (k a) e S1 P) : okS (bindS m k) e S P := by
  obtain ⟨a, S1, h1, f, e', S', h2, p⟩ := h
  exact ⟨f, e', S', by unfold bindS; rw [h1]; exact h2, p⟩
/-- behind a statement -/
def nxt (k : MS) (P : Fl → Sl → So → Prop) : Fl → Sl → So → Prop := fun f e S => match f with
  | .nx => okS k e S P
  | f => P f e S
@[simp] theorem nxt_nx {k : MS} {P : Fl → Sl → So → Prop} : nxt k P .nx e S ↔ okS k e S P := Iff.rfl
@[simp] theorem nxt_rt {k : MS} {P : Fl → Sl → So → Prop} {d : D} : nxt k P (.rt d) e S ↔ P (.rt d) e S := Iff.rfl
@[simp] theorem nxt_bk {k : MS} {P : Fl → Sl → So → Prop} : nxt k P .bk e S ↔ P .bk e S := Iff.rfl
@[simp] theorem nxt_ct {k : MS} {P : Fl → Sl → So → Prop} : nxt k P .ct e S ↔ P .ct e S := Iff.rfl
theorem okS_seq {m k : MS} {P : Fl → Sl → So → Prop} (h : okS m e S (nxt k P)) : okS (seqS m k) e S P := by
  obtain ⟨f, e1, S1, h1, h2⟩ := h
  cases f with
  | nx =>
    obtain ⟨f, e', S', h3, p⟩ := h2
    exact ⟨f, e', S', by unfold seqS; rw [h1]; exact h3, p⟩
  | _ => exact ⟨_, e1, S1, by unfold seqS; rw [h1], h2⟩
theorem okS_nx {P : Fl → Sl → So → Prop} (h : P .nx e S) : okS nxS e S P := ⟨_, _, _, rfl, h⟩
theorem okS_fl {f : Fl} {P : Fl → Sl → So → Prop} (h : P f e S) : okS (fS f) e S P := ⟨_, _, _, rfl, h⟩
theorem okS_if {t : MM Bool} {m k : MS} {P : Fl → Sl → So → Prop} (h : okM t e S fun b S1 => if b then okS m e S1 P else okS k e S1 P) : okS (ifS t m k) e S P := by
  refine okS_bind (h.imp fun b S1 q => ?_)
  cases b
  · simpa using q
  · simpa using q
theorem okS_ifT {t : MM Bool} {m k : MS} {P : Fl → Sl → So → Prop} (h : okM t e S fun b S1 => b = true ∧ okS m e S1 P) : okS (ifS t m k) e S P :=
  okS_if (h.imp fun b S1 q => by rw [if_pos q.1]; exact q.2)
theorem okS_ifF {t : MM Bool} {m k : MS} {P : Fl → Sl → So → Prop} (h : okM t e S fun b S1 => b = false ∧ okS k e S1 P) : okS (ifS t m k) e S P :=
  okS_if (h.imp fun b S1 q => by rw [if_neg (by rw [q.1]; decide)]; exact q.2)
theorem okS_asg {m : MM D} {i : Nat} {P : Fl → Sl → So → Prop} (h : okM m e S fun d S1 => P .nx (e.set i (.v d)) S1) : okS (asgS m (nmT i)) e S P :=
  okS_bind (h.imp fun d S1 q => ⟨_, _, _, rfl, q⟩)
theorem okS_ret {m : MM D} {P : Fl → Sl → So → Prop} (h : okM m e S fun d S1 => P (.rt d) e S1) : okS (retS m) e S P := okS_bind (h.imp fun d S1 q => ⟨_, _, _, rfl, q⟩)
theorem okS_expr {m : MM D} {P : Fl → Sl → So → Prop} (h : okM m e S fun _ S1 => P .nx e S1) : okS (exprS m) e S P := okS_bind (h.imp fun d S1 q => ⟨_, _, _, rfl, q⟩)
theorem okS_par {m : MM (List D)} {i j : Nat} {P : Fl → Sl → So → Prop} (h : okM m e S fun ds S1 => ∃ a b, ds = [a, b] ∧ P .nx ((e.set i (.v a)).set j (.v b)) S1) : okS (parS i j m) e S P :=
  okS_bind (h.imp fun d S1 q => by obtain ⟨a, b, rfl, q⟩ := q; exact ⟨_, _, _, rfl, q⟩)
theorem okS_setix {mv mo mi : MM D} {P : Fl → Sl → So → Prop} (h : okM mv e S fun v S1 => okM mo e S1 fun o S2 => okM mi e S2 fun i S3 => ∃ S4, fSet o i v S3 = some S4 ∧ P .nx e S4) : okS (setS mv mo mi) e S P :=
  okS_bind (h.imp fun v S1 q => okS_bind (q.imp fun o S2 q => okS_bind (q.imp fun i S3 q => by obtain ⟨S4, h4, q⟩ := q; exact ⟨_, _, _, by dsimp only; rw [h4]; rfl, q⟩)))
/-- what a turn ends with -/
def turnP (I : Sl → So → Prop) (P : Fl → Sl → So → Prop) : Fl → Sl → So → Prop := fun f e S => match f with
  | .nx => I e S
  | .ct => I e S
  | .bk => P .nx e S
  | f => P f e S
@[simp] theorem turnP_nx {I : Sl → So → Prop} {P : Fl → Sl → So → Prop} : turnP I P .nx e S ↔ I e S := Iff.rfl
@[simp] theorem turnP_ct {I : Sl → So → Prop} {P : Fl → Sl → So → Prop} : turnP I P .ct e S ↔ I e S := Iff.rfl
@[simp] theorem turnP_bk {I : Sl → So → Prop} {P : Fl → Sl → So → Prop} : turnP I P .bk e S ↔ P .nx e S := Iff.rfl
@[simp] theorem turnP_rt {I : Sl → So → Prop} {P : Fl → Sl → So → Prop} {d : D} : turnP I P (.rt d) e S ↔ P (.rt d) e S := Iff.rfl
theorem okS_for {m : MM Itm} {t : Tg} {b : MS} {P : Fl → Sl → So → Prop} (h : okM m e S fun it S1 => ∃ I : Nat → Sl → So → Prop, I 0 e S1 ∧ ∀ i e2 S2, I i e2 S2 →
    (it.get i S2 = some none ∧ P .nx e2 S2) ∨ (i < it.n ∧ ∃ d e3, it.get i S2 = some (some d) ∧ t d S2 e2 = some e3 ∧ okS b e3 S2 (turnP (I (i + 1)) P))) : okS (forS m t b) e S P := by
  refine okS_bind (h.imp fun it S1 q => ?_)
  obtain ⟨I, h0, hs⟩ := q
  have key : ∀ (n i : Nat) (e2 : Sl) (S2 : So), it.n - i ≤ n → I i e2 S2 → okS (loopI it.get t b n i) e2 S2 P := by
    intro n
    induction n with
    | zero =>
      intro i e2 S2 hn hI
      rcases hs i e2 S2 hI with ⟨h1, h2⟩ | ⟨h1, _⟩
      · exact ⟨_, _, _, by unfold loopI; rw [h1], h2⟩
      · omega
    | succ n ih =>
      intro i e2 S2 hn hI
      rcases hs i e2 S2 hI with ⟨h1, h2⟩ | ⟨h1, d, e3, h2, h3, f, e4, S4, h4, h5⟩
      · exact ⟨_, _, _, by unfold loopI; rw [h1], h2⟩
      · cases f with
        | nx =>
          obtain ⟨f, e5, S5, h6, h7⟩ := ih (i + 1) e4 S4 (by omega) h5
          exact ⟨f, e5, S5, by unfold loopI; rw [h2]; dsimp only; rw [h3]; dsimp only; rw [h4]; exact h6, h7⟩
        | ct =>
          obtain ⟨f, e5, S5, h6, h7⟩ := ih (i + 1) e4 S4 (by omega) h5
          exact ⟨f, e5, S5, by unfold loopI; rw [h2]; dsimp only; rw [h3]; dsimp only; rw [h4]; exact h6, h7⟩
        | bk => exact ⟨_, e4, S4, by unfold loopI; rw [h2]; dsimp only; rw [h3]; dsimp only; rw [h4], h5⟩
        | rt d => exact ⟨_, e4, S4, by unfold loopI; rw [h2]; dsimp only; rw [h3]; dsimp only; rw [h4], h5⟩
        | ex c fs => exact ⟨_, e4, S4, by unfold loopI; rw [h2]; dsimp only; rw [h3]; dsimp only; rw [h4], h5⟩
  exact key it.n 0 e S1 (by omega) h0
theorem okM_comp {own : List Nat} {m : MM Itm} {t : Tg} {te : MM D} {P : D → So → Prop} (h : okM m e S fun it S1 => ∃ I : Nat → So → Prop, I 0 (S1 ++ [.lst []]) ∧ ∀ i S2, I i S2 →
    (it.get i S2 = some none ∧ P (.ref S1.length) S2) ∨ (i < it.n ∧ ∃ d e3, it.get i S2 = some (some d) ∧ t d S2 (wipeE e own) = some e3 ∧ okM te e3 S2 fun y S3 => ∃ acc, S3[S1.length]? = some (.lst acc) ∧ acc.length < sizeLine ∧ I (i + 1) (S3.set S1.length (.lst (acc ++ [y]))))) : okM (compM own m t yesM te) e S P := by
  unfold compM
  simp only [okM_bind]
  refine h.imp fun it S1 q => ?_
  obtain ⟨I, h0, hs⟩ := q
  have key : ∀ (n i : Nat) (S2 : So), it.n - i ≤ n → I i S2 → ∃ S', compI it.get t yesM te S1.length (wipeE e own) n i S2 = some S' ∧ P (.ref S1.length) S' := by
    intro n
    induction n with
    | zero =>
      intro i S2 hn hI
      rcases hs i S2 hI with ⟨h1, h2⟩ | ⟨h1, _⟩
      · exact ⟨_, by unfold compI; rw [h1], h2⟩
      · omega
    | succ n ih =>
      intro i S2 hn hI
      rcases hs i S2 hI with ⟨h1, h2⟩ | ⟨h1, d, e3, h2, h3, y, S3, h4, acc, h5, h6, h7⟩
      · exact ⟨_, by unfold compI; rw [h1], h2⟩
      · obtain ⟨S', h8, h9⟩ := ih (i + 1) _ (by omega) h7
        exact ⟨S', by unfold compI; rw [h2]; dsimp only; rw [h3]; dsimp only [yesM, retM]; rw [h4]; dsimp only; rw [h5]; dsimp only; rw [if_pos h6]; exact h8, h9⟩
  obtain ⟨S', h1, h2⟩ := key it.n 0 _ (by omega) h0
  exact ⟨_, S', by dsimp only; rw [h1], h2⟩
/-- the end of a def -/
def endP (P : D → So → Prop) : Fl → Sl → So → Prop := fun f _ S => match f with
  | .nx => P .non S
  | .rt d => P d S
  | _ => False
@[simp] theorem endP_nx {P : D → So → Prop} : endP P .nx e S ↔ P .non S := Iff.rfl
@[simp] theorem endP_rt {P : D → So → Prop} {d : D} : endP P (.rt d) e S ↔ P d S := Iff.rfl
theorem okC_fn {np n : Nat} {m : MS} {ds : List D} {P : D → So → Prop} (hl : ds.length = np) (h : okS m (startE n ds) S (endP P)) : okC (fnM np n m ds S) P := by
  obtain ⟨f, e', S', h1, h2⟩ := h
  unfold fnM
  rw [if_pos hl, h1]
  cases f with
  | nx => exact ⟨_, _, rfl, h2⟩
  | rt d => exact ⟨_, _, rfl, h2⟩
  | _ => exact h2.elim
theorem okS_rng {m : MM (List D)} {t : Tg} {b : MS} {P : Fl → Sl → So → Prop} (h : okM m e S fun ds S1 => ∃ j : Nat, ds = [.int j] ∧ (j : Int) < 2 ^ 62 ∧ ∃ I : Nat → Sl → So → Prop, I 0 e S1 ∧ (∀ i e2 S2, i < j → I i e2 S2 → ∃ e3, t (.int i) S2 e2 = some e3 ∧ okS b e3 S2 (turnP (I (i + 1)) P)) ∧ ∀ e2 S2, I j e2 S2 → P .nx e2 S2) :
    okS (forS (mRng1 m) t b) e S P := by
  refine okS_for ?_
  unfold mRng1
  simp only [okM_bind]
  refine h.imp fun ds S1 q => ?_
  obtain ⟨j, rfl, hj, I, h0, hs, hd⟩ := q
  refine ⟨itRng 0 j, S1, ?_, fun i e2 S2 => i ≤ j ∧ I i e2 S2, ⟨Nat.zero_le _, h0⟩, fun i e2 S2 hI => ?_⟩
  · unfold rng1
    simp only [Int.toNat_natCast]
    rw [if_pos ⟨by omega, hj⟩]
  · obtain ⟨hi, hI⟩ := hI
    by_cases hij : i < j
    · obtain ⟨e3, h1, h2⟩ := hs i e2 S2 hij hI
      refine .inr ⟨hij, .int i, e3, by unfold itRng; simp [hij], h1, h2.imp fun f e' S' q => ?_⟩
      cases f with
      | nx => exact ⟨hij, q⟩
      | ct => exact ⟨hij, q⟩
      | _ => exact q
    · have : i = j := by omega
      subst this
      exact .inl ⟨by unfold itRng; simp, hd _ _ hI⟩
theorem okM_compR {own : List Nat} {m : MM (List D)} {t : Tg} {te : MM D} {P : D → So → Prop} (h : okM m e S fun ds S1 => ∃ j : Nat, ds = [.int j] ∧ (j : Int) < 2 ^ 62 ∧ ∃ I : Nat → So → Prop, I 0 (S1 ++ [.lst []]) ∧
    (∀ i S2, i < j → I i S2 → ∃ e3, t (.int i) S2 (wipeE e own) = some e3 ∧ okM te e3 S2 fun y S3 => ∃ acc, S3[S1.length]? = some (.lst acc) ∧ acc.length < sizeLine ∧ I (i + 1) (S3.set S1.length (.lst (acc ++ [y])))) ∧ ∀ S2, I j S2 → P (.ref S1.length) S2) :
    okM (compM own (mRng1 m) t yesM te) e S P := by
  refine okM_comp ?_
  unfold mRng1
  simp only [okM_bind]
  refine h.imp fun ds S1 q => ?_
  obtain ⟨j, rfl, hj, I, h0, hs, hd⟩ := q
  refine ⟨itRng 0 j, S1, ?_, fun i S2 => i ≤ j ∧ I i S2, ⟨Nat.zero_le _, h0⟩, fun i S2 hI => ?_⟩
  · unfold rng1
    simp only [Int.toNat_natCast]
    rw [if_pos ⟨by omega, hj⟩]
  · obtain ⟨hi, hI⟩ := hI
    by_cases hij : i < j
    · obtain ⟨e3, h1, h2⟩ := hs i S2 hij hI
      refine .inr ⟨hij, .int i, e3, by unfold itRng; simp [hij], h1, h2.imp fun y S3 q => ?_⟩
      obtain ⟨acc, h3, h4, h5⟩ := q
      exact ⟨acc, h3, h4, hij, h5⟩
    · have : i = j := by omega
      subst this
      exact .inl ⟨by unfold itRng; simp, hd _ hI⟩
end
end DD

set_option Elab.async false
set_option linter.all false
set_option maxRecDepth 100000
namespace DD
open PySem PySem.Spec PyProof.Rows L2
section
variable {α β : Type} {e : Sl} {S : So}
@[simp] theorem okM_meth {ty : D → So → Bool} {f : FM} {mo : MM D} {ma : MM (List D)} {P : D → So → Prop} : okM (mMeth ty f mo ma) e S P ↔ okM mo e S fun a S1 => ty a S1 = true ∧ okM ma e S1 fun ds S2 => okF (f a ds S2) P := by
  unfold mMeth
  simp only [okM_bind]
  constructor
  · intro h
    refine h.imp fun a S1 q => ?_
    by_cases ht : ty a S1 = true
    · refine ⟨ht, ?_⟩
      obtain ⟨d, S2, h1, p⟩ := q
      dsimp only at h1
      rw [if_pos ht] at h1
      have : okM (bindM ma fun ds => liftF (f a ds)) e S1 P := ⟨d, S2, h1, p⟩
      simpa using this
    · obtain ⟨d, S2, h1, p⟩ := q
      dsimp only at h1
      rw [if_neg ht] at h1
      cases h1
  · intro h
    refine h.imp fun a S1 q => ?_
    obtain ⟨ht, q⟩ := q
    have : okM (bindM ma fun ds => liftF (f a ds)) e S1 P := by simpa using q
    obtain ⟨d, S2, h1, p⟩ := this
    exact ⟨d, S2, by dsimp only; rw [if_pos ht]; exact h1, p⟩
theorem cm {i j : Int} (h : -(2 ^ 64) < j ∧ j < 2 ^ 64) : CMul i j ∨ CMulW i j := .inl (.inr h)
@[simp] theorem okF_mul {i j : Int} {P : D → So → Prop} : okF (fMul (.int i) (.int j) S) P ↔ (CMul i j ∨ CMulW i j) ∧ P (.int (i * j)) S := by unfold fMul; simp
@[simp] theorem okF_div {i j : Int} {P : D → So → Prop} : okF (fDiv (.int i) (.int j) S) P ↔ CDivW i j ∧ P (.int (i / j)) S := by unfold fDiv; simp
@[simp] theorem okF_mod {i j : Int} {P : D → So → Prop} : okF (fMod (.int i) (.int j) S) P ↔ 0 < j ∧ P (.int (i % j)) S := by unfold fMod; simp
@[simp] theorem okF_pow {i j : Int} {P : D → So → Prop} : okF (fPow (.int i) (.int j) S) P ↔ CPow i j ∧ P (.int (i ^ j.toNat)) S := by unfold fPow; simp
@[simp] theorem fAdd_int {i j : Int} : fAdd (.int i) (.int j) S = some (.int (i + j), S) := rfl
@[simp] theorem fSub_int {i j : Int} : fSub (.int i) (.int j) S = some (.int (i - j), S) := rfl
@[simp] theorem fOrd_int {p q} {i j : Int} : fOrd p q (.int i) (.int j) S = some (.bl (p i j), S) := rfl
@[simp] theorem fInt_int {i : Int} : fInt [.int i] S = some (.int i, S) := rfl
@[simp] theorem fAbs_int {i : Int} : fAbs [.int i] S = some (.int (if i < 0 then -i else i), S) := rfl
@[simp] theorem fNeg_int {i : Int} : fNeg (.int i) S = some (.int (-i), S) := rfl
@[simp] theorem fLen_rol {xs : List D} : fLen [.rol xs] S = some (.int xs.length, S) := rfl
theorem fLen_ref {n : Nat} {xs : List D} (h : S[n]? = some (.lst xs)) : fLen [.ref n] S = some (.int xs.length, S) := by
  simp [fLen, seqOf, h]
theorem fIx_ref {n : Nat} {xs : List D} {i : Int} {d : D} (h : S[n]? = some (.lst xs)) (h2 : atI xs i = some d) : fIx (.ref n) (.int i) S = some (d, S) := by
  simp [fIx, seqOf, h, h2]
theorem fIx_rol {xs : List D} {i : Int} {d : D} (h2 : atI xs i = some d) : fIx (.rol xs) (.int i) S = some (d, S) := by
  simp [fIx, seqOf, h2]
theorem atI_ok {xs : List α} {i : Int} (h0 : 0 ≤ i) (h1 : i < xs.length) : ∃ d, atI xs i = some d ∧ xs[i.toNat]? = some d := by
  have h2 : i.toNat < xs.length := by omega
  refine ⟨xs[i.toNat], ?_, List.getElem?_eq_getElem h2⟩
  unfold atI ixN
  rw [if_pos h0, if_pos h1]
  exact List.getElem?_eq_getElem h2
theorem isL_ref {n : Nat} {xs : List D} (h : S[n]? = some (.lst xs)) : isL (.ref n) S = true := by simp [isL, h]
theorem fAppend_ref {n : Nat} {xs : List D} {y : D} (h : S[n]? = some (.lst xs)) (hl : xs.length < sizeLine) : fAppend (.ref n) [y] S = some (.non, S.set n (.lst (xs ++ [y]))) := by
  simp [fAppend, h, hl]
theorem fSet_ref {n : Nat} {xs : List D} {i : Int} {y : D} (h : S[n]? = some (.lst xs)) (h0 : 0 ≤ i) (h1 : i < xs.length) : fSet (.ref n) (.int i) y S = some (S.set n (.lst (xs.set i.toNat y))) := by
  unfold fSet
  simp only [h]
  unfold ixN
  rw [if_pos h0, if_pos h1]
  rfl
@[simp] theorem fEq_int {i j : Int} : fEq (.int i) (.int j) S = some (.bl (i == j), S) := by
  unfold fEq
  dsimp only
  unfold eqD
  have h1 : ∀ k : Int, py (.int k) S = some (.int k) := fun k => by unfold py toPy; rfl
  have h2 : ∀ k : Int, SeqAt.shaped (.int k) = true := fun k => by
    unfold SeqAt.shaped
    simp [PyData.canLay0, PyData.depth]
  rw [h1, h1]
  dsimp only
  rw [if_pos ⟨h2 _, h2 _⟩]
  simp [PyData.eqv]
theorem okM_seqV {i : Nat} {xs : List D} {P : Itm → So → Prop} (h : e[i]? = some (.v (.rol xs))) (hp : P (itFix xs) S) : okM (mSeq (mVar i)) e S P := by
  unfold mSeq
  rw [okM_bind, okM_var]
  exact ⟨_, h, _, _, rfl, hp⟩
theorem okM_seqM {m : MM D} {P : Itm → So → Prop} (h : okM m e S fun d S1 => ∃ xs, d = .tup xs ∧ P (itFix xs) S1) : okM (mSeq m) e S P := by
  unfold mSeq
  rw [okM_bind]
  refine h.imp fun d S1 q => ?_
  obtain ⟨xs, rfl, q⟩ := q
  exact ⟨_, _, rfl, q⟩
theorem line200 : (200 : Nat) < sizeLine := by rw [sizeLine_eq]; decide
end
end DD

set_option Elab.async false
set_option linter.all false
set_option maxRecDepth 100000
namespace DD
open PySem PySem.Spec PyProof.Rows L2
section
variable {e : Sl} {S : So}
/-- if x == j: .. of a chain -/
theorem okS_eqF {i : Nat} {k j : Int} {m rest : MS} {P : Fl → Sl → So → Prop} (he : e[i]? = some (.v (.int k))) (hj : (k == j) = false) (h : okS rest e S P) : okS (seqS (ifS (mTst (mOp2 fEq (mVar i) (retM (.int j)))) m nxS) rest) e S P := by
  refine okS_seq (okS_ifF ?_)
  simp only [okM_tst, okM_op2, okM_var, okM_ret]
  refine ⟨_, he, ?_⟩
  rw [fEq_int, okF_some, hj]
  exact ⟨_, rfl, rfl, okS_nx h⟩
theorem okS_eqT {i : Nat} {k j : Int} {m rest : MS} {P : Fl → Sl → So → Prop} (he : e[i]? = some (.v (.int k))) (hj : (k == j) = true) (h : okS m e S (nxt rest P)) : okS (seqS (ifS (mTst (mOp2 fEq (mVar i) (retM (.int j)))) m nxS) rest) e S P := by
  refine okS_seq (okS_ifT ?_)
  simp only [okM_tst, okM_op2, okM_var, okM_ret]
  refine ⟨_, he, ?_⟩
  rw [fEq_int, okF_some, hj]
  exact ⟨_, rfl, rfl, h⟩
theorem fTup_ok {ds : List D} (h : ds.length ≤ 100) : fTup ds S = some (.tup ds, S) := by
  unfold fTup
  rw [if_pos (by have := line200; omega)]
theorem fLst_ok {ds : List D} (h : ds.length ≤ 100) : fLst ds S = some (.ref S.length, S ++ [.lst ds]) := by
  unfold fLst
  rw [if_pos (by have := line200; omega)]
theorem xmkF_ok {c : Str} {fns : List Str} {ds : List D} (h : ds.length = fns.length) : xmkF c fns ds S = some (.ok (.ref S.length), S ++ [.exi c (stk fns ds [])]) := by
  unfold xmkF
  rw [if_pos h]
theorem fXfld_ok {T : Tab} {f c : Str} {n : Nat} {fs : List (Str × D)} {d : D} (h : S[n]? = some (.exi c fs)) (h2 : T.xattr c f = true) (h3 : fs.lookup f = some d) : fXfld T f (.ref n) S = some (d, S) := by
  unfold fXfld
  simp [h, h2, h3]
theorem fIsiA_ok {T : Tab} {c x : Str} {n : Nat} {fs : List (Str × D)} {b : Bool} (h : S[n]? = some (.exi c fs)) (h2 : T.exc c = true) (h3 : T.kit (.inr c) (.inr x) = some b) : fIsiA T [.ref n, .glo x] S = some (.bl b, S) := by
  unfold fIsiA
  simp [h, clsN, h2, h3]
theorem fIsiA_ty {T : Tab} {c : Str} {x : String} {n : Nat} {fs : List (Str × D)} {b : Bool} (h : S[n]? = some (.exi c fs)) (h2 : T.exc c = true) (h3 : T.kit (.inr c) (.inl x) = some b) : fIsiA T [.ref n, .ty x] S = some (.bl b, S) := by
  unfold fIsiA
  simp [h, clsN, h2, h3]
theorem py_ints {k : Nat} : ∀ js : List Int, toPys S k (js.map .int) = some (js.map .int)
  | [] => by unfold toPys; rfl
  | j :: js => by
    have h : toPy S k (.int j) = some (.int j) := by unfold toPy; rfl
    rw [List.map_cons, List.map_cons]
    unfold toPys
    rw [h, py_ints js]
theorem py_bls {k : Nat} : ∀ js : List Bool, toPys S k (js.map .bl) = some (js.map .bool)
  | [] => by unfold toPys; rfl
  | j :: js => by
    have h : toPy S k (.bl j) = some (.bool j) := by unfold toPy; rfl
    rw [List.map_cons, List.map_cons]
    unfold toPys
    rw [h, py_bls js]
theorem lay_ints : ∀ js : List Int, PyData.canLayAll0 (js.map .int) = true ∧ PyData.depthAll (js.map .int) = 0
  | [] => by simp [PyData.canLayAll0, PyData.depthAll]
  | j :: js => by
    obtain ⟨h1, h2⟩ := lay_ints js
    simp [PyData.canLayAll0, PyData.depthAll, PyData.canLay0, PyData.depth, h1, h2]
theorem lay_bls : ∀ js : List Bool, PyData.canLayAll0 (js.map .bool) = true ∧ PyData.depthAll (js.map .bool) = 0
  | [] => by simp [PyData.canLayAll0, PyData.depthAll]
  | j :: js => by
    obtain ⟨h1, h2⟩ := lay_bls js
    simp [PyData.canLayAll0, PyData.depthAll, PyData.canLay0, PyData.depth, h1, h2]
theorem shaped_int {i : Int} : SeqAt.shaped (.int i) = true := by unfold SeqAt.shaped; simp [PyData.canLay0, PyData.depth]
theorem shaped_ints {js : List Int} : SeqAt.shaped (.list (js.map .int)) = true := by
  unfold SeqAt.shaped
  simp [PyData.canLay0, PyData.depth, lay_ints js]
theorem shaped_bls {js : List Bool} : SeqAt.shaped (.list (js.map .bool)) = true := by
  unfold SeqAt.shaped
  simp [PyData.canLay0, PyData.depth, lay_bls js]
theorem py_list {n : Nat} {xs : List D} {ps : List PyData} (h : S[n]? = some (.lst xs)) (h2 : toPys S 8 xs = some ps) : py (.ref n) S = some (.list ps) := by
  unfold py toPy
  rw [h]
  dsimp only
  rw [h2]
  rfl
theorem fIn_ints {k : Int} {n : Nat} {js : List Int} (h : S[n]? = some (.lst (js.map .int))) : fIn (.int k) (.ref n) S = some (.bl (js.any fun j => j == k), S) := by
  have h1 : py (.int k) S = some (.int k) := by unfold py toPy; rfl
  unfold fIn
  rw [h1, py_list h (py_ints js)]
  dsimp only
  rw [if_pos ⟨shaped_int, shaped_ints⟩]
  have : ((js.map PyData.int).any fun z => PyData.eqv z (.int k)) = js.any fun j => j == k := by
    rw [List.any_map]
    congr 1
  rw [this]
theorem fNe_bls {n m : Nat} {js : List Bool} (h : S[n]? = some (.lst (js.map .bl))) (h2 : S[m]? = some (.lst (js.map .bl))) : fNe (.ref n) (.ref m) S = some (.bl false, S) := by
  unfold fNe
  dsimp only
  unfold eqD
  rw [py_list h (py_bls js), py_list h2 (py_bls js)]
  dsimp only
  rw [if_pos ⟨shaped_bls, shaped_bls⟩]
  have e : PyData.eqv (.list (js.map .bool)) (.list (js.map .bool)) = true := PySem.SeqAt.eqv_refl _ (by simp [PyData.canLay0, lay_bls js])
  rw [e]
  rfl
theorem fNe_str {x : Str} : fNe (.str x) (.str x) S = some (.bl false, S) := by
  unfold fNe
  simp
theorem fRepr_ok {d : D} {p : PyData} (h : py d S = some p) (h2 : okShow p = true) : fRepr [d] S = some (.str p.shown, S) := by
  unfold fRepr
  dsimp only
  rw [h]
  dsimp only
  rw [if_pos h2]
end
end DD

set_option Elab.async false
set_option linter.all false
set_option maxRecDepth 100000
namespace DD
open PySem PySem.Spec PyProof.Rows L2
/-! ### raise -/
def raiseS (c : Str) (fns : List Str) (m : MM (List D)) : MS := bindS m fun ds e S => if ds.length = fns.length then some (.ex c (stk fns ds []), e, S) else none
section
variable {X : Cx} {W : WX} {pos : Pos} {k : Nat} {fns : List Str} {xa : Xa}
theorem sm_raise {x : Str} {p p2 : Pos} {e : Expr} {es : List Expr} {m : MM (List D)} (M : XiN X.prog X.w X.K X.mg X.base x fns) (hr : Room 2 X.A) (tk : Takes X W) (hc : X.calm = true) (ha : PA X (e :: es) (tA (gX X) xa W m)) (hlen : fns.length ≤ 1000 := by decide)
    (hg : Gl X x := by rfl) (hdb : (x == ("__debug__" : Str)) = false := by decide) (he : starEach (e :: es) X.env = (false, eval e X.env) :: starEach es X.env := by rfl) (hpl : (backTo p2 (starEach es X.env)).any (·.1) = false := by rfl) :
    PS X (.Raise (some (.Call (.Name x p) (e :: es) [] p2)) none pos) (tS (gX X) xa W (raiseS x fns m)) := by
  obtain ⟨C, fI, fd, M, hm, hb, _⟩ := M.ex
  have b0 : Binds X.K fd (("self" : Str) :: fns) [] := hb
  refine (ps_raise hc tk (pmk_oex (ds := []) (dvs := []) M.T M.iC M.tI M.F hr b0 .nil pass0 hg hm ha hdb he hpl)).viaM fun Dd σ H h => ?_
  obtain ⟨ι, S, ev, f, e', S', hs, hev, hmm, hf⟩ := h
  refine stepS hs hev hmm hf fun ds S1 ι1 H1 vs h1 p1 x1 s1 e1 r1 f1 => ?_
  split at h1
  case isFalse => cases h1
  rename_i hl
  cases h1
  have lv : vs.length = fns.length := by rw [← Rs.length r1, hl]
  refine ⟨by omega, fun a na => ⟨a, vs, by simp, lv, upd_same, fun d nd ne => ⟨rfl, d, stk fns vs [], upd_same, by rw [upd_ne ne]; exact upd_same, by rw [upd_ne ne] at nd; exact nd, ?_⟩⟩⟩
  have nd0 : H1 d = none := by rw [upd_ne ne] at nd; exact nd
  have same : ∀ b, b ≠ d → (upd (del (upd (upd (upd H1 a (exo a C none)) d (L2.exd d (stk fns vs []))) a (exo a C (some d))) a) d (.xd (stk fns vs []))) b = H1 b := fun b hb => by
    rw [upd_ne hb]
    by_cases hba : b = a
    · subst hba; rw [del_same, na]
    · rw [del_ne hba, upd_ne hba, upd_ne hb, upd_ne hba]
  have ex : Ex H1 (upd (del (upd (upd (upd H1 a (exo a C none)) d (L2.exd d (stk fns vs []))) a (exo a C (some d))) a) d (.xd (stk fns vs []))) :=
    ⟨fun b x z => by rw [same b (ne_of_none z nd0)]; exact z, fun b u x _ z => by rw [same b (ne_of_none z nd0)]; exact z, fun b x z => by rw [same b (ne_of_none z nd0)]; exact z, fun b x z => by rw [same b (ne_of_none z nd0)]; exact z⟩
  exact f1 ι1 _ (Pre.refl _) ex (s1.keep ex fun i b z => same b (s1.fresh nd0 z)) σ C d (stk fns vs []) (e1.mono (Pre.refl _) ex) hm upd_same (Fs.stk fns (Rs.mono (Pre.refl _) ex _ _ r1) .nil)
end
/-! ### try .. except C as n -/
def noExn (e : Sl) : Bool := e.all fun y => match y with
  | .exn _ _ => false
  | _ => true
/-- what the clauses catch -/
def Catch (g : G) (ct : Str → Str → Option Bool) : Prop := ∀ c' c b C' C, ct c' c = some b → g.mg c' = some (.ref C') → g.mg c = some (.ref C) → PySem.W.exmOne g.K (.ref C') (.ref C) = some b
def tryS (ct : Str → Str → Option Bool) (c : Str) (i : Nat) (mb ms : MS) : MS := fun e S => match mb e S with
  | some (.ex c' fs, e1, S1) => match ct c' c with
    | some true => if noExn e1 = true then (match ms (e1.set i (.exn c' fs)) S1 with
      | some (.ex _ _, _, _) => none
      | some (f, e2, S2) => if noExn (e2.set i .no) = true then some (f, e2.set i .no, S2) else none
      | none => none) else none
    | some false => some (.ex c' fs, e1, S1)
    | none => none
  | o => o
section
variable {g : G} {xa xa' : Xa} {ι : List Addr} {H : Hp}
theorem Er.swap {e : Sl} {σ : L2.St} (h : Er g xa ι H e σ) (n : noExn e = true) : Er g xa' ι H e σ := ⟨h.1, fun i y z e1 e2 => by
  have q := h.2 i y z e1 e2
  cases y with
  | no => trivial
  | v d => exact q
  | exn c fs =>
    have := List.all_eq_true.mp n _ (List.mem_of_getElem? e1)
    cases this⟩
theorem Er.setX {e : Sl} {σ : L2.St} (h : Er g xa ι H e σ) {i : Nat} {c : Str} {fs : List (Str × D)} {C dd : Addr} {gs : List (Str × V)} (h1 : xa.cls = .ref C) (h2 : g.mg c = some (.ref C)) (h3 : xa.d = some dd) (h4 : H dd = some (.xd gs)) (h5 : Fs g ι H fs gs) :
    Er g xa ι H (e.set i (.exn c fs)) (σ.set i (some (.ref xa.a))) := by
  refine ⟨by simp [h.1], fun j y z e1 e2 => ?_⟩
  by_cases hj : j = i
  · subst hj
    have hl : j < e.length := by have := (List.getElem?_eq_some_iff.mp e1).1; simpa using this
    rw [List.getElem?_set_self hl] at e1
    rw [List.getElem?_set_self (by rw [← h.1]; exact hl)] at e2
    cases e1; cases e2
    exact ⟨rfl, ⟨C, h1, h2⟩, dd, gs, h3, h4, h5⟩
  · rw [List.getElem?_set_ne (Ne.symm hj)] at e1
    rw [List.getElem?_set_ne (Ne.symm hj)] at e2
    exact h.2 j y z e1 e2
end
section
variable {X : Cx} {Wout : WX} {pos : Pos} {xa : Xa}
theorem sm_try {ct : Str → Str → Option Bool} {x n : Str} {i : Nat} {C : Addr} {body suite : List Stmt} {b₀ : Stmt} {np pos' : Pos} {mb ms : MS} (cf : Catch (gX X) ct) (hm : X.mg x = some (.ref C)) (hN : X.N.Nodup) (tk : Takes X Wout)
    (hb : ∀ (W : WX) (pn : List (Addr × Obj)) (xe : Value → Shared → Prop), Takes (X.tr pn xe) W → PassesOwn (model X.prog X.w) X.A X.env xe → PSs (X.tr pn xe) body (tS (gX X) xa W mb))
    (hsu : ∀ (a : Addr) (oe : Obj) (cls : Value) (d : Option Addr) (pn : List (Addr × Obj)), Zc cls d oe → (∃ vs, oe.data = .fields vs) → PSs (X.suite a ((a, oe) :: pn)) (b₀ :: suite) (tS (gX X) ⟨a, cls, d⟩ WF ms))
    (hi : X.N[i]? = some n := by rfl) (hln : X.env.kindOf n = some .local := by rfl) (hg : Gl X x := by rfl) (hdb : (x == ("__debug__" : Str)) = false := by decide) (hs : X.stack = X.env :: X.outer := by rfl) (hf : X.env.frame = some X.env.locals := by rfl) :
    PS X (.Try body [.ExceptHandler (some (.Name x np)) (some n) (b₀ :: suite) pos'] [] [] pos) (tS (gX X) xa Wout (tryS ct x i mb ms)) := by
  refine (ps_try_as (i := i) (tb := fun W => tS (gX X) xa W mb) (ts := fun a cls d => tS (gX X) ⟨a, cls, d⟩ WF ms) (Wout := Wout) hs hf hN hi hln ⟨hg, hdb, .inl hm⟩ tk hb hsu).viaM fun Dd σ H h => ?_
  obtain ⟨ι, S, e, f, e', S', hs, he, hmm, hf⟩ := h
  unfold tryS at hmm
  split at hmm
  · rename_i c' fs e1 S1 q
    refine ⟨ι, S, e, _, e1, S1, hs, he, q, fun ι1 H1 p1 x1 s1 σ1 C' dd gs r1 h1 h2 h3 => ?_⟩
    split at hmm
    · rename_i hct
      split at hmm
      case isFalse => cases hmm
      rename_i hne
      refine ⟨true, cf _ _ _ _ _ hct h1 hm, fun _ a na => ?_, fun z => by cases z⟩
      have er1 : Er (gX X) ⟨a, .ref C', some dd⟩ ι1 H1 (e1.set i (.exn c' fs)) (σ1.set i (some (.ref a))) := (Er.swap r1 hne : Er (gX X) ⟨a, .ref C', some dd⟩ ι1 H1 e1 σ1).setX rfl h1 rfl h2 h3
      split at hmm
      · cases hmm
      · rename_i f2 e2 S2 q2 hnex
        split at hmm
        case isFalse => cases hmm
        rename_i hne2
        cases hmm
        refine ⟨ι1, S1, _, f, e2, S', s1, er1, hnex, fun ι2 H2 p2 x2 s2 => ?_⟩
        have f2' := hf ι2 H2 (p1.trans p2) (x1.trans x2) s2
        have back : ∀ {σ2 : L2.St}, Er (gX X) ⟨a, .ref C', some dd⟩ ι2 H2 e2 σ2 → Er (gX X) xa ι2 H2 (e2.set i .no) (σ2.set i none) := fun r => Er.swap r.clear hne2
        cases f with
        | nx => exact fun σ2 r => f2' _ (back r)
        | bk => exact fun σ2 r => f2' _ (back r)
        | ct => exact fun σ2 r => f2' _ (back r)
        | rt d => exact f2'
        | ex c fs => exact (q2 c fs rfl).elim
      · cases hmm
    · rename_i hct
      cases hmm
      exact ⟨false, cf _ _ _ _ _ hct h1 hm, fun z => (by cases z), fun _ => hf ι1 H1 p1 x1 s1 σ1 C' dd gs r1 h1 h2 h3⟩
    · cases hmm
  · rename_i hno
    refine ⟨ι, S, e, f, e', S', hs, he, hmm, ?_⟩
    cases f with
    | ex c fs => exact absurd hmm (hno c fs e' S')
    | nx => exact fun ι' H' p x s => hf ι' H' p x s
    | bk => exact fun ι' H' p x s => hf ι' H' p x s
    | ct => exact fun ι' H' p x s => hf ι' H' p x s
    | rt d => exact fun ι' H' p x s => hf ι' H' p x s
end
end DD
namespace DD
open PySem PySem.Spec PyProof.Rows L2
/-! ### in an except suite -/
def mXf (T : Tab) (i : Nat) (f : Str) : MM D := fun e S => match e[i]? with
  | some (.exn c fs) => if T.xattr c f = true then (fs.lookup f).map fun d => (.ok d, S) else none
  | _ => none
def kitE (T : Tab) (c : Str) (d : D) : Option Bool := if T.exc c = true then (match d with
  | .tup cs => kitAll T (.inr c) cs
  | d => match clsN d with
    | some n => T.kit (.inr c) n
    | none => none) else none
/-- isinstance(e, c), isinstance(e, (c, ..)) -/
def mIsiE (T : Tab) (i : Nat) (m : MM D) : MM D := fun e S => match e[i]? with
  | some (.exn c _) => bindM m (fun d _ S1 => (kitE T c d).map fun b => (.ok (.bl b), S1)) e S
  | _ => none
section
variable {X : Cx} {g : G} {W : WX} {pos : Pos} {T : Tab} {a : Addr} {oe : Obj} {cls : Value} {d : Option Addr} {pn : List (Addr × Obj)}
theorem Er.exn {xa : Xa} {ι : List Addr} {H : Hp} {e : Sl} {σ : L2.St} (h : Er g xa ι H e σ) {i : Nat} {c : Str} {fs : List (Str × D)} (q : e[i]? = some (.exn c fs)) :
    σ[i]? = some (some (.ref xa.a)) ∧ (∃ C, xa.cls = .ref C ∧ g.mg c = some (.ref C)) ∧ ∃ dd gs, xa.d = some dd ∧ H dd = some (.xd gs) ∧ Fs g ι H fs gs := by
  have hl : i < σ.length := by rw [← h.1]; exact (List.getElem?_eq_some_iff.mp q).1
  obtain ⟨h1, h2, h3⟩ := h.2 i _ σ[i] q (List.getElem?_eq_getElem hl)
  exact ⟨by rw [List.getElem?_eq_getElem hl, h1], h2, h3⟩
theorem em_xfS (i : Nat) {x f : Str} {p : Pos} (F : Facts g T) (hz : Zc cls d oe) (hf : ∃ vs, oe.data = .fields vs) (hN : X.N[i]? = some x := by rfl) (hK : X.K = g.K := by rfl) (hv : Vis X.env.scope x := by first | exact Or.inl rfl | exact Or.inr (Or.inl rfl) | exact Or.inr (Or.inr rfl)) (hd : (x == ("__debug__" : Str)) = false := by decide) (hcd : (x == ("__classdict__" : Str)) = false := by decide)
    (hb : attributeBase (.Name x p) f X.env (eval (.Name x p) X.env) = eval (.Name x p) X.env := by rfl) : PE (X.suite a ((a, oe) :: pn)) (.Attribute (.Name x p) f pos) (tE g ⟨a, cls, d⟩ W (mXf T i f)) := by
  refine ⟨fun pins s σ H Q I h => ?_⟩
  obtain ⟨ι, S, e, r, S', hs, he, hm, hf'⟩ := h
  unfold mXf at hm
  split at hm
  · rename_i c fs q
    split at hm
    · rename_i ha
      cases hl : fs.lookup f with
      | none => rw [hl] at hm; cases hm
      | some z =>
        rw [hl] at hm
        cases hm
        obtain ⟨h1, ⟨C, h2, h3⟩, dd, gs, h4, h5, h6⟩ := he.exn q
        obtain ⟨v, h7, h8⟩ := h6.look hl
        obtain ⟨k1, k2⟩ := F.xattr c f C ha h3
        rw [← hK] at k1 k2
        have h2' : cls = .ref C := h2
        have h4' : d = some dd := h4
        exact (pe_xf (X := X) (te := tVar i) k1 k2 hz hf (pe_var (i := i) hN hv hd hcd) hb).run pins s σ H Q I ⟨.ref a, h1, rfl, h2', dd, gs, v, h4', h5, h7, hf' ι H v (Pre.refl _) (Ex.refl _) hs h8⟩
    · cases hm
  · cases hm
def rIsiS (K : PySem.W.Frag) (a : Addr) (cls : Value) (d : Option Addr) : List V → Hp → VK → Prop := fun xs H Q => ∃ (C dd : Addr) (gs : List (Str × V)) (c : V) (b : Bool), cls = .ref C ∧ d = some dd ∧ H dd = some (.xd gs) ∧ ExcC K C ∧ xs = [.ref a, c] ∧
  ((∃ cv, ClsV c cv ∧ PySem.W.kitOne K (.ref C) cv = some b) ∨ (∃ tp cs us, c = .ref tp ∧ SqU K H tp cs ∧ Paired ClsV cs us ∧ PySem.W.kitAny K (.ref C) us = some b)) ∧ Q (.bl b) H
theorem call_isiS (hz : Zc cls d oe) (hf : ∃ vs, oe.data = .fields vs) : CallR (X.suite a ((a, oe) :: pn)) (.builtin "isinstance") (rIsiS X.K a cls d) := by
  intro pins s σ H xs us Q I r h
  obtain ⟨C, dd, gs, c, b, rfl, rfl, ed, E, rfl, hc, q⟩ := h
  cases r with
  | cons rx rr =>
    cases rr with
    | cons rt rr =>
      cases rr
      cases rx
      obtain ⟨hget, _⟩ := I.pin (a, oe) (List.mem_append.mpr (.inl List.mem_cons_self))
      obtain ⟨vs, hv⟩ := hf
      have hx : ObjOk X.prog X.w H s.heap dd (.xd gs) := I.hok dd _ ed
      obtain ⟨mA, hns, hr⟩ := hx
      obtain ⟨od, ho, hl⟩ := lookIn_ns hns
      have J : PySem.W.InstAt s.heap a oe C (some od) := ⟨hget, hz.1, by unfold PySem.W.notCls; rw [hv] <;> rfl, by rw [hz.2]; exact ho⟩
      have hcl : (PySem.W.clsIn X.K C).isSome = true := by
        obtain ⟨cd, hc, _⟩ := PySem.W.any_some E.hd
        rw [hc]; rfl
      have kx := PySem.W.kitx_exc (x := a) (ox := oe) (od := some od) hcl E.hg E.hk E.hs E.ha E.hn E.ht E.hm
      rcases hc with ⟨cv, hc, e⟩ | ⟨tp, cs, us, rfl, ht, hp, e⟩
      · have ec := ClsV.eq hc rt
        subst ec
        exact PySem.W.kia_one kx I.kIn J e (fun z => nomatch z) fun tk => ⟨.bl b, H, I.kept (t' := tk) fun _ _ z => z, rfl, q⟩
      · cases rt
        rcases ht with ⟨o9, ht, _⟩ | ⟨o, its, n, k1, k2, k3, k4, k5, _⟩
        · obtain ⟨_, _, its, r5, o, k1, k2, n, k3⟩ := (show ObjOk X.prog X.w H s.heap tp (.frz o9 (.tup cs)) from I.hok tp _ ht)
          have eu : its = us := ClsV.all hp r5
          subst eu
          obtain ⟨oc, od2, dt, sl⟩ := o
          dsimp only at k2 k3
          subst k2 k3
          exact PySem.W.kia_tup kx I.kIn J k1 e (fun z => nomatch z) fun tk => ⟨.bl b, H, I.kept (t' := tk) fun _ _ z => z, rfl, q⟩
        · have eu : its.toList = us := ClsV.all hp k5
          obtain ⟨oc, od2, dt, sl⟩ := o
          dsimp only at k2 k3
          subst k2 k3 eu
          exact PySem.W.kia_tup kx I.kIn J (by rw [Array.toArray_toList]; exact I.kIn _ _ k1) e (fun z => nomatch z) fun tk => ⟨.bl b, H, I.kept (t' := tk) fun _ _ z => z, rfl, q⟩
theorem em_isiS (i : Nat) {x : Str} {p p2 : Pos} {ce : Expr} {m : MM D} (F : Facts g T) (nm : Named g T) (hz : Zc cls d oe) (hf : ∃ vs, oe.data = .fields vs) (hm : X.mg "isinstance" = none) (hc : PE (X.suite a ((a, oe) :: pn)) ce (tE g ⟨a, cls, d⟩ W m))
    (hN : X.N[i]? = some x := by rfl) (hK : X.K = g.K := by rfl) (hv : Vis X.env.scope x := by first | exact Or.inl rfl | exact Or.inr (Or.inl rfl) | exact Or.inr (Or.inr rfl)) (hd : (x == ("__debug__" : Str)) = false := by decide) (hcd : (x == ("__classdict__" : Str)) = false := by decide) (hg : Gl X "isinstance" := by rfl)
    (h1 : starEach [.Name x p, ce] X.env = (false, eval (.Name x p) X.env) :: starEach [ce] X.env := by rfl) (h2 : starEach [ce] X.env = (false, eval ce X.env) :: starEach [] X.env := by rfl) (hpl : (backTo pos (starEach [ce] X.env)).any (·.1) = false := by rfl) :
    PE (X.suite a ((a, oe) :: pn)) (.Call (.Name "isinstance" p2) [.Name x p, ce] [] pos) (tE g ⟨a, cls, d⟩ W (mIsiE T i m)) := by
  have pa : PA (X.suite a ((a, oe) :: pn)) [.Name x p, ce] (tCons (tVar i) (tCons (tE g ⟨a, cls, d⟩ W m) tNil)) := pa_cons (pe_var (i := i) hN hv hd hcd) (pa_cons hc pa_nil h2) h1
  refine (pe_callB (X := X.suite a ((a, oe) :: pn)) (id := "isinstance") (call_isiS hz hf) hg hm (by decide +kernel) pa (by decide) (by decide) h1 hpl).viaM fun σ H Q h => ?_
  obtain ⟨ι, S, e, r, S', hs, he, hmm, hf'⟩ := h
  unfold mIsiE at hmm
  split at hmm
  case h_2 => cases hmm
  rename_i c fs q
  obtain ⟨q1, ⟨C, q2, q3⟩, dd, gs, q4, q5, q6⟩ := he.exn q
  refine ⟨.ref a, q1, ?_⟩
  refine stepG hs he hmm hf' fun cd S1 ι1 H1 cv k1 p1 x1 s1 e1 r1 f1 => ?_
  cases hk : kitE T c cd with
  | none => rw [hk] at k1; cases k1
  | some b =>
    rw [hk] at k1
    cases k1
    unfold kitE at hk
    split at hk
    case isFalse => cases hk
    rename_i hx
    have E := F.exc c C hx q3
    rw [← hK] at E
    refine ⟨C, dd, gs, cv, b, q2, q4, x1.xd _ _ q5, E, rfl, ?_, f1 ι1 H1 _ (Pre.refl _) (Ex.refl _) s1 (.bl _)⟩
    split at hk
    · rename_i cs
      cases r1 with
      | tup t1 t2 =>
        obtain ⟨us, u1, u2⟩ := kitAll_R F nm (t := .inr c) (tv := .ref C) ⟨C, q3, rfl⟩ t2 hk
        rw [hK]
        exact .inr ⟨_, _, us, rfl, t1, u1, u2⟩
    · split at hk
      · rename_i n en
        obtain ⟨v, v1, v2⟩ := cls_R r1 en (nm _ _ b hk)
        rw [hK]
        exact .inl ⟨v, v2, F.kit _ _ b _ v hk ⟨C, q3, rfl⟩ v1⟩
      · cases hk
end
end DD

set_option Elab.async false
set_option linter.all false
set_option maxRecDepth 100000
namespace DD
open PySem PySem.Spec PyProof.Rows L2
/-! ### == and != by an own __eq__ -/
section
variable {M : Model} {prog : Program} {w : World} {A : Around} {E : Value → Shared → Prop} {s : Shared} {K : PySem.W.Frag} {x C : Addr} {ox : Obj} {od : Option Obj} {f : Addr} {b tb : Value}
theorem bound_ne {args : List Value} {Q : Option Value → Shared → Prop} (X : K.In s.heap) (I : PySem.W.InstAt s.heap x ox C od) (hs : PySem.W.findIn K (.ref C) "__ne__" = some (some (.builtin "object.__ne__")))
    (h : wpAny M A (call (.builtin "object.__ne__") (.ref x :: args)) (fun v => Q (some v)) E s) : wpAny M A (callSpecialIfBound? (.ref x) "__ne__" args) Q E s := by
  simp only [callSpecialIfBound?, bindSpecialIfBound?]
  refine wpAny_holding (wpAny_bind (wpAny_bind (wpAny_bind (I.type.here ((PySem.W.looks_findIn X hs).here ?_)))))
  refine wpAny_bind (wpAny_askSetting (wpAny_ite ?_))
  have go : wpAny M A (call (.builtin "object.__ne__") ([.ref x] ++ args) >>= fun v => pure (some v)) Q E s :=
    wpAny_bind (wpAny_mono h (fun v s' z => wpAny_pure z) fun _ _ z => z)
  split
  · refine wpAny_bind (wpAny_of_eq (PySem.F.cmp_object.ne.bind _) (wpAny_pure ?_))
    exact go
  · refine wpAny_tryCatch (wpAny_bind (wpAny_of_eq (PySem.F.cmp_object.ne.bind _) (wpAny_pure ?_)))
    exact go
theorem ne_own {Q : Value → Shared → Prop} (hu : A.units + 1 < cLine) (X : K.In s.heap) (I : PySem.W.InstAt s.heap x ox C od) (hb : PySem.W.Looks (model prog w) s.heap (typeOf b) tb) (hn : PySem.W.notFirst K C tb = true) (hm : PySem.W.mroIn K C (.type "object") = some true)
    (hne : PySem.W.findIn K (.ref C) "__ne__" = some (some (.builtin "object.__ne__"))) (hs : PySem.W.findIn K (.ref C) "__eq__" = some (some (.ref f))) (hf : PySem.W.isFn K (.ref f) = true)
    (h : wpAny (model prog w) A.in1 (call (.ref f) [.ref x, b]) (fun v s' => ∃ k, v = .bool k ∧ Q (.bool (!k)) s') E s) : wpAny (model prog w) A (richCompare .NotEq (.ref x) b) Q E s := by
  have one : wpAny (model prog w) A (tryCompare (.ref x) "__ne__" b) (fun r s' => ∃ v, r = some v ∧ Q v s') E s := by
    unfold tryCompare
    refine wpAny_bind (bound_ne X I hne (wpAny_call (codeAny_call_builtin PySem.F.cmp_object.ne.plain PySem.F.cmpEntry_ne (PySem.W.check_slot PySem.F.cmpKind_ne PySem.F.cmpSplit_ne (I.type.andThen (PySem.W.looks_mroIn X hm)) (PySem.F.cmpArgs_ne _ _) ?_))))
    unfold Builtin.«object.__ne__»
    refine wpAny_bind (wpAny_of_eq (a := ((Value.ref x : Value), [b])) (by first | rfl | (simp only [slotArgs]; rfl)) ?_)
    refine wpAny_bind (wpAny_cRoomFor (by show A.units + 1 < cLine; exact hu) ?_)
    refine wpAny_bind (PySem.W.ifBound_K X I hs hf (wpAny_mono h (fun v s' z => ?_) fun _ _ z => z))
    obtain ⟨k, rfl, q⟩ := z
    refine wpAny_bind (wpAny_truthy_bool ?_)
    refine wpAny_pure (wpAny_pure ⟨_, rfl, q⟩)
  unfold richCompare
  simp only [oneThing_ref]
  refine wpAny_holding (wpAny_bind (wpAny_cRoomFor (by omega) ?_))
  refine wpAny_bind (I.type.here (wpAny_bind (hb.here ?_)))
  split
  · rename_i q
    have e : PySem.W.subIn K tb (.ref C) = some false := by
      rcases Bool.or_eq_true_iff.mp hn with e | e
      · rw [beq_iff_eq.mp e] at q; simp at q
      · exact beq_iff_eq.mp e
    refine wpAny_bind ((PySem.W.looks_subIn X e).here ?_)
    simp only [Bool.false_eq_true, if_false]
    refine wpAny_bind (wpAny_mono one (fun r s' z => ?_) fun _ _ e => e)
    obtain ⟨v, rfl, hq⟩ := z
    exact wpAny_pure hq
  · refine wpAny_bind (wpAny_pure ?_)
    simp only [Bool.false_eq_true, if_false]
    refine wpAny_bind (wpAny_mono one (fun r s' z => ?_) fun _ _ e => e)
    obtain ⟨v, rfl, hq⟩ := z
    exact wpAny_pure hq
end
end DD
namespace DD
open PySem PySem.Spec PyProof.Rows L2
/-- what == and != ask of the own class at C with an __eq__ at f -/
structure EqC (K : PySem.W.Frag) (C f : Addr) : Prop where
  eq : PySem.W.findIn K (.ref C) "__eq__" = some (some (.ref f))
  fn : PySem.W.isFn K (.ref f) = true
  ne : PySem.W.findIn K (.ref C) "__ne__" = some (some (.builtin "object.__ne__"))
  ob : PySem.W.mroIn K C (.type "object") = some true
section
variable {X : Cx} {W : WX} {k : Nat} {C f : Addr} {fd : FuncData} {ps : List Str} {φ : FnD} {T : Tab} {c : Str}
theorem ins_at {pins : List (Addr × Obj)} {σ : L2.St} {H : Hp} {s : Shared} {a dx : Addr} {fs : List (Str × V)} (I : Inv X pins σ H s) (e : H a = some (.ins C dx fs)) : ∃ od, PySem.W.InstAt s.heap a (PySem.W.instObj C dx) C (some od) := by
  obtain ⟨h1, h2, h3, h4, mA, hns, _⟩ := (show ObjOk X.prog X.w H s.heap a (.ins C dx fs) from I.hok a _ e)
  obtain ⟨od, ho, _⟩ := lookIn_ns hns
  exact ⟨od, h4, rfl, rfl, ho⟩
/-- the callee runs, somewhere below -/
theorem run_fngA {A : Around} {pins : List (Addr × Obj)} {σ : L2.St} {H : Hp} {s : Shared} {Q : VK} {us : List Value} {vs : List V} (F : FnG X.prog X.w X.K X.mg X.base k f fd ps φ) (hr : Room k A) (hG : A.guards = some []) (e0 : Env0 X.prog X.w X.K X.mg X.base A X.stack s H) (hb : Binds X.K fd ps []) (tk : Takes X W)
    (I : Inv X pins σ H s) (r : Vals vs us) (h : spM (gX X) φ vs H Q (fun cls d H' => W cls d σ H')) : wpAny (model X.prog X.w) A (call (.ref f) us) (EP X pins σ Q) X.xe s := by
  have hl : us.length = ps.length := by
    obtain ⟨ι, S, ds, r', S', hs, rs, hφ, hf⟩ := id h
    rw [← r.length, ← Rs.length rs]
    exact F.len _ _ _ hφ
  have b := hb s us I.kIn (by rw [List.append_nil]; exact hl)
  rw [List.append_nil] at b
  refine wpAny_call (codeAny_mono (F.run A X.stack s H ⟨us, []⟩ us vs Q _ hr hG e0 b r h) fun r s' hq => ?_)
  cases r with
  | error e => exact passM tk I (fun _ _ _ z => z) hq
  | ok fl => cases fl <;> first | exact I.after hq | exact False.elim hq
/-- an instance of C, and anything whose type is told -/
def rOwnE (X : Cx) (C : Addr) (φ : FnD) (k : Bool → Bool) : R2 := fun x y H Q => ∃ (a dx : Addr) (fs : List (Str × V)) (tv : Value), x = .ref a ∧ H a = some (.ins C dx fs) ∧ TyX X.K H y tv ∧ PySem.W.notFirst X.K C tv = true ∧
  spM (gX X) φ [x, y] H (fun v H' => ∃ b, v = .bl b ∧ Q (.bl (k b)) H') (fun _ _ _ => False)
theorem op_eqOwn (E : EqC X.K C f) (F : FnG X.prog X.w X.K X.mg X.base k f fd ps φ) (hr : Room k X.A) (hG : X.A.guards = some []) (hb : Binds X.K fd ps []) : OpR X (compareOp .Eq) (rOwnE X C φ id) := by
  intro pins s σ H x y v u Q I rx ry h
  obtain ⟨a, dx, fs, tv, rfl, e, ty, hn, q⟩ := h
  cases rx
  obtain ⟨od, J⟩ := ins_at I e
  obtain ⟨P, Z, p, hx⟩ := kit_of I ry ty
  obtain ⟨m, hF⟩ := I.fr
  show wpAny _ _ (richCompare .Eq (.ref a) u) _ _ _
  refine PySem.W.cmp_K (op := .Eq) (tb := tv) (by have := hr.un; omega) hF I.ok.mod.kin J (Z.ty _ _ I.kIn p) hn E.eq E.fn ?_
  refine wpAny_mono (run_fngA (W := WF) (us := [.ref a, u]) (vs := [.ref a, y]) F hr hG I.env0 hb takes_none5 I (.cons rfl (.cons ry .nil)) q) (fun w s' z => ?_) fun _ _ z => z
  obtain ⟨z', H', I', rz, b, rfl, qz⟩ := z
  cases rz
  exact ⟨.bl b, H', I', rfl, qz⟩
theorem op_neOwn (E : EqC X.K C f) (F : FnG X.prog X.w X.K X.mg X.base k f fd ps φ) (hr : Room (k + 1) X.A) (hG : X.A.guards = some []) (hb : Binds X.K fd ps []) : OpR X (compareOp .NotEq) (rOwnE X C φ (!·)) := by
  intro pins s σ H x y v u Q I rx ry h
  obtain ⟨a, dx, fs, tv, rfl, e, ty, hn, q⟩ := h
  cases rx
  obtain ⟨od, J⟩ := ins_at I e
  obtain ⟨P, Z, p, hx⟩ := kit_of I ry ty
  show wpAny _ _ (richCompare .NotEq (.ref a) u) _ _ _
  refine ne_own (tb := tv) (by have := hr.un; omega) I.kIn J (Z.ty _ _ I.kIn p) hn E.ob E.ne E.eq E.fn ?_
  refine wpAny_mono (run_fngA (W := WF) (us := [.ref a, u]) (vs := [.ref a, y]) F hr.in1 hG I.env0.in1 hb takes_none5 I (.cons rfl (.cons ry .nil)) q) (fun w s' z => ?_) fun _ _ z => z
  obtain ⟨z', H', I', rz, b, rfl, qz⟩ := z
  cases rz
  exact ⟨b, rfl, .bl (!b), H', I', rfl, qz⟩
def fOwn (T : Tab) (c : Str) (φ : FnD) (nf : TyN → Bool) (kk : Bool → Bool) : F2 := fun a b S => match a with
  | .ref n => match S[n]? with
    | some (.ins c' _) => if c' = c then (match tyOf T b S with
      | some t => if nf t = true then (match φ [.ref n, b] S with
        | some (.ok (.bl v), S') => some (.bl (kk v), S')
        | _ => none) else none
      | none => none) else none
    | _ => none
  | _ => none
def NotF (g : G) (c : Str) (nf : TyN → Bool) : Prop := ∀ t tv C, nf t = true → ValOf g t tv → g.mg c = some (.ref C) → PySem.W.notFirst g.K C tv = true
theorem f_own {nf : TyN → Bool} {kk : Bool → Bool} (F : Facts (gX X) T) (hn : NotF (gX X) c nf) (hC : X.mg c = some (.ref C)) : Op2 (gX X) (rOwnE X C φ kk) (fOwn T c φ nf kk) := fun ι S S' H a b d x y Q s ra rb hf hd => by
  unfold fOwn at hf
  split at hf
  · rename_i n
    split at hf
    · rename_i c' fs e
      split at hf
      · rename_i hc
        subst hc
        split at hf
        · rename_i t et
          split at hf
          · rename_i ht
            split at hf
            · rename_i v S2 hφ
              cases hf
              cases ra with
              | ref q =>
                obtain ⟨C', dx, gs, h1, h2, h3⟩ := s.obj _ _ _ q e
                have eC : C' = C := by
                  have z : X.mg c' = some (.ref C') := h2
                  rw [hC] at z
                  cases z
                  rfl
                subst eC
                obtain ⟨tv, t1, t2⟩ := tyOf_R F s rb et
                refine ⟨_, dx, gs, tv, rfl, h1, t2, hn t tv C' ht t1 hC, ι, S, [.ref n, b], .ok (.bl v), S', s, .cons (.ref q) (.cons rb .nil), hφ, fun ι' H' w p x s' r => ?_⟩
                cases r
                exact ⟨v, rfl, hd ι' H' _ p x s' (.bl _)⟩
            · cases hf
          · cases hf
        · cases hf
      · cases hf
    · cases hf
  · cases hf
def altF (f f' : F2) : F2 := fun a b S => match f a b S with
  | some r => some r
  | none => f' a b S
theorem f_alt {g : G} {r r' : R2} {f f' : F2} (h : Op2 g r f) (h' : Op2 g r' f') : Op2 g (fun x y H Q => r x y H Q ∨ r' x y H Q) (altF f f') := fun ι S S' H a b d x y Q s ra rb hf hd => by
  unfold altF at hf
  split at hf
  · rename_i z e
    cases hf
    exact .inl (h ι S S' H a b d x y Q s ra rb e hd)
  · exact .inr (h' ι S S' H a b d x y Q s ra rb hf hd)
end
end DD

set_option Elab.async false
set_option linter.all false
set_option maxRecDepth 100000
namespace DD
open PySem PySem.Spec PyProof.Rows L2
/-! ### comprehensions with two walks -/
theorem wipe_idem (own : List Nat) (τ : L2.St) : L2.wipe (L2.wipe τ own) own = L2.wipe τ own := by
  have sub : ∀ (l : List Nat), (∀ v ∈ l, v ∈ own) → L2.wipe (L2.wipe τ l) own = L2.wipe τ own := by
    intro l
    induction l with
    | nil => intro _; rfl
    | cons v vs ih =>
      intro hv
      show L2.wipe ((L2.wipe τ vs).set v none) own = _
      rw [wipe_set (hv v (List.mem_cons_self ..)), ih fun u hu => hv u (List.mem_cons_of_mem _ hu)]
  exact sub own fun _ h => h
def compJ (get : Nat → So → Option (Option D)) (t : Tg) (m1 : MM Itm) (own1 : List Nat) (t1 : Tg) (te : MM D) (n0 : Nat) (e : Sl) : Nat → Nat → So → Option So
  | 0, i, S => match get i S with
    | some none => some S
    | _ => none
  | k + 1, i, S => match get i S with
    | some none => some S
    | some (some x) => match t x S e with
      | none => none
      | some e1 => match m1 e1 S with
        | some (.ok it1, S2) => match compI it1.get t1 yesM te n0 (wipeE e1 own1) it1.n 0 S2 with
          | some S3 => compJ get t m1 own1 t1 te n0 e k (i + 1) S3
          | none => none
        | _ => none
    | none => none
def comp2M (own own1 : List Nat) (m : MM Itm) (t : Tg) (m1 : MM Itm) (t1 : Tg) (te : MM D) : MM D := bindM m fun it e S =>
  match compJ it.get t m1 own1 t1 te S.length (wipeE e own) it.n 0 (S ++ [.lst []]) with
  | some S' => some (.ok (.ref S.length), S')
  | none => none
section
variable {X : Cx} {g : G} {xa : Xa} {W : WX} {pos : Pos}
theorem comp2_step {m m1 : MM Itm} {own own1 : List Nat} {t t1 : Tg} {te : MM D} {σ : L2.St} {H : Hp} {Q : VK} (h : tE g xa W (comp2M own own1 m t m1 t1 te) σ H Q) :
    tLc2 (tI g xa W m) (tGc g xa own t) (tT g xa WF yesM) (tI g xa WF m1) (tGc g xa own1 t1) (tT g xa WF yesM) (tE g xa WF te) own own1 σ H Q := by
  obtain ⟨ι, S, e, r, S', hs, he, hm, hf⟩ := h
  refine stepG hs he hm hf fun it S1 ι1 H1 J h1 p1 x1 s1 e1 wk f1 => ?_
  intro Da nD
  split at h1
  case h_2 => cases h1
  rename_i S9 hc
  cases h1
  have xD : Ex H1 (upd H1 Da (.lst [])) := Ex.new nD
  have sD : Sim g (ι1 ++ [Da]) (S1 ++ [.lst []]) (upd H1 Da (.lst [])) := s1.new xD (fun n a q => upd_ne (s1.fresh nD q)) nD ⟨[], upd_same, .nil⟩
  have atD : (ι1 ++ [Da])[S1.length]? = some Da := s1.newAt
  refine ⟨fun i m H2 => ∃ ι2 S2, Pre (ι1 ++ [Da]) ι2 ∧ Ex H1 H2 ∧ Sim g ι2 S2 H2 ∧ compJ it.get t m1 own1 t1 te S1.length (wipeE e own) m i S2 = some S', ⟨it.n, ι1 ++ [Da], S1 ++ [.lst []], Pre.refl _, xD, sD, hc⟩, ?_⟩
  rintro i m H2 ⟨ι2, S2, p2, x2, s2, q⟩
  have p12 : Pre ι1 ι2 := (Pre.app ι1 [Da]).trans p2
  have w := wk i ι2 H2 S2 p12 x2 s2
  have stop : it.get i S2 = some none → (J.stop i H2 ∧ Q (.ref Da) H2) := fun z => by
    refine ⟨w.1 z, ?_⟩
    have q' : some S2 = some S' := by
      cases m with
      | zero => unfold compJ at q; rw [z] at q; exact q
      | succ k => unfold compJ at q; rw [z] at q; exact q
    cases q'
    exact f1 ι2 H2 (.ref Da) p12 x2 s2 (.ref (p2 _ _ atD))
  cases hget : it.get i S2 with
  | none =>
    cases m with
    | zero => unfold compJ at q; rw [hget] at q; cases q
    | succ k => unfold compJ at q; rw [hget] at q; cases q
  | some o => cases o with
    | none => exact .inl (stop hget)
    | some d =>
      cases m with
      | zero => unfold compJ at q; rw [hget] at q; cases q
      | succ k =>
        unfold compJ at q
        rw [hget] at q
        dsimp only at q
        obtain ⟨w1, w2⟩ := w.2 d hget
        refine .inr ⟨w1, fun H3 => ∃ ι3 S3, Pre (ι1 ++ [Da]) ι3 ∧ Ex H1 H3 ∧ Sim g ι3 S3 H3 ∧ compJ it.get t m1 own1 t1 te S1.length (wipeE e own) k (i + 1) S3 = some S', fun H3 n3 => ⟨k, Nat.lt_succ_self k, n3⟩, fun v H3 y => ?_⟩
        obtain ⟨x3, s3, r3⟩ := w2 v H3 y
        have x13 := x2.trans x3
        split at q
        · cases q
        · rename_i e3 ht
          refine ⟨ι2, S2, wipeE e own, e3, d, s3, ((e1.mono p12 x13).wipe own), r3, ht, fun σ4 r4 w4 => ⟨?_, ?_⟩⟩
          · rw [w4, wipe_idem]
          · refine ⟨ι2, S2, e3, .ok true, S2, s3, r4, rfl, fun ι6 H6 b p6 x6 s6 eb => ?_⟩
            cases eb
            rw [if_pos rfl]
            split at q
            case h_2 => cases q
            rename_i it1 S5 q5
            split at q
            case h_2 => cases q
            rename_i S7 q7
            refine ⟨ι6, S2, e3, .ok it1, S5, s6, r4.mono p6 x6, q5, fun ι7 H7 J1 p7 x7 s7 wk1 => ?_⟩
            have er7 := (r4.mono p6 x6).mono p7 x7
            refine ⟨fun j k2 H8 => ∃ ι8 S8, Pre ι7 ι8 ∧ Ex H7 H8 ∧ Sim g ι8 S8 H8 ∧ compI it1.get t1 yesM te S1.length (wipeE e3 own1) k2 j S8 = some S7, ⟨it1.n, ι7, S5, Pre.refl _, Ex.refl _, s7, q7⟩, ?_⟩
            rintro j k2 H8 ⟨ι8, S8, p8, x8, s8, q8⟩
            have v1 := wk1 j ι8 H8 S8 p8 x8 s8
            have pAll : Pre (ι1 ++ [Da]) ι8 := ((p2.trans p6).trans p7).trans p8
            have xAll : Ex H1 H8 := ((x13.trans x6).trans x7).trans x8
            have stop1 : it1.get j S8 = some none → (J1.stop j H8 ∧ ∃ ι3 S3, Pre (ι1 ++ [Da]) ι3 ∧ Ex H1 H8 ∧ Sim g ι3 S3 H8 ∧ compJ it.get t m1 own1 t1 te S1.length (wipeE e own) k (i + 1) S3 = some S') := fun z => by
              refine ⟨v1.1 z, ι8, S8, pAll, xAll, s8, ?_⟩
              have q' : some S8 = some S7 := by
                cases k2 with
                | zero => unfold compI at q8; rw [z] at q8; exact q8
                | succ k3 => unfold compI at q8; rw [z] at q8; exact q8
              cases q'
              exact q
            cases hget1 : it1.get j S8 with
            | none =>
              cases k2 with
              | zero => unfold compI at q8; rw [hget1] at q8; cases q8
              | succ k3 => unfold compI at q8; rw [hget1] at q8; cases q8
            | some o1 => cases o1 with
              | none => exact .inl (stop1 hget1)
              | some d1 =>
                cases k2 with
                | zero => unfold compI at q8; rw [hget1] at q8; cases q8
                | succ k3 =>
                  unfold compI at q8
                  rw [hget1] at q8
                  dsimp only at q8
                  obtain ⟨u1, u2⟩ := v1.2 d1 hget1
                  refine .inr ⟨u1, fun H9 => ∃ ι9 S9, Pre ι7 ι9 ∧ Ex H7 H9 ∧ Sim g ι9 S9 H9 ∧ compI it1.get t1 yesM te S1.length (wipeE e3 own1) k3 (j + 1) S9 = some S7, fun H9 n9 => ⟨k3, Nat.lt_succ_self k3, n9⟩, fun v9 H9 y9 => ?_⟩
                  obtain ⟨x9, s9, r9⟩ := u2 v9 H9 y9
                  split at q8
                  · cases q8
                  · rename_i e5 ht1
                    refine ⟨ι8, S8, wipeE e3 own1, e5, d1, s9, ((er7.mono p8 (x8.trans x9)).wipe own1), r9, ht1, fun σ5 r5 w5 => ⟨?_, ?_⟩⟩
                    · rw [w5, wipe_idem]
                    · refine ⟨ι8, S8, e5, .ok true, S8, s9, r5, rfl, fun ιa Ha b pa xa' sa eb => ?_⟩
                      cases eb
                      rw [if_pos rfl]
                      have q9 : (match te e5 S8 with
                        | some (.ok d, S3) => match S3[S1.length]? with
                          | some (.lst acc) => if acc.length < sizeLine then compI it1.get t1 yesM te S1.length (wipeE e3 own1) k3 (j + 1) (S3.set S1.length (.lst (acc ++ [d]))) else none
                          | _ => none
                        | _ => none) = some S7 := q8
                      split at q9
                      · rename_i d7 Sb qb
                        refine ⟨ιa, S8, e5, .ok d7, Sb, sa, r5.mono pa xa', qb, fun ιc Hc u pc xc sc rc => ?_⟩
                        split at q9
                        · rename_i acc qd
                          split at q9
                          · rename_i hl
                            have ac : ιc[S1.length]? = some Da := pc _ _ (pa _ _ (pAll _ _ atD))
                            obtain ⟨vs, h9, rv⟩ := sc.obj _ _ _ ac qd
                            refine ⟨vs, h9, by rw [← Rs.length rv]; exact hl, ?_⟩
                            have xw : Ex Hc (upd Hc Da (.lst (vs ++ [u]))) := Ex.wr h9 (fun _ z => by cases z) (fun _ _ _ z => by cases z) fun _ z => by cases z
                            obtain ⟨sw, _⟩ := sc.wr (o' := .lst (acc ++ [d7])) (q := .lst (vs ++ [u])) ac ⟨_, upd_same, (Rs.mono (Pre.refl _) xw _ _ rv).append (.cons (R.mono (Pre.refl _) xw _ _ rc) .nil)⟩ xw
                            exact ⟨ιc, _, (p8.trans pa).trans pc, ((((x8.trans x9).trans xa').trans xc).trans xw), sw, q9⟩
                          · cases q9
                        · cases q9
                      · cases q9
theorem em_lc2 {elt tg iter tg1 iter1 : Expr} {scope : Scope} {m m1 : MM Itm} {t t1 : Tg} {te : MM D} (own : List (Str × Nat)) (own1 : List Nat) (hc : X.calm = true) (hN : X.N.Nodup) (hi : PI X tg iter (tI g xa W m)) (ok : BlkOk X.N X.env.scope scope own)
    (hg : ∀ (s : Shared) (H : Hp) (C : Addr) (cl : List (Str × Addr)) (fp : List Addr), PG (X.blk s H scope (compEnvC scope cl C X.env) fp) tg (tGc g xa (own.map (·.2)) t))
    (hi1 : ∀ (s : Shared) (H : Hp) (C : Addr) (cl : List (Str × Addr)) (fp : List Addr), PI (X.blk s H scope (compEnvC scope cl C X.env) fp) tg1 iter1 (tI g xa WF m1))
    (hg1 : ∀ (s : Shared) (H : Hp) (C : Addr) (cl : List (Str × Addr)) (fp : List Addr), PG (X.blk s H scope (compEnvC scope cl C X.env) fp) tg1 (tGc g xa own1 t1))
    (he : ∀ (s : Shared) (H : Hp) (C : Addr) (cl : List (Str × Addr)) (fp : List Addr), PE (X.blk s H scope (compEnvC scope cl C X.env) fp) elt (tE g xa WF te)) (hv : ∀ i ∈ own1, i ∈ own.map (·.2) := by decide) (hs : ∀ x, foldedSetIterable iter X.env x = pure x := by intro _; rfl) (hs1 : ∀ env x, foldedSetIterable iter1 env x = pure x := by intro _ _; rfl) :
    PE X (.ListComp elt [⟨tg, iter, [], 0⟩, ⟨tg1, iter1, [], 0⟩] scope pos) (tE g xa W (comp2M (own.map (·.2)) own1 m t m1 t1 te)) :=
  (pe_lc2 hc hN hi ok hv hg (fun _ _ _ _ _ => sm_yes) hi1 hg1 (fun _ _ _ _ _ => sm_yes) he hs hs1).viaM fun _ _ _ h => comp2_step h
theorem sm_setLc2 (i : Nat) {y : Str} {py spos : Pos} {elt tg iter tg1 iter1 : Expr} {scope : Scope} {m m1 : MM Itm} {t t1 : Tg} {te : MM D} (own : List (Str × Nat)) (own1 : List Nat) (hc : X.calm = true) (hN : X.N.Nodup) (hy : X.N[i]? = some y) (hyl : X.env.scope.names.lookup y = some .local)
    (hsw : swapsWith (.ListComp elt [⟨tg, iter, [], 0⟩, ⟨tg1, iter1, [], 0⟩] scope pos) (some (.Name y py)) spos.line X.env = pure true) (hi : PI X tg iter (tI g xa W m)) (ok : BlkOk X.N X.env.scope scope own)
    (hg : ∀ (s : Shared) (H : Hp) (C : Addr) (cl : List (Str × Addr)) (fp : List Addr), PG (X.blk s H scope (compEnvC scope cl C X.env) fp) tg (tGc g xa (own.map (·.2)) t))
    (hi1 : ∀ (s : Shared) (H : Hp) (C : Addr) (cl : List (Str × Addr)) (fp : List Addr), PI (X.blk s H scope (compEnvC scope cl C X.env) fp) tg1 iter1 (tI g xa WF m1))
    (hg1 : ∀ (s : Shared) (H : Hp) (C : Addr) (cl : List (Str × Addr)) (fp : List Addr), PG (X.blk s H scope (compEnvC scope cl C X.env) fp) tg1 (tGc g xa own1 t1))
    (he : ∀ (s : Shared) (H : Hp) (C : Addr) (cl : List (Str × Addr)) (fp : List Addr), PE (X.blk s H scope (compEnvC scope cl C X.env) fp) elt (tE g xa WF te)) (hv : ∀ i ∈ own1, i ∈ own.map (·.2) := by decide) (hs : ∀ x, foldedSetIterable iter X.env x = pure x := by intro _; rfl) (hs1 : ∀ env x, foldedSetIterable iter1 env x = pure x := by intro _ _; rfl) :
    PS X (.Assign [.Name y py] (.ListComp elt [⟨tg, iter, [], 0⟩, ⟨tg1, iter1, [], 0⟩] scope pos) spos) (tS g xa W (asgS (comp2M (own.map (·.2)) own1 m t m1 t1 te) (nmT i))) :=
  (ps_setLc2 (i := i) hc hN hy hyl hsw hi ok hv hg (fun _ _ _ _ _ => sm_yes) hi1 hg1 (fun _ _ _ _ _ => sm_yes) he hs hs1).viaM fun Dd σ H h => by
    obtain ⟨ι, S, e, f, e', S', hs, he, hm, hf⟩ := h
    refine comp2_step (stepS hs he hm hf fun a S1 ι1 H1 v h1 p1 x1 s1 e1 r1 f1 => ?_)
    cases h1
    exact f1 ι1 H1 (Pre.refl _) (Ex.refl _) s1 _ (e1.set r1)
end
end DD

set_option Elab.async false
set_option linter.all false
set_option maxRecDepth 100000
namespace DD
open PySem PySem.Spec PyProof.Rows L2
/-! ### own classes by name -/
structure MkN (P : Program) (w : World) (K : PySem.W.Frag) (mg : Str → Option Value) (base : Heap) (k : Nat) (x : Str) (ps : List Str) (φ : FnD) : Prop where
  ex : ∃ C f fd, Mk K C f ∧ FnG P w K mg base k f fd ps φ ∧ mg x = some (.ref C) ∧ Binds K fd ps []
structure MthN (P : Program) (w : World) (K : PySem.W.Frag) (mg : Str → Option Value) (base : Heap) (k : Nat) (c m : Str) (ps : List Str) (φ : FnD) : Prop where
  ex : ∃ C f fd, Cls K C ∧ Meth K C m f ∧ FnG P w K mg base k f fd ps φ ∧ mg c = some (.ref C) ∧ Binds K fd ps []
structure EqN (P : Program) (w : World) (K : PySem.W.Frag) (mg : Str → Option Value) (base : Heap) (k : Nat) (c : Str) (ps : List Str) (φ : FnD) : Prop where
  ex : ∃ C f fd, EqC K C f ∧ FnG P w K mg base k f fd ps φ ∧ mg c = some (.ref C) ∧ Binds K fd ps []
section
variable {X : Cx} {W : WX} {pos : Pos} {k : Nat} {ps : List Str} {φ : FnD} {xa : Xa} {T : Tab}
theorem em_makeN {x : Str} {p : Pos} {e : Expr} {es : List Expr} {m : MM (List D)} (M : MkN X.prog X.w X.K X.mg X.base k x ps φ) (hr : Room (k + 1) X.A) (hG : X.A.guards = some []) (tk : Takes X W)
    (ha : PA X (e :: es) (tA (gX X) xa W m)) (hg : Gl X x := by rfl) (hdb : (x == ("__debug__" : Str)) = false := by decide) (he : starEach (e :: es) X.env = (false, eval e X.env) :: starEach es X.env := by rfl) (hpl : (backTo pos (starEach es X.env)).any (·.1) = false := by rfl) :
    PE X (.Call (.Name x p) (e :: es) [] pos) (tE (gX X) xa W (mCall (makeF x φ) m)) := by
  obtain ⟨C, f, fd, h1, h2, h3, h4⟩ := M.ex
  exact em_make h1 h2 hr hG tk h3 h4 ha hg hdb he hpl
theorem em_methN {c m : Str} {o e : Expr} {es : List Expr} {apos : Pos} {mo : MM D} {ma : MM (List D)} {pl : Sem Bool} (M : MthN X.prog X.w X.K X.mg X.base k c m ps φ) (hr : Room k X.A) (hG : X.A.guards = some []) (tk : Takes X W) (he : PE X o (tE (gX X) xa W mo)) (ha : PA X (e :: es) (tA (gX X) xa W ma))
    (hst : starEach (e :: es) X.env = (false, eval e X.env) :: starEach es X.env := by rfl) (hpl : (backTo pos (starEach es X.env)).any (·.1) = false := by rfl)
    (ht : eval (.Call (.Attribute o m apos) (e :: es) [] pos) X.env = (do
      let ov ← eval o X.env
      standAt apos.atName
      let (f, first) ← holding [ov] (getMethod ov m pl)
      callWith pos f first (backTo pos (starEach (e :: es) X.env)) (backToKw pos (keywordEach [] X.env))) := by rfl) :
    PE X (.Call (.Attribute o m apos) (e :: es) [] pos) (tE (gX X) xa W (mMth c m φ mo ma)) := by
  obtain ⟨C, f, fd, h1, h2, h3, h4, h5⟩ := M.ex
  exact em_meth he h1 h2 h4 h3 hr hG tk h5 ha hst hpl ht
theorem em_meth0 {c m : Str} {o : Expr} {apos : Pos} {mo : MM D} {pl : Sem Bool} (M : MthN X.prog X.w X.K X.mg X.base k c m ps φ) (hr : Room k X.A) (hG : X.A.guards = some []) (tk : Takes X W) (he : PE X o (tE (gX X) xa W mo))
    (ht : eval (.Call (.Attribute o m apos) [] [] pos) X.env = (do
      let ov ← eval o X.env
      standAt apos.atName
      let (f, first) ← holding [ov] (getMethod ov m pl)
      callWith pos f first (backTo pos (starEach [] X.env)) (backToKw pos (keywordEach [] X.env))) := by rfl) :
    PE X (.Call (.Attribute o m apos) [] [] pos) (tE (gX X) xa W (mMth c m φ mo mNil)) := by
  obtain ⟨C, f, fd, cl, hm, F, hC, hb⟩ := M.ex
  refine ⟨fun pins s σ H Q I h => ?_⟩
  obtain ⟨ι, S, ev, r, S', hs, hev, hmm, hf⟩ := h
  refine PySem.W.methodCall_KW (pl := pl) (thn (he.run pins s σ H (fun v H1 => ∃ a dx fs, v = .ref a ∧ H1 a = some (.ins C dx fs) ∧ fs.lookup m = none ∧ spM (gX X) φ [.ref a] H1 Q (fun cls d H' => W cls d σ H')) I (stepG hs hev hmm hf fun d S1 ι1 H1 v h1 p1 x1 s1 e1 r1 f1 => ?_)) fun u s1 hu => ?_) ht
  · split at h1
    · rename_i n
      split at h1
      · rename_i c' fs q
        split at h1
        · rename_i hcc
          obtain ⟨hc1, hl⟩ := hcc
          subst hc1
          cases r1 with
          | ref qa =>
            obtain ⟨C', dx, gs, h3, h4, h5⟩ := s1.obj _ _ _ qa q
            have eC : C' = C := by
              have z : X.mg c' = some (.ref C') := h4
              rw [hC] at z
              cases z
              rfl
            subst eC
            refine ⟨_, dx, gs, rfl, h3, h5.look_none hl, ι1, S1, [.ref n], r, S', s1, .cons (.ref qa) .nil, h1, ?_⟩
            cases r with
            | ok d => exact f1
            | ex c fs => exact fun ι' H' C dd gs p x s h1 h2 h3 => f1 ι' H' C dd gs p x s h1 h2 h3
        · cases h1
      · cases h1
    · cases h1
  · obtain ⟨v, H1, I1, rx, a, dx, fs, rfl, ea, l, q⟩ := hu
    obtain rfl : u = Value.ref a := rx
    refine getmeth_ok I1 ea cl hm l ?_
    exact PySem.W.callWith_K0 (first := [.ref a]) I1.kIn hm.kp (run_fng (us := [.ref a]) (vs := [.ref a]) F hr hG hb tk I1 (.cons rfl .nil) q)
theorem em_eqN {a b : Expr} {ma mb : MM D} {c : Str} {nf : TyN → Bool} (M : EqN X.prog X.w X.K X.mg X.base k c ps φ) (F : Facts (gX X) T) (hn : NotF (gX X) c nf) (hr : Room (k + 1) X.A) (hG : X.A.guards = some []) (ha : PE X a (tE (gX X) xa W ma)) (hb : PE X b (tE (gX X) xa W mb)) (hm : behindInMarks .Eq b = false) :
    PE X (.Compare a [.Eq] [b] pos) (tE (gX X) xa W (mOp2 (altF (fOwn T c φ nf id) fEq) ma mb)) := by
  obtain ⟨C, f, fd, h1, h2, h3, h4⟩ := M.ex
  exact em_cmp ((op_eqOwn h1 h2 (hr.mono (Nat.le_succ _)) hG h4).or (op_eqN rfl (by have := hr.un; omega))) (f_alt (f_own F hn h3) f_eq) ha hb hm
theorem em_neN {a b : Expr} {ma mb : MM D} {c : Str} {nf : TyN → Bool} (M : EqN X.prog X.w X.K X.mg X.base k c ps φ) (F : Facts (gX X) T) (hn : NotF (gX X) c nf) (hr : Room (k + 1) X.A) (hG : X.A.guards = some []) (ha : PE X a (tE (gX X) xa W ma)) (hb : PE X b (tE (gX X) xa W mb)) (hm : behindInMarks .NotEq b = false) :
    PE X (.Compare a [.NotEq] [b] pos) (tE (gX X) xa W (mOp2 (altF (fOwn T c φ nf (!·)) fNe) ma mb)) := by
  obtain ⟨C, f, fd, h1, h2, h3, h4⟩ := M.ex
  exact em_cmp ((op_neOwn h1 h2 hr hG h4).or (op_neN rfl (by have := hr.un; omega))) (f_alt (f_own F hn h3) f_ne) ha hb hm
/-! ### texts -/
def strMul (z : Str) (n : Int) : Str := if n < 1 then Str.empty else if (n == 1 || z.length == 0) = true then z else ⟨(List.replicate n.toNat z.cps).foldl (· ++ ·) #[]⟩
def fMulS : F2 := fun a b S => match a, b with
  | .str z, .int n => if (-(2 ^ 60) < n ∧ n < 2 ^ 60) ∧ z.length * n.toNat ≤ 1000000 ∧ (strMul z n).length ≤ sizeLine then some (.str (strMul z n), S) else none
  | _, _ => none
def rMulS : R2 := fun x y H Q => ∃ z n, x = .str z ∧ y = .int n ∧ (-(2 ^ 60) < n ∧ n < 2 ^ 60) ∧ z.length * n.toNat ≤ 1000000 ∧ (strMul z n).length ≤ sizeLine ∧ Q (.str (strMul z n)) H
theorem op_mulS : OpR X (binaryOp .Mult) rMulS := by
  intro pins s σ H x y v u Q I rx ry h
  obtain ⟨z, n, rfl, rfl, ⟨h1, h2⟩, h3, h4, q⟩ := h
  obtain ⟨t, rfl⟩ := rx
  obtain ⟨t', rfl⟩ := ry
  refine PySem.P.mul_str ?_ (fun g1 g2 => ?_) (fun g1 g2 => ?_) ?_
  · have a1 : ¬ n < -(2 ^ 63 : Int) := by omega
    have a2 : ¬ n ≥ 2 ^ 63 := by omega
    rw [decide_eq_false a1, decide_eq_false a2]
    rfl
  · have e : ((z.length : Int)) * n ≤ 1000000 := by
      have e1 : (n.toNat : Int) = n := Int.toNat_of_nonneg (by omega)
      have e2 : ((z.length * n.toNat : Nat) : Int) ≤ ((1000000 : Nat) : Int) := Int.ofNat_le.mpr h3
      rw [Int.natCast_mul, e1] at e2
      exact e2
    have e3 : (z.length : Int) ≤ (2 ^ 63 - 1) / n := Int.le_ediv_of_mul_le (by omega) (by omega)
    omega
  · show decide (z.length * n.toNat > sizeLine) = false
    rw [decide_eq_false_iff_not, sizeLine_eq]
    omega
  · unfold strMul at q h4
    split
    · rename_i hn
      rw [if_pos hn] at q
      exact ⟨by decide, .str Str.empty, H, I.tok _, ⟨_, rfl⟩, q⟩
    · rename_i hn
      rw [if_neg hn] at q h4
      split
      · rename_i hz
        rw [if_pos hz] at q
        exact ⟨.str z, H, I, ⟨_, rfl⟩, q⟩
      · rename_i hz
        rw [if_neg hz] at q h4
        exact ⟨h4, .str _, H, I.tok _, ⟨_, rfl⟩, q⟩
theorem f_mulS {g : G} : Op2 g rMulS fMulS := fun ι S S' H a b d x y Q s ra rb hf hd => by
  unfold fMulS at hf
  split at hf
  · split at hf
    · rename_i hc
      cases hf; cases ra; cases rb
      exact ⟨_, _, rfl, rfl, hc.1, hc.2.1, hc.2.2, hd.here s (.str _)⟩
    · cases hf
  · cases hf
theorem em_mulA {g : G} {a b : Expr} {ma mb : MM D} (ha : PE X a (tE g xa W ma)) (hb : PE X b (tE g xa W mb)) : PE X (.BinOp a .Mult b pos) (tE g xa W (mOp2 (altF fMul fMulS) ma mb)) := em_op ((op_mul.or op_mulW).or op_mulS) (f_alt f_mul f_mulS) ha hb
theorem em_join {g : G} {o a : Expr} {apos : Pos} {mo : MM D} {ma : MM (List D)} (ho : PE X o (tE g xa W mo)) (ha : PA X [a] (tA g xa W ma)) (hK : X.K = g.K := by rfl)
    (hbase : attributeBase o "join" X.env (eval o X.env) = eval o X.env := by rfl)
    (hfew : ((backTo pos (starEach [a] X.env)).all (fun x => !x.1) && (backToKw pos (keywordEach [] X.env)).all (fun x => x.1.isSome)
      && decide ([a].length + ([] : List Keyword).length + (if ([] : List Keyword).isEmpty then 0 else 1) < 30)) = true := by rfl)
    (hline : (apos.endLine == pos.line) = true := by rfl) (hs : starEach [a] X.env = (false, eval a X.env) :: starEach [] X.env := by rfl) (hplain : (backTo pos (starEach [] X.env)).any (·.1) = false := by rfl) :
    PE X (.Call (.Attribute o "join" apos) [a] [] pos) (tE g xa W (mMeth isS fJoin mo ma)) :=
  em_bm PySem.F.plainAttrs_str PySem.F.slot_str_join PySem.F.type_str_join (mt_joinM hK) (fun _ _ _ _ _ s r h => isS_ty r h) f_join ho ha hbase hfew hline hs hplain
end
end DD

set_option Elab.async false
set_option linter.all false
set_option maxRecDepth 100000
namespace DD
open PySem PySem.Spec PyProof.Rows L2
open He (ga ma eqO eqO_ok ba FnW DefD)
/-! ### more facts: own plain classes, clauses, own == -/
structure AskC where
  q : Ask
  own : List (Str × List Str)
  fas : List He.Fa
  exms : List (Str × Str × Bool)
  nfs : List (TyN × Str)
  eqs : List Str
def ownB (K : PySem.W.Frag) (p : Str × List Str) : Bool := (He.Fa.cls p.1).ok K && (p.2.all (fun f => eqO (PySem.W.findIn K (.ref (ga K p.1)) f) (some none)) && (eqO (PySem.W.findIn K (.ref (ga K p.1)) "__class__") (some (some (.builtin "object.__class__"))) &&
  (eqO (PySem.W.specialIn K (.builtin "object.__class__") "__get__") (some (some (.builtin "getset_descriptor.__get__"))) && (decide (PySem.W.takesIn K (.builtin "object.__class__") = some true) && (decide (PySem.W.mroIn K (ga K p.1) (.type "object") = some true) &&
  eqO (PySem.W.nsIn K mainGlobals p.1) (some (some (.ref (ga K p.1)))))))))
structure OwnK (K : PySem.W.Frag) (p : Str × List Str) : Prop where
  ins : InsK K (ga K p.1)
  no : ∀ f ∈ p.2, NoAttr K (ga K p.1) f
  glo : PySem.W.nsIn K mainGlobals p.1 = some (some (.ref (ga K p.1)))
theorem ownB_ok {K : PySem.W.Frag} {p : Str × List Str} (h : ownB K p = true) : OwnK K p := by
  unfold ownB at h
  simp only [Bool.and_eq_true, decide_eq_true_eq, List.all_eq_true] at h
  obtain ⟨h1, h2, h3, h4, h5, h6, h7⟩ := h
  exact ⟨⟨He.cls_ok h1, eqO_ok h3, eqO_ok h4, h5, h6⟩, fun f hf => eqO_ok (h2 f hf), eqO_ok h7⟩
def eqB (K : PySem.W.Frag) (c : Str) : Bool := (He.Fa.meth c "__eq__").ok K && (eqO (PySem.W.findIn K (.ref (ga K c)) "__ne__") (some (some (.builtin "object.__ne__"))) && decide (PySem.W.mroIn K (ga K c) (.type "object") = some true))
theorem eqB_ok {K : PySem.W.Frag} {c : Str} (h : eqB K c = true) : EqC K (ga K c) (ma K (ga K c) "__eq__") := by
  unfold eqB at h
  simp only [Bool.and_eq_true, decide_eq_true_eq] at h
  obtain ⟨h1, h2, h3⟩ := h
  have m := He.meth_ok h1
  exact ⟨m.at_, m.fn, eqO_ok h2, h3⟩
def AskC.ok (a : AskC) (K : PySem.W.Frag) : Bool := a.q.ok K && (a.own.all (ownB K) && (a.fas.all (fun f => f.ok K) && (a.exms.all (fun t => decide (PySem.W.exmOne K (.ref (ga K t.1)) (.ref (ga K t.2.1)) = some t.2.2)) &&
  (a.nfs.all (fun t => PySem.W.notFirst K (ga K t.2) (valK K t.1)) && a.eqs.all (eqB K)))))
def AskC.tab (a : AskC) : Tab := { a.q.tab with
  attr := fun c f => match a.own.lookup c with
    | some l => l.contains f
    | none => false
  ins := fun c => (a.own.lookup c).isSome }
def catL : List (Str × Str × Bool) → Str → Str → Option Bool
  | [], _, _ => none
  | (t, c, b) :: r, t', c' => if t = t' ∧ c = c' then some b else catL r t' c'
theorem catL_mem {t c : Str} {b : Bool} : ∀ {l : List (Str × Str × Bool)}, catL l t c = some b → (t, c, b) ∈ l
  | (t', c', b') :: r, h => by
    unfold catL at h
    split at h
    · rename_i e
      obtain ⟨rfl, rfl⟩ := e
      cases h
      exact List.mem_cons_self ..
    · exact List.mem_cons_of_mem _ (catL_mem h)
def nfL (l : List (TyN × Str)) (c : Str) (t : TyN) : Bool := l.any fun p => decide (p = (t, c))
def AskC.closed (a : AskC) : Bool := a.q.closed && (a.exms.all (fun t => a.q.glos.contains t.1 && a.q.glos.contains t.2.1) && a.nfs.all (fun t => (match t.1 with
  | .inl _ => true
  | .inr x => a.q.glos.contains x) && a.q.glos.contains t.2))
section
variable {a : AskC} {K : PySem.W.Frag} {h : Heap} {mg : Str → Option Value}
theorem AskC.q_ok (c : a.ok K = true) : a.q.ok K = true := (ba c).1
theorem AskC.own_ok (c : a.ok K = true) {p : Str × List Str} (m : p ∈ a.own) : OwnK K p := ownB_ok (List.all_eq_true.mp (ba (ba c).2).1 p m)
theorem AskC.fa_ok (c : a.ok K = true) {f : He.Fa} (m : f ∈ a.fas) : f.ok K = true := List.all_eq_true.mp (ba (ba (ba c).2).2).1 f m
theorem AskC.eq_ok (c : a.ok K = true) {x : Str} (m : x ∈ a.eqs) : EqC K (ga K x) (ma K (ga K x) "__eq__") := eqB_ok (List.all_eq_true.mp (ba (ba (ba (ba (ba c).2).2).2).2).2 x m)
theorem AskC.facts (c : a.ok K = true) (hc : a.closed = true) (X : K.In h) (G : h.Ns mainGlobals mg) : Facts (GK K mg) a.tab := by
  have F := Ask.facts (AskC.q_ok c) (ba hc).1 X G
  refine ⟨F.kit, fun x f C hx h1 => ?_, fun x C hx h1 => ?_, F.exc, F.xattr⟩
  · have hx' : (match a.own.lookup x with
      | some l => l.contains f
      | none => false) = true := hx
    split at hx'
    · rename_i l e
      have k := AskC.own_ok c (lookup_mem e)
      have z := h1.symm.trans (PySem.W.mg_of X G k.glo)
      cases z
      exact ⟨k.ins.cl, k.no f (by simpa using hx')⟩
    · cases hx'
  · have hx' : (a.own.lookup x).isSome = true := hx
    obtain ⟨l, e⟩ := Option.isSome_iff_exists.mp hx'
    have k := AskC.own_ok c (lookup_mem e)
    have z := h1.symm.trans (PySem.W.mg_of X G k.glo)
    cases z
    exact k.ins
theorem AskC.named (c : a.ok K = true) (hc : a.closed = true) (X : K.In h) (G : h.Ns mainGlobals mg) : Named (GK K mg) a.tab := Ask.named (AskC.q_ok c) (ba hc).1 X G
theorem AskC.catch (c : a.ok K = true) (hc : a.closed = true) (X : K.In h) (G : h.Ns mainGlobals mg) : Catch (GK K mg) (catL a.exms) := fun c' c2 b C' C hk h1 h2 => by
  have m := catL_mem hk
  obtain ⟨m1, m2⟩ := ba (List.all_eq_true.mp (ba (ba hc).2).1 _ m)
  have e1 := Ask.glo (AskC.q_ok c) X G (x := c') (by simpa using m1)
  have e2 := Ask.glo (AskC.q_ok c) X G (x := c2) (by simpa using m2)
  have z1 := h1.symm.trans e1
  have z2 := h2.symm.trans e2
  cases z1
  cases z2
  exact of_decide_eq_true (List.all_eq_true.mp (ba (ba (ba (ba c).2).2).2).1 _ m)
theorem AskC.notF (c : a.ok K = true) (hc : a.closed = true) (X : K.In h) (G : h.Ns mainGlobals mg) (x : Str) : NotF (GK K mg) x (nfL a.nfs x) := fun t tv C ht h1 h2 => by
  obtain ⟨p, hp, hd⟩ := List.any_eq_true.mp ht
  have e : p = (t, x) := of_decide_eq_true hd
  subst e
  obtain ⟨m1, m2⟩ := ba (List.all_eq_true.mp (ba (ba hc).2).2 _ hp)
  have e1 := valOf_val (AskC.q_ok c) X G (t := t) m1 h1
  have e2 := Ask.glo (AskC.q_ok c) X G (x := x) (by simpa using m2)
  have z2 := h2.symm.trans e2
  cases z2
  subst e1
  exact List.all_eq_true.mp (ba (ba (ba (ba (ba c).2).2).2).2).1 _ hp
end
/-! ### the head's look, by any Bool -/
def seenC (chk : PySem.W.Frag → Bool) (fn : List DefD) (K : PySem.W.Frag) : Seen := (chk K && fn.all (DefD.ok K), fn.map fun d => He.fnW K d.at_)
def seenCG (n : Nat) (chk : PySem.W.Frag → Bool) (fn : List DefD) (get : Addr → Option Obj) : Seen := seenC chk fn (He.frG get (He.asD get n))
structure ToldC (chk : PySem.W.Frag → Bool) (fn : List DefD) (K : PySem.W.Frag) : Prop where
  e : seenC chk fn K = (true, fn.map DefD.val)
def hookC (n : Nat) (chk : PySem.W.Frag → Bool) (fn : List DefD) : PySem.W.Hook := {
  α := Seen
  val := fun _ => (true, fn.map DefD.val)
  obs := fun s => seenCG n chk fn s.heap.get?
  says := fun _ h => ∃ K : PySem.W.Frag, K.In h ∧ ToldC chk fn K
  keeps := fun _ _ _ z up => z.elim fun K hz => ⟨K, PySem.W.Frag.In.keeps hz.1 up, hz.2⟩
  of := fun _ _ z => ⟨_, He.frG_in, ⟨z⟩⟩ }
theorem seenCG_eq {n : Nat} {chk : PySem.W.Frag → Bool} {fn : List DefD} {get : Addr → Option Obj} {s : Shared} (h : ∀ a, get a = s.heap.get? a) : seenCG n chk fn get = (hookC n chk fn).obs s := by
  obtain rfl : get = s.heap.get? := funext h
  rfl
section
variable {chk : PySem.W.Frag → Bool} {fn : List DefD} {K : PySem.W.Frag}
theorem ToldC.ok (c : ToldC chk fn K) : chk K = true := (ba (show (chk K && fn.all (DefD.ok K)) = true from congrArg Prod.fst c.e)).1
theorem ToldC.def_ (c : ToldC chk fn K) (i : Nat) {d : DefD} (h : fn[i]? = some d := by rfl) : ∃ fd, FunD K d.name d.qual d.params d.body d.scope (d.dvs K) (d.kws K) (He.fAd K d.at_) fd := by
  have c1 := (ba (show (chk K && fn.all (DefD.ok K)) = true from congrArg Prod.fst c.e)).2
  have e : (fn.map fun d => He.fnW K d.at_)[i]? = (fn.map DefD.val)[i]? := congrArg (fun z : Seen => z.2[i]?) c.e
  rw [List.getElem?_map, List.getElem?_map, h] at e
  exact DefD.funD (Option.some.inj e) (List.all_eq_true.mp c1 d (List.mem_of_getElem? h))
end
/-- a method of an own class runs -/
theorem fng_meth {P : Program} {w : World} {K : PySem.W.Frag} {mg : Str → Option Value} {base : Heap} {c m qual : Str} {st : Stmt} {fd : FuncData} {N ps : List Str} {k : Nat} {b : MS} (FD : FunD K m qual (defArgs st) (defBody st) (defScope st) [] [] (ma K (ga K c) m) fd) (Sc : FnScope N ps (defScope st))
    (hb : ∀ (kV doc pm : Value) (an : Option Addr) (cdv ct : Value) (us : List Value), us.length = ps.length → bindArgs (PySem.W.fnOf m qual (defArgs st) (defBody st) (defScope st) .none kV doc pm an cdv ct) ⟨us, []⟩ = pure (ps.zip us))
    (body : ∀ (cdv : Value) (A : Around) (outer : List Env) (s : Shared) (H : Hp) (E : XK), Room k (A.deeper (envOfC qual (defScope st) s.heap.objs.size (ma K (ga K c) m) cdv)) → A.guards = some [] →
      PSs (cxOf (L2.CX P w) P w K mg base N qual (defScope st) (ma K (ga K c) m) cdv A outer s H E) (defBody st) (tS (GK K mg) xa0 (fun cls d _ H => E cls d H) b)) :
    FnG P w K mg base (k + 1) (ma K (ga K c) m) fd ps (fnM ps.length N.length b) ∧ Binds K fd ps [] :=
  ⟨fng_of (He5.fun_of FD) Sc body, FD.bindsN hb⟩
end DD
namespace DD
open PySem PySem.Spec PyProof.Rows L2
section
variable {X : Cx} {W Wout : WX} {pos : Pos} {xa : Xa}
theorem em_gintE {x : Str} {i : Int} (h : ∃ t, X.mg x = some (.int i t)) (hg : Gl X x := by rfl) (hd : (x == ("__debug__" : Str)) = false := by decide) : PE X (.Name x pos) (tE (gX X) xa W (retM (.int i))) := by
  obtain ⟨t, h⟩ := h
  exact em_gint hg h hd
theorem sm_tryE {ct : Str → Str → Option Bool} {x n : Str} {i : Nat} {body suite : List Stmt} {b₀ : Stmt} {np pos' : Pos} {mb ms : MS} (cf : Catch (gX X) ct) (hm : ∃ C, X.mg x = some (.ref C)) (hN : X.N.Nodup) (tk : Takes X Wout)
    (hb : ∀ (W : WX) (pn : List (Addr × Obj)) (xe : Value → Shared → Prop), Takes (X.tr pn xe) W → PassesOwn (model X.prog X.w) X.A X.env xe → PSs (X.tr pn xe) body (tS (gX X) xa W mb))
    (hsu : ∀ (a : Addr) (oe : Obj) (cls : Value) (d : Option Addr) (pn : List (Addr × Obj)), Zc cls d oe → (∃ vs, oe.data = .fields vs) → PSs (X.suite a ((a, oe) :: pn)) (b₀ :: suite) (tS (gX X) ⟨a, cls, d⟩ WF ms))
    (hi : X.N[i]? = some n := by rfl) (hln : X.env.kindOf n = some .local := by rfl) (hg : Gl X x := by rfl) (hdb : (x == ("__debug__" : Str)) = false := by decide) (hs : X.stack = X.env :: X.outer := by rfl) (hf : X.env.frame = some X.env.locals := by rfl) :
    PS X (.Try body [.ExceptHandler (some (.Name x np)) (some n) (b₀ :: suite) pos'] [] [] pos) (tS (gX X) xa Wout (tryS ct x i mb ms)) := by
  obtain ⟨C, hm⟩ := hm
  exact sm_try cf hm hN tk hb hsu hi hln hg hdb hs hf
end
end DD

set_option Elab.async false
set_option linter.all false
set_option maxRecDepth 100000
namespace DD
open PySem PySem.Spec PyProof.Rows L2
/-! ### the draws of the laws k01 to k23: _law_draws(script, many), _law_take(hand, many) -/
def drawsB : MS := (seqS (asgS (mVar 5) (nmT 3)) (seqS (ifS (mTst (mOp2 (fOrd pGt qGt) (mOpA fLen (mCons (mVar 0) mNil)) (retM (.int 0)))) (seqS (asgS (mOp2 fMod (mVar 5) (mOpA fLen (mCons (mVar 0) mNil))) (nmT 6)) (seqS (asgS (mOpA fInt (mCons (mOp2 fIx (mVar 0) (mVar 6)) mNil)) (nmT 3)) (ifS (mAnd (mTst (mOp2 (fOrd pGe qGe) (mVar 3) (mOp2 fPow (retM (.int 10)) (retM (.int 18))))) (mTst (mOp2 (fOrd pGt qGt) (mOp2 fIx (mVar 2) (mVar 6)) (retM (.int 0))))) (seqS (exprS (mMeth isL fAppend (mVar 4) (mCons (mOp2 fMod (mOpA fInt (mCons (mOp2 fIx (mVar 2) (mVar 6)) mNil)) (retM (.int 1000003))) mNil))) (seqS (setS (mOp2 fDiv (mOpA fInt (mCons (mOp2 fIx (mVar 2) (mVar 6)) mNil)) (retM (.int 1000003))) (mVar 2) (mVar 6)) (fS .ct))) nxS))) nxS) (seqS (asgS (mOp2 fMod (mOpA fInt (mCons (mOp2 fAdd (mOp2 fAdd (mOp2 fMul (mVar 3) (retM (.int 48271))) (mOp2 fMul (mVar 5) (retM (.int 69621)))) (retM (.int 11))) mNil)) (retM (.int 2147483647))) (nmT 7)) (seqS (asgS (mOp2 fMod (mOpA fInt (mCons (mOp2 fAdd (mOp2 fDiv (mOp2 fMul (mVar 7) (mVar 7)) (retM (.int 4096))) (mVar 7)) mNil)) (retM (.int 2147483629))) (nmT 7)) (exprS (mMeth isL fAppend (mVar 4) (mCons (mOp2 fMod (mOpA fInt (mCons (mOp2 fAdd (mOp2 fDiv (mOp2 fMul (mVar 7) (mVar 7)) (retM (.int 4096))) (mOp2 fMul (mVar 5) (retM (.int 7919)))) mNil)) (retM (.int 2147483629))) mNil)))))))
def drawsM : MS := (seqS (asgS (compM [3] (mSeq (mVar 0)) (nmT 3) yesM (mOpA fAbs (mCons (mOpA fInt (mCons (mVar 3) mNil)) mNil))) (nmT 2)) (seqS (asgS (mOpA fLst mNil) (nmT 4)) (seqS (forS (mRng1 (mCons (mVar 1) mNil)) (nmT 5) drawsB) (retS (mVar 4)))))
def drawsF : FnD := fnM 2 8 drawsM
def takeM : MS := (seqS (asgS (mOp2 fIx (mVar 0) (retM (.int 1))) (nmT 2)) (seqS (setS (mOp2 fAdd (mVar 2) (retM (.int 1))) (mVar 0) (retM (.int 1))) (seqS (asgS (mOp2 fIx (mVar 0) (retM (.int 0))) (nmT 3)) (seqS (ifS (mTst (mOp2 (fOrd pGe qGe) (mVar 2) (mOpA fLen (mCons (mVar 3) mNil)))) (retS (retM (.int 0))) nxS) (retS (mOp2 fMod (mOp2 fDiv (mOpA fInt (mCons (mOp2 fIx (mVar 3) (mVar 2)) mNil)) (retM (.int 7))) (mVar 1)))))))
def takeF : FnD := fnM 2 4 takeM
theorem line200k : (100000 : Nat) < sizeLine := by rw [sizeLine_eq]; decide
def Draw (x : Int) : Prop := 0 ≤ x ∧ x < 2147483648
/-- the three statements behind cell -/
theorem mix (c : Int) (k n : Nat) {r : D} {s2 s6 s7 : Sv} {S : So} {xs : List D} {P : Fl → Sl → So → Prop} {m : D} (hS : S[1]? = some (.lst xs)) (hl : xs.length < sizeLine)
    (h : ∀ v s, Draw v → P .nx [.v r, .v m, s2, .v (.int c), .v (.ref 1), .v (.int k), s6, s] (S.set 1 (.lst (xs ++ [.int v])))) :
    okS (seqS (asgS (mOp2 fMod (mOpA fInt (mCons (mOp2 fAdd (mOp2 fAdd (mOp2 fMul (mVar 3) (retM (.int 48271))) (mOp2 fMul (mVar 5) (retM (.int 69621)))) (retM (.int 11))) mNil)) (retM (.int 2147483647))) (nmT 7)) (seqS (asgS (mOp2 fMod (mOpA fInt (mCons (mOp2 fAdd (mOp2 fDiv (mOp2 fMul (mVar 7) (mVar 7)) (retM (.int 4096))) (mVar 7)) mNil)) (retM (.int 2147483629))) (nmT 7)) (exprS (mMeth isL fAppend (mVar 4) (mCons (mOp2 fMod (mOpA fInt (mCons (mOp2 fAdd (mOp2 fDiv (mOp2 fMul (mVar 7) (mVar 7)) (retM (.int 4096))) (mOp2 fMul (mVar 5) (retM (.int 7919)))) mNil)) (retM (.int 2147483629))) mNil)))))
      [.v r, .v m, s2, .v (.int c), .v (.ref 1), .v (.int k), s6, s7] S P := by
  have c1 : ∀ a : Int, CDivW a 4096 := fun a => by unfold CDivW; decide
  refine okS_seq (okS_asg ?_)
  simp
  refine ⟨cm (by decide), cm (by decide), ?_⟩
  have hm : ∀ a : Int, 0 ≤ a % 2147483647 ∧ a % 2147483647 < 2147483647 := fun a => ⟨Int.emod_nonneg _ (by decide), Int.emod_lt_of_pos _ (by decide)⟩
  have hm2 : ∀ a : Int, 0 ≤ a % 2147483629 ∧ a % 2147483629 < 2147483629 := fun a => ⟨Int.emod_nonneg _ (by decide), Int.emod_lt_of_pos _ (by decide)⟩
  generalize hq : (c * 48271 + (k : Int) * 69621 + 11) % 2147483647 = q
  have q1 : 0 ≤ q ∧ q < 2147483647 := by rw [← hq]; exact hm _
  refine okS_seq (okS_asg ?_)
  simp
  refine ⟨cm (by omega), c1 _, ?_⟩
  generalize hq2 : (q * q / 4096 + q) % 2147483629 = q2
  have q3 : 0 ≤ q2 ∧ q2 < 2147483629 := by rw [← hq2]; exact hm2 _
  refine okS_expr ?_
  simp
  refine ⟨isL_ref hS, cm (by omega), c1 _, cm (by decide), ?_⟩
  rw [fAppend_ref hS hl]
  simp
  refine h _ _ ?_
  have := hm2 (q2 * q2 / 4096 + (k : Int) * 7919)
  unfold Draw
  omega

/-- one turn of the draws -/
theorem draw_turn (many : Int) (ns rests xs : List Int) (i : Nat) (s3 s5 s6 s7 : Sv) (P : Fl → Sl → So → Prop) (hr : rests.length = ns.length) (h0 : ∀ r ∈ rests, 0 ≤ r) (hx : ∀ x ∈ xs, Draw x) (hl : xs.length < sizeLine)
    (h : ∀ (f : Fl) (s3 s5 s6 s7 : Sv) (rests : List Int) (v : Int), (f = .nx ∨ f = .ct) → rests.length = ns.length → (∀ r ∈ rests, 0 ≤ r) → Draw v →
      P f [.v (.rol (ns.map .int)), .v (.int many), .v (.ref 0), s3, .v (.ref 1), s5, s6, s7] [.lst (rests.map .int), .lst ((xs ++ [v]).map .int)]) :
    okS drawsB [.v (.rol (ns.map .int)), .v (.int many), .v (.ref 0), s3, .v (.ref 1), .v (.int (i : Nat)), s6, s7] [.lst (rests.map .int), .lst (xs.map .int)] P := by
  have fin : ∀ (c : Int) (s3 s6 s7 : Sv) (rests : List Int), rests.length = ns.length → (∀ r ∈ rests, 0 ≤ r) → ∀ v s, Draw v → P .nx [.v (.rol (ns.map .int)), .v (.int many), .v (.ref 0), .v (.int c), .v (.ref 1), .v (.int (i : Nat)), s6, s] ([O.lst (rests.map .int), .lst (xs.map .int)].set 1 (.lst (xs.map .int ++ [.int v]))) := by
    intro c s3 s6 s7 rests hr h0 v s hv
    have := h .nx (.v (.int c)) (.v (.int (i : Nat))) s6 s rests v (.inl rfl) hr h0 hv
    simpa using this
  unfold drawsB
  refine okS_seq (okS_asg ?_)
  simp
  by_cases hn : ns = []
  · subst hn
    refine okS_seq (okS_ifF ?_)
    simp
    refine okS_nx ?_
    simp
    exact mix _ i 0 rfl (by simpa using hl) (fin _ (.v (.int (i : Nat))) s6 s7 rests hr h0)
  · have hpos : 0 < ns.length := List.length_pos_iff.mpr hn
    refine okS_seq (okS_ifT ?_)
    simp [hpos]
    refine okS_seq (okS_asg ?_)
    simp [hpos]
    generalize hj : (i : Int) % (ns.length : Int) = j
    have j1 : 0 ≤ j ∧ j < ns.length := by
      rw [← hj]
      exact ⟨Int.emod_nonneg _ (by omega), Int.emod_lt_of_pos _ (by omega)⟩
    obtain ⟨d1, a1, g1⟩ := atI_ok (xs := ns.map D.int) j1.1 (by simpa using j1.2)
    obtain ⟨d2, a2, g2⟩ := atI_ok (xs := rests.map D.int) j1.1 (by simpa [hr] using j1.2)
    rw [List.getElem?_map] at g1 g2
    obtain ⟨c, g1, rfl⟩ := Option.map_eq_some_iff.mp g1
    obtain ⟨t, g2, rfl⟩ := Option.map_eq_some_iff.mp g2
    refine okS_seq (okS_asg ?_)
    simp [fIx_rol a1]
    have S0 : ([O.lst (rests.map .int), .lst (xs.map .int)] : So)[0]? = some (.lst (rests.map .int)) := rfl
    have S1 : ([O.lst (rests.map .int), .lst (xs.map .int)] : So)[1]? = some (.lst (xs.map .int)) := rfl
    have pw : CPow 10 18 := by unfold CPow; decide
    by_cases hc : (1000000000000000000 : Int) ≤ c
    · by_cases ht : 0 < t
      · refine okS_ifT ?_
        simp [pw, fIx_ref S0 a2, hc, ht]
        refine okS_seq (okS_expr ?_)
        have c1 : CDivW t 1000003 := by unfold CDivW; decide
        simp [fIx_ref S0 a2, isL_ref S1, fAppend_ref S1 (by simpa using hl)]
        refine okS_seq (okS_setix ?_)
        have S0' : ([O.lst (rests.map .int), .lst (xs.map .int ++ [D.int (t % 1000003)])] : So)[0]? = some (.lst (rests.map .int)) := rfl
        simp [fIx_ref S0' a2, c1, fSet_ref S0' j1.1 (by simpa [hr] using j1.2)]
        refine okS_fl ?_
        simp
        have := h .ct (.v (.int c)) (.v (.int (i : Nat))) (.v (.int j)) s7 (rests.set j.toNat (t / 1000003)) (t % 1000003) (.inr rfl) (by simpa using hr) (fun r hm => ?_) ⟨Int.emod_nonneg _ (by decide), by have := Int.emod_lt_of_pos t (b := 1000003) (by decide); omega⟩
        · simpa [List.map_set] using this
        · rcases List.mem_or_eq_of_mem_set hm with q | q
          · exact h0 r q
          · rw [q]; exact Int.ediv_nonneg (by omega) (by decide)
      · refine okS_ifF ?_
        simp [pw, fIx_ref S0 a2, hc, ht]
        refine okS_nx ?_
        simp
        exact mix c i 0 rfl (by simpa using hl) (fin c (.v (.int (i : Nat))) _ s7 rests hr h0)
    · refine okS_ifF ?_
      simp [pw, hc]
      refine okS_nx ?_
      simp
      exact mix c i 0 rfl (by simpa using hl) (fin c (.v (.int (i : Nat))) _ s7 rests hr h0)
/-- the draws of a script -/
theorem ok_draws (many : Nat) (hmany : many ≤ 100000) (ns : List Int) (hn : ns.length ≤ 63) (P : D → So → Prop) (h : ∀ (rs xs : List Int), (∀ x ∈ xs, Draw x) → P (.ref 1) [.lst (rs.map .int), .lst (xs.map .int)]) : okC (drawsF [.rol (ns.map .int), .int (many : Nat)] []) P := by
  unfold drawsF
  refine okC_fn rfl ?_
  unfold drawsM
  refine okS_seq (okS_asg (okM_comp (okM_seqV (xs := ns.map .int) rfl ?_)))
  refine ⟨fun i S => i ≤ ns.length ∧ S = [.lst (((ns.take i).map fun n => if n < 0 then -n else n).map .int)], ⟨Nat.zero_le _, rfl⟩, fun i S2 hI => ?_⟩
  obtain ⟨hi, rfl⟩ := hI
  by_cases hin : i < ns.length
  · refine .inr ⟨by simpa [itFix] using hin, .int ns[i], _, by simp [itFix, hin], rfl, ?_⟩
    simp [startE, wipeE]
    refine ⟨?_, hin, ?_⟩
    · have := line200
      omega
    · rw [List.take_add_one]
      simp [hin]
  · have e : i = ns.length := by omega
    subst e
    refine .inl ⟨by simp [itFix], ?_⟩
    refine okS_seq (okS_asg ?_)
    simp [fLst, startE]
    refine okS_seq (okS_rng (okM_cons.mpr (okM_var.mpr ⟨.int (many : Nat), rfl, okM_nil.mpr ⟨many, rfl, by omega, ?_⟩⟩)))
    refine ⟨fun i e S => i ≤ many ∧ ∃ (s3 s5 s6 s7 : Sv) (rests xs : List Int), e = [.v (.rol (ns.map .int)), .v (.int (many : Nat)), .v (.ref 0), s3, .v (.ref 1), s5, s6, s7] ∧ S = [.lst (rests.map .int), .lst (xs.map .int)] ∧ rests.length = ns.length ∧ (∀ r ∈ rests, 0 ≤ r) ∧ (∀ x ∈ xs, Draw x) ∧ xs.length = i, ?_, ?_, ?_⟩
    · refine ⟨Nat.zero_le _, .no, .no, .no, .no, ns.map fun n => if n < 0 then -n else n, [], rfl, by simp, by simp, fun r hr => ?_, by simp, rfl⟩
      obtain ⟨n, _, rfl⟩ := List.mem_map.mp hr
      split <;> omega
    · rintro i e2 S2 hi ⟨hi2, s3, s5, s6, s7, rests, xs, rfl, rfl, h1, h2, h3, h4⟩
      refine ⟨_, rfl, ?_⟩
      refine draw_turn (many : Nat) ns rests xs i s3 s5 s6 s7 _ h1 h2 h3 (by have := line200k; omega) fun f t3 t5 t6 t7 rests' v hf k1 k2 k3 => ?_
      have q : i + 1 ≤ many ∧ ∃ (s3 s5 s6 s7 : Sv) (rs ys : List Int), [Sv.v (.rol (ns.map .int)), .v (.int (many : Nat)), .v (.ref 0), t3, .v (.ref 1), t5, t6, t7] = [Sv.v (.rol (ns.map .int)), .v (.int (many : Nat)), .v (.ref 0), s3, .v (.ref 1), s5, s6, s7] ∧ [O.lst (rests'.map .int), .lst ((xs ++ [v]).map .int)] = [O.lst (rs.map .int), .lst (ys.map .int)] ∧ rs.length = ns.length ∧ (∀ r ∈ rs, 0 ≤ r) ∧ (∀ x ∈ ys, Draw x) ∧ ys.length = i + 1 := by
        refine ⟨by omega, t3, t5, t6, t7, rests', xs ++ [v], rfl, rfl, k1, k2, fun x hx => ?_, by simp [h4]⟩
        rcases List.mem_append.mp hx with z | z
        · exact h3 x z
        · simp at z; subst z; exact k3
      rcases hf with rfl | rfl
      · exact q
      · exact q
    · rintro e2 S2 ⟨hi2, s3, s5, s6, s7, rests, xs, rfl, rfl, h1, h2, h3, h4⟩
      refine okS_ret ?_
      simp
      have := h rests xs h3
      exact this
def Hand (S : So) : Prop := ∃ (xs : List Int) (at_ : Int), S[2]? = some (.lst [.ref 1, .int at_]) ∧ 0 ≤ at_ ∧ S[1]? = some (.lst (xs.map .int)) ∧ ∀ x ∈ xs, Draw x
def Grow (S T : So) : Prop := S.length ≤ T.length ∧ ∀ n o, n ≠ 2 → S[n]? = some o → T[n]? = some o
theorem Grow.refl (S : So) : Grow S S := ⟨Nat.le_refl _, fun _ _ _ h => h⟩
theorem Grow.trans {S T U : So} (a : Grow S T) (b : Grow T U) : Grow S U := ⟨Nat.le_trans a.1 b.1, fun n o h e => b.2 n o h (a.2 n o h e)⟩
theorem Grow.app (S : So) (o : O) : Grow S (S ++ [o]) := ⟨by simp, fun n x _ e => by rw [List.getElem?_append_left (List.getElem?_eq_some_iff.mp e).1]; exact e⟩
theorem get_app {S : So} {n : Nat} {o x : O} (e : S[n]? = some x) : (S ++ [o])[n]? = some x := by rw [List.getElem?_append_left (List.getElem?_eq_some_iff.mp e).1]; exact e
theorem get_new {S : So} {o : O} : (S ++ [o])[S.length]? = some o := by simp
theorem Hand.app {S : So} {o : O} (h : Hand S) : Hand (S ++ [o]) := by
  obtain ⟨xs, a, h1, h2, h3, h4⟩ := h
  exact ⟨xs, a, get_app h1, h2, get_app h3, h4⟩
theorem Hand.len {S : So} (h : Hand S) : 2 < S.length := by
  obtain ⟨xs, a, h1, h2, h3, h4⟩ := h
  exact (List.getElem?_eq_some_iff.mp h1).1
theorem Hand.set {S : So} {n : Nat} {o : O} (h : Hand S) (h1 : n ≠ 1) (h2 : n ≠ 2) : Hand (S.set n o) := by
  obtain ⟨xs, a, k1, k2, k3, k4⟩ := h
  exact ⟨xs, a, by rw [List.getElem?_set_ne h2]; exact k1, k2, by rw [List.getElem?_set_ne h1]; exact k3, k4⟩
theorem ok_take {S : So} {many : Int} {P : D → So → Prop} (h : Hand S) (hm : 0 < many) (hm2 : many < 2 ^ 63) (hP : ∀ v S', 0 ≤ v → v < many → Hand S' → Grow S S' → S'.length = S.length → P (.int v) S') : okC (takeF [.ref 2, .int many] S) P := by
  obtain ⟨xs, a, h1, h2, h3, h4⟩ := h
  have l2 : 2 < S.length := (List.getElem?_eq_some_iff.mp h1).1
  unfold takeF
  refine okC_fn rfl ?_
  unfold takeM
  simp only [startE, List.map, List.length, List.replicate, List.cons_append, List.nil_append]
  have i1 : atI [D.ref 1, .int a] 1 = some (.int a) := rfl
  refine okS_seq (okS_asg ?_)
  simp [fIx_ref h1 i1]
  refine okS_seq (okS_setix ?_)
  simp [fSet_ref h1 (i := 1) (by decide) (by simp)]
  have g2 : (S.set 2 (.lst [D.ref 1, .int (a + 1)]))[2]? = some (.lst [D.ref 1, .int (a + 1)]) := List.getElem?_set_self l2
  have g1 : (S.set 2 (.lst [D.ref 1, .int (a + 1)]))[1]? = some (.lst (xs.map .int)) := by rw [List.getElem?_set_ne (by decide)]; exact h3
  have hd : Hand (S.set 2 (.lst [D.ref 1, .int (a + 1)])) := ⟨xs, a + 1, g2, by omega, g1, h4⟩
  have gr : Grow S (S.set 2 (.lst [D.ref 1, .int (a + 1)])) := ⟨by simp, fun n o hn e => by rw [List.getElem?_set_ne (Ne.symm hn)]; exact e⟩
  have i0 : atI [D.ref 1, .int (a + 1)] 0 = some (.ref 1) := rfl
  refine okS_seq (okS_asg ?_)
  simp [fIx_ref g2 i0]
  by_cases hc : a < xs.length
  · refine okS_seq (okS_ifF ?_)
    simp [fLen_ref g1]
    refine ⟨by omega, okS_nx ?_⟩
    refine okS_ret ?_
    obtain ⟨d, a1, a2⟩ := atI_ok (xs := xs.map D.int) h2 (by simpa using hc)
    rw [List.getElem?_map] at a2
    obtain ⟨c, a2, rfl⟩ := Option.map_eq_some_iff.mp a2
    have c1 : CDivW c 7 := by unfold CDivW; decide
    simp [fIx_ref g1 a1, c1, hm]
    exact hP _ _ (Int.emod_nonneg _ (by omega)) (Int.emod_lt_of_pos _ hm) hd gr (by simp)
  · refine okS_seq (okS_ifT ?_)
    simp [fLen_ref g1]
    refine ⟨by omega, okS_ret ?_⟩
    simp
    exact hP _ _ (by decide) hm hd gr (by simp)
/-! ### data -/
mutual
inductive Dat (b : Nat) (S : So) : Nat → D → PyData → Prop
  | non {k : Nat} : Dat b S k .non .none
  | bl {k : Nat} (v : Bool) : Dat b S k (.bl v) (.bool v)
  | int {k : Nat} (v : Int) : Dat b S k (.int v) (.int v)
  | str {k : Nat} (v : Str) : Dat b S k (.str v) (.str v)
  | tup {k : Nat} {xs : List D} {ps : List PyData} : Dats b S k xs ps → Dat b S k (.tup xs) (.tuple ps)
  | ref {k m : Nat} {xs : List D} {ps : List PyData} : b ≤ m → S[m]? = some (.lst xs) → Dats b S k xs ps → Dat b S (k + 1) (.ref m) (.list ps)
inductive Dats (b : Nat) (S : So) : Nat → List D → List PyData → Prop
  | nil {k : Nat} : Dats b S k [] []
  | cons {k : Nat} {d : D} {p : PyData} {ds : List D} {ps : List PyData} : Dat b S k d p → Dats b S k ds ps → Dats b S k (d :: ds) (p :: ps)
end
section
variable {b b' : Nat} {S T : So}
mutual
theorem Dat.mono (hb : b' ≤ b) (h : ∀ n xs, b ≤ n → S[n]? = some (.lst xs) → T[n]? = some (.lst xs)) : ∀ {k k' : Nat} {d : D} {p : PyData}, k ≤ k' → Dat b S k d p → Dat b' T k' d p
  | _, _, _, _, _, .non => .non
  | _, _, _, _, _, .bl v => .bl v
  | _, _, _, _, _, .int v => .int v
  | _, _, _, _, _, .str v => .str v
  | _, _, _, _, hk, .tup x => .tup (Dats.mono hb h hk x)
  | _, 0, _, _, hk, .ref _ _ _ => absurd hk (by omega)
  | _, _ + 1, _, _, hk, .ref h1 h2 h3 => .ref (Nat.le_trans hb h1) (h _ _ h1 h2) (Dats.mono hb h (Nat.le_of_succ_le_succ hk) h3)
theorem Dats.mono (hb : b' ≤ b) (h : ∀ n xs, b ≤ n → S[n]? = some (.lst xs) → T[n]? = some (.lst xs)) : ∀ {k k' : Nat} {d : List D} {p : List PyData}, k ≤ k' → Dats b S k d p → Dats b' T k' d p
  | _, _, _, _, _, .nil => .nil
  | _, _, _, _, hk, .cons x y => .cons (Dat.mono hb h hk x) (Dats.mono hb h hk y)
end
mutual
theorem Dat.py : ∀ {k : Nat} {d : D} {p : PyData}, Dat b S k d p → toPy S k d = some p
  | _, _, _, .non => by unfold toPy; rfl
  | _, _, _, .bl v => by unfold toPy; rfl
  | _, _, _, .int v => by unfold toPy; rfl
  | _, _, _, .str v => by unfold toPy; rfl
  | _, _, _, .tup x => by unfold toPy; rw [Dats.py x]; rfl
  | _, _, _, .ref h1 h2 h3 => by unfold toPy; rw [h2]; dsimp only; rw [Dats.py h3]; rfl
theorem Dats.py : ∀ {k : Nat} {d : List D} {p : List PyData}, Dats b S k d p → toPys S k d = some p
  | _, _, _, .nil => by unfold toPys; rfl
  | _, _, _, .cons x y => by unfold toPys; rw [Dat.py x, Dats.py y]
end
theorem Dats.snoc {k : Nat} {d : D} {p : PyData} : ∀ {ds : List D} {ps : List PyData}, Dats b S k ds ps → Dat b S k d p → Dats b S k (ds ++ [d]) (ps ++ [p])
  | _, _, .nil, x => .cons x .nil
  | _, _, .cons y z, x => .cons y (Dats.snoc z x)
theorem Dats.len {k : Nat} : ∀ {ds : List D} {ps : List PyData}, Dats b S k ds ps → ds.length = ps.length
  | _, _, .nil => rfl
  | _, _, .cons _ z => by simp [Dats.len z]
end
end DD

set_option Elab.async false
set_option linter.all false
set_option maxRecDepth 100000
namespace DD
open PySem PySem.Spec PyProof.Rows L2
/-! ### data that is read; walks over any row -/
/-- all objects stay -/
def Keep (S T : So) : Prop := ∀ (n : Nat) (o : O), S[n]? = some o → T[n]? = some o
theorem Keep.refl (S : So) : Keep S S := fun _ _ h => h
theorem Keep.trans {S T U : So} (a : Keep S T) (b : Keep T U) : Keep S U := fun n o h => b n o (a n o h)
theorem Keep.app (S : So) (o : O) : Keep S (S ++ [o]) := fun n x h => get_app h
theorem Keep.len {S T : So} (h : Keep S T) : S.length ≤ T.length := by
  by_cases z : S.length = 0
  · omega
  · have h1 : S.length - 1 < S.length := by omega
    have := h (S.length - 1) _ (List.getElem?_eq_getElem h1)
    have := (List.getElem?_eq_some_iff.mp this).1
    omega
/-- d is read as p -/
def Py (S : So) (d : D) (p : PyData) : Prop := ∃ k, k ≤ 9 ∧ toPy S k d = some p
def Pys (S : So) (ds : List D) (ps : List PyData) : Prop := ∃ k, k ≤ 9 ∧ toPys S k ds = some ps
mutual
theorem toPy_up {S T : So} (h : Keep S T) : ∀ (k k' : Nat) (d : D) (p : PyData), k ≤ k' → toPy S k d = some p → toPy T k' d = some p
  | _, _, .non, _, _, e => by unfold toPy at e ⊢; exact e
  | _, _, .bl _, _, _, e => by unfold toPy at e ⊢; exact e
  | _, _, .int _, _, _, e => by unfold toPy at e ⊢; exact e
  | _, _, .str _, _, _, e => by unfold toPy at e ⊢; exact e
  | k, k', .tup xs, p, hk, e => by
    unfold toPy at e ⊢
    cases q : toPys S k xs with
    | none => rw [q] at e; cases e
    | some ps => rw [q] at e; rw [toPys_up h k k' xs ps hk q]; exact e
  | k, k', .rol xs, p, hk, e => by
    unfold toPy at e ⊢
    cases q : toPys S k xs with
    | none => rw [q] at e; cases e
    | some ps => rw [q] at e; rw [toPys_up h k k' xs ps hk q]; exact e
  | 0, _, .ref _, _, _, e => by unfold toPy at e; cases e
  | k + 1, 0, .ref _, _, hk, e => by omega
  | k + 1, k' + 1, .ref m, p, hk, e => by
    unfold toPy at e ⊢
    split at e
    · rename_i xs q
      rw [h m _ q]
      dsimp only
      cases q2 : toPys S k xs with
      | none => rw [q2] at e; cases e
      | some ps => rw [q2] at e; rw [toPys_up h k k' xs ps (by omega) q2]; exact e
    · cases e
  | _, _, .glo _, _, _, e => by unfold toPy at e; cases e
  | _, _, .ty _, _, _, e => by unfold toPy at e; cases e
termination_by k k' d => (k, sizeOf d)
theorem toPys_up {S T : So} (h : Keep S T) : ∀ (k k' : Nat) (ds : List D) (ps : List PyData), k ≤ k' → toPys S k ds = some ps → toPys T k' ds = some ps
  | _, _, [], _, _, e => by unfold toPys at e ⊢; exact e
  | k, k', d :: ds, ps, hk, e => by
    unfold toPys at e ⊢
    split at e
    · rename_i p ps' e1 e2
      rw [toPy_up h k k' d p hk e1, toPys_up h k k' ds ps' hk e2]
      exact e
    · cases e
termination_by k k' ds => (k, sizeOf ds)
end
theorem Py.up {S T : So} {d : D} {p : PyData} (h : Keep S T) (e : Py S d p) : Py T d p := by
  obtain ⟨k, h1, h2⟩ := e
  exact ⟨k, h1, toPy_up h k k d p (Nat.le_refl _) h2⟩
theorem Py.nine {S : So} {d : D} {p : PyData} (e : Py S d p) : py d S = some p := by
  obtain ⟨k, h1, h2⟩ := e
  exact toPy_up (Keep.refl S) k 9 d p h1 h2
theorem toPys_get {S : So} {k : Nat} : ∀ {ds : List D} {ps : List PyData}, toPys S k ds = some ps → ds.length = ps.length ∧ ∀ (i : Nat) (d : D), ds[i]? = some d → ∃ p, ps[i]? = some p ∧ toPy S k d = some p
  | [], _, e => by unfold toPys at e; cases e; exact ⟨rfl, fun i d h => by simp at h⟩
  | d :: ds, ps, e => by
    unfold toPys at e
    split at e
    · rename_i p ps' e1 e2
      cases e
      obtain ⟨h1, h2⟩ := toPys_get e2
      refine ⟨by simp [h1], fun i x hx => ?_⟩
      cases i with
      | zero => simp at hx; subst hx; exact ⟨p, rfl, e1⟩
      | succ i => exact h2 i x (by simpa using hx)
    · cases e
/-- a row's items -/
def Row (S : So) (d : D) (ps : List PyData) : Prop := ∃ (b : Bool) (xs : List D), seqOf d S = some (b, xs) ∧ xs.length = ps.length ∧ ∀ (i : Nat) (x : D), xs[i]? = some x → ∃ p, ps[i]? = some p ∧ Py S x p
theorem Py.row {S : So} {d : D} {p : PyData} {ps : List PyData} (e : Py S d p) (h : p = .list ps ∨ p = .tuple ps) : Row S d ps := by
  obtain ⟨k, hk, e⟩ := e
  have go : ∀ {k' : Nat} {xs : List D}, k' ≤ 9 → toPys S k' xs = some ps → xs.length = ps.length ∧ ∀ (i : Nat) (x : D), xs[i]? = some x → ∃ p, ps[i]? = some p ∧ Py S x p := fun hk' e' => by
    obtain ⟨h1, h2⟩ := toPys_get e'
    refine ⟨h1, fun i x hx => ?_⟩
    obtain ⟨p, h3, h4⟩ := h2 i x hx
    exact ⟨p, h3, _, hk', h4⟩
  cases d with
  | tup xs =>
    unfold toPy at e
    cases q : toPys S k xs with
    | none => rw [q] at e; cases e
    | some qs =>
      rw [q] at e
      cases e
      rcases h with h | h <;> cases h
      exact ⟨true, xs, rfl, go hk q⟩
  | rol xs =>
    unfold toPy at e
    cases q : toPys S k xs with
    | none => rw [q] at e; cases e
    | some qs =>
      rw [q] at e
      cases e
      rcases h with h | h <;> cases h
      exact ⟨false, xs, rfl, go hk q⟩
  | ref n =>
    cases k with
    | zero => unfold toPy at e; cases e
    | succ k =>
      unfold toPy at e
      split at e
      · rename_i xs q
        cases q2 : toPys S k xs with
        | none => rw [q2] at e; cases e
        | some qs =>
          rw [q2] at e
          cases e
          rcases h with h | h <;> cases h
          exact ⟨false, xs, by unfold seqOf; simp [q], go (by omega) q2⟩
      · cases e
  | non => unfold toPy at e; cases e; rcases h with h | h <;> cases h
  | bl _ => unfold toPy at e; cases e; rcases h with h | h <;> cases h
  | int _ => unfold toPy at e; cases e; rcases h with h | h <;> cases h
  | str _ => unfold toPy at e; cases e; rcases h with h | h <;> cases h
  | glo _ => unfold toPy at e; cases e
  | ty _ => unfold toPy at e; cases e
/-- the built-in type of data -/
def tyP : PyData → String
  | .none => "NoneType"
  | .bool _ => "bool"
  | .int _ => "int"
  | .str _ => "str"
  | .list _ => "list"
  | .tuple _ => "tuple"
  | .dict _ => "dict"
theorem Py.ty {T : Tab} {S : So} {d : D} {p : PyData} (e : Py S d p) : tyOf T d S = some (.inl (tyP p)) := by
  obtain ⟨k, hk, e⟩ := e
  cases d with
  | tup xs =>
    unfold toPy at e
    cases q : toPys S k xs with
    | none => rw [q] at e; cases e
    | some qs => rw [q] at e; cases e; rfl
  | rol xs =>
    unfold toPy at e
    cases q : toPys S k xs with
    | none => rw [q] at e; cases e
    | some qs => rw [q] at e; cases e; rfl
  | ref n =>
    cases k with
    | zero => unfold toPy at e; cases e
    | succ k =>
      unfold toPy at e
      split at e
      · rename_i xs q
        cases q2 : toPys S k xs with
        | none => rw [q2] at e; cases e
        | some qs => rw [q2] at e; cases e; simp [tyOf, q, tyP]
      · cases e
  | non => unfold toPy at e; cases e; rfl
  | bl _ => unfold toPy at e; cases e; rfl
  | int _ => unfold toPy at e; cases e; rfl
  | str _ => unfold toPy at e; cases e; rfl
  | glo _ => unfold toPy at e; cases e
  | ty _ => unfold toPy at e; cases e
end DD

set_option Elab.async false
set_option linter.all false
set_option maxRecDepth 100000
namespace DD
open PySem PySem.Spec PyProof.Rows L2
section
variable {e : Sl} {S : So}
/-- the row's items at later stores -/
def SeqIt (d : D) (xs : List D) (it : Itm) (S1 : So) : Prop := it.n = xs.length ∧ ∀ S2, Keep S1 S2 → ∀ i, it.get i S2 = some xs[i]?
theorem seqI_row {d : D} {S : So} {b : Bool} {xs : List D} (h : seqOf d S = some (b, xs)) : ∃ it, seqI d e S = some (.ok it, S) ∧ SeqIt d xs it S := by
  cases d with
  | tup ys => cases h; exact ⟨_, rfl, rfl, fun _ _ _ => rfl⟩
  | rol ys => cases h; exact ⟨_, rfl, rfl, fun _ _ _ => rfl⟩
  | ref n =>
    unfold seqOf at h
    dsimp only at h
    split at h
    · rename_i ys q
      cases h
      refine ⟨itLst n xs.length, by unfold seqI; simp [q], rfl, fun S2 k i => ?_⟩
      unfold itLst
      dsimp only
      rw [k n _ q]
    · cases h
  | _ => unfold seqOf at h; cases h
theorem seqI_str {z : Str} : ∃ it, seqI (.str z) e S = some (.ok it, S) ∧ SeqIt (.str z) (signs z) it S := ⟨_, rfl, rfl, fun _ _ _ => rfl⟩
/-- for x in a row, where the body keeps the store -/
theorem okS_each {m : MM D} {t : Tg} {b : MS} {P : Fl → Sl → So → Prop} (h : okM m e S fun d S1 => ∃ it xs, seqI d e S1 = some (.ok it, S1) ∧ SeqIt d xs it S1 ∧ ∃ I : Nat → Sl → So → Prop, I 0 e S1 ∧
    (∀ i e2 S2 x, Keep S1 S2 → xs[i]? = some x → I i e2 S2 → ∃ e3, t x S2 e2 = some e3 ∧ okS b e3 S2 (turnP (fun e4 S4 => Keep S2 S4 ∧ I (i + 1) e4 S4) P)) ∧ ∀ e2 S2, Keep S1 S2 → I xs.length e2 S2 → P .nx e2 S2) : okS (forS (mSeq m) t b) e S P := by
  refine okS_for ?_
  unfold mSeq
  rw [okM_bind]
  refine h.imp fun d S1 q => ?_
  obtain ⟨it, xs, h1, ⟨h2, h3⟩, I, h4, h5, h6⟩ := q
  refine ⟨it, S1, h1, fun i e2 S2 => Keep S1 S2 ∧ i ≤ xs.length ∧ I i e2 S2, ⟨Keep.refl _, Nat.zero_le _, h4⟩, ?_⟩
  rintro i e2 S2 ⟨k1, k2, k3⟩
  by_cases hi : i < xs.length
  · obtain ⟨e3, g1, g2⟩ := h5 i e2 S2 xs[i] k1 (List.getElem?_eq_getElem hi) k3
    refine .inr ⟨by omega, xs[i], e3, by rw [h3 S2 k1 i, List.getElem?_eq_getElem hi], g1, g2.imp fun f e4 S4 q => ?_⟩
    cases f with
    | nx => exact ⟨k1.trans q.1, hi, q.2⟩
    | ct => exact ⟨k1.trans q.1, hi, q.2⟩
    | _ => exact q
  · have ei : i = xs.length := by omega
    subst ei
    exact .inl ⟨by rw [h3 S2 k1, List.getElem?_eq_none (Nat.le_refl _)], h6 _ _ k1 k3⟩
/-- [f(x) for x in a row], where f keeps the store: the values are told by V -/
theorem okM_each {own : List Nat} {m : MM D} {t : Tg} {te : MM D} {P : D → So → Prop} (h : okM m e S fun d S1 => ∃ it xs, seqI d e S1 = some (.ok it, S1) ∧ SeqIt d xs it S1 ∧ xs.length < sizeLine ∧ ∃ V : Nat → D → Prop,
    (∀ i x T, Keep S1 T → xs[i]? = some x → ∃ e3, t x T (wipeE e own) = some e3 ∧ okM te e3 T fun y U => Keep T U ∧ V i y) ∧
    ∀ ys T, Keep S1 T → T[S1.length]? = some (.lst ys) → ys.length = xs.length → (∀ (i : Nat) (y : D), ys[i]? = some y → V i y) → P (.ref S1.length) T) : okM (compM own (mSeq m) t yesM te) e S P := by
  refine okM_comp ?_
  unfold mSeq
  rw [okM_bind]
  refine h.imp fun d S1 q => ?_
  obtain ⟨it, xs, h1, ⟨h2, h3⟩, hl, V, h4, h5⟩ := q
  refine ⟨it, S1, h1, fun i T => Keep S1 T ∧ i ≤ xs.length ∧ ∃ acc, T[S1.length]? = some (.lst acc) ∧ acc.length = i ∧ ∀ (j : Nat) (y : D), acc[j]? = some y → V j y, ⟨Keep.app _ _, Nat.zero_le _, [], get_new, rfl, fun j y z => by simp at z⟩, ?_⟩
  rintro i T ⟨k1, k2, acc, k3, k4, k5⟩
  by_cases hi : i < xs.length
  · obtain ⟨e3, g1, g2⟩ := h4 i xs[i] T k1 (List.getElem?_eq_getElem hi)
    refine .inr ⟨by omega, xs[i], e3, by rw [h3 T k1 i, List.getElem?_eq_getElem hi], g1, g2.imp fun y U q => ?_⟩
    have u1 := q.1 _ _ k3
    have lU : S1.length < U.length := (List.getElem?_eq_some_iff.mp u1).1
    refine ⟨acc, u1, by omega, fun n o z => ?_, hi, acc ++ [y], List.getElem?_set_self lU, by simp [k4], fun j z hz => ?_⟩
    · have hn : n < S1.length := (List.getElem?_eq_some_iff.mp z).1
      rw [List.getElem?_set_ne (by omega)]
      exact (k1.trans q.1) n o z
    · by_cases hj : j < acc.length
      · rw [List.getElem?_append_left hj] at hz
        exact k5 j z hz
      · rw [List.getElem?_append_right (by omega)] at hz
        have hj2 : j - acc.length = 0 := by
          have := (List.getElem?_eq_some_iff.mp hz).1
          simp at this
          omega
        rw [hj2] at hz
        simp at hz
        subst hz
        have ej : j = i := by omega
        rw [ej]
        exact q.2
  · have ei : i = xs.length := by omega
    subst ei
    exact .inl ⟨by rw [h3 T k1, List.getElem?_eq_none (Nat.le_refl _)], h5 acc T k1 k3 k4 k5⟩
theorem fAll_ok {n : Nat} {bs : List Bool} (h : S[n]? = some (.lst (bs.map .bl))) : fAll [.ref n] S = some (.bl (bs.all id), S) := by
  have hb : ∀ bs : List Bool, blsOf (bs.map .bl) = some bs := fun bs => by
    induction bs with
    | nil => rfl
    | cons b r ih =>
      show (blsOf (r.map .bl)).map (b :: ·) = _
      rw [ih]; rfl
  unfold fAll fAllB
  simp [seqOf, h, hb]
/-- a list that is told item by item -/
theorem list_of {f : Nat → D} {ys : List D} {n : Nat} (h1 : ys.length = n) (h2 : ∀ (i : Nat) (y : D), ys[i]? = some y → y = f i) : ys = (List.range n).map f := by
  apply List.ext_getElem?
  intro i
  by_cases hi : i < n
  · have hy : ys[i]? = some ys[i] := List.getElem?_eq_getElem (by omega)
    rw [hy, h2 i _ hy]
    simp [hi]
  · rw [List.getElem?_eq_none (by omega), List.getElem?_eq_none (by simp; omega)]
/-- what a table says of the built-in types -/
structure Std (T : Tab) : Prop where
  kit : ∀ p : PyData, (∀ kvs, p ≠ .dict kvs) → ∀ c ∈ ["int", "bool", "str", "list", "tuple"], T.kit (.inl (tyP p)) (.inl c) = some (decide (tyP p = c) || (decide (tyP p = "bool") && decide (c = "int")))
/-- no dict at the top -/
def NoD (p : PyData) : Prop := ∀ kvs, p ≠ .dict kvs
theorem toPy_nodict {S : So} {k : Nat} {d : D} {p : PyData} (h : toPy S k d = some p) : NoD p := fun kvs z => by
  subst z
  cases d with
  | tup xs => unfold toPy at h; cases q : toPys S k xs <;> rw [q] at h <;> cases h
  | rol xs => unfold toPy at h; cases q : toPys S k xs <;> rw [q] at h <;> cases h
  | ref n =>
    cases k with
    | zero => unfold toPy at h; cases h
    | succ k =>
      unfold toPy at h
      split at h
      · rename_i xs q
        cases q2 : toPys S k xs <;> rw [q2] at h <;> cases h
      · cases h
  | _ => unfold toPy at h; cases h
theorem Py.nod {d : D} {p : PyData} (h : Py S d p) : NoD p := by
  obtain ⟨k, _, h⟩ := h
  exact toPy_nodict h
theorem isi_ty {T : Tab} {d : D} {p : PyData} {c : String} (sd : Std T) (h : Py S d p) (hc : c ∈ ["int", "bool", "str", "list", "tuple"]) : fIsiA T [d, .ty c] S = some (.bl (decide (tyP p = c) || (decide (tyP p = "bool") && decide (c = "int"))), S) := by
  have k := sd.kit p h.nod c hc
  have t : tyOf T d S = some (.inl (tyP p)) := h.ty
  have main : fIsi T [d, .ty c] S = some (.bl (decide (tyP p = c) || (decide (tyP p = "bool") && decide (c = "int"))), S) := by
    unfold fIsi
    simp only [t, clsN, k]
    rfl
  unfold fIsiA
  split
  · rename_i n c' e2
    cases e2
    split
    · rename_i cn fs e
      obtain ⟨k', _, h'⟩ := h
      cases k' with
      | zero => unfold toPy at h'; cases h'
      | succ k' => unfold toPy at h'; rw [e] at h'; cases h'
    · exact main
  · exact main
end
end DD

set_option Elab.async false
set_option linter.all false
set_option maxRecDepth 100000
namespace DD
open PySem PySem.Spec PyProof.Rows L2
section
variable {X : Cx} {g : G} {xa : Xa} {W : WX} {pos : Pos} {ι : List Addr} {H : Hp} {T : Tab}
/-! ### tuple(range(n)) -/
def rngD (n : Nat) : List D := (List.range n).map fun (i : Nat) => D.int (i : Int)
def tupRng (d : D) : MM D := fun _ S => match d with
  | .int j => if -(2 ^ 62) ≤ j ∧ j < 2 ^ 62 ∧ j.toNat ≤ 2 ^ 24 then some (.ok (.tup (rngD j.toNat)), S) else none
  | _ => none
def mTupRng (m : MM D) : MM D := bindM m tupRng
theorem Rs_ints : ∀ (ns : List Int), Rs g ι H (ns.map D.int) (ns.map V.int)
  | [] => .nil
  | n :: ns => .cons (.int n) (Rs_ints ns)
theorem em_tupRng {a : Expr} {m : MM D} {p p2 pos2 : Pos} (hc : X.calm = true) (hm : X.mg "tuple" = none) (hm2 : X.mg "range" = none) (ha : PE X a (tE g xa W m)) (hg : Gl X "tuple" := by rfl) (hg2 : Gl X "range" := by rfl)
    (hs : starEach [a] X.env = (false, eval a X.env) :: starEach [] X.env := by rfl) (hs2 : starEach [.Call (.Name "range" p2) [a] [] pos2] X.env = (false, eval (.Call (.Name "range" p2) [a] [] pos2) X.env) :: starEach [] X.env := by rfl) :
    PE X (.Call (.Name "tuple" p) [.Call (.Name "range" p2) [a] [] pos2] [] pos) (tE g xa W (mTupRng m)) :=
  (pe_tupRgP hc hg hm (prg_1 hg2 hm2 ha hs) hs2).viaM fun σ H Q h => by
    obtain ⟨ι, S, e, r, S', hs, he, hm, hf'⟩ := h
    refine stepG hs he hm hf' fun d S1 ι1 H1 v h1 p1 x1 s1 e1 r1 f1 => ?_
    unfold tupRng at h1
    split at h1
    · rename_i j
      split at h1
      · rename_i hb
        cases h1
        cases r1
        refine ⟨j, rfl, ⟨by decide, by decide, hb.1, hb.2.1, ?_⟩, fun q o nq zo => ?_⟩
        · have : j - 0 = j := by omega
          rw [this]
          exact hb.2.2
        · have e2 : rgV 0 j = ((List.range j.toNat).map fun (i : Nat) => (i : Int)).map V.int := by
            unfold rgV
            rw [List.map_map]
            simp
          have e3 : rngD j.toNat = ((List.range j.toNat).map fun (i : Nat) => (i : Int)).map D.int := by
            unfold rngD
            rw [List.map_map]
            rfl
          rw [e2]
          have f2 : Does g (ρD g) ι1 H1 (.tup (rngD j.toNat)) S' Q := f1
          refine f2.tup s1 nq ?_ zo
          rw [e3]
          exact Rs_ints _
      · cases h1
    · cases h1
/-- tuple(range(n)) in the logic of runs -/
theorem okM_tupRng {m : MM D} {e : Sl} {S : So} {P : D → So → Prop} (h : okM m e S fun d S1 => ∃ n : Nat, d = .int (n : Nat) ∧ n ≤ 1000000 ∧ P (.tup (rngD n)) S1) : okM (mTupRng m) e S P := by
  unfold mTupRng
  rw [okM_bind]
  refine h.imp fun d S1 q => ?_
  obtain ⟨n, rfl, hn, hP⟩ := q
  refine ⟨_, S1, ?_, hP⟩
  unfold tupRng
  dsimp only
  rw [if_pos ⟨by omega, by omega, by rw [Int.toNat_natCast]; omega⟩, Int.toNat_natCast]
end
end DD

set_option Elab.async false
set_option linter.all false
set_option maxRecDepth 100000
namespace DD
open PySem PySem.Spec PyProof.Rows L2
/-! ### dicts with texts and whole numbers for keys -/
abbrev Kd := List (Key × D)
def valD (kvs : Kd) (k : Key) : Option D := (kvs.find? fun kv => decide (kv.1 = k)).map (·.2)
def putKD (kvs : Kd) (k : Key) (v : D) : Kd := if (kvs.any fun kv => decide (kv.1 = k)) = true then kvs.map (fun kv => if kv.1 = k then (kv.1, v) else kv) else kvs ++ [(k, v)]
def mergeD (kvs more : Kd) : Kd := more.foldl (fun acc kv => putKD acc kv.1 kv.2) kvs
def keyOf (d : D) : Option Key := match d with
  | .int i => some (.inl i)
  | .str x => some (.inr x)
  | _ => none
def kD (k : Key) : D := match k with
  | .inl i => .int i
  | .inr x => .str x
def getK (d : D) (S : So) : Option Kd := match d with
  | .ref n => match S[n]? with
    | some (.dct kvs) => some kvs
    | some (.ldc kvs) => some kvs
    | _ => none
  | _ => none
section
variable {g : G} {ι ι' : List Addr} {H H' : Hp}
def DR (g : G) (ι : List Addr) (H : Hp) (kvs : Kd) (vs : List (Key × V)) : Prop := kvs.map (·.1) = vs.map (·.1) ∧ Rs g ι H (kvs.map (·.2)) (vs.map (·.2))
theorem DR.nil : DR g ι H [] [] := ⟨rfl, .nil⟩
theorem DR.cons {k : Key} {d : D} {v : V} {kvs : Kd} {vs : List (Key × V)} (r : R g ι H d v) (h : DR g ι H kvs vs) : DR g ι H ((k, d) :: kvs) ((k, v) :: vs) := ⟨by rw [List.map_cons, List.map_cons, h.1], .cons r h.2⟩
theorem DR.ind {P : Kd → List (Key × V) → Prop} (h0 : P [] []) (h1 : ∀ k d v kvs vs, R g ι H d v → DR g ι H kvs vs → P kvs vs → P ((k, d) :: kvs) ((k, v) :: vs)) : ∀ {kvs : Kd} {vs : List (Key × V)}, DR g ι H kvs vs → P kvs vs
  | [], [], _ => h0
  | [], _ :: _, h => by cases h.1
  | _ :: _, [], h => by cases h.1
  | (k, d) :: kvs, (k', v) :: vs, h => by
    obtain ⟨a, b⟩ := h
    simp only [List.map_cons, List.cons.injEq] at a
    obtain ⟨rfl, a⟩ := a
    cases b with
    | cons b1 b2 => exact h1 _ _ _ _ _ b1 ⟨a, b2⟩ (DR.ind h0 h1 ⟨a, b2⟩)
theorem DR.mono {kvs : Kd} {vs : List (Key × V)} (p : Pre ι ι') (e : Ex H H') (h : DR g ι H kvs vs) : DR g ι' H' kvs vs := ⟨h.1, Rs.mono p e _ _ h.2⟩
theorem DR.val {kvs : Kd} {vs : List (Key × V)} (h : DR g ι H kvs vs) (k : Key) : (∀ d, valD kvs k = some d → ∃ v, valV vs k = some v ∧ R g ι H d v) ∧ (valD kvs k = none → valV vs k = none) := by
  refine DR.ind (P := fun kvs vs => (∀ d, valD kvs k = some d → ∃ v, valV vs k = some v ∧ R g ι H d v) ∧ (valD kvs k = none → valV vs k = none)) ⟨fun d e => by (simp [valD] at e), fun _ => rfl⟩ (fun k' d v kvs vs r _ ih => ?_) h
  by_cases e : k' = k
  · refine ⟨fun d' e' => ⟨v, by simp [valV, e], ?_⟩, fun e' => ?_⟩
    · simp [valD, e] at e'; subst e'; exact r
    · simp [valD, e] at e'
  · refine ⟨fun d' e' => ?_, fun e' => ?_⟩
    · have q : valD kvs k = some d' := by simpa [valD, e] using e'
      obtain ⟨u, h1, h2⟩ := ih.1 d' q
      exact ⟨u, by rw [← h1]; simp [valV, e], h2⟩
    · have q : valD kvs k = none := by simpa [valD, e] using e'
      rw [← ih.2 q]
      simp [valV, e]
theorem DR.any {kvs : Kd} {vs : List (Key × V)} (h : DR g ι H kvs vs) (k : Key) : (kvs.any fun kv => decide (kv.1 = k)) = (vs.any fun kv => decide (kv.1 = k)) :=
  DR.ind (P := fun kvs vs => (kvs.any fun kv => decide (kv.1 = k)) = (vs.any fun kv => decide (kv.1 = k))) rfl (fun k' d v kvs vs _ _ ih => by simp only [List.any_cons, ih]) h
theorem DR.app {kvs ks : Kd} {vs us : List (Key × V)} (h : DR g ι H kvs vs) (h2 : DR g ι H ks us) : DR g ι H (kvs ++ ks) (vs ++ us) := ⟨by rw [List.map_append, List.map_append, h.1, h2.1], by rw [List.map_append, List.map_append]; exact h.2.append h2.2⟩
theorem DR.put {kvs : Kd} {vs : List (Key × V)} {k : Key} {d : D} {v : V} (h : DR g ι H kvs vs) (r : R g ι H d v) : DR g ι H (putKD kvs k d) (putK vs k v) := by
  unfold putKD putK
  rw [h.any k]
  split
  · refine DR.ind (P := fun kvs vs => DR g ι H (kvs.map (fun kv => if kv.1 = k then (kv.1, d) else kv)) (vs.map (fun kv => if kv.1 = k then (kv.1, v) else kv))) .nil (fun k' d' v' kvs vs r' _ ih => ?_) h
    by_cases e : k' = k
    · rw [List.map_cons, List.map_cons, if_pos e, if_pos e]; exact .cons r ih
    · rw [List.map_cons, List.map_cons, if_neg e, if_neg e]; exact .cons r' ih
  · exact h.app (.cons r .nil)
theorem DR.merge {more : Kd} {us : List (Key × V)} (h : DR g ι H more us) : ∀ {kvs : Kd} {vs : List (Key × V)}, DR g ι H kvs vs → DR g ι H (mergeD kvs more) (mergeK vs us) :=
  DR.ind (P := fun more us => ∀ {kvs : Kd} {vs : List (Key × V)}, DR g ι H kvs vs → DR g ι H (mergeD kvs more) (mergeK vs us)) (fun h => h) (fun k d v more us r _ ih kvs vs h => ih (h.put r)) h
theorem DR.length {kvs : Kd} {vs : List (Key × V)} (h : DR g ι H kvs vs) : kvs.length = vs.length := by
  have := congrArg List.length h.1
  simpa using this
theorem keyOf_R {d : D} {v : V} {k : Key} (r : R g ι H d v) (h : keyOf d = some k) : v = kV k := by
  cases d with
  | int i => cases h; cases r; rfl
  | str x => cases h; cases r; rfl
  | _ => cases h
theorem kD_R (k : Key) : R g ι H (kD k) (kV k) := by
  cases k with
  | inl i => exact .int i
  | inr x => exact .str x
theorem getK_R {d : D} {v : V} {S : So} {kvs : Kd} (s : Sim g ι S H) (r : R g ι H d v) (h : getK d S = some kvs) : ∃ a vs, v = .ref a ∧ Rd H a (.dK vs) ∧ DR g ι H kvs vs := by
  cases d with
  | ref n =>
    unfold getK at h
    dsimp only at h
    cases r with
    | ref q =>
      split at h
      · rename_i ks e
        cases h
        obtain ⟨vs, h1, h2, h3⟩ := s.obj _ _ _ q e
        exact ⟨_, vs, rfl, .inl h1, h2, h3⟩
      · rename_i ks e
        cases h
        obtain ⟨od, vs, h1, h2, h3⟩ := s.obj _ _ _ q e
        exact ⟨_, vs, rfl, .inr ⟨od, h1⟩, h2, h3⟩
      · cases h
  | _ => cases h
theorem dct_here {n : Nat} {a : Addr} {S : So} {kvs : Kd} (s : Sim g ι S H) (q : ι[n]? = some a) (e : S[n]? = some (.dct kvs)) : ∃ vs, H a = some (.dK vs) ∧ DR g ι H kvs vs := by
  obtain ⟨vs, h1, h2, h3⟩ := s.obj _ _ _ q e
  exact ⟨vs, h1, h2, h3⟩
theorem Ex.wrD {H : Hp} {p : Addr} {vs us : List (Key × V)} (h : H p = some (.dK vs)) : Ex H (upd H p (.dK us)) := Ex.wr h (fun _ z => by cases z) (fun _ _ _ z => by cases z) fun _ z => by cases z
/-- a dict is changed -/
theorem Sim.wrD {S : So} {n : Nat} {a : Addr} {kvs : Kd} {vs us : List (Key × V)} (s : Sim g ι S H) (q : ι[n]? = some a) (h : H a = some (.dK vs)) (r : DR g ι H kvs us) : Sim g ι (S.set n (.dct kvs)) (upd H a (.dK us)) :=
  (s.wr (o' := .dct kvs) (q := .dK us) q ⟨us, upd_same, r.1, Rs.mono (Pre.refl _) (Ex.wrD h) _ _ r.2⟩ (Ex.wrD h)).1
/-- a new dict -/
theorem Sim.newD {S : So} {p : Addr} {kvs : Kd} {us : List (Key × V)} (s : Sim g ι S H) (h : H p = none) (r : DR g ι H kvs us) : Sim g (ι ++ [p]) (S ++ [.dct kvs]) (upd H p (.dK us)) :=
  s.new (Ex.new h) (fun n a e => upd_ne (s.fresh h e)) h ⟨us, upd_same, r.1, Rs.mono (Pre.app _ _) (Ex.new h) _ _ r.2⟩
end
section
variable {X : Cx} {g : G} {xa : Xa} {W : WX} {pos : Pos}
/-! the forms -/
def dnewM : MM D := fun _ S => some (.ok (.ref S.length), S ++ [.dct []])
theorem em_dnew : PE X (.Dict [] [] pos) (tE g xa W dnewM) := pe_dnewK.viaM fun σ H Q h => by
  obtain ⟨ι, S, e, r, S', hs, he, hm, hf⟩ := h
  cases hm
  intro p hp
  refine hf (ι ++ [p]) (upd H p (.dK [])) (.ref p) (Pre.app _ _) (Ex.new hp) (hs.newD hp .nil) (.ref ?_)
  exact hs.newAt
def fDix : F2 := fun o k S => match getK o S, keyOf k with
  | some kvs, some k => (valD kvs k).map fun d => (d, S)
  | _, _ => none
theorem em_dix {o i : Expr} {mo mk : MM D} (hu : X.A.units + 66 < cLine) (ho : PE X o (tE g xa W mo)) (hi : PE X i (tE g xa W mk)) (hs : NoSl i := by exact fun _ _ => rfl) : PE X (.Subscript o i pos) (tE g xa W (mOp2 fDix mo mk)) :=
  (pe_dget (by omega) ho hi hs).viaM fun σ H Q h => by
    obtain ⟨ι, S, e, r, S', hs, he, hm, hf⟩ := h
    refine stepG hs he hm hf fun d S1 ι1 H1 v h1 p1 x1 s1 e1 r1 f1 => ?_
    refine stepG s1 e1 h1 f1 fun k S2 ι2 H2 u h2 p2 x2 s2 e2 r2 f2 => ?_
    obtain ⟨d', h3, rfl⟩ := liftF_some h2
    unfold fDix at h3
    split at h3
    · rename_i kvs k' q1 q2
      obtain ⟨a, vs, rfl, hr, hd⟩ := getK_R s2 (R.mono p2 x2 _ _ r1) q1
      cases hv : valD kvs k' with
      | none => rw [hv] at h3; cases h3
      | some w' =>
        rw [hv] at h3
        cases h3
        obtain ⟨w, w1, w2⟩ := (hd.val k').1 _ hv
        refine ⟨a, w, rfl, .inl ⟨vs, k', hr, keyOf_R r2 q2, w1.symm⟩, f2 ι2 H2 w (Pre.refl _) (Ex.refl _) s2 w2⟩
    · cases h3
def fDin (neg : Bool) : F2 := fun k o S => match getK o S, keyOf k with
  | some kvs, some k => some (.bl (neg ^^ (valD kvs k).isSome), S)
  | _, _ => none
theorem din_step {σ : L2.St} {H : Hp} {Q : VK} {neg : Bool} {mk mo : MM D} (h : tE g xa W (mOp2 (fDin neg) mk mo) σ H Q) :
    tE g xa W mk σ H fun y H1 => tE g xa W mo σ H1 fun x H2 => ∃ a o, x = .ref a ∧ DGet H2 a y o ∧ Q (.bl (neg ^^ o.isSome)) H2 := by
  obtain ⟨ι, S, e, r, S', hs, he, hm, hf⟩ := h
  refine stepG hs he hm hf fun k S1 ι1 H1 v h1 p1 x1 s1 e1 r1 f1 => ?_
  refine stepG s1 e1 h1 f1 fun d S2 ι2 H2 u h2 p2 x2 s2 e2 r2 f2 => ?_
  obtain ⟨d', h3, rfl⟩ := liftF_some h2
  unfold fDin at h3
  split at h3
  · rename_i kvs k' q1 q2
    cases h3
    obtain ⟨a, vs, rfl, hr, hd⟩ := getK_R s2 r2 q1
    refine ⟨a, valV vs k', rfl, .inl ⟨vs, k', hr, keyOf_R (R.mono p2 x2 _ _ r1) q2, rfl⟩, ?_⟩
    have e : (valV vs k').isSome = (valD kvs k').isSome := by
      cases hv : valD kvs k' with
      | none => rw [(hd.val k').2 hv]; rfl
      | some w => obtain ⟨u, w1, _⟩ := (hd.val k').1 _ hv; rw [w1]; rfl
    rw [e]
    exact f2 ι2 H2 _ (Pre.refl _) (Ex.refl _) s2 (.bl _)
  · cases h3
theorem pc_inM {i o : Expr} {mk mo : MM D} (hu : X.A.units + 66 < cLine) (hi : PE X i (tE g xa W mk)) (ho : PE X o (tE g xa W mo)) : PC X .In i o (tE g xa W (mOp2 (fDin false) mk mo)) :=
  ⟨fun pins s σ H Q I h => (pc_din (by omega) hi ho).run pins s σ H Q I (by
    have := din_step h
    simp only [Bool.false_xor] at this
    exact this)⟩
theorem pc_ninM {i o : Expr} {mk mo : MM D} (hu : X.A.units + 66 < cLine) (hi : PE X i (tE g xa W mk)) (ho : PE X o (tE g xa W mo)) : PC X .NotIn i o (tE g xa W (mOp2 (fDin true) mk mo)) :=
  ⟨fun pins s σ H Q I h => (pc_dnotin (by omega) hi ho).run pins s σ H Q I (by
    have := din_step h
    simp only [Bool.true_xor] at this
    exact this)⟩
theorem em_din {i o : Expr} {mk mo : MM D} (hu : X.A.units + 66 < cLine) (hi : PE X i (tE g xa W mk)) (ho : PE X o (tE g xa W mo)) (hm : behindInMarks .In o = false := by rfl) : PE X (.Compare i [.In] [o] pos) (tE g xa W (mOp2 (fDin false) mk mo)) := pe_cmp (pc_inM hu hi ho) hm
theorem em_dnin {i o : Expr} {mk mo : MM D} (hu : X.A.units + 66 < cLine) (hi : PE X i (tE g xa W mk)) (ho : PE X o (tE g xa W mo)) (hm : behindInMarks .NotIn o = false := by rfl) : PE X (.Compare i [.NotIn] [o] pos) (tE g xa W (mOp2 (fDin true) mk mo)) := pe_cmp (pc_ninM hu hi ho) hm
/-- d[k] = v -/
def fDput (o k v : D) (S : So) : Option So := match o, keyOf k with
  | .ref n, some k => match S[n]? with
    | some (.dct kvs) => if kvs.length < sizeLine then some (S.set n (.dct (putKD kvs k v))) else none
    | _ => none
  | _, _ => none
def dputS (mv mo mk : MM D) : MS := bindS mv fun v => bindS mo fun o => bindS mk fun k e S => (fDput o k v S).map fun S' => (.nx, e, S')
theorem sm_dput {o i e : Expr} {p' : Pos} {mv mo mi : MM D} (hu : X.A.units + 66 < cLine) (he : PE X e (tE g xa W mv)) (ho : PE X o (tE g xa W mo)) (hi : PE X i (tE g xa W mi))
    (hs : swapsWith e (some (.Subscript o i p')) pos.line X.env = pure false := by rfl) : PS X (.Assign [.Subscript o i p'] e pos) (tS g xa W (dputS mv mo mi)) :=
  (ps_dput (by omega) ho hi he hs).viaM fun Dd σ H h => by
    obtain ⟨ι, S, e, f, e', S', hs, he, hm, hf⟩ := h
    refine stepS hs he hm hf fun v S1 ι1 H1 vv h1 p1 x1 s1 e1 r1 f1 => ?_
    refine stepS s1 e1 h1 f1 fun o S2 ι2 H2 ov h2 p2 x2 s2 e2 r2 f2 => ?_
    refine stepS s2 e2 h2 f2 fun i S3 ι3 H3 iv h3 p3 x3 s3 e3 r3 f3 => ?_
    cases hq : fDput o i v S3 with
    | none => rw [hq] at h3; cases h3
    | some S4 =>
      rw [hq] at h3
      cases h3
      unfold fDput at hq
      split at hq
      · rename_i n k q
        split at hq
        · rename_i kvs qs
          split at hq
          · rename_i hl
            cases hq
            have r2' := R.mono p3 x3 _ _ r2
            have r1' := R.mono p3 x3 _ _ (R.mono p2 x2 _ _ r1)
            cases r2' with
            | ref qa =>
              obtain ⟨vs, h4, h5⟩ := dct_here s3 qa qs
              refine ⟨_, upd H3 _ (.dK (putK vs k vv)), rfl, .inl ⟨vs, k, h4, keyOf_R r3 q, by rw [← h5.length]; exact hl, rfl⟩, ?_⟩
              exact f3 ι3 _ (Pre.refl _) (Ex.wrD h4) (s3.wrD qa h4 (h5.put r1')) σ (e3.mono (Pre.refl _) (Ex.wrD h4))
          · cases hq
        · cases hq
      · cases hq
end
end DD

set_option Elab.async false
set_option linter.all false
set_option maxRecDepth 100000
namespace DD
open PySem PySem.Spec PyProof.Rows L2
section
variable {X : Cx} {g : G} {xa : Xa} {W : WX} {pos : Pos}
/-! ### sorted(a list of data) -/
abbrev Tri := D × V × PyData
def triE (b : Tri) : PyData := b.2.2
def triV (b : Tri) : V := b.2.1
def rSortB (K : PySem.W.Frag) : List V → Hp → VK → Prop := fun vs H Q => ∃ (a : Addr) (bs : List Tri), vs = [.ref a] ∧ (SqL K H a (bs.map triV)) ∧ (∀ b ∈ bs, Dp K H (triV b) (triE b)) ∧ PySem.W.AllAlike (bs.map triE) ∧ PySem.W.Sortable (bs.map triE) ∧ (∀ b ∈ bs, (triE b).depth ≤ 60) ∧ ∀ p, H p = none → Q (.ref p) (upd H p (.lst ((bs.mergeSort (PySem.W.dataLe false triE)).map triV)))
theorem each_of {α β : Type} {R : α → β → Prop} : ∀ {as : List α} {bs : List β}, as.length = bs.length → (∀ (i : Nat) (a : α) (b : β), as[i]? = some a → bs[i]? = some b → R a b) → PySem.W.EachIs R as bs
  | [], [], _, _ => .nil
  | a :: as, b :: bs, h, k => .cons (k 0 a b rfl rfl) (each_of (by simpa using h) fun i a' b' h1 h2 => k (i + 1) a' b' (by simpa using h1) (by simpa using h2))
theorem vals_len : ∀ {vs : List V} {us : List Value}, Vals vs us → vs.length = us.length
  | [], [], _ => rfl
  | _ :: _, _ :: _, .cons _ t => by simp [vals_len t]
theorem vals_at : ∀ {vs : List V} {us : List Value}, Vals vs us → ∀ (i : Nat) (v : V) (u : Value), vs[i]? = some v → us[i]? = some u → RelV v u
  | _ :: _, _ :: _, .cons r _, 0, v, u, h1, h2 => by simp at h1 h2; subst h1; subst h2; exact r
  | _ :: _, _ :: _, .cons _ t, i + 1, v, u, h1, h2 => vals_at t i v u (by simpa using h1) (by simpa using h2)
theorem vals_each {β : Type} {f : β → V} : ∀ {us : List Value} {bs : List β}, PySem.W.EachIs (fun v b => RelV (f b) v) us bs → Vals (bs.map f) us
  | _, _, .nil => .nil
  | _, _, .cons r t => .cons r (vals_each t)
theorem call_sortedB (hu : X.A.units + 66 < cLine) : CallR X (.builtin "sorted") (rSortB X.K) := by
  intro pins s σ H xs us Q I r h
  obtain ⟨a, bs, rfl, hl, hd, al, so, dp, q⟩ := h
  obtain ⟨u, rfl, ru⟩ := vals1 r
  cases ru
  obtain ⟨its, iv, ⟨o, n, g1, g2, g3, g4⟩, len⟩ := I.list hl
  have li : (bs.map triV).length = its.length := vals_len iv
  have lb : bs.length = its.length := by rw [← li, List.length_map]
  have ea : ∀ {R : Value → Tri → Prop}, (∀ (i : Nat) (v : Value) (b : Tri), its[i]? = some v → bs[i]? = some b → R v b) → PySem.W.EachIs R its bs := fun h => each_of lb.symm h
  have rel : ∀ (i : Nat) (v : Value) (b : Tri), its[i]? = some v → bs[i]? = some b → RelV (triV b) v := fun i v b h1 h2 => vals_at iv i _ v (by rw [List.getElem?_map, h2]; rfl) h1
  refine PySem.W.sorted_data (R := fun v b => RelV (triV b) v) (enc := triE) (bs := bs) (vs := its) ⟨o, g1, g2, n, g4⟩ (ea rel) (ea fun i v b h1 h2 => Dp.reads I _ _ _ (hd b (List.mem_of_getElem? h2)) (rel i v b h1 h2)) al so (by rw [← List.length_map (f := triV)]; exact len) (fun b hb => by have := dp b hb; omega) fun out lo eo => ?_
  have vo := vals_each eo
  obtain ⟨e, he⟩ := sortedAll_at s.heap its out.toArray
  have len2 : ((bs.mergeSort (PySem.W.dataLe false triE)).map triV).length ≤ sizeLine := by
    rw [List.length_map, List.length_mergeSort, ← List.length_map (f := triV)]
    exact len
  have nofree : H (s.heap.objs.size + 1) = none := I.hok.fresh (by omega)
  refine ⟨.ref (s.heap.objs.size + 1), _, I.laid (a := s.heap.objs.size + 1) (o := .lst ((bs.mergeSort (PySem.W.dataLe false triE)).map triV)) (fun b u hb => sortedAll_old hb) (by omega) ?_, rfl, q _ nofree⟩
  unfold ObjOk
  exact ⟨len2, out, e, vo, he⟩
theorem call_sortedM (hK : X.K = g.K) (hu : X.A.units + 66 < cLine) : CallR X (.builtin "sorted") (rSortB g.K) := by rw [← hK]; exact call_sortedB hu
def isTupNE (p : PyData) : Bool := match p with
  | .tuple (_ :: _) => true
  | _ => false
def notTupNone (p : PyData) : Bool := match p with
  | .tuple _ => false
  | .none => false
  | _ => true
def sortOk (ps : List PyData) : Bool := ps.all (fun d => ps.all fun d' => PySem.W.alike d d') && ((ps.all isTupNE || ps.all notTupNone) && ps.all fun d => decide (d.depth ≤ 60))
def sortD (xs : List D) (ps : List PyData) : List D := ((xs.zip ps).mergeSort (PySem.W.dataLe false fun b => b.2)).map fun b => b.1
def fSorted : FA := fun ds S => match ds with
  | [a] => match seqOf a S with
    | some (false, xs) => match toPys S 9 xs with
      | some ps => if sortOk ps = true then some (.ref S.length, S ++ [.lst (sortD xs ps)]) else none
      | none => none
    | _ => none
  | _ => none
theorem sortOk_use {ps : List PyData} (h : sortOk ps = true) : PySem.W.AllAlike ps ∧ PySem.W.Sortable ps ∧ ∀ p ∈ ps, p.depth ≤ 60 := by
  unfold sortOk at h
  obtain ⟨h1, h2⟩ := Bool.and_eq_true_iff.mp h
  obtain ⟨h3, h4⟩ := Bool.and_eq_true_iff.mp h2
  refine ⟨fun d hd d' hd' => List.all_eq_true.mp (List.all_eq_true.mp h1 d hd) d' hd', ?_, fun p hp => of_decide_eq_true (List.all_eq_true.mp h4 p hp)⟩
  rcases Bool.or_eq_true_iff.mp h3 with z | z
  · refine .inl fun d hd => ?_
    have := List.all_eq_true.mp z d hd
    unfold isTupNE at this
    split at this
    · exact ⟨_, _, rfl⟩
    · cases this
  · refine .inr fun d hd => ?_
    have := List.all_eq_true.mp z d hd
    unfold notTupNone at this
    split at this
    · cases this
    · cases this
    · rename_i h1 h2
      exact ⟨fun e => h2 e, fun xs e => h1 xs e⟩
theorem dp_at {K : PySem.W.Frag} {H : Hp} : ∀ {vs : List V} {ps : List PyData}, DpAll K H vs ps → vs.length = ps.length ∧ ∀ (i : Nat) (v : V) (p : PyData), vs[i]? = some v → ps[i]? = some p → Dp K H v p
  | [], [], _ => ⟨rfl, fun i v p h => by simp at h⟩
  | [], _ :: _, h => nomatch h
  | _ :: _, [], h => nomatch h
  | v :: vs, p :: ps, .cons r t => by
    obtain ⟨h1, h2⟩ := dp_at t
    refine ⟨by simp [h1], fun i v' p' a b => ?_⟩
    cases i with
    | zero => simp at a b; subst a; subst b; exact r
    | succ i => exact h2 i v' p' (by simpa using a) (by simpa using b)
theorem Rs_map {ι : List Addr} {H : Hp} {β : Type} {f : β → D} {k : β → V} : ∀ (l : List β), (∀ b ∈ l, R g ι H (f b) (k b)) → Rs g ι H (l.map f) (l.map k)
  | [], _ => .nil
  | b :: l, h => .cons (h b (List.mem_cons_self ..)) (Rs_map l fun c hc => h c (List.mem_cons_of_mem _ hc))
theorem f_sorted : OpA g (rSortB g.K) fSorted := fun ι S S' H a d x Q s r hf hd => by
  unfold fSorted at hf
  split at hf
  · rename_i a
    split at hf
    · rename_i xs e
      split at hf
      · rename_i ps e2
        split at hf
        · rename_i ok
          cases hf
          cases r with
          | cons r1 r2 =>
            cases r2
            obtain ⟨p, vs, rfl, rs, t1, l1⟩ := seqOf_R e s r1
            obtain ⟨q1, q2⟩ := dp_at (toPys_R s 9 xs vs ps e2 rs)
            have q3 := Rs.length rs
            obtain ⟨o1, o2, o3⟩ := sortOk_use ok
            let bs : List Tri := xs.zip (vs.zip ps)
            have lz : (vs.zip ps).length = vs.length := by simp [q1]
            have mv : bs.map triV = vs := by
              show (xs.zip (vs.zip ps)).map triV = vs
              have e1 : (xs.zip (vs.zip ps)).map triV = ((xs.zip (vs.zip ps)).map Prod.snd).map Prod.fst := by rw [List.map_map]; rfl
              rw [e1, List.map_snd_zip (by omega), List.map_fst_zip (by omega)]
            have me : bs.map triE = ps := by
              show (xs.zip (vs.zip ps)).map triE = ps
              have e1 : (xs.zip (vs.zip ps)).map triE = ((xs.zip (vs.zip ps)).map Prod.snd).map Prod.snd := by rw [List.map_map]; rfl
              rw [e1, List.map_snd_zip (by omega), List.map_snd_zip (by omega)]
            have get : ∀ b ∈ bs, R g ι H b.1 (triV b) ∧ Dp g.K H (triV b) (triE b) := fun b hb => by
              obtain ⟨i, hi⟩ := List.mem_iff_getElem?.mp hb
              obtain ⟨h1, h2⟩ := List.getElem?_zip_eq_some.mp hi
              obtain ⟨h3, h4⟩ := List.getElem?_zip_eq_some.mp h2
              obtain ⟨v', k1, k2⟩ := Rs.get rs h1
              rw [k1] at h3
              cases h3
              exact ⟨k2, q2 i _ _ k1 h4⟩
            refine ⟨p, bs, rfl, by rw [mv]; exact l1 rfl, fun b hb => (get b hb).2, by rw [me]; exact o1, by rw [me]; exact o2, fun b hb => o3 _ (by rw [← me]; exact List.mem_map_of_mem hb), fun l nl => ?_⟩
            have es : sortD xs ps = (bs.mergeSort (PySem.W.dataLe false triE)).map fun b => b.1 := by
              have mz : bs.map (fun b => (b.1, triE b)) = xs.zip ps := by
                apply List.ext_getElem?
                intro i
                show ((xs.zip (vs.zip ps)).map fun b => (b.1, triE b))[i]? = _
                rw [List.getElem?_map]
                by_cases hi : i < xs.length
                · have h1 : xs[i]? = some xs[i] := List.getElem?_eq_getElem hi
                  have h2 : vs[i]? = some (vs[i]'(by omega)) := List.getElem?_eq_getElem _
                  have h3 : ps[i]? = some (ps[i]'(by omega)) := List.getElem?_eq_getElem _
                  generalize xs[i] = x1 at h1
                  generalize vs[i]'(by omega) = v1 at h2
                  generalize ps[i]'(by omega) = p1 at h3
                  have z0 : (vs.zip ps)[i]? = some (v1, p1) := List.getElem?_zip_eq_some.mpr ⟨h2, h3⟩
                  have z1 : (xs.zip (vs.zip ps))[i]? = some (x1, (v1, p1)) := List.getElem?_zip_eq_some.mpr ⟨h1, z0⟩
                  have z2 : (xs.zip ps)[i]? = some (x1, p1) := List.getElem?_zip_eq_some.mpr ⟨h1, h3⟩
                  rw [z1, z2]
                  rfl
                · rw [List.getElem?_eq_none (by simp; omega), List.getElem?_eq_none (by simp; omega)]
                  rfl
              have := PySem.W.sort_maps (r := PySem.W.dataLe false triE) (s := PySem.W.dataLe false fun b : D × PyData => b.2) (fun b : Tri => (b.1, triE b)) (l := bs) (fun a _ b _ => rfl)
              unfold sortD
              rw [← mz, ← this, List.map_map]
              rfl
            rw [es] at hd
            exact hd.lst s nl (Rs_map _ fun b hb => (get b (List.mem_mergeSort.mp hb)).1)
        · cases hf
      · cases hf
    · cases hf
  · cases hf
end
end DD

set_option Elab.async false
set_option linter.all false
set_option maxRecDepth 100000
namespace DD
open PySem PySem.Spec PyProof.Rows L2
section
variable {X : Cx} {g : G} {xa : Xa} {W : WX} {pos : Pos}
/-! ### dict(a list or tuple of pairs) -/
def PairV (K : PySem.W.Frag) (H : Hp) (p : Addr) (kv : Key × V) : Prop := SqT K H p [kV kv.1, kv.2] ∨ SqL K H p [kV kv.1, kv.2]
def rDictQ (K : PySem.W.Frag) : List V → Hp → VK → Prop := fun xs H Q => ∃ (a : Addr) (ps : List Addr) (kvs : List (Key × V)), xs = [.ref a] ∧ (SqL K H a (ps.map V.ref) ∨ SqU K H a (ps.map V.ref)) ∧ ps.length = kvs.length ∧ (∀ (i : Nat) (p : Addr) (kv : Key × V), ps[i]? = some p → kvs[i]? = some kv → PairV K H p kv) ∧ ∀ p, H p = none → Q (.ref p) (upd H p (.dK (mergeK [] kvs)))
theorem vals_refs : ∀ {ps : List Addr} {us : List Value}, Vals (ps.map V.ref) us → us = ps.map Value.ref
  | [], [], _ => rfl
  | p :: ps, _, .cons r t => by cases r; rw [vals_refs t]; rfl
theorem vals_two {x y : V} {us : List Value} (h : Vals [x, y] us) : ∃ a b, us = [a, b] ∧ RelV x a ∧ RelV y b := by
  cases h with
  | cons r t =>
    cases t with
    | cons r2 t2 =>
      cases t2
      exact ⟨_, _, rfl, r, r2⟩
theorem pair_at {pins : List (Addr × Obj)} {σ : L2.St} {H : Hp} {s : Shared} (I : L2.Inv X pins σ H s) {p : Addr} {kv : Key × V} (h : PairV X.K H p kv) : ∃ ku u, PairAt s.heap p ku u ∧ RelV (kV kv.1) ku ∧ RelV kv.2 u := by
  rcases h with h | h
  · obtain ⟨its, iv, g1, len⟩ := I.tuple h
    obtain ⟨a, b, rfl, r1, r2⟩ := vals_two iv
    exact ⟨a, b, .inl g1, r1, r2⟩
  · obtain ⟨its, iv, ⟨o, n, g1, g2, g3, g4⟩, len⟩ := I.list h
    obtain ⟨a, b, rfl, r1, r2⟩ := vals_two iv
    exact ⟨a, b, .inr ⟨o, g1, g2, n, g4⟩, r1, r2⟩
theorem pairs_at {pins : List (Addr × Obj)} {σ : L2.St} {H : Hp} {s : Shared} (I : L2.Inv X pins σ H s) : ∀ {ps : List Addr} {kvs : List (Key × V)}, ps.length = kvs.length → (∀ (i : Nat) (p : Addr) (kv : Key × V), ps[i]? = some p → kvs[i]? = some kv → PairV X.K H p kv) →
    ∃ (prs : List (Value × Value)) (us : List (Key × Value)), prs.length = ps.length ∧ us.length = ps.length ∧ KV kvs us ∧ ∀ (i : Nat) (p : Addr), ps[i]? = some p → ∃ ku u k, prs[i]? = some (ku, u) ∧ us[i]? = some (k, u) ∧ PairAt s.heap p ku u ∧ keyIs k ku = true
  | [], [], _, _ => ⟨[], [], rfl, rfl, .nil, fun i p h => by simp at h⟩
  | p :: ps, kv :: kvs, hl, h => by
    obtain ⟨prs, us, h1, h2, h3, h4⟩ := pairs_at I (ps := ps) (kvs := kvs) (by simpa using hl) fun i q kv' a b => h (i + 1) q kv' (by simpa using a) (by simpa using b)
    obtain ⟨ku, u, q1, q2, q3⟩ := pair_at I (h 0 p kv rfl rfl)
    refine ⟨(ku, u) :: prs, (kv.1, u) :: us, by simp [h1], by simp [h2], .cons ⟨rfl, q3⟩ h3, fun i q hq => ?_⟩
    cases i with
    | zero =>
      simp at hq
      subst hq
      exact ⟨ku, u, kv.1, rfl, rfl, q1, kV_is (P := X.prog) (w := X.w) q2⟩
    | succ i => exact h4 i q (by simpa using hq)
theorem tup_plain {pins : List (Addr × Obj)} {σ : L2.St} {H : Hp} {s : Shared} (I : L2.Inv X pins σ H s) {a : Addr} {xs : List V} (h : SqU X.K H a xs) : ∃ its : List Value, Vals xs its ∧ PlainSeq "tuple" s.heap a its.toArray ∧ xs.length ≤ sizeLine := by
  rcases h with ⟨o, h, z⟩ | ⟨o, its, n, h1, h2, h3, h4, h5, z⟩
  · obtain ⟨e, hz, its, rv, o', e', c1, n, c2⟩ := (show ObjOk X.prog X.w H s.heap a (.frz o (.tup xs)) from I.hok a _ h)
    rw [e] at e'
    cases e'
    exact ⟨its, rv, ⟨o, n, e, c1, z, c2⟩, hz⟩
  · exact ⟨its.toList, h5, ⟨o, n, I.kIn _ _ h1, h2, z, by rw [Array.toArray_toList]; exact h3⟩, by rw [h5.length, Array.length_toList]; exact h4⟩
theorem seq_plain {pins : List (Addr × Obj)} {σ : L2.St} {H : Hp} {s : Shared} (I : L2.Inv X pins σ H s) {a : Addr} {xs : List V} (h : SqL X.K H a xs ∨ SqU X.K H a xs) : ∃ its : List Value, Vals xs its ∧ (PlainSeq "list" s.heap a its.toArray ∨ PlainSeq "tuple" s.heap a its.toArray) ∧ xs.length ≤ sizeLine := by
  rcases h with h | h
  · obtain ⟨its, iv, p, len⟩ := I.list h
    exact ⟨its, iv, .inl p, len⟩
  · obtain ⟨its, iv, p, len⟩ := tup_plain I h
    exact ⟨its, iv, .inr p, len⟩
theorem call_dictQ (hc : X.calm = true) : CallR X (.type "dict") (rDictQ X.K) := by
  intro pins s σ H xs us Q I r h
  obtain ⟨a, ps, kvs, rfl, hs, hl, hp, q⟩ := h
  obtain ⟨u, rfl, ru⟩ := vals1 r
  cases ru
  obtain ⟨prs, vs, l1, l2, kv, h4⟩ := pairs_at I hl hp
  have hh : X.A.handled = none := I.ok.hd hc
  have have_ : PairsHave (mixKind X.prog X.w) prs.length (PairRel prs) vs := ⟨by omega, fun i key v hr => by
    have hi : i < ps.length := by rw [← l1]; exact (List.getElem?_eq_some_iff.mp hr).1
    obtain ⟨ku, u, k, a1, a2, a3, a4⟩ := h4 i ps[i] (List.getElem?_eq_getElem hi)
    have hr' : prs[i]? = some (key, v) := hr
    rw [hr'] at a1
    cases a1
    exact ⟨k, a2, a4⟩⟩
  have lenps : ps.length ≤ sizeLine := by
    obtain ⟨its, iv, _, len⟩ := seq_plain I hs
    simpa using len
  have ts : ∀ (j : Nat) (k v : Value), prs[j]? = some (k, v) → ((ps.map Value.ref).toArray)[j]? = some (Value.ref ((fun j => ps.getD j 0) j)) ∧ PairAt s.heap ((fun j => ps.getD j 0) j) k v := fun j k v hj => by
    have hi : j < ps.length := by rw [← l1]; exact (List.getElem?_eq_some_iff.mp hj).1
    obtain ⟨ku, u, kk, a1, a2, a3, a4⟩ := h4 j ps[j] (List.getElem?_eq_getElem hi)
    rw [hj] at a1
    cases a1
    have e : ps.getD j 0 = ps[j] := by rw [List.getD_eq_getElem?_getD, List.getElem?_eq_getElem hi]; rfl
    refine ⟨?_, by show PairAt s.heap (ps.getD j 0) k v; rw [e]; exact a3⟩
    show ((ps.map Value.ref).toArray)[j]? = some (Value.ref (ps.getD j 0))
    rw [e]
    simp [hi]
  have fin : ∀ (h' : Heap) (tk : Nat), Heap.DictOf (mixKind X.prog X.w) h' s.heap.objs.size (merged [] vs) → (∀ (b : Addr) (o : Obj), ¬b ∈ ([] : List Addr) → s.heap.get? b = some o → h'.get? b = some o) → EP X pins σ Q (Value.ref s.heap.objs.size) { heap := h', gens := s.gens, drawn := s.drawn, toks := tk, os := s.os } := fun h' tk hd hk => by
    have hm := KV.merge kv (show KV ([] : List (Key × V)) [] from .nil)
    refine ⟨.ref s.heap.objs.size, _, I.laid (a := s.heap.objs.size) (o := .dK (mergeK [] kvs)) (fun b u hb => hk b u (by simp) hb) (Nat.le_refl _) ?_, rfl, q _ I.fresh⟩
    unfold ObjOk
    refine ⟨?_, ?_, _, hm, hd⟩
    · have : ∀ (more acc : List (Key × V)), (mergeK acc more).length ≤ acc.length + more.length := fun more => by
        induction more with
        | nil => intro acc; exact Nat.le_refl _
        | cons kv more ih =>
          intro acc
          have h1 := ih (putK acc kv.1 kv.2)
          have h2 : (putK acc kv.1 kv.2).length ≤ acc.length + 1 := by
            unfold putK
            split
            · simp
            · simp
          show (mergeK (putK acc kv.1 kv.2) more).length ≤ _
          simp only [List.length_cons]
          omega
      have := this kvs []
      have z : ([] : List (Key × V)).length = 0 := rfl
      omega
    · have := I.big
      simp only [beq_eq_false_iff_ne, ne_eq]
      intro z
      rw [z] at this
      exact Nat.lt_irrefl _ this
  obtain ⟨its, iv, g1, len⟩ := seq_plain I hs
  cases vals_refs iv
  rcases g1 with g1 | g1
  · exact PySem.call_dict_pairs (PairArg.list a _ (fun j => ps.getD j 0) prs) hh ⟨g1, by simp [l1], ts⟩ have_ (by omega) fin
  · exact PySem.call_dict_pairs (PairArg.tuple a _ (fun j => ps.getD j 0) prs) hh ⟨g1, by simp [l1], ts⟩ have_ (by omega) fin
end
/-! ### at the level of data -/
def pairOf (S : So) (d : D) : Option (Key × D) := match seqOf d S with
  | some (_, [k, v]) => (keyOf k).map fun k => (k, v)
  | _ => none
def pairsOf (S : So) : List D → Option Kd
  | [] => some []
  | d :: ds => match pairOf S d, pairsOf S ds with
    | some kv, some kvs => some (kv :: kvs)
    | _, _ => none
def fDict : FA := fun ds S => match ds with
  | [a] => match seqOf a S with
    | some (_, xs) => (pairsOf S xs).map fun kvs => (.ref S.length, S ++ [.dct (mergeD [] kvs)])
    | none => none
  | _ => none
section
variable {X : Cx} {g : G} {xa : Xa} {W : WX} {pos : Pos} {ι : List Addr} {H : Hp}
theorem pairOf_R {S : So} {d : D} {v : V} {kv : Key × D} (s : Sim g ι S H) (r : R g ι H d v) (h : pairOf S d = some kv) : ∃ p u, v = .ref p ∧ PairV g.K H p (kv.1, u) ∧ R g ι H kv.2 u := by
  unfold pairOf at h
  split at h
  · rename_i b k w e
    obtain ⟨p, vs, rfl, r2, t1, l1⟩ := seqOf_R e s r
    cases q : keyOf k with
    | none => rw [q] at h; cases h
    | some k' =>
      rw [q] at h
      cases h
      cases r2 with
      | cons a1 r2 =>
        cases r2 with
        | cons a2 r2 =>
          cases r2
          have := keyOf_R a1 q
          subst this
          refine ⟨p, _, rfl, ?_, a2⟩
          cases b with
          | true => exact .inl (t1 rfl).t
          | false => exact .inr (l1 rfl)
  · cases h
theorem pairsOf_R {S : So} (s : Sim g ι S H) : ∀ {ds : List D} {vs : List V} {kvs : Kd}, Rs g ι H ds vs → pairsOf S ds = some kvs → ∃ (ps : List Addr) (us : List (Key × V)), vs = ps.map V.ref ∧ ps.length = us.length ∧ DR g ι H kvs us ∧ ∀ (i : Nat) (p : Addr) (kv : Key × V), ps[i]? = some p → us[i]? = some kv → PairV g.K H p kv
  | [], _, _, r, h => by
    cases r
    cases h
    exact ⟨[], [], rfl, rfl, .nil, fun i p kv z => by simp at z⟩
  | d :: ds, _, kvs, r, h => by
    cases r with
    | cons r1 r2 =>
      unfold pairsOf at h
      split at h
      · rename_i kv kvs' e1 e2
        cases h
        obtain ⟨p, u, rfl, h1, h2⟩ := pairOf_R s r1 e1
        obtain ⟨ps, us, rfl, h3, h4, h5⟩ := pairsOf_R s r2 e2
        refine ⟨p :: ps, (kv.1, u) :: us, rfl, by simp [h3], DR.cons h2 h4, fun i q kv' a b => ?_⟩
        cases i with
        | zero => simp at a b; subst a b; exact h1
        | succ i => exact h5 i q kv' (by simpa using a) (by simpa using b)
      · cases h
theorem f_dict : OpA g (rDictQ g.K) fDict := fun ι S S' H a d x Q s r hf hd => by
  unfold fDict at hf
  split at hf
  · split at hf
    · rename_i k xs e
      cases e2 : pairsOf S xs with
      | none => rw [e2] at hf; cases hf
      | some kvs =>
        rw [e2] at hf
        cases hf
        cases r with
        | cons r1 r2 =>
          cases r2
          obtain ⟨p, vs, rfl, r, t1, l1⟩ := seqOf_R e s r1
          obtain ⟨ps, us, rfl, h3, h4, h5⟩ := pairsOf_R s r e2
          refine ⟨p, ps, us, rfl, ?_, h3, h5, fun q np => ?_⟩
          · cases k with
            | true => exact .inr (t1 rfl)
            | false => exact .inl (l1 rfl)
          · have m := h4.merge (show DR g ι H [] [] from .nil)
            exact hd.new s np ⟨_, upd_same, m.1, Rs.mono (Pre.app _ _) (Ex.new np) _ _ m.2⟩
    · cases hf
  · cases hf
theorem call_dictM (hc : X.calm = true) (hK : X.K = g.K) : CallR X (.type "dict") (rDictQ g.K) := by rw [← hK]; exact call_dictQ hc
end
end DD

set_option Elab.async false
set_option linter.all false
set_option maxRecDepth 100000
namespace DD
open PySem PySem.Spec PyProof.Rows L2
section
variable {X : Cx} {g : G} {xa : Xa} {W : WX} {pos : Pos} {ι : List Addr} {H : Hp}
/-! ### lists that change -/
def lstAt (a : D) (S : So) : Option (Nat × List D) := match a with
  | .ref n => match S[n]? with
    | some (.lst xs) => some (n, xs)
    | _ => none
  | _ => none
theorem lstAt_R {a : D} {x : V} {S : So} {n : Nat} {xs : List D} (s : Sim g ι S H) (r : R g ι H a x) (h : lstAt a S = some (n, xs)) : ∃ l vs, x = .ref l ∧ ι[n]? = some l ∧ H l = some (.lst vs) ∧ Rs g ι H xs vs := by
  cases a with
  | ref m =>
    unfold lstAt at h
    dsimp only at h
    cases r with
    | ref q =>
      split at h
      · rename_i ys e
        cases h
        obtain ⟨vs, h1, h2⟩ := lst_here s q e
        exact ⟨_, vs, rfl, q, h1, h2⟩
      · cases h
  | _ => cases h
def fReverse : FM := fun a ds S => match lstAt a S, ds with
  | some (n, xs), [] => some (.non, S.set n (.lst xs.reverse))
  | _, _ => none
theorem Rs.rev : ∀ {ds : List D} {vs : List V}, Rs g ι H ds vs → Rs g ι H ds.reverse vs.reverse
  | _, _, .nil => .nil
  | _, _, .cons r t => by rw [List.reverse_cons, List.reverse_cons]; exact t.rev.append (.cons r .nil)
theorem f_reverse : OpM g rReverse fReverse := fun ι S S' H a b d x y Q s ra rb hf hd => by
  unfold fReverse at hf
  split at hf
  · rename_i n xs e
    cases hf
    cases rb
    obtain ⟨l, vs, rfl, q, h1, h2⟩ := lstAt_R s ra e
    exact ⟨l, vs, rfl, rfl, h1, hd.wr s q h1 h2.rev .non⟩
  · cases hf
def fClear : FM := fun a ds S => match lstAt a S, ds with
  | some (n, xs), [] => some (.non, S.set n (.lst []))
  | _, _ => none
theorem f_clear : OpM g rClear fClear := fun ι S S' H a b d x y Q s ra rb hf hd => by
  unfold fClear at hf
  split at hf
  · rename_i n xs e
    cases hf
    cases rb
    obtain ⟨l, vs, rfl, q, h1, h2⟩ := lstAt_R s ra e
    exact ⟨l, vs, rfl, rfl, h1, hd.wr s q h1 .nil .non⟩
  · cases hf
def fPop : FM := fun a ds S => match lstAt a S, ds with
  | some (n, xs), [] => (xs[xs.length - 1]?).map fun y => (y, S.set n (.lst xs.dropLast))
  | _, _ => none
theorem Rs.dropLast {ds : List D} {vs : List V} (h : Rs g ι H ds vs) : Rs g ι H ds.dropLast vs.dropLast := by
  rw [List.dropLast_eq_take, List.dropLast_eq_take, Rs.length h]
  exact h.take _
theorem f_pop : OpM g rPop fPop := fun ι S S' H a b d x y Q s ra rb hf hd => by
  unfold fPop at hf
  split at hf
  · rename_i n xs e
    cases q2 : xs[xs.length - 1]? with
    | none => rw [q2] at hf; cases hf
    | some y' =>
      rw [q2] at hf
      cases hf
      cases rb
      obtain ⟨l, vs, rfl, q, h1, h2⟩ := lstAt_R s ra e
      obtain ⟨v, h3, h4⟩ := Rs.get h2 q2
      exact ⟨l, vs, v, rfl, rfl, h1, by rw [← Rs.length h2]; exact h3, hd.wr s q h1 h2.dropLast h4⟩
  · cases hf
def fInsert : FM := fun a ds S => match lstAt a S, ds with
  | some (n, xs), [.int i, y] => if xs.length < sizeLine ∧ 0 ≤ i ∧ i < 2 ^ 63 then some (.non, S.set n (.lst (xs.take i.toNat ++ [y] ++ xs.drop i.toNat))) else none
  | _, _ => none
theorem f_insert : OpM g (fun x vs H Q => ∃ (l : Addr) (xs : List V) (i : Int) (y : V), x = .ref l ∧ vs = [.int i, y] ∧ H l = some (.lst xs) ∧ xs.length < sizeLine ∧ 0 ≤ i ∧ i < 2 ^ 63 ∧ Q .non (upd H l (.lst (xs.take i.toNat ++ [y] ++ xs.drop i.toNat)))) fInsert := fun ι S S' H a b d x y Q s ra rb hf hd => by
  unfold fInsert at hf
  split at hf
  · rename_i n xs i y' e
    split at hf
    · rename_i hc
      cases hf
      cases rb with
      | cons r1 r2 =>
        cases r1
        cases r2 with
        | cons r3 r4 =>
          cases r4
          obtain ⟨l, vs, rfl, q, h1, h2⟩ := lstAt_R s ra e
          exact ⟨l, vs, i, _, rfl, rfl, h1, by rw [← Rs.length h2]; exact hc.1, hc.2.1, hc.2.2, hd.wr s q h1 (((h2.take _).append (.cons r3 .nil)).append (h2.drop _)) .non⟩
    · cases hf
  · cases hf
def fExtend : FM := fun a ds S => match lstAt a S, ds with
  | some (n, xs), [b] => match lstAt b S with
    | some (_, zs) => if xs.length + zs.length ≤ sizeLine then some (.non, S.set n (.lst (xs ++ zs))) else none
    | none => none
  | _, _ => none
theorem f_extend : OpM g rExtend fExtend := fun ι S S' H a b d x y Q s ra rb hf hd => by
  unfold fExtend at hf
  split at hf
  · rename_i n xs b' e
    split at hf
    · rename_i m zs e2
      split at hf
      · rename_i hc
        cases hf
        cases rb with
        | cons r1 r2 =>
          cases r2
          obtain ⟨l, vs, rfl, q, h1, h2⟩ := lstAt_R s ra e
          obtain ⟨l2, us, rfl, q3, h3, h4⟩ := lstAt_R s r1 e2
          exact ⟨l, l2, vs, us, rfl, rfl, h1, h3, by rw [← Rs.length h2, ← Rs.length h4]; exact hc, hd.wr s q h1 (h2.append h4) .non⟩
      · cases hf
    · cases hf
  · cases hf
theorem em_bm0 {o : Expr} {name : Str} {T id : String} {apos : Pos} {mo : MM D} {ty : D → So → Bool} {f : FM} {r : V → List V → Hp → VK → Prop} (pa : PlainAttrs T) (slot : Slot T name id) (hty : typeOf (.builtin id) = pure (.type "method_descriptor")) (hm : MtR X id r)
    (hT : ∀ (ι : List Addr) (S : So) (H : Hp) (a : D) (x : V), Sim g ι S H → R g ι H a x → ty a S = true → tyV X.K T x H) (hf : OpM g r f) (ho : PE X o (tE g xa W mo))
    (hbase : attributeBase o name X.env (eval o X.env) = eval o X.env := by rfl) (hline : (apos.endLine == pos.line) = true := by rfl) :
    PE X (.Call (.Attribute o name apos) [] [] pos) (tE g xa W (mMeth ty f mo mNil)) :=
  (pe_bm0 pa slot hty hm ho hbase hline).viaM fun σ H Q h => by
    obtain ⟨ι, S, e, r, S', hs, he, hm, hf'⟩ := h
    refine stepG hs he hm hf' fun d S1 ι1 H1 v h1 p1 x1 s1 e1 r1 f1 => ?_
    split at h1
    · rename_i hty
      refine ⟨hT ι1 S1 H1 d v s1 r1 hty, ?_⟩
      have h2 : liftF (f d []) e S1 = some (r, S') := h1
      obtain ⟨d', h3, rfl⟩ := liftF_some h2
      exact hf ι1 S1 S' H1 d [] d' v [] Q s1 r1 .nil h3 f1
    · cases h1
theorem em_reverse {o : Expr} {apos : Pos} {mo : MM D} (ho : PE X o (tE g xa W mo)) (hbase : attributeBase o "reverse" X.env (eval o X.env) = eval o X.env := by rfl) (hline : (apos.endLine == pos.line) = true := by rfl) :
    PE X (.Call (.Attribute o "reverse" apos) [] [] pos) (tE g xa W (mMeth isL fReverse mo mNil)) := em_bm0 PySem.F.plainAttrs_list PySem.F.slot_list_reverse PySem.F.type_list_reverse mt_reverse (fun _ _ _ _ _ s r h => isL_ty s r h) f_reverse ho hbase hline
theorem em_clear {o : Expr} {apos : Pos} {mo : MM D} (ho : PE X o (tE g xa W mo)) (hbase : attributeBase o "clear" X.env (eval o X.env) = eval o X.env := by rfl) (hline : (apos.endLine == pos.line) = true := by rfl) :
    PE X (.Call (.Attribute o "clear" apos) [] [] pos) (tE g xa W (mMeth isL fClear mo mNil)) := em_bm0 PySem.F.plainAttrs_list PySem.F.slot_list_clear PySem.F.type_list_clear mt_clear (fun _ _ _ _ _ s r h => isL_ty s r h) f_clear ho hbase hline
theorem em_pop {o : Expr} {apos : Pos} {mo : MM D} (ho : PE X o (tE g xa W mo)) (hbase : attributeBase o "pop" X.env (eval o X.env) = eval o X.env := by rfl) (hline : (apos.endLine == pos.line) = true := by rfl) :
    PE X (.Call (.Attribute o "pop" apos) [] [] pos) (tE g xa W (mMeth isL fPop mo mNil)) := em_bm0 PySem.F.plainAttrs_list PySem.F.slot_list_pop PySem.F.type_list_pop mt_pop (fun _ _ _ _ _ s r h => isL_ty s r h) f_pop ho hbase hline
theorem em_extend {o a : Expr} {apos : Pos} {mo : MM D} {ma : MM (List D)} (ho : PE X o (tE g xa W mo)) (ha : PA X [a] (tA g xa W ma))
    (hbase : attributeBase o "extend" X.env (eval o X.env) = eval o X.env := by rfl)
    (hfew : ((backTo pos (starEach [a] X.env)).all (fun x => !x.1) && (backToKw pos (keywordEach [] X.env)).all (fun x => x.1.isSome)
      && decide ([a].length + ([] : List Keyword).length + (if ([] : List Keyword).isEmpty then 0 else 1) < 30)) = true := by rfl)
    (hline : (apos.endLine == pos.line) = true := by rfl) (hs : starEach [a] X.env = (false, eval a X.env) :: starEach [] X.env := by rfl) (hplain : (backTo pos (starEach [] X.env)).any (·.1) = false := by rfl) :
    PE X (.Call (.Attribute o "extend" apos) [a] [] pos) (tE g xa W (mMeth isL fExtend mo ma)) :=
  em_bm PySem.F.plainAttrs_list PySem.F.slot_list_extend PySem.F.type_list_extend mt_extend (fun _ _ _ _ _ s r h => isL_ty s r h) f_extend ho ha hbase hfew hline hs hplain
theorem em_insert {o a b : Expr} {apos : Pos} {mo : MM D} {ma : MM (List D)} (ho : PE X o (tE g xa W mo)) (ha : PA X [a, b] (tA g xa W ma))
    (hbase : attributeBase o "insert" X.env (eval o X.env) = eval o X.env := by rfl)
    (hfew : ((backTo pos (starEach [a, b] X.env)).all (fun x => !x.1) && (backToKw pos (keywordEach [] X.env)).all (fun x => x.1.isSome)
      && decide ([a, b].length + ([] : List Keyword).length + (if ([] : List Keyword).isEmpty then 0 else 1) < 30)) = true := by rfl)
    (hline : (apos.endLine == pos.line) = true := by rfl) (hs : starEach [a, b] X.env = (false, eval a X.env) :: starEach [b] X.env := by rfl) (hplain : (backTo pos (starEach [b] X.env)).any (·.1) = false := by rfl) :
    PE X (.Call (.Attribute o "insert" apos) [a, b] [] pos) (tE g xa W (mMeth isL fInsert mo ma)) :=
  em_bm PySem.F.plainAttrs_list PySem.F.slot_list_insert PySem.F.type_list_insert mt_insert (fun _ _ _ _ _ s r h => isL_ty s r h) f_insert ho ha hbase hfew hline hs hplain
/-! ### min of two, in and not in of flat values -/
def fMin2 : FA := fun ds S => match ds with
  | [.int i, .int j] => some (.int (if j < i then j else i), S)
  | _ => none
theorem f_min2 : OpA g (fun xs H Q => ∃ i j, xs = [.int i, .int j] ∧ Q (.int (if j < i then j else i)) H) fMin2 := fun ι S S' H a d x Q s r hf hd => by
  unfold fMin2 at hf
  split at hf
  · cases hf
    cases r with
    | cons r1 r2 =>
      cases r1
      cases r2 with
      | cons r3 r4 =>
        cases r3
        cases r4
        exact ⟨_, _, rfl, hd.here s (.int _)⟩
  · cases hf
def toFlat (d : D) : Option V := match d with
  | .non => some .non
  | .bl b => some (.bl b)
  | .int i => some (.int i)
  | .str x => some (.str x)
  | _ => none
theorem toFlat_R {d : D} {v u : V} (r : R g ι H d u) (h : toFlat d = some v) : u = v ∧ flatV v = true := by
  cases d <;> first | (cases h; cases r; exact ⟨rfl, rfl⟩) | cases h
def toFlats : List D → Option (List V)
  | [] => some []
  | d :: ds => match toFlat d, toFlats ds with
    | some v, some vs => some (v :: vs)
    | _, _ => none
theorem toFlats_R : ∀ {ds : List D} {vs us : List V}, Rs g ι H ds us → toFlats ds = some vs → us = vs ∧ vs.all flatV = true
  | [], _, _, .nil, h => by cases h; exact ⟨rfl, rfl⟩
  | d :: ds, vs, _, .cons r t, h => by
    unfold toFlats at h
    split at h
    · rename_i v vs' e1 e2
      cases h
      obtain ⟨rfl, f1⟩ := toFlat_R r e1
      obtain ⟨rfl, f2⟩ := toFlats_R t e2
      exact ⟨rfl, by simp [f1, f2]⟩
    · cases h
def fInF (neg : Bool) : F2 := fun a b S => match toFlat a, seqOf b S with
  | some v, some (_, xs) => match toFlats xs with
    | some vs => some (.bl (if neg then !inV v vs else inV v vs), S)
    | none => none
  | _, _ => none
theorem f_inF {neg : Bool} : Op2 g (rIn g.K neg) (fInF neg) := fun ι S S' H a b d x y Q s ra rb hf hd => by
  unfold fInF at hf
  split at hf
  · rename_i v k xs e1 e2
    split at hf
    · rename_i vs e3
      cases hf
      obtain ⟨rfl, f1⟩ := toFlat_R ra e1
      obtain ⟨p, us, rfl, rs, t1, l1⟩ := seqOf_R e2 s rb
      obtain ⟨rfl, f2⟩ := toFlats_R rs e3
      refine ⟨p, us, rfl, ?_, f1, f2, hd.here s (.bl _)⟩
      cases k with
      | true => exact .inr (t1 rfl).t
      | false => exact .inl (l1 rfl)
    · cases hf
  · cases hf
theorem op_inF (hK : X.K = g.K) : OpR X (compareOp .In) (rIn g.K false) := by rw [← hK]; exact op_in_seq
theorem op_ninF (hK : X.K = g.K) : OpR X (compareOp .NotIn) (rIn g.K true) := by rw [← hK]; exact op_notIn_seq
end
end DD

set_option Elab.async false
set_option linter.all false
set_option maxRecDepth 100000
namespace DD
open PySem PySem.Spec PyProof.Rows L2
section
variable {X : Cx} {W : WX} {pos : Pos} {k : Nat} {f C : Addr} {fd : FuncData} {ps ks : List Str} {φ : FnD} {xa : Xa}
/-- the arguments behind the first one, by their names -/
def KwB (fd : FuncData) (ps ks : List Str) : Prop := ∀ (s : Shared) (v : Value) (us : List Value), us.length = ks.length → BindsTo s fd ⟨[v], ks.zip us⟩ (ps.zip (v :: us))
theorem run_fngK {pins : List (Addr × Obj)} {σ : L2.St} {H : Hp} {s : Shared} {Q : VK} {u0 : Value} {us : List Value} {vs : List V} (F : FnG X.prog X.w X.K X.mg X.base k f fd ps φ) (hr : Room k X.A) (hG : X.A.guards = some []) (hb : KwB fd ps ks) (hn : ps.length = ks.length + 1) (tk : Takes X W)
    (I : Inv X pins σ H s) (r : Vals vs (u0 :: us)) (h : spM (gX X) φ vs H Q (fun cls d H' => W cls d σ H')) : wpAny (model X.prog X.w) X.A (call (.ref f) [u0] (ks.zip us)) (EP X pins σ Q) X.xe s := by
  have hl : us.length = ks.length := by
    obtain ⟨ι, S, ds, r', S', hs, rs, hφ, hf⟩ := id h
    have e1 := F.len _ _ _ hφ
    have e2 := r.length
    have e3 := Rs.length rs
    simp only [List.length_cons] at e2
    omega
  have b := hb s u0 us hl
  refine wpAny_call (codeAny_mono (F.run X.A X.stack s H ⟨[u0], ks.zip us⟩ (u0 :: us) vs Q _ hr hG I.env0 b r h) fun r s' hq => ?_)
  cases r with
  | error e => exact passM tk I (fun _ _ _ z => z) hq
  | ok fl => cases fl <;> first | exact I.after hq | exact False.elim hq
theorem run_makeMK {x : Str} {pins : List (Addr × Obj)} {σ : L2.St} {H : Hp} {s : Shared} {Q : VK} {us : List Value} {vs : List V} (M : Mk X.K C f) (F : FnG X.prog X.w X.K X.mg X.base k f fd ps φ) (hr : Room (k + 1) X.A) (hG : X.A.guards = some []) (hm : X.mg x = some (.ref C)) (hb : KwB fd ps ks) (hn : ps.length = ks.length + 1) (tk : Takes X W)
    (I : Inv X pins σ H s) (r : Vals vs us) (h : spM (gX X) (makeF x φ) vs H Q (fun cls d H' => W cls d σ H')) : wpAny (model X.prog X.w) X.A (call (.ref C) [] (ks.zip us)) (EP X pins σ Q) X.xe s := by
  obtain ⟨ι, S, ds, re, S', hs, rs, hφ, hf⟩ := h
  have nx : H (s.heap.objs.size + 1) = none := I.hok.fresh (Nat.le_succ _)
  have nd : H s.heap.objs.size = none := I.hok.fresh (Nat.le_refl _)
  have ne : s.heap.objs.size ≠ s.heap.objs.size + 1 := Nat.ne_of_lt (Nat.lt_succ_self _)
  have I2 := Inv.made (C := C) I
  have sD : Sim (gX X) ι S (upd H s.heap.objs.size (.own (s.heap.objs.size + 1))) := hs.tup nd
  have nx2 : upd H s.heap.objs.size (.own (s.heap.objs.size + 1)) (s.heap.objs.size + 1) = none := by rw [upd_ne (Ne.symm ne)]; exact nx
  have xD : Ex H (upd H s.heap.objs.size (.own (s.heap.objs.size + 1))) := Ex.new nd
  have xN := xD.trans (Ex.new (o := .ins C s.heap.objs.size []) nx2)
  have sN : Sim (gX X) (ι ++ [s.heap.objs.size + 1]) (S ++ [.ins x []]) (upd (upd H s.heap.objs.size (.own (s.heap.objs.size + 1))) (s.heap.objs.size + 1) (.ins C s.heap.objs.size [])) :=
    sD.new (Ex.new nx2) (fun n a q => upd_ne (sD.fresh nx2 q)) nx2 ⟨C, _, [], upd_same, hm, .nil⟩
  have aN : (ι ++ [s.heap.objs.size + 1])[S.length]? = some (s.heap.objs.size + 1) := hs.newAt
  have pN := Pre.app ι [s.heap.objs.size + 1]
  have r2 : Vals (V.ref (s.heap.objs.size + 1) :: vs) (Value.ref (s.heap.objs.size + 1) :: us) := .cons rfl r
  unfold makeF at hφ
  have lenA : (Value.ref (s.heap.objs.size + 1) :: us).length = ps.length := by
    rw [← r2.length]
    cases q : φ (.ref S.length :: ds) (S ++ [.ins x []]) with
    | none => rw [q] at hφ; cases hφ
    | some z =>
      have := F.len _ _ _ q
      rw [← this]
      simp [Rs.length rs]
  have bnd := hb ({ s with heap := (s.heap.push PySem.W.emptyDict).push (PySem.W.instObj C s.heap.objs.size) }) (Value.ref (s.heap.objs.size + 1)) us (by simp only [List.length_cons] at lenA; omega)
  have sp : spM (gX X) φ (V.ref (s.heap.objs.size + 1) :: vs) (upd (upd H s.heap.objs.size (.own (s.heap.objs.size + 1))) (s.heap.objs.size + 1) (.ins C s.heap.objs.size [])) (fun v H2 => v = .non ∧ Q (.ref (s.heap.objs.size + 1)) H2) (fun cls d H' => W cls d σ H') := by
    split at hφ
    · rename_i S2 q
      cases hφ
      refine ⟨_, _, _, _, _, sN, .cons (.ref aN) (Rs.mono pN xN _ _ rs), q, fun ι' H' v p x s r => ?_⟩
      cases r
      exact ⟨rfl, hf ι' H' _ (pN.trans p) (xN.trans x) s (.ref (p _ _ aN))⟩
    · rename_i c fs S2 q
      cases hφ
      exact ⟨_, _, _, _, _, sN, .cons (.ref aN) (Rs.mono pN xN _ _ rs), q, fun ι' H' C' dd gs p x s => hf ι' H' C' dd gs (pN.trans p) (xN.trans x) s⟩
    · cases hφ
  refine wpAny_call (make_map (f := f) I.kIn M.makes M.init (beq_iff_eq.mp M.fn) (codeAny_mono (F.run _ X.stack _ _ ⟨[Value.ref (s.heap.objs.size + 1)], ks.zip us⟩ _ _ _ _ (hr.make C [] (ks.zip us)) (guards_make hG) (I2.env0.make C [] (ks.zip us)) bnd r2 sp) fun res s' hq => ?_))
  cases res with
  | error e => exact passM tk I2 (fun _ _ _ z => z) hq
  | ok fl => cases fl with
    | ret u =>
      obtain ⟨v, H', I3, rv, ev, q3⟩ := I2.after hq
      subst ev
      exact ⟨rv, ⟨V.ref (s.heap.objs.size + 1), H', I3, rfl, q3⟩⟩
    | next => exact False.elim hq
    | brk => exact False.elim hq
    | cont => exact False.elim hq
theorem em_methK {c m : Str} {o : Expr} {kws : List Keyword} {apos : Pos} {mo : MM D} {ma : MM (List D)} {pl : Sem Bool} (he : PE X o (tE (gX X) xa W mo)) (cl : Cls X.K C) (hm : Meth X.K C m f) (hC : X.mg c = some (.ref C)) (F : FnG X.prog X.w X.K X.mg X.base k f fd ps φ) (hr : Room k X.A) (hG : X.A.guards = some []) (tk : Takes X W) (hb : KwB fd ps ks) (hn : ps.length = ks.length + 1) (ha : PK X kws (tA (gX X) xa W ma))
    (hall : (backToKw pos (keywordEach kws X.env)).all (·.1.isSome) = true := by rfl) (hks : (backToKw pos (keywordEach kws X.env)).filterMap (·.1) = ks := by rfl)
    (hpl : ((backTo pos (starEach [] X.env)).any (·.1) || (backToKw pos (keywordEach kws X.env)).any (·.1.isNone)) = false := by rfl)
    (ht : eval (.Call (.Attribute o m apos) [] kws pos) X.env = (do
      let ov ← eval o X.env
      standAt apos.atName
      let (f, first) ← holding [ov] (getMethod ov m pl)
      callWith pos f first (backTo pos (starEach [] X.env)) (backToKw pos (keywordEach kws X.env))) := by rfl) :
    PE X (.Call (.Attribute o m apos) [] kws pos) (tE (gX X) xa W (mMth c m φ mo ma)) := by
  refine ⟨fun pins s σ H Q I h => ?_⟩
  obtain ⟨ι, S, ev, r, S', hs, hev, hmm, hf⟩ := h
  refine PySem.W.methodCall_KW (pl := pl) (thn (he.run pins s σ H (fun v H1 => ∃ a dx fs, v = .ref a ∧ H1 a = some (.ins C dx fs) ∧ fs.lookup m = none ∧ tA (gX X) xa W ma σ H1 fun vs H2 => spM (gX X) φ (.ref a :: vs) H2 Q (fun cls d H' => W cls d σ H')) I (stepG hs hev hmm hf fun d S1 ι1 H1 v h1 p1 x1 s1 e1 r1 f1 => ?_)) fun u s1 hu => ?_) ht
  · split at h1
    · rename_i n
      split at h1
      · rename_i c' fs q
        split at h1
        · rename_i hcc
          obtain ⟨hc1, hl⟩ := hcc
          subst hc1
          cases r1 with
          | ref qa =>
            obtain ⟨C', dx, gs, h3, h4, h5⟩ := s1.obj _ _ _ qa q
            have eC : C' = C := by
              have z : X.mg c' = some (.ref C') := h4
              rw [hC] at z
              cases z
              rfl
            subst eC
            refine ⟨_, dx, gs, rfl, h3, h5.look_none hl, ?_⟩
            refine stepG s1 e1 h1 f1 fun ds S2 ι2 H2 vs h6 p2 x2 s2 e2 r2 f2 => ?_
            refine ⟨ι2, S2, _, r, S', s2, .cons (.ref (p2 _ _ qa)) r2, h6, ?_⟩
            cases r with
            | ok d => exact f2
            | ex c fs => exact fun ι' H' C dd gs p x s h1 h2 h3 => f2 ι' H' C dd gs p x s h1 h2 h3
        · cases h1
      · cases h1
    · cases h1
  · obtain ⟨v, H1, I1, rx, a, dx, fs, rfl, ea, l, q⟩ := hu
    obtain rfl : u = Value.ref a := rx
    refine getmeth_ok I1 ea cl hm l ?_
    refine PySem.W.callWith_KW0 (first := [.ref a]) (h₀ := X.base) I.ok.mod.kin hm.kp hall ?_ hpl
    refine thn (ha.run pos pins s1 σ H1 _ I1 q) fun us s2 ⟨vs, H2, I2, r, q2⟩ => ⟨I2.kIn, ?_⟩
    rw [hks]
    exact run_fngK (u0 := .ref a) (vs := .ref a :: vs) F hr hG hb hn tk I2 (.cons rfl r) q2

theorem em_makeK {x : Str} {p : Pos} {kws : List Keyword} {m : MM (List D)} (M : Mk X.K C f) (F : FnG X.prog X.w X.K X.mg X.base k f fd ps φ) (hr : Room (k + 1) X.A) (hG : X.A.guards = some []) (tk : Takes X W) (hm : X.mg x = some (.ref C)) (hb : KwB fd ps ks) (hn : ps.length = ks.length + 1)
    (ha : PK X kws (tA (gX X) xa W m)) (hg : Gl X x := by rfl) (hall : (backToKw pos (keywordEach kws X.env)).all (·.1.isSome) = true := by rfl) (hks : (backToKw pos (keywordEach kws X.env)).filterMap (·.1) = ks := by rfl) (hdb : (x == ("__debug__" : Str)) = false := by decide)
    (hpl : ((backTo pos (starEach [] X.env)).any (·.1) || (backToKw pos (keywordEach kws X.env)).any (·.1.isNone)) = false := by rfl) :
    PE X (.Call (.Name x p) [] kws pos) (tE (gX X) xa W (mCall (makeF x φ) m)) := by
  refine ⟨fun pins s σ H Q I h => wpAny_Call_Name_kw (ld_glob I hg hm ?_ hdb)⟩
  refine PySem.W.callWith_KW0 (h₀ := X.base) I.ok.mod.kin M.kp hall ?_ hpl
  refine thn (ha.run pos pins s σ H _ I (call_step h)) fun us s1 ⟨vs, H1, I1, r, q⟩ => ⟨I1.kIn, ?_⟩
  rw [hks]
  exact run_makeMK M F hr hG hm hb hn tk I1 r q
end
/-! by name -/
structure MkK (P : Program) (w : World) (K : PySem.W.Frag) (mg : Str → Option Value) (base : Heap) (k : Nat) (x : Str) (ps ks : List Str) (φ : FnD) : Prop where
  ex : ∃ C f fd, Mk K C f ∧ FnG P w K mg base k f fd ps φ ∧ mg x = some (.ref C) ∧ KwB fd ps ks
structure MthK (P : Program) (w : World) (K : PySem.W.Frag) (mg : Str → Option Value) (base : Heap) (k : Nat) (c m : Str) (ps ks : List Str) (φ : FnD) : Prop where
  ex : ∃ C f fd, Cls K C ∧ Meth K C m f ∧ FnG P w K mg base k f fd ps φ ∧ mg c = some (.ref C) ∧ KwB fd ps ks
section
variable {X : Cx} {W : WX} {pos : Pos} {k : Nat} {ps ks : List Str} {φ : FnD} {xa : Xa}
theorem em_makeKN {x : Str} {p : Pos} {kws : List Keyword} {m : MM (List D)} (M : MkK X.prog X.w X.K X.mg X.base k x ps ks φ) (hr : Room (k + 1) X.A) (hG : X.A.guards = some []) (tk : Takes X W) (ha : PK X kws (tA (gX X) xa W m)) (hn : ps.length = ks.length + 1 := by rfl) (hg : Gl X x := by rfl) (hall : (backToKw pos (keywordEach kws X.env)).all (·.1.isSome) = true := by rfl) (hks : (backToKw pos (keywordEach kws X.env)).filterMap (·.1) = ks := by rfl) (hdb : (x == ("__debug__" : Str)) = false := by decide)
    (hpl : ((backTo pos (starEach [] X.env)).any (·.1) || (backToKw pos (keywordEach kws X.env)).any (·.1.isNone)) = false := by rfl) :
    PE X (.Call (.Name x p) [] kws pos) (tE (gX X) xa W (mCall (makeF x φ) m)) := by
  obtain ⟨C, f, fd, h1, h2, h3, h4⟩ := M.ex
  exact em_makeK h1 h2 hr hG tk h3 h4 hn ha hg hall hks hdb hpl
theorem em_methKN {c m : Str} {o : Expr} {kws : List Keyword} {apos : Pos} {mo : MM D} {ma : MM (List D)} {pl : Sem Bool} (M : MthK X.prog X.w X.K X.mg X.base k c m ps ks φ) (hr : Room k X.A) (hG : X.A.guards = some []) (tk : Takes X W) (he : PE X o (tE (gX X) xa W mo)) (ha : PK X kws (tA (gX X) xa W ma)) (hn : ps.length = ks.length + 1 := by rfl)
    (hall : (backToKw pos (keywordEach kws X.env)).all (·.1.isSome) = true := by rfl) (hks : (backToKw pos (keywordEach kws X.env)).filterMap (·.1) = ks := by rfl)
    (hpl : ((backTo pos (starEach [] X.env)).any (·.1) || (backToKw pos (keywordEach kws X.env)).any (·.1.isNone)) = false := by rfl)
    (ht : eval (.Call (.Attribute o m apos) [] kws pos) X.env = (do
      let ov ← eval o X.env
      standAt apos.atName
      let (f, first) ← holding [ov] (getMethod ov m pl)
      callWith pos f first (backTo pos (starEach [] X.env)) (backToKw pos (keywordEach kws X.env))) := by rfl) :
    PE X (.Call (.Attribute o m apos) [] kws pos) (tE (gX X) xa W (mMth c m φ mo ma)) := by
  obtain ⟨C, f, fd, h1, h2, h3, h4, h5⟩ := M.ex
  exact em_methK he h1 h2 h4 h3 hr hG tk h5 hn ha hall hks hpl ht
end
end DD

set_option Elab.async false
set_option linter.all false
set_option maxRecDepth 100000
namespace DD
open PySem PySem.Spec PyProof.Rows L2
section
variable {X : Cx} {g : G} {xa : Xa} {W : WX} {pos : Pos}
/-! ### len(set(xs)) of nothing -/
theorem call_lenSet0 : CallR X (.builtin "len") (fun xs H Q => ∃ a, xs = [V.ref a] ∧ H a = some (SetTO X.prog X.w a []) ∧ Q (.int 0) H) := by
  intro pins s σ H xs us Q I r h
  obtain ⟨a, rfl, ha, q⟩ := h
  obtain ⟨u, rfl, ru⟩ := vals1 r
  cases ru
  have ho := I.hok a _ ha
  have hx : SetT0 X.prog X.w s.heap a [] := by
    unfold SetTO at ho
    unfold ObjOk at ho
    exact ho.1
  obtain ⟨es, ep, t, ⟨o, h1, h2, h3⟩, h4, h5, h6, h7, h8, h9, h10⟩ := hx
  have e0 : es.toList = [] := h4
  have e1 : es = #[] := by
    apply Array.ext'
    exact e0
  subst e1
  have ft : t.fits (#[] : Array (Int × Value)).size = true := by
    have s1 := h5.sz
    have s2 := h5.dm
    unfold SetTable.fits SetTable.fill
    simp only [List.map_nil, List.length_nil] at s1
    rw [s2, s1]
    simp
  refine PySem.call_len_set h1 h2 h3 ft (by decide) ?_
  exact ⟨.int 0, H, I.tok _, ⟨_, rfl⟩, q⟩
def lenSet0 (d : D) : MM D := fun _ S => match lstAt d S with
  | some (_, []) => some (.ok (.int 0), S)
  | _ => none
theorem em_lenSet {e : Expr} {m : MM D} {p p2 pos2 : Pos} (hc : X.calm = true) (hu : X.A.units + 66 < cLine) (hm : X.mg "len" = none) (hm2 : X.mg "set" = none) (he : PE X e (tE g xa W m)) (hg : Gl X "len" := by rfl) (hg2 : Gl X "set" := by rfl)
    (h1 : starEach [e] X.env = (false, eval e X.env) :: starEach [] X.env := by rfl) (h2 : (backTo pos2 (starEach [] X.env)).any (·.1) = false := by rfl)
    (h3 : starEach [.Call (.Name "set" p2) [e] [] pos2] X.env = (false, eval (.Call (.Name "set" p2) [e] [] pos2) X.env) :: starEach [] X.env := by rfl) (h4 : (backTo pos (starEach [] X.env)).any (·.1) = false := by rfl) :
    PE X (.Call (.Name "len" p) [.Call (.Name "set" p2) [e] [] pos2] [] pos) (tE g xa W (bindM m lenSet0)) :=
  (pe_callB call_lenSet0 hg hm (by decide +kernel) (pa_cons (pe_callTy (cr_setOfT hc (by omega)) hg2 hm2 (by decide +kernel) (pa_cons he pa_nil (hs := h1)) (by decide) (by decide) h1 h2) pa_nil (hs := h3)) (by decide) (by decide) h3 h4).viaM fun σ H Q h => by
    obtain ⟨ι, S, ev, r, S', hs, hev, hm, hf⟩ := h
    refine stepG hs hev hm hf fun d S1 ι1 H1 v h1 p1 x1 s1 e1 r1 f1 => ?_
    unfold lenSet0 at h1
    split at h1
    · rename_i n e
      cases h1
      obtain ⟨l, vs, rfl, q, hl, rs⟩ := lstAt_R s1 r1 e
      cases rs
      refine ⟨l, [], rfl, SqL.of hl, by simp, by simp, fun a L na hL _ => ?_⟩
      have eL : L = [] := by
        cases L with
        | nil => rfl
        | cons p r => exact absurd (hL p (List.mem_cons_self ..)) (by simp)
      subst eL
      refine ⟨a, rfl, upd_same, ?_⟩
      exact f1 ι1 _ _ (Pre.refl _) (Ex.new na) (s1.tup na) (.int _)
    · cases h1
/-! ### module-level texts -/
theorem em_gstrE {x : Str} {z : Str} (h : ∃ t, X.mg x = some (.str z t)) (hg : Gl X x := by rfl) (hd : (x == ("__debug__" : Str)) = false := by decide) : PE X (.Name x pos) (tE (gX X) xa W (retM (.str z))) := by
  obtain ⟨t, h⟩ := h
  exact em_gstr hg h hd
end
end DD

set_option Elab.async false
set_option linter.all false
set_option maxRecDepth 100000
namespace DD
open PySem PySem.Spec PyProof.Rows L2
/-! ### set(a list of texts), of any length below the bound -/
/-- how many unlike ones stand among the first i -/
def unlike (xs : List Str) : Nat → Nat
  | 0 => 0
  | i + 1 => if (xs.take i).any (· == xs.getD i Str.empty) then unlike xs i else unlike xs i + 1
theorem unlike_le (xs : List Str) : ∀ i, unlike xs i ≤ i
  | 0 => Nat.le_refl _
  | i + 1 => by
    have := unlike_le xs i
    unfold unlike
    split <;> omega
section
variable {prog : Program} {w : World} {A : Around} {R : Result → Shared → Prop} {I : Addr} {fp wr : List Addr} {G : Array GenState → Array GenState → Prop} {n : Nat} {P : Nat → Value → Prop} {St : Nat → Shared → Prop}
abbrev Has (prog : Program) (w : World) (xs : List Str) (p : Addr) (h : Heap) (i : Nat) : Prop := h.SetOf (PySem.strKind prog w) p (fun k => (xs.take i).any (· == k)) (unlike xs i)
theorem Has.keep {xs : List Str} {p : Addr} {h h' : Heap} {i : Nat} (x : Has prog w xs p h i) (k : ∀ o, h.get? p = some o → h'.get? p = some o) : Has prog w xs p h' i := by
  obtain ⟨o, es, ep, t, ho, r⟩ := x
  exact ⟨o, es, ep, t, k o ho, r⟩
theorem has_step {xs : List Str} {i : Nat} (hi : i < xs.length) (k : Str) : ((xs.take i).any (· == k) || decide (k = xs.getD i Str.empty)) = (xs.take (i + 1)).any (· == k) := by
  have e : xs.take (i + 1) = xs.take i ++ [xs.getD i Str.empty] := by
    rw [List.take_add_one, List.getElem?_eq_getElem hi, List.getD_eq_getElem?_getD, List.getElem?_eq_getElem hi]
    rfl
  rw [e, List.any_append]
  congr 1
  by_cases z : k = xs.getD i Str.empty
  · subst z; simp
  · have hb : (xs.getD i Str.empty == k) = false := beq_eq_false_iff_ne.mpr fun q => z q.symm
    simp only [List.any_cons, List.any_nil, hb, decide_eq_false z, Bool.or_false]
theorem fill_set (W : WalksS prog w A.in1 I fp wr G n P St) (p : Addr) (off : p ∉ fp) (xs : List Str) (hsz : xs.length = n) (hn : n + 1 < scanBound) (hval : ∀ i v, P i v → ∃ t, v = .str (xs.getD i Str.empty) t) :
    ∀ (k i : Nat) (s : Shared), i + k = n → St i s → Has prog w xs p s.heap i → (∀ s', Moved (p :: wr) G s s' → Has prog w xs p s'.heap n → R (.ok (.ret .none)) s') →
      codeAny (model prog w) A (.builtin "set.update.loop" ⟨[.ref p, .ref I], []⟩) R s := by
  have up : ∀ b ∈ wr, b ∈ p :: wr := fun b hb => List.mem_cons_of_mem _ hb
  have pw : p ∉ wr := fun z => off (W.sub _ z)
  intro k
  induction k with
  | zero =>
    intro i s hk hst hs hR
    obtain rfl : i = n := by omega
    refine codeAny_builtin PyProof.Rows.F.entry_set_update_loop ?_
    rw [Around.under_plainId PyProof.Rows.F.plain_set_update_loop _]
    show wpAny _ A.in1 (pyNext (.ref I) >>= _) _ _ s
    refine wpAny_bind (W.done s _ _ hst fun s' hm => ?_)
    show wpAny _ A.in1 (ret Value.none) _ _ s'
    exact wpAny_pure (hR s' (hm.mono up) (hs.keep fun o e => hm.heap p _ pw e))
  | succ k ih =>
    intro i s hk hst hs hR
    have hlt : i < n := by omega
    refine codeAny_builtin PyProof.Rows.F.entry_set_update_loop ?_
    rw [Around.under_plainId PyProof.Rows.F.plain_set_update_loop _]
    show wpAny _ A.in1 (pyNext (.ref I) >>= _) _ _ s
    refine wpAny_bind (W.item i s _ _ hlt hst fun v s' hP hst' hm => ?_)
    obtain ⟨t, rfl⟩ := hval i v hP
    have hs' : Has prog w xs p s'.heap i := hs.keep fun o e => hm.heap p _ pw e
    show wpAny _ A.in1 (holding [Value.str (xs.getD i Str.empty) t] (setAdd p (.str (xs.getD i Str.empty) t)) >>= _) _ _ s'
    refine wpAny_bind (wpAny_holding ?_)
    unfold setAdd
    refine wpAny_holding ?_
    refine wpAny_bind ((PySem.strKind prog w).pyHash (k := xs.getD i Str.empty) (strKind_is _ _ _ _) ?_)
    refine wpAny_setAddHashed_of (knd := PySem.strKind prog w) (s := { s' with toks := s'.toks + 1 }) (strKind_is _ _ _ _) rfl hs' (by have := unlike_le xs i; omega) fun h' hsb h2 => ?_
    have h3 : Has prog w xs p h' (i + 1) := SetOf_congr h2 (fun k => has_step (by omega) k) rfl
    refine wpAny_pure ⟨plainId_quiet PyProof.Rows.F.plain_set_update_loop _, ih (i + 1) _ (by omega) (W.frame _ s' _ _ hst' (Nat.le_succ _) fun b hb o e => ?_) h3 fun s'' hm2 h4 => hR s'' (Moved.trans W.gtrans ((hm.mono up).then_heap (Nat.le_succ _) fun b o hb e => ?_) hm2) h4⟩
    · rw [hsb.2 b (fun z : b = p => off (z ▸ hb))]; exact e
    · rw [hsb.2 b (fun z : b = p => hb (by rw [z]; exact List.mem_cons_self))]; exact e
end
section
variable {prog : Program} {w : World} {A : Around} {E : Value → Shared → Prop} {s : Shared}
def setO (led : Bool) : Obj := { cls := .type "set", dict := none, data := .set #[] 0 (.fresh 0 0 led) }
abbrev Filled (prog : Program) (w : World) (xs : List Str) (s s2 : Shared) : Prop := ∃ h' tk, s2 = { s with heap := h', toks := tk } ∧ Has prog w xs s.heap.objs.size h' xs.length ∧ ∀ b o, b < s.heap.objs.size → s.heap.get? b = some o → h'.get? b = some o
set_option maxHeartbeats 3200000 in
/-- the new set takes the texts of the list at l -/
theorem set_init {l : Addr} {items : Array Value} {xs : List Str} {led : Bool} (hh : A.handled = none) (hl : s.heap.IsList l items) (hi : StrsAre items.toList xs) (hn : xs.length + 1 < scanBound) :
    codeAny (model prog w) A (.call (.builtin "set.__init__") ⟨[.ref s.heap.objs.size, .ref l], []⟩) (wants (fun r s2 => r = .none ∧ Filled prog w xs s s2) E) { s with heap := s.heap.push (setO led) } := by
  have hS : (s.heap.push (setO led)).get? s.heap.objs.size = some (setO led) := Heap.get?_push_size _ rfl
  have lt : l < s.heap.objs.size := by obtain ⟨o, e, _⟩ := id hl; exact Heap.lt_size e
  have hl1 : (s.heap.push (setO led)).IsList l items := hl.push _
  have hsz : xs.length = items.size := by rw [← StrsAre.len_eq hi, Array.length_toList]
  have hT : Shared.TypeIs { s with heap := s.heap.push (setO led) } (.ref s.heap.objs.size) "set" := ⟨_, hS, rfl⟩
  refine codeAny_call_builtin PySem.F.called_set.init.plain PySem.F.entry_set_init (check_set_init_1 hT ?_)
  obtain ⟨⟨ocls, odict, odata, oslots⟩, ho, hc, nl, hd⟩ := id hl1
  simp only at hc hd
  subst hc hd
  have q1 := PySem.F.sub_list_set
  have q2 := PySem.F.sub_list_frozenset
  have q3 : (Value.type "list" == Value.type "dict") = false := by decide
  unfold Builtin.«set.__init__» noKeywords Builtin.Frozenset.updateFrom
  generalize hPI : pyIter = PI
  wp_walk
  subst hPI
  refine wpAny_pyIter_list hl1 ?_
  refine wpAny_bind (wpAny_runValue ?_)
  have sz : (s.heap.push (setO led)).objs.size = s.heap.objs.size + 1 := Heap.size_push _ _
  have hh3 : A.in1.in1.handled = none := by simp [hh]
  have nI : l ≠ (s.heap.push (setO led)).objs.size := by rw [sz]; exact Nat.ne_of_lt (Nat.lt_succ_of_lt lt)
  have off : s.heap.objs.size ∉ [(s.heap.push (setO led)).objs.size, l] := by
    rw [sz]
    simp only [List.mem_cons, List.not_mem_nil, or_false, not_or]
    exact ⟨Nat.ne_of_lt (Nat.lt_succ_self _), Nat.ne_of_gt lt⟩
  refine fill_set ((Walks.list hh3 _ l nI items).toS) s.heap.objs.size off xs hsz (by rw [← hsz]; exact hn) (fun i v hv => SS.strs_at hi i v (by rw [Array.getElem?_toList]; exact hv)) items.size 0 _ (by omega) ?_ ?_ ?_
  · exact ⟨⟨_, Heap.get?_push_size _ rfl, rfl, rfl⟩, hl1.push _⟩
  · exact SetOf_congr ((setObjOf_fresh (knd := PySem.strKind prog w) led).setOf (Heap.get?_push_of_some _ hS) (by unfold scanBound; omega)) (fun _ => rfl) rfl
  · intro s' hm h2
    obtain ⟨h', g', d', tk', os'⟩ := s'
    obtain rfl : g' = s.gens := hm.gens
    obtain rfl : d' = s.drawn := hm.drawn
    obtain rfl : os' = s.os := hm.os
    show wpAny _ _ _ _ _ _
    refine wpAny_pure ?_
    show wpAny _ _ (ret Value.none) _ _ _
    refine wpAny_pure ⟨rfl, h', tk', rfl, by rw [hsz]; exact h2, fun b o hb e => ?_⟩
    refine hm.heap b o ?_ (Heap.get?_push_of_some _ (Heap.get?_push_of_some _ e))
    rw [sz]
    simp only [List.mem_cons, List.not_mem_nil, or_false, not_or]
    exact ⟨Nat.ne_of_lt hb, Nat.ne_of_lt (Nat.lt_succ_of_lt hb)⟩
set_option maxHeartbeats 3200000 in
theorem set_of_strs {l : Addr} {items : Array Value} {xs : List Str} {Q : Value → Shared → Prop} (hh : A.handled = none) (hl : s.heap.IsList l items) (hi : StrsAre items.toList xs) (hn : xs.length + 1 < scanBound)
    (h : ∀ s2, Filled prog w xs s s2 → Q (.ref s.heap.objs.size) s2) : wpAny (model prog w) A (call (.type "set") [.ref l]) Q E s := by
  have ft := PySem.F.called_set
  obtain ⟨c, tl, hmro⟩ := ft.mro
  have m1 := ft.made
  have m2 := ft.sub
  refine wpAny_call (codeAny_of_tree ?_)
  show wpAny _ _ (callAny (.type "set") _) _ _ _
  refine wpAny_pure ⟨Code.quiet_builtin _ (by decide +kernel), codeAny_builtin PySem.F.entry_type_call ?_⟩
  rw [Around.under_plain (weight_type_call_type "set" [.ref l] []) rfl]
  have m3 := ft.notType
  have m4 := ft.canCreate
  have m5 := PySem.F.typeCall_set_1 (.ref l)
  repeat (any_goals (first | assumption | wp_step))
  refine codeAny_mono (code_set_new_1 (.ref l) (E := E) (Q₁ := fun obj s₁ => ∃ led : Bool, obj = .ref s.heap.objs.size ∧ s₁ = { s with heap := s.heap.push (setO led) }) fun led => ⟨led, rfl, rfl⟩) fun r s₁ hr => ?_
  cases r with
  | error e => exact hr
  | ok fl =>
    cases fl with
    | ret obj =>
      obtain ⟨led, rfl, rfl⟩ := hr
      have hT : Shared.TypeIs { s with heap := s.heap.push (setO led) } (.ref s.heap.objs.size) "set" := ⟨_, Heap.get?_push_size _ rfl, rfl⟩
      have m6 := ft.init.lookup
      have m7 := ft.init.bind (.ref s.heap.objs.size)
      repeat (any_goals (first | assumption | wp_step))
      refine codeAny_mono (set_init (E := E) (led := led) (by simp [hh]) hl hi hn) fun r₂ s₂ hr₂ => ?_
      cases r₂ with
      | error e => exact hr₂
      | ok fl₂ =>
        cases fl₂ with
        | ret r =>
          obtain ⟨rfl, hf⟩ := hr₂
          have hq := h s₂ hf
          obtain ⟨h', tk, rfl, hS', hk'⟩ := hf
          repeat (any_goals (first | assumption | wp_step))
        | _ => exact hr₂.elim
    | _ => exact hr.elim
end
/-- a set of n texts -/
def SetSO (P : Program) (w : World) (a : Addr) (n : Nat) : HO := .ext fun h => ∃ S : Str → Bool, h.SetOf (PySem.strKind P w) a S n
section
variable {X : Cx} {g : G} {xa : Xa} {W : WX} {pos : Pos} {ι : List Addr} {H : Hp}
theorem setSO_ok {P : Program} {w : World} {H : Hp} {h : Heap} {a : Addr} {n : Nat} {S : Str → Bool} (x : h.SetOf (PySem.strKind P w) a S n) : ObjOk P w H h a (SetSO P w a n) := by
  refine ⟨⟨S, x⟩, ?_, fun h1 h2 y k => ?_⟩
  · obtain ⟨o, es, ep, t, ho, _⟩ := x
    exact ⟨o, ho⟩
  · obtain ⟨S, o, es, ep, t, ho, r⟩ := y
    exact ⟨S, o, es, ep, t, k o ho, r⟩
def rSetS (K : PySem.W.Frag) (P : Program) (w : World) : List V → Hp → VK → Prop := fun xs H Q => ∃ (l : Addr) (zs : List Str), xs = [V.ref l] ∧ SqL K H l (zs.map V.str) ∧ zs.length ≤ 1000 ∧ ∀ a, H a = none → Q (.ref a) (upd H a (SetSO P w a (unlike zs zs.length)))
theorem call_setS (hc : X.calm = true) : CallR X (.type "set") (rSetS X.K X.prog X.w) := by
  intro pins s σ H xs us Q I r h
  obtain ⟨l, zs, rfl, hs, hz, q⟩ := h
  obtain ⟨u, rfl, ru⟩ := vals1 r
  cases ru
  obtain ⟨its, rv, pl, _⟩ := I.list hs
  refine set_of_strs (I.ok.hd hc) pl.isList (xs := zs) (by simpa using strsAre_of rv) (by unfold scanBound; omega) fun s2 hf => ?_
  obtain ⟨h', tk, rfl, hS, hk⟩ := hf
  exact ⟨.ref s.heap.objs.size, _, I.laid (t' := tk) (fun b o e => hk b o (Heap.lt_size e) e) (Nat.le_refl _) (setSO_ok hS), rfl, q _ (I.hok.fresh (Nat.le_refl _))⟩
theorem call_lenS : CallR X (.builtin "len") (fun xs H Q => ∃ a n, xs = [V.ref a] ∧ H a = some (SetSO X.prog X.w a n) ∧ n ≤ 1000 ∧ Q (.int (n : Nat)) H) := by
  intro pins s σ H xs us Q I r h
  obtain ⟨a, n, rfl, ha, hn, q⟩ := h
  obtain ⟨u, rfl, ru⟩ := vals1 r
  cases ru
  have hx : ∃ S : Str → Bool, s.heap.SetOf (PySem.strKind X.prog X.w) a S n := by
    have ho := I.hok a _ ha
    unfold SetSO at ho
    unfold ObjOk at ho
    exact ho.1
  obtain ⟨S, o, es, ep, t, h1, h2, h3, _, _, _, h7, h8⟩ := hx
  subst h8
  refine PySem.call_len_set h1 h2 h3 h7 (by omega) ?_
  exact ⟨.int es.size, H, I.tok _, ⟨_, rfl⟩, q⟩
def strsD : List D → Option (List Str)
  | [] => some []
  | .str z :: ds => (strsD ds).map (z :: ·)
  | _ :: _ => none
theorem strsD_R : ∀ {ds : List D} {vs : List V} {zs : List Str}, Rs g ι H ds vs → strsD ds = some zs → vs = zs.map V.str
  | [], _, _, r, h => by cases r; cases h; rfl
  | .str z :: ds, _, _, r, h => by
    cases r with
    | cons r1 r2 =>
      cases r1
      unfold strsD at h
      cases e : strsD ds with
      | none => rw [e] at h; cases h
      | some ys =>
        rw [e] at h
        cases h
        rw [strsD_R r2 e]
        rfl
  | .non :: _, _, _, _, h => by cases h
  | .bl _ :: _, _, _, _, h => by cases h
  | .int _ :: _, _, _, _, h => by cases h
  | .tup _ :: _, _, _, _, h => by cases h
  | .rol _ :: _, _, _, _, h => by cases h
  | .ref _ :: _, _, _, _, h => by cases h
  | .glo _ :: _, _, _, _, h => by cases h
  | .ty _ :: _, _, _, _, h => by cases h
/-- len(set(a list of texts)) -/
def lenSetS (d : D) : MM D := fun _ S => match lstAt d S with
  | some (_, ds) => match strsD ds with
    | some zs => if zs.length ≤ 1000 then some (.ok (.int (unlike zs zs.length : Nat)), S) else none
    | none => none
  | _ => none
theorem em_lenSetS {e : Expr} {m : MM D} {p p2 pos2 : Pos} (hc : X.calm = true) (hm : X.mg "len" = none) (hm2 : X.mg "set" = none) (he : PE X e (tE g xa W m)) (hg : Gl X "len" := by rfl) (hg2 : Gl X "set" := by rfl)
    (h1 : starEach [e] X.env = (false, eval e X.env) :: starEach [] X.env := by rfl) (h2 : (backTo pos2 (starEach [] X.env)).any (·.1) = false := by rfl)
    (h3 : starEach [.Call (.Name "set" p2) [e] [] pos2] X.env = (false, eval (.Call (.Name "set" p2) [e] [] pos2) X.env) :: starEach [] X.env := by rfl) (h4 : (backTo pos (starEach [] X.env)).any (·.1) = false := by rfl) :
    PE X (.Call (.Name "len" p) [.Call (.Name "set" p2) [e] [] pos2] [] pos) (tE g xa W (bindM m lenSetS)) :=
  (pe_callB call_lenS hg hm (by decide +kernel) (pa_cons (pe_callTy (call_setS hc) hg2 hm2 (by decide +kernel) (pa_cons he pa_nil (hs := h1)) (by decide) (by decide) h1 h2) pa_nil (hs := h3)) (by decide) (by decide) h3 h4).viaM fun σ H Q h => by
    obtain ⟨ι, S, ev, r, S', hs, hev, hm, hf⟩ := h
    refine stepG hs hev hm hf fun d S1 ι1 H1 v h1 p1 x1 s1 e1 r1 f1 => ?_
    unfold lenSetS at h1
    split at h1
    · rename_i n ds e
      split at h1
      · rename_i zs e2
        split at h1
        · rename_i hz
          cases h1
          obtain ⟨l, vs, rfl, q, hl, rs⟩ := lstAt_R s1 r1 e
          have := strsD_R rs e2
          subst this
          refine ⟨l, zs, rfl, SqL.of hl, hz, fun a na => ⟨a, _, rfl, upd_same, Nat.le_trans (unlike_le _ _) hz, ?_⟩⟩
          exact f1 ι1 _ _ (Pre.refl _) (Ex.new na) (s1.tup na) (.int _)
        · cases h1
      · cases h1
    · cases h1

/-! ### starred items -/
def mStar (m : MM D) (k : MM (List D)) : MM (List D) := bindM m fun d e S => match seqOf d S with
  | some (_, xs) => bindM k (fun ys => retM (xs ++ ys)) e S
  | none => none
theorem am_star {e : Expr} {es : List Expr} {m : MM D} {k : MM (List D)} {p : Pos} (hK : X.K = g.K) (h : PE X e (tE g xa W m)) (hr : PA X es (tA g xa W k)) (hs : starEach (.Starred e p :: es) X.env = (true, eval e X.env) :: starEach es X.env := by rfl) :
    PA X (.Starred e p :: es) (tA g xa W (mStar m k)) := by
  refine (StX.pa_star h hr hs).viaM fun σ H Q h => ?_
  obtain ⟨ι, S, ev, r, S', hs, he, hm, hf⟩ := h
  refine stepG hs he hm hf fun d S1 ι1 H1 v h1 p1 x1 s1 e1 r1 f1 => ?_
  split at h1
  · rename_i b xs q
    obtain ⟨a, vs, rfl, r2, t1, l1⟩ := seqOf_R q s1 r1
    refine ⟨a, vs, rfl, ?_, ?_⟩
    · rw [hK]
      cases b with
      | true => exact .inl (t1 rfl).t
      | false => exact .inr (l1 rfl)
    · refine stepG s1 e1 h1 f1 fun ds S2 ι2 H2 ws h2 p2 x2 s2 e2 r3 f2 => ?_
      cases h2
      exact f2 ι2 H2 (vs ++ ws) (Pre.refl ι2) (Ex.refl H2) s2 ((Rs.mono p2 x2 _ _ r2).append r3)
  · cases h1
end
end DD

set_option Elab.async false
set_option linter.all false
set_option maxRecDepth 100000
namespace DD
open PySem PySem.Spec PyProof.Rows L2
/-! ### a def called by its parameters' names, all of them, in order -/
structure FnK (P : Program) (w : World) (K : PySem.W.Frag) (mg : Str → Option Value) (base : Heap) (k : Nat) (x : Str) (ps : List Str) (φ : FnD) : Prop where
  ex : ∃ f fd, FnG P w K mg base k f fd ps φ ∧ mg x = some (.ref f) ∧ PySem.W.keepIn K (.ref f) = true ∧ ∀ (s : Shared) (us : List Value), us.length = ps.length → BindsTo s fd ⟨[], ps.zip us⟩ (ps.zip us)
section
variable {X : Cx} {W : WX} {pos : Pos} {k : Nat} {f : Addr} {fd : FuncData} {ps : List Str} {φ : FnD} {xa : Xa}
theorem run_fngA0 {pins : List (Addr × Obj)} {σ : L2.St} {H : Hp} {s : Shared} {Q : VK} {us : List Value} {vs : List V} (F : FnG X.prog X.w X.K X.mg X.base k f fd ps φ) (hr : Room k X.A) (hG : X.A.guards = some [])
    (hb : ∀ (s : Shared) (us : List Value), us.length = ps.length → BindsTo s fd ⟨[], ps.zip us⟩ (ps.zip us)) (tk : Takes X W)
    (I : Inv X pins σ H s) (r : Vals vs us) (h : spM (gX X) φ vs H Q (fun cls d H' => W cls d σ H')) : wpAny (model X.prog X.w) X.A (call (.ref f) [] (ps.zip us)) (EP X pins σ Q) X.xe s := by
  have hl : us.length = ps.length := by
    obtain ⟨ι, S, ds, r', S', hs, rs, hφ, hf⟩ := id h
    rw [← r.length, ← Rs.length rs]
    exact F.len _ _ _ hφ
  refine wpAny_call (codeAny_mono (F.run X.A X.stack s H ⟨[], ps.zip us⟩ us vs Q _ hr hG I.env0 (hb s us hl) r h) fun r s' hq => ?_)
  cases r with
  | error e => exact passM tk I (fun _ _ _ z => z) hq
  | ok fl => cases fl <;> first | exact I.after hq | exact False.elim hq
theorem em_callKN {x : Str} {p : Pos} {kws : List Keyword} {m : MM (List D)} (F : FnK X.prog X.w X.K X.mg X.base k x ps φ) (hr : Room k X.A) (hG : X.A.guards = some []) (tk : Takes X W) (ha : PK X kws (tA (gX X) xa W m)) (hg : Gl X x := by rfl) (hall : (backToKw pos (keywordEach kws X.env)).all (·.1.isSome) = true := by rfl) (hks : (backToKw pos (keywordEach kws X.env)).filterMap (·.1) = ps := by rfl) (hdb : (x == ("__debug__" : Str)) = false := by decide)
    (hpl : ((backTo pos (starEach [] X.env)).any (·.1) || (backToKw pos (keywordEach kws X.env)).any (·.1.isNone)) = false := by rfl) :
    PE X (.Call (.Name x p) [] kws pos) (tE (gX X) xa W (mCall φ m)) := by
  obtain ⟨f, fd, h1, h2, h3, h4⟩ := F.ex
  refine ⟨fun pins s σ H Q I h => wpAny_Call_Name_kw (ld_glob I hg h2 ?_ hdb)⟩
  refine PySem.W.callWith_KW0 (h₀ := X.base) I.ok.mod.kin h3 hall ?_ hpl
  refine thn (ha.run pos pins s σ H _ I (call_step h)) fun us s1 ⟨vs, H1, I1, r, q⟩ => ⟨I1.kIn, ?_⟩
  rw [hks]
  exact run_fngA0 h1 hr hG h4 tk I1 r q
end
section
variable {P : Program} {w : World} {K : PySem.W.Frag} {mg : Str → Option Value} {base : Heap}
theorem fnnK {x : Str} {st : Stmt} {fd : FuncData} {N ps : List Str} {k : Nat} {m : MS} (FD : FunD K x x (defArgs st) (defBody st) (defScope st) [] [] (He.ga K x) fd) (Sc : FnScope N ps (defScope st)) (hm : mg x = some (.ref (He.ga K x)))
    (hb : ∀ (kV doc pm : Value) (an : Option Addr) (cdv ct : Value) (us : List Value), us.length = ps.length → bindArgs (PySem.W.fnOf x x (defArgs st) (defBody st) (defScope st) .none kV doc pm an cdv ct) ⟨[], ps.zip us⟩ = pure (ps.zip us))
    (body : ∀ (cdv : Value) (A : Around) (outer : List Env) (s : Shared) (H : Hp) (E : XK), Room k (A.deeper (envOfC x (defScope st) s.heap.objs.size (He.ga K x) cdv)) → A.guards = some [] →
      PSs (cxOf (L2.CX P w) P w K mg base N x (defScope st) (He.ga K x) cdv A outer s H E) (defBody st) (tS (GK K mg) xa0 (fun cls d _ H => E cls d H) m)) :
    FnK P w K mg base (k + 1) x ps (fnM ps.length N.length m) := by
  have F := He5.fun_of FD
  exact ⟨_, _, fng_of F Sc body, hm, F.kp, fun s us hl => binds_eq FD (fun kV doc pm an cdv ct => hb kV doc pm an cdv ct us hl) s⟩
end
end DD

set_option Elab.async false
set_option linter.all false
set_option maxRecDepth 100000
namespace PB
open PySem PySem.Spec PyProof.Rows L2 DD
def m_is_integer (tb : Tab) : MS := (retS (mAndV (mOpA (fIsiA tb) (mCons (mVar 0) (mCons (retM (.ty "int")) mNil))) (mNotV (mOpA (fIsiA tb) (mCons (mVar 0) (mCons (retM (.ty "bool")) mNil))))))
def phi_is_integer (tb : Tab) : FnD := fnM 1 1 (m_is_integer tb)
def m_is_integer_within (tb : Tab) : MS := (retS (mAndV (mCall (phi_is_integer tb) (mCons (mVar 0) mNil)) (mChain (fOrd pLe qLe) (fOrd pLe qLe) (mVar 1) (mVar 0) (mVar 2))))
def phi_is_integer_within (tb : Tab) : FnD := fnM 3 3 (m_is_integer_within tb)
def m_is_row (tb : Tab) : MS := (retS (mOpA (fIsiA tb) (mCons (mVar 0) (mCons (mOpA fTup (mCons (retM (.ty "list")) (mCons (retM (.ty "tuple")) mNil))) mNil))))
def phi_is_row (tb : Tab) : FnD := fnM 1 1 (m_is_row tb)
def m_is_word (tb : Tab) : MS := (seqS (ifS (mOr (mNot (mTst (mOpA (fIsiA tb) (mCons (mVar 0) (mCons (retM (.ty "str")) mNil))))) (mNot (mTst (mChain (fOrd pLe qLe) (fOrd pLe qLe) (retM (.int 1)) (mOpA fLen (mCons (mVar 0) mNil)) (retM (.int 8)))))) (retS (retM (.bl false))) nxS) (seqS (ifS (mNot (mTst (mChain (fOrd pLe qLe) (fOrd pLe qLe) (retM (.str "a")) (mOp2 fIx (mVar 0) (retM (.int 0))) (retM (.str "z"))))) (retS (retM (.bl false))) nxS) (retS (mOpA fAll (mCons (compM [1] (mSeq (mVar 0)) (nmT 1) yesM (mOrV (mChain (fOrd pLe qLe) (fOrd pLe qLe) (retM (.str "a")) (mVar 1) (retM (.str "z"))) (mChain (fOrd pLe qLe) (fOrd pLe qLe) (retM (.str "0")) (mVar 1) (retM (.str "9"))))) mNil)))))
def phi_is_word (tb : Tab) : FnD := fnM 1 2 (m_is_word tb)
def m_are_ascending (tb : Tab) : MS := (retS (mOpA fAll (mCons (compM [1, 2] (mZip (mCons (mVar 0) (mCons (mSl (mVar 0) (mPart (retM (.int 1))) mNoPart) mNil))) (tupT 2 (consT (nmT 1) (consT (nmT 2) nilT))) yesM (mOp2 (fOrd pLt qLt) (mVar 1) (mVar 2))) mNil)))
def phi_are_ascending (tb : Tab) : FnD := fnM 1 3 (m_are_ascending tb)
def m_is_sized_word (tb : Tab) : MS := (seqS (ifS (mOr (mNot (mTst (mCall (phi_is_row tb) (mCons (mVar 0) mNil)))) (mTst (mOp2 fNe (mOpA fLen (mCons (mVar 0) mNil)) (retM (.int 2))))) (retS (retM (.bl false))) nxS) (retS (mAndV (mCall (phi_is_word tb) (mCons (mOp2 fIx (mVar 0) (retM (.int 0))) mNil)) (mCall (phi_is_integer_within tb) (mCons (mOp2 fIx (mVar 0) (retM (.int 1))) (mCons (retM (.int 1)) (mCons (mVar 1) mNil)))))))
def phi_is_sized_word (tb : Tab) : FnD := fnM 2 2 (m_is_sized_word tb)
def b_product_of_1 (tb : Tab) : MS := (asgS (mOp2 fMul (mVar 1) (mVar 2)) (nmT 1))
def m_product_of (tb : Tab) : MS := (seqS (asgS (retM (.int 1)) (nmT 1)) (seqS (forS (mSeq (mVar 0)) (nmT 2) (b_product_of_1 tb)) (retS (mVar 1))))
def phi_product_of (tb : Tab) : FnD := fnM 1 3 (m_product_of tb)
def m_are_sizes (tb : Tab) : MS := (seqS (ifS (mOr (mNot (mTst (mCall (phi_is_row tb) (mCons (mVar 0) mNil)))) (mTst (mOp2 (fOrd pGt qGt) (mOpA fLen (mCons (mVar 0) mNil)) (mVar 1)))) (retS (retM (.bl false))) nxS) (seqS (ifS (mNot (mTst (mOpA fAll (mCons (compM [4] (mSeq (mVar 0)) (nmT 4) yesM (mCall (phi_is_sized_word tb) (mCons (mVar 4) (mCons (mVar 2) mNil)))) mNil)))) (retS (retM (.bl false))) nxS) (retS (mAndV (mCall (phi_are_ascending tb) (mCons (compM [4] (mSeq (mVar 0)) (nmT 4) yesM (mOp2 fIx (mVar 4) (retM (.int 0)))) mNil)) (mOp2 (fOrd pLe qLe) (mCall (phi_product_of tb) (mCons (compM [4] (mSeq (mVar 0)) (nmT 4) yesM (mOp2 fIx (mVar 4) (retM (.int 1)))) mNil)) (mVar 3))))))
def phi_are_sizes (tb : Tab) : FnD := fnM 4 5 (m_are_sizes tb)
def b_combined_1 (tb : Tab) : MS := (asgS (comp2M [3, 4] [4] (mSeq (mVar 1)) (nmT 3) (mSeq (mVar 2)) (nmT 4) (mOp2 fAdd (mVar 3) (mOpA fTup (mCons (mVar 4) mNil)))) (nmT 1))
def m_combined (tb : Tab) : MS := (seqS (asgS (mOpA fLst (mCons (mOpA fTup mNil) mNil)) (nmT 1)) (seqS (forS (mSeq (mVar 0)) (nmT 2) (b_combined_1 tb)) (retS (mVar 1))))
def phi_combined (tb : Tab) : FnD := fnM 1 5 (m_combined tb)
def b_place_number_1 (tb : Tab) : MS := (asgS (mOp2 fAdd (mOp2 fMul (mVar 2) (mVar 4)) (mVar 5)) (nmT 2))
def m_place_number (tb : Tab) : MS := (seqS (asgS (retM (.int 0)) (nmT 2)) (seqS (forS (mZip (mCons (mVar 0) (mCons (mVar 1) mNil))) (tupT 2 (consT (tupT 2 (consT (nmT 3) (consT (nmT 4) nilT))) (consT (nmT 5) nilT))) (b_place_number_1 tb)) (retS (mVar 2))))
def phi_place_number (tb : Tab) : FnD := fnM 2 6 (m_place_number tb)
def m_as_tuples (tb : Tab) : MS := (retS (mOpA fTuple (mCons (compM [1] (mSeq (mVar 0)) (nmT 1) yesM (mIf (mTst (mCall (phi_is_row tb) (mCons (mVar 1) mNil))) (mOpA fTuple (mCons (mVar 1) mNil)) (mVar 1))) mNil)))
def phi_as_tuples (tb : Tab) : FnD := fnM 1 2 (m_as_tuples tb)
def m_are_cells (tb : Tab) : MS := (seqS (ifS (mOr (mNot (mTst (mCall (phi_is_row tb) (mCons (mVar 0) mNil)))) (mTst (mOp2 fNe (mOpA fLen (mCons (mVar 0) mNil)) (mCall (phi_product_of tb) (mCons (compM [2, 3] (mSeq (mVar 1)) (tupT 2 (consT (nmT 2) (consT (nmT 3) nilT))) yesM (mVar 3)) mNil))))) (retS (retM (.bl false))) nxS) (retS (mOpA fAll (mCons (compM [4] (mSeq (mVar 0)) (nmT 4) yesM (mCall (phi_is_integer tb) (mCons (mVar 4) mNil))) mNil))))
def phi_are_cells (tb : Tab) : FnD := fnM 2 5 (m_are_cells tb)
def m_is_sides (tb : Tab) : MS := (retS (mCall (phi_are_sizes tb) (mCons (mVar 0) (mCons (retM (.int 4)) (mCons (retM (.int 6)) (mCons (retM (.int 200)) mNil))))))
def phi_is_sides (tb : Tab) : FnD := fnM 1 1 (m_is_sides tb)
def m_Array_init (tb : Tab) : MS := (seqS (ifS (mNot (mTst (mCall (phi_is_sides tb) (mCons (mVar 1) mNil)))) (raiseS "InvalidSides" ["sides"] (mCons (mVar 1) mNil)) nxS) (seqS (ifS (mNot (mTst (mCall (phi_are_cells tb) (mCons (mVar 2) (mCons (mVar 1) mNil))))) (raiseS "InvalidCells" ["cells"] (mCons (mVar 2) mNil)) nxS) (seqS (fldS tb "sides" (mCall (phi_as_tuples tb) (mCons (mVar 1) mNil)) (mVar 0)) (fldS tb "cells" (mOpA fTuple (mCons (mVar 2) mNil)) (mVar 0)))))
def phi_Array_init (tb : Tab) : FnD := fnM 3 3 (m_Array_init tb)
def m_Array_cell (tb : Tab) : MS := (retS (mOp2 fIx (mOp1 (fFld tb "cells") (mVar 0)) (mCall (phi_place_number tb) (mCons (mOp1 (fFld tb "sides") (mVar 0)) (mCons (mVar 1) mNil)))))
def phi_Array_cell (tb : Tab) : FnD := fnM 2 2 (m_Array_cell tb)
def m_Array_eq (tb : Tab) : MS := (retS (mAndV (mOpA (fIsiA tb) (mCons (mVar 1) (mCons (retM (.glo "Array")) mNil))) (mAndV (mOp2 fEq (mOp1 (fFld tb "sides") (mVar 0)) (mOp1 (fFld tb "sides") (mVar 1))) (mOp2 fEq (mOp1 (fFld tb "cells") (mVar 0)) (mOp1 (fFld tb "cells") (mVar 1))))))
def phi_Array_eq (tb : Tab) : FnD := fnM 2 2 (m_Array_eq tb)
def m_places (tb : Tab) : MS := (retS (mOpA fTuple (mCons (mCall (phi_combined tb) (mCons (compM [1, 2] (mSeq (mVar 0)) (tupT 2 (consT (nmT 1) (consT (nmT 2) nilT))) yesM (mTupRng (mVar 2))) mNil)) mNil)))
def phi_places (tb : Tab) : FnD := fnM 1 3 (m_places tb)
end PB

set_option Elab.async false
set_option linter.all false
set_option maxRecDepth 100000
set_option maxHeartbeats 1000000
namespace PB
open PySem PySem.Spec PyProof.Rows L2 DD
/-- what is asked of a table of facts -/
class Ok (tb : Tab) : Prop where
  std : Std tb
/-- and where arrays stand -/
class OkA (tb : Tab) : Prop where
  att_s : tb.attr "Array" "sides" = true
  att_c : tb.attr "Array" "cells" = true
variable {tb : Tab} [ok : Ok tb]
def isIntP (p : PyData) : Bool := decide (tyP p = "int")
def isRowP (p : PyData) : Bool := decide (tyP p = "list") || decide (tyP p = "tuple")
theorem sp_is_integer {d : D} {p : PyData} {S : So} {P : D → So → Prop} (h : Py S d p) (hP : P (.bl (isIntP p)) S) : okC (phi_is_integer tb [d] S) P := by
  unfold phi_is_integer
  refine okC_fn rfl ?_
  unfold m_is_integer
  simp only [startE, List.map, List.length, List.replicate, List.cons_append, List.nil_append]
  refine okS_ret ?_
  simp only [okM_andV, okM_notV, okM_opA, okM_cons, okM_var, okM_ret, okM_nil]
  refine ⟨_, rfl, ?_⟩
  rw [isi_ty ok.std h (by decide), okF_some]
  refine ⟨_, rfl, ?_⟩
  have e : isIntP p = if (decide (tyP p = "int") || (decide (tyP p = "bool") && decide ("int" = "int"))) = true then !(decide (tyP p = "bool") || (decide (tyP p = "bool") && decide ("bool" = "int"))) else false := by
    have nod := h.nod
    cases p <;> first | rfl | decide | (exact absurd rfl (nod _))
  split
  · rename_i hc
    rw [if_pos hc] at e
    refine ⟨_, rfl, ?_⟩
    rw [isi_ty ok.std h (by decide), okF_some]
    refine ⟨_, rfl, ?_⟩
    rw [← e]
    exact hP
  · rename_i hc
    rw [if_neg hc] at e
    rw [e] at hP
    exact hP
theorem isi_row {d : D} {p : PyData} {S : So} (h : Py S d p) : fIsiA tb [d, .tup [.ty "list", .ty "tuple"]] S = some (.bl (isRowP p), S) := by
  have k1 := ok.std.kit p h.nod "list" (by decide)
  have k2 := ok.std.kit p h.nod "tuple" (by decide)
  have t : tyOf tb d S = some (.inl (tyP p)) := h.ty
  have main : fIsi tb [d, .tup [.ty "list", .ty "tuple"]] S = some (.bl (isRowP p), S) := by
    unfold fIsi
    simp only [t, kitAll, clsN, k1, k2]
    show some _ = _
    unfold isRowP
    have nod := h.nod
    cases p <;> first | rfl | (exact absurd rfl (nod _))
  unfold fIsiA
  split
  · rename_i n c' e2
    cases e2
    split
    · rename_i cn fs e
      obtain ⟨k', _, h'⟩ := h
      cases k' with
      | zero => unfold toPy at h'; cases h'
      | succ k' => unfold toPy at h'; rw [e] at h'; cases h'
    · exact main
  · exact main
theorem sp_is_row {d : D} {p : PyData} {S : So} {P : D → So → Prop} (h : Py S d p) (hP : P (.bl (isRowP p)) S) : okC (phi_is_row tb [d] S) P := by
  unfold phi_is_row
  refine okC_fn rfl ?_
  unfold m_is_row
  simp only [startE, List.map, List.length, List.replicate, List.cons_append, List.nil_append]
  refine okS_ret ?_
  simp only [okM_opA, okM_cons, okM_var, okM_ret, okM_nil]
  refine ⟨_, rfl, ?_⟩
  rw [fTup_ok (by simp), okF_some, isi_row h, okF_some]
  exact hP
end PB

set_option Elab.async false
set_option linter.all false
set_option maxRecDepth 100000
set_option maxHeartbeats 1000000
namespace PB
open PySem PySem.Spec PyProof.Rows L2 DD
variable {tb : Tab} [ok : Ok tb]
@[simp] theorem okM_chain {f f' : F2} {a b c : MM D} {e : Sl} {S : So} {P : D → So → Prop} : okM (mChain f f' a b c) e S P ↔ okM a e S fun x S1 => okM b e S1 fun y S2 => okF (f x y S2) fun d S3 => ∃ k, d = .bl k ∧ if k then okM c e S3 (fun w S4 => okF (f' y w S4) P) else P (.bl false) S3 := by
  unfold mChain
  simp [okM_ite]
theorem Py.int_eq {S : So} {d : D} {v : Int} (h : Py S d (.int v)) : d = .int v := by
  obtain ⟨k, _, h⟩ := h
  cases d with
  | int w => unfold toPy at h; cases h; rfl
  | tup xs => unfold toPy at h; cases q : toPys S k xs <;> rw [q] at h <;> cases h
  | rol xs => unfold toPy at h; cases q : toPys S k xs <;> rw [q] at h <;> cases h
  | ref n =>
    cases k with
    | zero => unfold toPy at h; cases h
    | succ k =>
      unfold toPy at h
      split at h
      · rename_i xs q
        cases q2 : toPys S k xs <;> rw [q2] at h <;> cases h
      · cases h
  | _ => unfold toPy at h; cases h
theorem Py.str_eq {S : So} {d : D} {v : Str} (h : Py S d (.str v)) : d = .str v := by
  obtain ⟨k, _, h⟩ := h
  cases d with
  | str w => unfold toPy at h; cases h; rfl
  | tup xs => unfold toPy at h; cases q : toPys S k xs <;> rw [q] at h <;> cases h
  | rol xs => unfold toPy at h; cases q : toPys S k xs <;> rw [q] at h <;> cases h
  | ref n =>
    cases k with
    | zero => unfold toPy at h; cases h
    | succ k =>
      unfold toPy at h
      split at h
      · rename_i xs q
        cases q2 : toPys S k xs <;> rw [q2] at h <;> cases h
      · cases h
  | _ => unfold toPy at h; cases h
def withinP (p : PyData) (lo hi : Int) : Bool := match p with
  | .int v => decide (lo ≤ v) && decide (v ≤ hi)
  | _ => false
theorem sp_within {d : D} {p : PyData} {lo hi : Int} {S : So} {P : D → So → Prop} (h : Py S d p) (hP : P (.bl (withinP p lo hi)) S) : okC (phi_is_integer_within tb [d, .int lo, .int hi] S) P := by
  unfold phi_is_integer_within
  refine okC_fn rfl ?_
  unfold m_is_integer_within
  simp only [startE, List.map, List.length, List.replicate, List.cons_append, List.nil_append]
  refine okS_ret ?_
  simp only [okM_andV, okM_call, okM_cons, okM_var, okM_ret, okM_nil, okM_chain]
  refine ⟨_, rfl, sp_is_integer h ⟨_, rfl, ?_⟩⟩
  cases p with
  | int v =>
    have e := Py.int_eq h
    subst e
    rw [if_pos (by rfl)]
    refine ⟨_, rfl, _, rfl, ?_⟩
    rw [fOrd_int, okF_some]
    refine ⟨_, rfl, ?_⟩
    by_cases h1 : lo ≤ v
    · rw [if_pos (by simpa using h1)]
      refine ⟨_, rfl, ?_⟩
      rw [fOrd_int, okF_some]
      have e : withinP (.int v) lo hi = decide (v ≤ hi) := by simp [withinP, h1]
      rw [e] at hP
      exact hP
    · rw [if_neg (by simpa using h1)]
      have e : withinP (.int v) lo hi = false := by simp [withinP, h1]
      rw [e] at hP
      exact hP
  | none => rw [if_neg (by simp [isIntP, tyP])]; exact hP
  | bool _ => rw [if_neg (by simp [isIntP, tyP])]; exact hP
  | str _ => rw [if_neg (by simp [isIntP, tyP])]; exact hP
  | list _ => rw [if_neg (by simp [isIntP, tyP])]; exact hP
  | tuple _ => rw [if_neg (by simp [isIntP, tyP])]; exact hP
  | dict _ => rw [if_neg (by simp [isIntP, tyP])]; exact hP
/-! ### words -/
def btw (lo hi : Str) (c : Nat) : Bool := qLe lo.cps.toList [c] && qLe [c] hi.cps.toList
def signP (c : Nat) : Bool := btw "a" "z" c || btw "0" "9" c
def wordZ (z : Str) : Bool := (decide (1 ≤ z.length) && decide (z.length ≤ 8)) && ((match z.cps.toList with
  | [] => false
  | c :: _ => btw "a" "z" c) && z.cps.toList.all signP)
def wordP (p : PyData) : Bool := match p with
  | .str z => wordZ z
  | _ => false
theorem fOrd_str {p : Int → Int → Bool} {q : List Nat → List Nat → Bool} {x y : Str} {S : So} : fOrd p q (.str x) (.str y) S = some (.bl (q x.cps.toList y.cps.toList), S) := rfl
theorem ok_btw {e : Sl} {S : So} {lo hi : Str} {m : MM D} {c : Nat} {P : D → So → Prop} (hm : ∀ Q : D → So → Prop, Q (.str ⟨#[c]⟩) S → okM m e S Q) (hP : P (.bl (btw lo hi c)) S) : okM (mChain (fOrd pLe qLe) (fOrd pLe qLe) (retM (.str lo)) m (retM (.str hi))) e S P := by
  rw [okM_chain, okM_ret]
  refine hm _ ?_
  rw [fOrd_str, okF_some]
  refine ⟨_, rfl, ?_⟩
  by_cases h1 : qLe lo.cps.toList [c] = true
  · rw [if_pos h1, okM_ret, fOrd_str, okF_some]
    have e : btw lo hi c = qLe [c] hi.cps.toList := by unfold btw; rw [h1]; rfl
    rw [e] at hP
    exact hP
  · rw [if_neg h1]
    have e : btw lo hi c = false := by unfold btw; simp only [Bool.not_eq_true] at h1; rw [h1]; rfl
    rw [e] at hP
    exact hP
theorem sp_is_word {d : D} {p : PyData} {S : So} {P : D → So → Prop} (h : Py S d p) (hz : ∀ z, p = .str z → z.length ≤ 1000) (hP : ∀ T, Keep S T → P (.bl (wordP p)) T) : okC (phi_is_word tb [d] S) P := by
  unfold phi_is_word
  refine okC_fn rfl ?_
  unfold m_is_word
  simp only [startE, List.map, List.length, List.replicate, List.cons_append, List.nil_append]
  by_cases hs : ∃ z, p = .str z
  · obtain ⟨z, rfl⟩ := hs
    have e := Py.str_eq h
    subst e
    have hl := hz z rfl
    have hl2 : z.length ≤ sizeLine := by have := line200k; omega
    have fl : fLen [.str z] S = some (.int z.length, S) := by unfold fLen; dsimp only; rw [if_pos hl2]
    have test : ∀ Q : Bool → So → Prop, Q (!(decide (1 ≤ z.length) && decide (z.length ≤ 8))) S → okM (mOr (mNot (mTst (mOpA (fIsiA tb) (mCons (mVar 0) (mCons (retM (.ty "str")) mNil))))) (mNot (mTst (mChain (fOrd pLe qLe) (fOrd pLe qLe) (retM (.int 1)) (mOpA fLen (mCons (mVar 0) mNil)) (retM (.int 8)))))) [.v (.str z), .no] S Q := by
      intro Q hQ
      simp only [okM_or, okM_not, okM_tst, okM_opA, okM_cons, okM_var, okM_ret, okM_nil, okM_chain]
      refine ⟨_, rfl, ?_⟩
      rw [isi_ty ok.std h (by decide), okF_some]
      refine ⟨true, rfl, ?_⟩
      rw [if_neg (by decide)]
      refine ⟨_, rfl, ?_⟩
      rw [fl, okF_some, fOrd_int, okF_some]
      refine ⟨_, rfl, ?_⟩
      by_cases h1 : 1 ≤ z.length
      · have h1' : (1 : Int) ≤ (z.length : Int) := by omega
        rw [if_pos (by simpa using h1'), fOrd_int, okF_some]
        refine ⟨_, rfl, ?_⟩
        have e1 : pLe (z.length : Int) 8 = decide (z.length ≤ 8) := by
          unfold pLe
          by_cases h8 : z.length ≤ 8
          · rw [decide_eq_true h8, decide_eq_true (by omega)]
          · rw [decide_eq_false h8, decide_eq_false (by omega)]
        rw [e1]
        rw [decide_eq_true h1, Bool.true_and] at hQ
        exact hQ
      · have h1' : ¬ (1 : Int) ≤ (z.length : Int) := by omega
        rw [if_neg (by simpa using h1')]
        refine ⟨false, rfl, ?_⟩
        rw [decide_eq_false h1, Bool.false_and] at hQ
        exact hQ
    by_cases hw : (decide (1 ≤ z.length) && decide (z.length ≤ 8)) = true
    · refine okS_seq (okS_ifF (test _ ⟨by rw [hw]; rfl, okS_nx ?_⟩))
      obtain ⟨c, r, hc⟩ : ∃ c r, z.cps.toList = c :: r := by
        cases q : z.cps.toList with
        | nil =>
          have : z.length = 0 := by
            show z.cps.size = 0
            rw [← Array.length_toList, q]; rfl
          rw [this] at hw
          exact absurd hw (by decide)
        | cons c r => exact ⟨c, r, rfl⟩
      have ix0 : ∀ Q : D → So → Prop, Q (.str ⟨#[c]⟩) S → okM (mOp2 fIx (mVar 0) (retM (.int 0))) [.v (.str z), .no] S Q := by
        intro Q hQ
        rw [okM_op2, okM_var]
        refine ⟨_, rfl, ?_⟩
        rw [okM_ret]
        have a0 : atI (c :: r) 0 = some c := by
          unfold atI ixN
          simp
        unfold fIx
        dsimp only
        rw [if_pos hl2, hc, a0]
        exact okF_some.mpr hQ
      by_cases h1 : btw "a" "z" c = true
      · refine okS_seq (okS_ifF ?_)
        rw [okM_not, okM_tst]
        refine ok_btw ix0 ⟨_, rfl, by rw [h1]; rfl, okS_nx ?_⟩
        refine okS_ret ?_
        rw [okM_opA]
        refine okM_cons.mpr (okM_each ?_)
        rw [okM_var]
        refine ⟨_, rfl, itFix (DD.signs z), DD.signs z, rfl, ⟨rfl, fun _ _ _ => rfl⟩, ?_, fun i y => ∃ c, z.cps.toList[i]? = some c ∧ y = .bl (signP c), ?_, ?_⟩
        · have : (DD.signs z).length = z.length := by simp [DD.signs]; rfl
          rw [this]
          have := line200
          have : z.length ≤ 8 := by simpa using (Bool.and_eq_true_iff.mp hw).2
          omega
        · intro i x T hk hx
          have hx' : ∃ c, z.cps.toList[i]? = some c ∧ x = .str ⟨#[c]⟩ := by
            unfold DD.signs at hx
            rw [List.getElem?_map] at hx
            obtain ⟨c, h1, h2⟩ := Option.map_eq_some_iff.mp hx
            exact ⟨c, h1, h2.symm⟩
          obtain ⟨c2, hc2, rfl⟩ := hx'
          refine ⟨_, rfl, ?_⟩
          have var1 : ∀ Q : D → So → Prop, Q (.str ⟨#[c2]⟩) T → okM (mVar 1) [.v (.str z), .v (.str ⟨#[c2]⟩)] T Q := fun Q hQ => okM_var.mpr ⟨_, rfl, hQ⟩
          show okM _ [.v (.str z), .v (.str ⟨#[c2]⟩)] T _
          rw [okM_orV]
          refine ok_btw var1 ⟨_, rfl, ?_⟩
          by_cases h2 : btw "a" "z" c2 = true
          · rw [if_pos h2]
            exact ⟨Keep.refl _, c2, hc2, by unfold signP; rw [h2]; rfl⟩
          · rw [if_neg h2]
            refine ok_btw var1 ⟨Keep.refl _, c2, hc2, ?_⟩
            simp only [Bool.not_eq_true] at h2
            unfold signP
            rw [h2]
            rfl
        · intro ys T hk hT hl3 hV
          have hys : ys = (z.cps.toList.map signP).map .bl := by
            apply List.ext_getElem?
            intro i
            have ll : (DD.signs z).length = z.cps.toList.length := by simp [DD.signs]
            by_cases hi : i < ys.length
            · obtain ⟨c2, g1, g2⟩ := hV i ys[i] (List.getElem?_eq_getElem hi)
              rw [List.getElem?_eq_getElem hi, g2]
              simp only [List.getElem?_map, g1, Option.map_some]
            · rw [List.getElem?_eq_none (by omega), List.getElem?_eq_none (by simp only [List.length_map]; omega)]
          rw [hys] at hT
          rw [okM_nil, fAll_ok hT, okF_some]
          have e : wordP (.str z) = (z.cps.toList.map signP).all id := by
            show wordZ z = _
            unfold wordZ
            rw [hw, Bool.true_and, hc]
            simp only [h1, Bool.true_and, List.all_map]
            rfl
          rw [← e]
          exact hP T hk
      · refine okS_seq (okS_ifT ?_)
        rw [okM_not, okM_tst]
        simp only [Bool.not_eq_true] at h1
        refine ok_btw ix0 ⟨_, rfl, by rw [h1]; rfl, okS_ret ?_⟩
        rw [okM_ret]
        have e : wordP (.str z) = false := by
          show wordZ z = false
          unfold wordZ
          rw [hw, hc]
          simp only [h1, Bool.false_and, Bool.and_false]
        rw [e] at hP
        exact hP S (Keep.refl _)
    · refine okS_seq (okS_ifT (test _ ⟨by simp only [Bool.not_eq_true] at hw; rw [hw]; rfl, okS_ret ?_⟩))
      rw [okM_ret]
      have e : wordP (.str z) = false := by
        show wordZ z = false
        unfold wordZ
        simp only [Bool.not_eq_true] at hw
        rw [hw, Bool.false_and]
      rw [e] at hP
      exact hP S (Keep.refl _)
  · have e1 : wordP p = false := by
      cases p <;> first | rfl | (exact absurd ⟨_, rfl⟩ hs)
    have e2 : (decide (tyP p = "str") || (decide (tyP p = "bool") && decide ("str" = "int"))) = false := by
      cases p <;> first | (simp [tyP]; done) | (exact absurd ⟨_, rfl⟩ hs)
    refine okS_seq (okS_ifT ?_)
    simp only [okM_or, okM_not, okM_tst, okM_opA, okM_cons, okM_var, okM_ret, okM_nil]
    refine ⟨_, rfl, ?_⟩
    rw [isi_ty ok.std h (by decide), okF_some, e2]
    refine ⟨false, rfl, ?_⟩
    rw [if_pos (by decide)]
    refine ⟨by decide, okS_ret ?_⟩
    rw [okM_ret]
    rw [e1] at hP
    exact hP S (Keep.refl _)
end PB

set_option Elab.async false
set_option linter.all false
set_option maxRecDepth 100000
set_option maxHeartbeats 1000000
namespace PB
open PySem PySem.Spec PyProof.Rows L2 DD
variable {tb : Tab} [ok : Ok tb]
theorem fNe_int {i j : Int} {S : So} : fNe (.int i) (.int j) S = some (.bl (!(i == j)), S) := by
  have h1 : ∀ k : Int, py (.int k) S = some (.int k) := fun k => by unfold py toPy; rfl
  unfold fNe
  dsimp only
  unfold eqD
  rw [h1, h1]
  dsimp only
  rw [if_pos ⟨shaped_int, shaped_int⟩]
  rfl
/-- a pair, as a list or a tuple -/
def Pair (p a b : PyData) : Prop := p = .list [a, b] ∨ p = .tuple [a, b]
theorem Row.two {S : So} {d : D} {p1 p2 : PyData} (h : Row S d [p1, p2]) : ∃ b x1 x2, seqOf d S = some (b, [x1, x2]) ∧ Py S x1 p1 ∧ Py S x2 p2 := by
  obtain ⟨b, xs, h1, h2, h3⟩ := h
  match xs, h2 with
  | [x1, x2], _ =>
    obtain ⟨q1, g1, g2⟩ := h3 0 x1 rfl
    obtain ⟨q2, g3, g4⟩ := h3 1 x2 rfl
    cases g1
    cases g3
    exact ⟨b, x1, x2, h1, g2, g4⟩
theorem pair_seq {S : So} {d : D} {p a b : PyData} (h : Py S d p) (hp : Pair p a b) : ∃ k x y, seqOf d S = some (k, [x, y]) ∧ Py S x a ∧ Py S y b := Row.two (h.row hp)
theorem fLen_seq {S : So} {d : D} {b : Bool} {xs : List D} (h : seqOf d S = some (b, xs)) : fLen [d] S = some (.int xs.length, S) := by
  unfold fLen
  cases d <;> first | (unfold seqOf at h; cases h; done) | (dsimp only; rw [h])
theorem fIx_seq {S : So} {d : D} {b : Bool} {xs : List D} {i : Int} {x : D} (h : seqOf d S = some (b, xs)) (h2 : atI xs i = some x) : fIx d (.int i) S = some (x, S) := by
  unfold fIx
  cases d <;> first | (unfold seqOf at h; cases h; done) | (dsimp only; rw [h]; dsimp only; rw [h2]; rfl)
theorem fold_take {zs : List Int} {i : Nat} {z : Int} (h : zs[i]? = some z) : (zs.take (i + 1)).foldl (· * ·) 1 = (zs.take i).foldl (· * ·) 1 * z := by
  rw [List.take_add_one, h]
  simp
theorem sp_product {d : D} {zs : List Int} {S : So} {b : Bool} {P : D → So → Prop} (h : seqOf d S = some (b, zs.map .int)) (hz : ∀ z ∈ zs, -(2 ^ 64) < z ∧ z < 2 ^ 64) (hP : P (.int (zs.foldl (· * ·) 1)) S) : okC (phi_product_of tb [d] S) P := by
  unfold phi_product_of
  refine okC_fn rfl ?_
  unfold m_product_of
  simp only [startE, List.map, List.length, List.replicate, List.cons_append, List.nil_append]
  refine okS_seq (okS_asg (okM_ret.mpr ?_))
  refine okS_seq (okS_each (okM_var.mpr ⟨d, rfl, ?_⟩))
  obtain ⟨it, i1, i2⟩ := seqI_row (e := ([.v d, .v (.int 1), .no] : Sl)) h
  refine ⟨it, _, i1, i2, fun i e2 S2 => S2 = S ∧ ∃ s2, e2 = [.v d, .v (.int ((zs.take i).foldl (· * ·) 1)), s2], ⟨rfl, .no, rfl⟩, ?_, ?_⟩
  · rintro i e2 S2 x hk hx ⟨rfl, s2, rfl⟩
    rw [List.getElem?_map] at hx
    obtain ⟨z, g1, rfl⟩ := Option.map_eq_some_iff.mp hx
    refine ⟨_, rfl, ?_⟩
    unfold b_product_of_1
    refine okS_asg ?_
    simp only [okM_op2, okM_var]
    refine ⟨_, rfl, _, rfl, ?_⟩
    rw [okF_mul]
    refine ⟨cm (hz z (List.mem_of_getElem? g1)), Keep.refl _, rfl, .v (.int z), ?_⟩
    rw [fold_take g1]
    rfl
  · rintro e2 S2 hk ⟨rfl, s2, rfl⟩
    refine okS_ret (okM_var.mpr ⟨_, rfl, ?_⟩)
    have e : zs.take (zs.map D.int).length = zs := List.take_of_length_le (by simp)
    rw [e]
    exact hP
/-- a pair of a word and a size from 1 to L -/
def sizedP (L : Int) (p : PyData) : Bool := match p with
  | .list [a, b] => wordP a && withinP b 1 L
  | .tuple [a, b] => wordP a && withinP b 1 L
  | _ => false
/-- texts of at most a thousand signs, at the top and one below -/
def shortP (p : PyData) : Prop := (∀ z, p = .str z → z.length ≤ 1000)
theorem sp_sized {d : D} {p : PyData} {L : Int} {S : So} {P : D → So → Prop} (h : Py S d p) (hs : ∀ ps, (p = .list ps ∨ p = .tuple ps) → ∀ a ∈ ps, shortP a) (hP : ∀ T, Keep S T → P (.bl (sizedP L p)) T) : okC (phi_is_sized_word tb [d, .int L] S) P := by
  unfold phi_is_sized_word
  refine okC_fn rfl ?_
  unfold m_is_sized_word
  simp only [startE, List.map, List.length, List.replicate, List.cons_append, List.nil_append]
  by_cases hr : ∃ ps, p = .list ps ∨ p = .tuple ps
  · obtain ⟨ps, hp⟩ := hr
    have hR : isRowP p = true := by rcases hp with rfl | rfl <;> rfl
    obtain ⟨b, xs, r1, r2, r3⟩ := h.row hp
    have test : ∀ Q : Bool → So → Prop, Q (!(decide (ps.length = 2))) S → okM (mOr (mNot (mTst (mCall (phi_is_row tb) (mCons (mVar 0) mNil)))) (mTst (mOp2 fNe (mOpA fLen (mCons (mVar 0) mNil)) (retM (.int 2))))) [.v d, .v (.int L)] S Q := by
      intro Q hQ
      simp only [okM_or, okM_not, okM_tst, okM_call, okM_opA, okM_op2, okM_cons, okM_var, okM_ret, okM_nil]
      refine ⟨_, rfl, sp_is_row h ⟨_, rfl, ?_⟩⟩
      rw [hR, if_neg (by decide)]
      refine ⟨_, rfl, ?_⟩
      rw [fLen_seq r1, okF_some, fNe_int, okF_some]
      refine ⟨_, rfl, ?_⟩
      have e : ((xs.length : Int) == 2) = decide (ps.length = 2) := by
        rw [r2]
        by_cases h2 : ps.length = 2
        · rw [h2]; rfl
        · rw [decide_eq_false h2]
          simp
          omega
      rw [e]
      exact hQ
    by_cases h2 : ps.length = 2
    · obtain ⟨a, c, rfl⟩ : ∃ a c, ps = [a, c] := by
        match ps, h2 with
        | [a, c], _ => exact ⟨a, c, rfl⟩
      refine okS_seq (okS_ifF (test _ ⟨by rw [decide_eq_true h2]; rfl, okS_nx ?_⟩))
      obtain ⟨k, x, y, q1, q2, q3⟩ := pair_seq (a := a) (b := c) h hp
      refine okS_ret ?_
      simp only [okM_andV, okM_call, okM_op2, okM_cons, okM_var, okM_ret, okM_nil]
      refine ⟨_, rfl, ?_⟩
      rw [fIx_seq q1 (x := x) rfl, okF_some]
      refine sp_is_word q2 (hs _ hp a (by simp)) fun T hT => ⟨_, rfl, ?_⟩
      have e : sizedP L p = (wordP a && withinP c 1 L) := by rcases hp with rfl | rfl <;> rfl
      by_cases hw : wordP a = true
      · rw [if_pos hw]
        refine ⟨_, rfl, ?_⟩
        obtain ⟨k2, x2, y2, u1, u2, u3⟩ := pair_seq (a := a) (b := c) (h.up hT) hp
        rw [fIx_seq u1 (x := y2) rfl, okF_some]
        refine ⟨_, rfl, sp_within u3 ?_⟩
        rw [hw, Bool.true_and] at e
        rw [← e]
        exact hP T hT
      · rw [if_neg hw]
        simp only [Bool.not_eq_true] at hw
        rw [hw, Bool.false_and] at e
        have := hP T hT
        rw [e] at this
        exact this
    · refine okS_seq (okS_ifT (test _ ⟨by rw [decide_eq_false h2]; rfl, okS_ret (okM_ret.mpr ?_)⟩))
      have e : sizedP L p = false := by
        rcases hp with rfl | rfl
        · unfold sizedP
          split
          · rename_i e; cases e; exact absurd rfl h2
          · rename_i e; cases e
          · rfl
        · unfold sizedP
          split
          · rename_i e; cases e
          · rename_i e; cases e; exact absurd rfl h2
          · rfl
      have := hP S (Keep.refl _)
      rw [e] at this
      exact this
  · have hR : isRowP p = false := by
      cases p <;> first | rfl | (exact absurd ⟨_, .inl rfl⟩ hr) | (exact absurd ⟨_, .inr rfl⟩ hr)
    have e : sizedP L p = false := by
      cases p <;> first | rfl | (exact absurd ⟨_, .inl rfl⟩ hr) | (exact absurd ⟨_, .inr rfl⟩ hr)
    refine okS_seq (okS_ifT ?_)
    simp only [okM_or, okM_not, okM_tst, okM_call, okM_opA, okM_op2, okM_cons, okM_var, okM_ret, okM_nil]
    refine ⟨_, rfl, sp_is_row h ⟨_, rfl, ?_⟩⟩
    rw [hR, if_pos (by decide)]
    refine ⟨by decide, okS_ret (okM_ret.mpr ?_)⟩
    have := hP S (Keep.refl _)
    rw [e] at this
    exact this
end PB

set_option Elab.async false
set_option linter.all false
set_option maxRecDepth 100000
set_option maxHeartbeats 1000000
namespace PB
open PySem PySem.Spec PyProof.Rows L2 DD
variable {tb : Tab} [ok : Ok tb]
/-- a comprehension over any walk whose items stay -/
theorem okM_eachG {own : List Nat} {mi : MM Itm} {t : Tg} {te : MM D} {e : Sl} {S : So} {P : D → So → Prop} (h : okM mi e S fun it S1 => ∃ xs, SeqIt .non xs it S1 ∧ xs.length < sizeLine ∧ ∃ V : Nat → D → Prop,
    (∀ i x T, Keep S1 T → xs[i]? = some x → ∃ e3, t x T (wipeE e own) = some e3 ∧ okM te e3 T fun y U => Keep T U ∧ V i y) ∧
    ∀ ys T, Keep S1 T → T[S1.length]? = some (.lst ys) → ys.length = xs.length → (∀ (i : Nat) (y : D), ys[i]? = some y → V i y) → P (.ref S1.length) T) : okM (compM own mi t yesM te) e S P := by
  refine okM_comp (h.imp fun it S1 q => ?_)
  obtain ⟨xs, ⟨h2, h3⟩, hl, V, h4, h5⟩ := q
  refine ⟨fun i T => Keep S1 T ∧ i ≤ xs.length ∧ ∃ acc, T[S1.length]? = some (.lst acc) ∧ acc.length = i ∧ ∀ (j : Nat) (y : D), acc[j]? = some y → V j y, ⟨Keep.app _ _, Nat.zero_le _, [], get_new, rfl, fun j y z => by simp at z⟩, ?_⟩
  rintro i T ⟨k1, k2, acc, k3, k4, k5⟩
  by_cases hi : i < xs.length
  · obtain ⟨e3, g1, g2⟩ := h4 i xs[i] T k1 (List.getElem?_eq_getElem hi)
    refine .inr ⟨by omega, xs[i], e3, by rw [h3 T k1 i, List.getElem?_eq_getElem hi], g1, g2.imp fun y U q => ?_⟩
    have u1 := q.1 _ _ k3
    have lU : S1.length < U.length := (List.getElem?_eq_some_iff.mp u1).1
    refine ⟨acc, u1, by omega, fun n o z => ?_, hi, acc ++ [y], List.getElem?_set_self lU, by simp [k4], fun j z hz => ?_⟩
    · have hn : n < S1.length := (List.getElem?_eq_some_iff.mp z).1
      rw [List.getElem?_set_ne (by omega)]
      exact (k1.trans q.1) n o z
    · by_cases hj : j < acc.length
      · rw [List.getElem?_append_left hj] at hz
        exact k5 j z hz
      · rw [List.getElem?_append_right (by omega)] at hz
        have hj2 : j - acc.length = 0 := by
          have := (List.getElem?_eq_some_iff.mp hz).1
          simp at this
          omega
        rw [hj2] at hz
        simp at hz
        subst hz
        have ej : j = i := by omega
        rw [ej]
        exact q.2
  · have ei : i = xs.length := by omega
    subst ei
    exact .inl ⟨by rw [h3 T k1, List.getElem?_eq_none (Nat.le_refl _)], h5 acc T k1 k3 k4 k5⟩
theorem zip_get : ∀ (xs ys : List D) (i : Nat), ((xs.zip ys).map fun p => D.tup [p.1, p.2])[i]? = match xs[i]?, ys[i]? with
    | some x, some y => some (.tup [x, y])
    | _, _ => none
  | [], ys, i => by simp
  | x :: xs, [], i => by cases i <;> simp <;> (split <;> simp_all)
  | x :: xs, y :: ys, 0 => by simp
  | x :: xs, y :: ys, i + 1 => by simpa using zip_get xs ys i
/-- zip of two lists of the store -/
theorem zip_lists {e : Sl} {S : So} {n m : Nat} {xs ys : List D} (h1 : S[n]? = some (.lst xs)) (h2 : S[m]? = some (.lst ys)) : ∃ it, zipI [.ref n, .ref m] e S = some (.ok it, S) ∧ SeqIt .non ((xs.zip ys).map fun p => .tup [p.1, p.2]) it S := by
  have s1 : ∀ T, Keep S T → seqOf (.ref n) T = some (false, xs) := fun T k => by unfold seqOf; simp [k _ _ h1]
  have s2 : ∀ T, Keep S T → seqOf (.ref m) T = some (false, ys) := fun T k => by unfold seqOf; simp [k _ _ h2]
  refine ⟨⟨min xs.length ys.length, DD.pairAt (.ref n) (.ref m)⟩, ?_, by simp, fun T k i => ?_⟩
  · unfold zipI
    dsimp only
    rw [s1 S (Keep.refl _), s2 S (Keep.refl _)]
    rfl
  · unfold DD.pairAt
    dsimp only
    rw [s1 T k, s2 T k]
    dsimp only
    rw [if_pos rfl]
    rw [zip_get]
    all_goals (cases xs[i]? <;> cases ys[i]? <;> rfl)
def ascP (ws : List Str) : Bool := (ws.zip (ws.drop 1)).all fun p => qLt p.1.cps.toList p.2.cps.toList

theorem sp_asc {n : Nat} {ws : List Str} {S : So} {P : D → So → Prop} (h : S[n]? = some (.lst (ws.map .str))) (hl : ws.length ≤ 1000) (hP : ∀ T, Keep S T → P (.bl (ascP ws)) T) : okC (phi_are_ascending tb [.ref n] S) P := by
  unfold phi_are_ascending
  refine okC_fn rfl ?_
  unfold m_are_ascending
  simp only [startE, List.map, List.length, List.replicate, List.cons_append, List.nil_append]
  refine okS_ret ?_
  rw [okM_opA]
  refine okM_cons.mpr (okM_eachG ?_)
  unfold mZip mSl mPart mNoPart
  simp only [okM_bind, okM_cons, okM_var, okM_ret, okM_nil, okM_lift]
  refine ⟨_, rfl, _, rfl, _, S, rfl, ?_⟩
  have e1 : fSl (.ref n) (some 1) none S = some (.ref S.length, S ++ [.lst ((ws.map D.str).drop 1)]) := by
    unfold fSl
    dsimp only
    have : seqOf (.ref n) S = some (false, ws.map D.str) := by unfold seqOf; simp [h]
    rw [this]
    dsimp only
    have e2 : DD.cutD (ws.map D.str) (some 1) none = (ws.map D.str).drop 1 := by
      cases hx : ws.map D.str with
      | nil => rfl
      | cons x r =>
        unfold DD.cutD
        have e3 : HT.sIx (x :: r).length 0 (some 1) = 1 := by
          have := HT.sIx_nat (x :: r).length 0 1
          rw [show ((1 : Nat) : Int) = 1 from rfl] at this
          rw [this]
          simp
        rw [e3, HT.sIx_none]
        simp
    rw [e2]
  show okF (fSl (.ref n) (some 1) none S) _
  rw [e1, okF_some]
  obtain ⟨it, z1, z2⟩ := zip_lists (e := [Sv.v (D.ref n), .no, .no]) (S := S ++ [.lst ((ws.map D.str).drop 1)]) (get_app h) get_new
  refine ⟨it, _, z1, _, z2, ?_, fun i y => ∃ p, (ws.zip (ws.drop 1))[i]? = some p ∧ y = .bl (qLt p.1.cps.toList p.2.cps.toList), ?_, ?_⟩
  · simp
    have := line200k
    omega
  · intro i x T hk hx
    have hx2 : ∃ p, (ws.zip (ws.drop 1))[i]? = some p ∧ x = .tup [.str p.1, .str p.2] := by
      rw [← List.map_drop, List.zip_map, List.map_map] at hx
      rw [List.getElem?_map] at hx
      obtain ⟨p, g1, g2⟩ := Option.map_eq_some_iff.mp hx
      exact ⟨p, g1, g2.symm⟩
    obtain ⟨p, g1, rfl⟩ := hx2
    refine ⟨_, rfl, ?_⟩
    rw [okM_op2, okM_var]
    refine ⟨_, rfl, ?_⟩
    rw [okM_var]
    refine ⟨_, rfl, ?_⟩
    rw [fOrd_str, okF_some]
    exact ⟨Keep.refl _, p, g1, rfl⟩
  · intro ys T hk hT hl2 hV
    have hys : ys = ((ws.zip (ws.drop 1)).map fun p => qLt p.1.cps.toList p.2.cps.toList).map .bl := by
      apply List.ext_getElem?
      intro i
      by_cases hi : i < ys.length
      · obtain ⟨p, g1, g2⟩ := hV i ys[i] (List.getElem?_eq_getElem hi)
        rw [List.getElem?_eq_getElem hi, g2]
        simp only [List.getElem?_map, g1, Option.map_some]
      · rw [List.getElem?_eq_none (by omega), List.getElem?_eq_none]
        simp at hl2 ⊢
        omega
    rw [hys] at hT
    rw [fAll_ok hT, okF_some]
    have e : ascP ws = (((ws.zip (ws.drop 1)).map fun p => qLt p.1.cps.toList p.2.cps.toList)).all id := by
      unfold ascP
      rw [List.all_map]
      rfl
    rw [← e]
    exact hP T ((Keep.app _ _).trans hk)
end PB

set_option Elab.async false
set_option linter.all false
set_option maxRecDepth 100000
set_option maxHeartbeats 1000000
namespace PB
open PySem PySem.Spec PyProof.Rows L2 DD
variable {tb : Tab} [ok : Ok tb]
def nameP (p : PyData) : Str := match p with
  | .list (.str n :: _) => n
  | .tuple (.str n :: _) => n
  | _ => Str.empty
def sizeP (p : PyData) : Int := match p with
  | .list [_, .int z] => z
  | .tuple [_, .int z] => z
  | _ => 0
def sizesL (most : Nat) (L many : Int) (ps : List PyData) : Bool := decide (ps.length ≤ most) && (ps.all (sizedP L) && (ascP (ps.map nameP) && decide ((ps.map sizeP).foldl (· * ·) 1 ≤ many)))
def sizesP (most : Nat) (L many : Int) (p : PyData) : Bool := match p with
  | .list ps => sizesL most L many ps
  | .tuple ps => sizesL most L many ps
  | _ => false
abbrev sideP : PyData → Bool := sizedP 6
abbrev sidesL : List PyData → Bool := sizesL 4 6 200
abbrev sidesP : PyData → Bool := sizesP 4 6 200
theorem word_str {p : PyData} (h : wordP p = true) : ∃ n, p = .str n := by
  cases p <;> first | exact ⟨_, rfl⟩ | (exact absurd h (by simp [wordP]))
theorem within_int {p : PyData} {lo hi : Int} (h : withinP p lo hi = true) : ∃ z, p = .int z ∧ lo ≤ z ∧ z ≤ hi := by
  cases p with
  | int z => simp [withinP] at h; exact ⟨z, rfl, h.1, h.2⟩
  | _ => exact absurd h (by simp [withinP])
theorem sized_shape {L : Int} {p : PyData} (h : sizedP L p = true) : ∃ n z, Pair p (.str n) (.int z) ∧ wordZ n = true ∧ 1 ≤ z ∧ z ≤ L ∧ nameP p = n ∧ sizeP p = z := by
  unfold sizedP at h
  split at h
  · obtain ⟨h1, h2⟩ := Bool.and_eq_true_iff.mp h
    obtain ⟨n, rfl⟩ := word_str h1
    obtain ⟨z, rfl, h3, h4⟩ := within_int h2
    exact ⟨n, z, .inl rfl, h1, h3, h4, rfl, rfl⟩
  · obtain ⟨h1, h2⟩ := Bool.and_eq_true_iff.mp h
    obtain ⟨n, rfl⟩ := word_str h1
    obtain ⟨z, rfl, h3, h4⟩ := within_int h2
    exact ⟨n, z, .inr rfl, h1, h3, h4, rfl, rfl⟩
  · cases h
theorem side_shape {p : PyData} (h : sideP p = true) : ∃ n z, Pair p (.str n) (.int z) ∧ wordZ n = true ∧ 1 ≤ z ∧ z ≤ 6 ∧ nameP p = n ∧ sizeP p = z := sized_shape h
theorem sized_small {L : Int} {ps : List PyData} (hL : L < 2 ^ 64) (h : ps.all (sizedP L) = true) : ∀ z ∈ ps.map sizeP, -(2 ^ 64) < z ∧ z < 2 ^ 64 := by
  intro z hz
  obtain ⟨p, hp, rfl⟩ := List.mem_map.mp hz
  obtain ⟨n, z, h1, h2, h3, h4, h5, h6⟩ := sized_shape (List.all_eq_true.mp h p hp)
  rw [h6]
  omega
/-- short texts, two below the top -/
def Short2 (p : PyData) : Prop := ∀ ps, (p = .list ps ∨ p = .tuple ps) → ps.length ≤ 1000 ∧ ∀ q ∈ ps, ∀ qs, (q = .list qs ∨ q = .tuple qs) → ∀ a ∈ qs, shortP a
theorem sp_sizes {d : D} {p : PyData} {most : Nat} {L many : Int} (hL : L < 2 ^ 64) {S : So} {P : D → So → Prop} (h : Py S d p) (hs : Short2 p) (hP : ∀ T, Keep S T → P (.bl (sizesP most L many p)) T) : okC (phi_are_sizes tb [d, .int (most : Nat), .int L, .int many] S) P := by
  unfold phi_are_sizes
  refine okC_fn rfl ?_
  unfold m_are_sizes
  simp only [startE, List.map, List.length, List.replicate, List.cons_append, List.nil_append]
  by_cases hr : ∃ ps, p = .list ps ∨ p = .tuple ps
  · obtain ⟨ps, hp⟩ := hr
    have hR : isRowP p = true := by rcases hp with rfl | rfl <;> rfl
    have hE : sizesP most L many p = sizesL most L many ps := by rcases hp with rfl | rfl <;> rfl
    obtain ⟨hl, hs2⟩ := hs ps hp
    obtain ⟨b, xs, r1, r2, r3⟩ := h.row hp
    have test : ∀ Q : Bool → So → Prop, Q (!(decide (ps.length ≤ most))) S → okM (mOr (mNot (mTst (mCall (phi_is_row tb) (mCons (mVar 0) mNil)))) (mTst (mOp2 (fOrd pGt qGt) (mOpA fLen (mCons (mVar 0) mNil)) (mVar 1)))) [.v d, .v (.int (most : Nat)), .v (.int L), .v (.int many), .no] S Q := by
      intro Q hQ
      simp only [okM_or, okM_not, okM_tst, okM_call, okM_opA, okM_op2, okM_cons, okM_var, okM_ret, okM_nil]
      refine ⟨_, rfl, sp_is_row h ⟨_, rfl, ?_⟩⟩
      rw [hR, if_neg (by decide)]
      refine ⟨_, rfl, ?_⟩
      rw [fLen_seq r1, okF_some]
      refine ⟨_, rfl, ?_⟩
      rw [fOrd_int, okF_some]
      refine ⟨_, rfl, ?_⟩
      have e : pGt (xs.length : Int) (most : Nat) = !(decide (ps.length ≤ most)) := by
        unfold pGt
        rw [r2]
        by_cases h4 : ps.length ≤ most
        · rw [decide_eq_true h4, decide_eq_false (by omega)]; rfl
        · rw [decide_eq_false h4, decide_eq_true (by omega)]; rfl
      rw [e]
      exact hQ
    by_cases h4 : ps.length ≤ most
    · refine okS_seq (okS_ifF (test _ ⟨by rw [decide_eq_true h4]; rfl, okS_nx ?_⟩))
      have all1 : ∀ Q : Bool → So → Prop, (∀ T, Keep S T → Q (ps.all (sizedP L)) T) → okM (mTst (mOpA fAll (mCons (compM [4] (mSeq (mVar 0)) (nmT 4) yesM (mCall (phi_is_sized_word tb) (mCons (mVar 4) (mCons (mVar 2) mNil)))) mNil))) [.v d, .v (.int (most : Nat)), .v (.int L), .v (.int many), .no] S Q := by
        intro Q hQ
        rw [okM_tst, okM_opA]
        refine okM_cons.mpr (okM_each (okM_var.mpr ⟨d, rfl, ?_⟩))
        obtain ⟨it, i1, i2⟩ := seqI_row (e := ([.v d, .v (.int (most : Nat)), .v (.int L), .v (.int many), .no] : Sl)) r1
        refine ⟨it, xs, i1, i2, by have := line200k; omega, fun i y => ∃ q, ps[i]? = some q ∧ y = .bl (sizedP L q), ?_, ?_⟩
        · intro i x T hk hx
          obtain ⟨q, g1, g2⟩ := r3 i x hx
          refine ⟨_, rfl, ?_⟩
          simp only [okM_call, okM_cons, okM_var, okM_nil]
          exact ⟨x, rfl, _, rfl, sp_sized (g2.up hk) (fun qs hq => hs2 q (List.mem_of_getElem? g1) qs hq) fun U hU => ⟨hU, q, g1, rfl⟩⟩
        · intro ys T hk hT hl2 hV
          have hys : ys = (ps.map (sizedP L)).map .bl := by
            apply List.ext_getElem?
            intro i
            by_cases hi : i < ys.length
            · obtain ⟨q, g1, g2⟩ := hV i ys[i] (List.getElem?_eq_getElem hi)
              rw [List.getElem?_eq_getElem hi, g2]
              simp only [List.getElem?_map, g1, Option.map_some]
            · rw [List.getElem?_eq_none (by omega), List.getElem?_eq_none (by simp only [List.length_map]; omega)]
          rw [hys] at hT
          rw [okM_nil, fAll_ok hT, okF_some]
          refine ⟨_, rfl, ?_⟩
          have e : (ps.map (sizedP L)).all id = ps.all (sizedP L) := by rw [List.all_map]; rfl
          rw [e]
          exact hQ T hk
      by_cases ha : ps.all (sizedP L) = true
      · refine okS_seq (okS_ifF ?_)
        rw [okM_not]
        refine all1 _ fun T hT => ⟨by rw [ha]; rfl, okS_nx ?_⟩
        obtain ⟨b', xs', r1', r2', r3'⟩ := (h.up hT).row hp
        refine okS_ret ?_
        rw [okM_andV, okM_call]
        refine okM_cons.mpr (okM_each (okM_var.mpr ⟨d, rfl, ?_⟩))
        obtain ⟨it, i1, i2⟩ := seqI_row (e := ([.v d, .v (.int (most : Nat)), .v (.int L), .v (.int many), .no] : Sl)) r1'
        refine ⟨it, xs', i1, i2, by have := line200k; omega, fun i y => ∃ q, ps[i]? = some q ∧ y = .str (nameP q), ?_, ?_⟩
        · intro i x U hk hx
          obtain ⟨q, g1, g2⟩ := r3' i x hx
          obtain ⟨n, z, s1, s2, s3, s4, s5, s6⟩ := sized_shape (List.all_eq_true.mp ha q (List.mem_of_getElem? g1))
          obtain ⟨k, x1, x2, u1, u2, u3⟩ := pair_seq (g2.up hk) s1
          have e := Py.str_eq u2
          subst e
          refine ⟨_, rfl, ?_⟩
          rw [okM_op2, okM_var]
          refine ⟨x, rfl, okM_ret.mpr ?_⟩
          rw [fIx_seq u1 (x := .str n) rfl, okF_some]
          exact ⟨Keep.refl _, q, g1, by rw [s5]⟩
        · intro ys U hk hU hl2 hV
          have hys : ys = (ps.map nameP).map .str := by
            apply List.ext_getElem?
            intro i
            by_cases hi : i < ys.length
            · obtain ⟨q, g1, g2⟩ := hV i ys[i] (List.getElem?_eq_getElem hi)
              rw [List.getElem?_eq_getElem hi, g2]
              simp only [List.getElem?_map, g1, Option.map_some]
            · rw [List.getElem?_eq_none (by omega), List.getElem?_eq_none (by simp only [List.length_map]; omega)]
          rw [hys] at hU
          rw [okM_nil]
          refine sp_asc hU (by simp; omega) fun V hV2 => ⟨_, rfl, ?_⟩
          have hSV := (hT.trans hk).trans hV2
          by_cases hasc : ascP (ps.map nameP) = true
          · rw [if_pos hasc]
            rw [okM_op2, okM_call]
            obtain ⟨b3, xs3, w1, w2, w3⟩ := (h.up hSV).row hp
            refine okM_cons.mpr (okM_each (okM_var.mpr ⟨d, rfl, ?_⟩))
            obtain ⟨it3, y1, y2⟩ := seqI_row (e := ([.v d, .v (.int (most : Nat)), .v (.int L), .v (.int many), .no] : Sl)) w1
            refine ⟨it3, xs3, y1, y2, by have := line200k; omega, fun i y => ∃ q, ps[i]? = some q ∧ y = .int (sizeP q), ?_, ?_⟩
            · intro i x U2 hk2 hx
              obtain ⟨q, g1, g2⟩ := w3 i x hx
              obtain ⟨n, z, s1, s2, s3, s4, s5, s6⟩ := sized_shape (List.all_eq_true.mp ha q (List.mem_of_getElem? g1))
              obtain ⟨k, x1, x2, u1, u2, u3⟩ := pair_seq (g2.up hk2) s1
              have e := Py.int_eq u3
              subst e
              refine ⟨_, rfl, ?_⟩
              rw [okM_op2, okM_var]
              refine ⟨x, rfl, okM_ret.mpr ?_⟩
              rw [fIx_seq u1 (x := .int z) rfl, okF_some]
              exact ⟨Keep.refl _, q, g1, by rw [s6]⟩
            intro ys2 V2 hk2 hV2' hl3 hV3
            have hys2 : ys2 = (ps.map sizeP).map .int := by
              apply List.ext_getElem?
              intro i
              by_cases hi : i < ys2.length
              · obtain ⟨q, g1, g2⟩ := hV3 i ys2[i] (List.getElem?_eq_getElem hi)
                rw [List.getElem?_eq_getElem hi, g2]
                simp only [List.getElem?_map, g1, Option.map_some]
              · rw [List.getElem?_eq_none (by omega), List.getElem?_eq_none (by simp only [List.length_map]; omega)]
            rw [hys2] at hV2'
            have hSV := hSV.trans hk2
            rw [okM_nil]
            refine sp_product (b := false) (zs := ps.map sizeP) (by unfold seqOf; simp [hV2']) (sized_small hL ha) ?_
            rw [okM_var]
            refine ⟨_, rfl, ?_⟩
            rw [fOrd_int, okF_some]
            have e : sizesP most L many p = decide ((ps.map sizeP).foldl (· * ·) 1 ≤ many) := by
              rw [hE]
              unfold sizesL
              rw [decide_eq_true h4, ha, hasc]
              rfl
            have := hP V2 hSV
            rw [e] at this
            exact this
          · rw [if_neg hasc]
            simp only [Bool.not_eq_true] at hasc
            have e : sizesP most L many p = false := by
              rw [hE]
              unfold sizesL
              rw [hasc, Bool.false_and, Bool.and_false, Bool.and_false]
            have := hP V hSV
            rw [e] at this
            exact this
      · refine okS_seq (okS_ifT ?_)
        rw [okM_not]
        simp only [Bool.not_eq_true] at ha
        refine all1 _ fun T hT => ⟨by rw [ha]; rfl, okS_ret (okM_ret.mpr ?_)⟩
        have e : sizesP most L many p = false := by
          rw [hE]
          unfold sizesL
          rw [ha, Bool.false_and, Bool.and_false]
        have := hP T hT
        rw [e] at this
        exact this
    · refine okS_seq (okS_ifT (test _ ⟨by rw [decide_eq_false h4]; rfl, okS_ret (okM_ret.mpr ?_)⟩))
      have e : sizesP most L many p = false := by
        rw [hE]
        unfold sizesL
        rw [decide_eq_false h4, Bool.false_and]
      have := hP S (Keep.refl _)
      rw [e] at this
      exact this
  · have hR : isRowP p = false := by
      cases p <;> first | rfl | (exact absurd ⟨_, .inl rfl⟩ hr) | (exact absurd ⟨_, .inr rfl⟩ hr)
    have e : sizesP most L many p = false := by
      cases p <;> first | rfl | (exact absurd ⟨_, .inl rfl⟩ hr) | (exact absurd ⟨_, .inr rfl⟩ hr)
    refine okS_seq (okS_ifT ?_)
    simp only [okM_or, okM_not, okM_tst, okM_call, okM_opA, okM_op2, okM_cons, okM_var, okM_ret, okM_nil]
    refine ⟨_, rfl, sp_is_row h ⟨_, rfl, ?_⟩⟩
    rw [hR, if_pos (by decide)]
    refine ⟨by decide, okS_ret (okM_ret.mpr ?_)⟩
    have := hP S (Keep.refl _)
    rw [e] at this
    exact this
theorem sp_sides {d : D} {p : PyData} {S : So} {P : D → So → Prop} (h : Py S d p) (hs : Short2 p) (hP : ∀ T, Keep S T → P (.bl (sidesP p)) T) : okC (phi_is_sides tb [d] S) P := by
  unfold phi_is_sides
  refine okC_fn rfl ?_
  unfold m_is_sides
  simp only [startE, List.map, List.length, List.replicate, List.cons_append, List.nil_append]
  refine okS_ret ?_
  simp only [okM_call, okM_cons, okM_var, okM_ret, okM_nil]
  exact ⟨d, rfl, sp_sizes (most := 4) (by decide) h hs hP⟩
end PB

set_option Elab.async false
set_option linter.all false
set_option maxRecDepth 100000
set_option maxHeartbeats 1000000
namespace PB
open PySem PySem.Spec PyProof.Rows L2 DD
variable {tb : Tab} [ok : Ok tb]
theorem map_told {β : Type} {ys : List D} {ps : List PyData} {f : PyData → D} (hl : ys.length = ps.length) (hV : ∀ (i : Nat) (y : D), ys[i]? = some y → ∃ q, ps[i]? = some q ∧ y = f q) : ys = ps.map f := by
  apply List.ext_getElem?
  intro i
  by_cases hi : i < ys.length
  · obtain ⟨q, g1, g2⟩ := hV i ys[i] (List.getElem?_eq_getElem hi)
    rw [List.getElem?_eq_getElem hi, g2]
    simp only [List.getElem?_map, g1, Option.map_some]
  · rw [List.getElem?_eq_none (by omega), List.getElem?_eq_none (by simp only [List.length_map]; omega)]
def manyP (ps : List PyData) : Int := (ps.map sizeP).foldl (· * ·) 1
def cellsP (pc : PyData) (many : Int) : Bool := match pc with
  | .list xs => decide ((xs.length : Int) = many) && xs.all isIntP
  | .tuple xs => decide ((xs.length : Int) = many) && xs.all isIntP
  | _ => false
theorem sp_cells {dc ds : D} {pc p : PyData} {ps : List PyData} {S : So} {P : D → So → Prop} (hc : Py S dc pc) (h : Py S ds p) (hp : p = .list ps ∨ p = .tuple ps) (ha : ps.all sideP = true) (hl4 : ps.length ≤ 1000) (hs : ∀ xs, (pc = .list xs ∨ pc = .tuple xs) → xs.length ≤ 1000)
    (hP : ∀ T, Keep S T → P (.bl (cellsP pc (manyP ps))) T) : okC (phi_are_cells tb [dc, ds] S) P := by
  unfold phi_are_cells
  refine okC_fn rfl ?_
  unfold m_are_cells
  simp only [startE, List.map, List.length, List.replicate, List.cons_append, List.nil_append]
  by_cases hr : ∃ qs, pc = .list qs ∨ pc = .tuple qs
  · obtain ⟨qs, hq⟩ := hr
    have hR : isRowP pc = true := by rcases hq with rfl | rfl <;> rfl
    have hE : cellsP pc (manyP ps) = (decide ((qs.length : Int) = manyP ps) && qs.all isIntP) := by rcases hq with rfl | rfl <;> rfl
    have hl := hs qs hq
    obtain ⟨b, xs, r1, r2, r3⟩ := hc.row hq
    have test : ∀ Q : Bool → So → Prop, (∀ T, Keep S T → Q (!(decide ((qs.length : Int) = manyP ps))) T) → okM (mOr (mNot (mTst (mCall (phi_is_row tb) (mCons (mVar 0) mNil)))) (mTst (mOp2 fNe (mOpA fLen (mCons (mVar 0) mNil)) (mCall (phi_product_of tb) (mCons (compM [2, 3] (mSeq (mVar 1)) (tupT 2 (consT (nmT 2) (consT (nmT 3) nilT))) yesM (mVar 3)) mNil))))) [.v dc, .v ds, .no, .no, .no] S Q := by
      intro Q hQ
      rw [okM_or, okM_not, okM_tst, okM_call]
      refine okM_cons.mpr (okM_var.mpr ⟨dc, rfl, okM_nil.mpr (sp_is_row hc ⟨_, rfl, ?_⟩)⟩)
      rw [hR, if_neg (by decide), okM_tst, okM_op2, okM_opA]
      refine okM_cons.mpr (okM_var.mpr ⟨dc, rfl, okM_nil.mpr ?_⟩)
      rw [fLen_seq r1, okF_some, okM_call]
      obtain ⟨b3, xs3, w1, w2, w3⟩ := h.row hp
      refine okM_cons.mpr (okM_each (okM_var.mpr ⟨ds, rfl, ?_⟩))
      obtain ⟨it3, y1, y2⟩ := seqI_row (e := ([.v dc, .v ds, .no, .no, .no] : Sl)) w1
      refine ⟨it3, xs3, y1, y2, by have := line200k; omega, fun i y => ∃ q, ps[i]? = some q ∧ y = .int (sizeP q), ?_, ?_⟩
      · intro i x U2 hk2 hx
        obtain ⟨q, g1, g2⟩ := w3 i x hx
        obtain ⟨n, z, s1, s2, s3, s4, s5, s6⟩ := side_shape (List.all_eq_true.mp ha q (List.mem_of_getElem? g1))
        obtain ⟨k, x1, x2, u1, u2, u3⟩ := pair_seq (g2.up hk2) s1
        have e := Py.int_eq u3
        subst e
        refine ⟨[.v dc, .v ds, .v x1, .v (.int z), .no], by unfold tupT; rw [u1]; rfl, ?_⟩
        rw [okM_var]
        exact ⟨_, rfl, Keep.refl _, q, g1, by rw [s6]⟩
      intro ys2 V2 hk2 hV2' hl3 hV3
      have hys2 : ys2 = (ps.map sizeP).map .int := by
        rw [List.map_map]
        exact map_told (β := Unit) (by omega) hV3
      rw [hys2] at hV2'
      rw [okM_nil]
      refine sp_product (b := false) (zs := ps.map sizeP) (by unfold seqOf; simp [hV2']) (sized_small (L := 6) (by decide) ha) ?_
      rw [fNe_int, okF_some]
      refine ⟨_, rfl, ?_⟩
      have e : ((xs.length : Int) == (ps.map sizeP).foldl (· * ·) 1) = decide ((qs.length : Int) = manyP ps) := by
        rw [r2]
        rfl
      rw [e]
      exact hQ V2 hk2
    by_cases hm : (qs.length : Int) = manyP ps
    · refine okS_seq (okS_ifF (test _ fun V0 hV0 => ⟨by rw [decide_eq_true hm]; rfl, okS_nx ?_⟩))
      refine okS_ret ?_
      rw [okM_opA]
      obtain ⟨b, xs, r1, r2, r3⟩ := (hc.up hV0).row hq
      refine okM_cons.mpr (okM_each (okM_var.mpr ⟨dc, rfl, ?_⟩))
      obtain ⟨it, i1, i2⟩ := seqI_row (e := ([.v dc, .v ds, .no, .no, .no] : Sl)) r1
      refine ⟨it, xs, i1, i2, by have := line200k; omega, fun i y => ∃ q, qs[i]? = some q ∧ y = .bl (isIntP q), ?_, ?_⟩
      · intro i x T hk hx
        obtain ⟨q, g1, g2⟩ := r3 i x hx
        refine ⟨_, rfl, ?_⟩
        simp only [okM_call, okM_cons, okM_var, okM_nil]
        exact ⟨x, rfl, sp_is_integer (g2.up hk) ⟨Keep.refl _, q, g1, rfl⟩⟩
      · intro ys T hk hT hl2 hV
        have hys : ys = (qs.map isIntP).map .bl := by
          rw [List.map_map]
          exact map_told (β := Unit) (by omega) hV
        rw [hys] at hT
        rw [okM_nil, fAll_ok hT, okF_some]
        have e : (qs.map isIntP).all id = cellsP pc (manyP ps) := by
          rw [hE, decide_eq_true hm, List.all_map]
          rfl
        rw [e]
        exact hP T (hV0.trans hk)
    · refine okS_seq (okS_ifT (test _ fun V0 hV0 => ⟨by rw [decide_eq_false hm]; rfl, okS_ret (okM_ret.mpr ?_)⟩))
      have e : cellsP pc (manyP ps) = false := by rw [hE, decide_eq_false hm, Bool.false_and]
      have := hP V0 hV0
      rw [e] at this
      exact this
  · have hR : isRowP pc = false := by
      cases pc <;> first | rfl | (exact absurd ⟨_, .inl rfl⟩ hr) | (exact absurd ⟨_, .inr rfl⟩ hr)
    have e : cellsP pc (manyP ps) = false := by
      cases pc <;> first | rfl | (exact absurd ⟨_, .inl rfl⟩ hr) | (exact absurd ⟨_, .inr rfl⟩ hr)
    refine okS_seq (okS_ifT ?_)
    simp only [okM_or, okM_not, okM_tst, okM_call, okM_opA, okM_op2, okM_cons, okM_var, okM_ret, okM_nil]
    refine ⟨_, rfl, sp_is_row hc ⟨_, rfl, ?_⟩⟩
    rw [hR, if_pos (by decide)]
    refine ⟨by decide, okS_ret (okM_ret.mpr ?_)⟩
    have := hP S (Keep.refl _)
    rw [e] at this
    exact this
/-- a side as it is kept -/
def sideD (p : PyData) : D := .tup [.str (nameP p), .int (sizeP p)]
theorem fTuple_seq {S : So} {d : D} {b : Bool} {xs : List D} (h : seqOf d S = some (b, xs)) : fTuple [d] S = some (.tup xs, S) := by
  unfold fTuple
  dsimp only
  rw [h]
theorem sp_tuples {d : D} {p : PyData} {ps : List PyData} {S : So} {P : D → So → Prop} (h : Py S d p) (hp : p = .list ps ∨ p = .tuple ps) (ha : ps.all sideP = true) (hl : ps.length ≤ 1000) (hP : ∀ T, Keep S T → P (.tup (ps.map sideD)) T) : okC (phi_as_tuples tb [d] S) P := by
  unfold phi_as_tuples
  refine okC_fn rfl ?_
  unfold m_as_tuples
  simp only [startE, List.map, List.length, List.replicate, List.cons_append, List.nil_append]
  obtain ⟨b, xs, r1, r2, r3⟩ := h.row hp
  refine okS_ret ?_
  rw [okM_opA]
  refine okM_cons.mpr (okM_each (okM_var.mpr ⟨d, rfl, ?_⟩))
  obtain ⟨it, i1, i2⟩ := seqI_row (e := ([.v d, .no] : Sl)) r1
  refine ⟨it, xs, i1, i2, by have := line200k; omega, fun i y => ∃ q, ps[i]? = some q ∧ y = sideD q, ?_, ?_⟩
  · intro i x T hk hx
    obtain ⟨q, g1, g2⟩ := r3 i x hx
    obtain ⟨n, z, s1, s2, s3, s4, s5, s6⟩ := side_shape (List.all_eq_true.mp ha q (List.mem_of_getElem? g1))
    obtain ⟨k, x1, x2, u1, u2, u3⟩ := pair_seq (g2.up hk) s1
    have e := Py.str_eq u2
    have e' := Py.int_eq u3
    subst e e'
    refine ⟨_, rfl, ?_⟩
    rw [okM_if, okM_tst, okM_call]
    refine okM_cons.mpr (okM_var.mpr ⟨x, rfl, okM_nil.mpr (sp_is_row (g2.up hk) ⟨_, rfl, ?_⟩)⟩)
    have hR : isRowP q = true := by rcases s1 with rfl | rfl <;> rfl
    rw [hR, if_pos rfl, okM_opA]
    refine okM_cons.mpr (okM_var.mpr ⟨x, rfl, okM_nil.mpr ?_⟩)
    rw [fTuple_seq u1, okF_some]
    exact ⟨Keep.refl _, q, g1, by unfold sideD; rw [s5, s6]⟩
  · intro ys T hk hT hl2 hV
    have hys : ys = ps.map sideD := map_told (β := Unit) (by omega) hV
    rw [hys] at hT
    rw [okM_nil, fTuple_seq (b := false) (xs := ps.map sideD) (by unfold seqOf; simp [hT]), okF_some]
    exact hP T hk
end PB

set_option Elab.async false
set_option linter.all false
set_option maxRecDepth 100000
set_option maxHeartbeats 1000000
namespace PB
open PySem PySem.Spec PyProof.Rows L2 DD
variable {tb : Tab} [ok : Ok tb]
/-! ### errors in runs -/
def exM {α : Type} (m : MM α) (e : Sl) (S : So) (E : Str → List (Str × D) → So → Prop) : Prop := ∃ c fs S', m e S = some (.ex c fs, S') ∧ E c fs S'
def exC (o : Option (Re D × So)) (E : Str → List (Str × D) → So → Prop) : Prop := ∃ c fs S', o = some (.ex c fs, S') ∧ E c fs S'
def endX (E : Str → List (Str × D) → So → Prop) : Fl → Sl → So → Prop := fun f _ S => match f with
  | .ex c fs => E c fs S
  | _ => False
section
variable {e : Sl} {S : So} {E : Str → List (Str × D) → So → Prop}
theorem exC_fn {np n : Nat} {m : MS} {ds : List D} (hl : ds.length = np) (h : okS m (startE n ds) S (endX E)) : exC (fnM np n m ds S) E := by
  obtain ⟨f, e', S', h1, h2⟩ := h
  unfold fnM
  rw [if_pos hl, h1]
  cases f with
  | ex c fs => exact ⟨c, fs, S', rfl, h2⟩
  | _ => exact h2.elim
theorem okS_raise {c : Str} {fns : List Str} {m : MM (List D)} {P : Fl → Sl → So → Prop} (h : okM m e S fun ds S1 => ds.length = fns.length ∧ P (.ex c (stk fns ds [])) e S1) : okS (raiseS c fns m) e S P := by
  unfold raiseS
  refine okS_bind (h.imp fun ds S1 q => ?_)
  exact ⟨_, _, _, by dsimp only; rw [if_pos q.1], q.2⟩
@[simp] theorem nxt_ex {k : MS} {P : Fl → Sl → So → Prop} {c : Str} {fs : List (Str × D)} : nxt k P (.ex c fs) e S ↔ P (.ex c fs) e S := Iff.rfl
theorem exM_call {φ : FnD} {m : MM (List D)} (h : okM m e S fun ds S1 => exC (φ ds S1) E) : exM (mCall φ m) e S E := by
  obtain ⟨ds, S1, h1, c, fs, S2, h2, h3⟩ := h
  exact ⟨c, fs, S2, by unfold mCall DD.bindM; rw [h1]; exact h2, h3⟩
theorem okS_exprX {m : MM D} {P : Fl → Sl → So → Prop} (h : exM m e S fun c fs S' => P (.ex c fs) e S') : okS (exprS m) e S P := by
  obtain ⟨c, fs, S', h1, h2⟩ := h
  exact ⟨_, _, _, by unfold exprS bindS; rw [h1], h2⟩
theorem exC_make {c : Str} {φ : FnD} {ds : List D} (h : exC (φ (.ref S.length :: ds) (S ++ [.ins c []])) E) : exC (makeF c φ ds S) E := by
  obtain ⟨c', fs, S', h1, h2⟩ := h
  exact ⟨c', fs, S', by unfold makeF; rw [h1], h2⟩
theorem okC_make {c : Str} {φ : FnD} {ds : List D} {P : D → So → Prop} (h : okC (φ (.ref S.length :: ds) (S ++ [.ins c []])) fun d S' => d = .non ∧ P (.ref S.length) S') : okC (makeF c φ ds S) P := by
  obtain ⟨d, S', h1, rfl, h2⟩ := h
  exact ⟨_, S', by unfold makeF; rw [h1], h2⟩
theorem okS_fld {T : Tab} {f : Str} {mv mo : MM D} {P : Fl → Sl → So → Prop} (h : okM mv e S fun v S1 => okM mo e S1 fun o S2 => ∃ n c fs, o = .ref n ∧ S2[n]? = some (.ins c fs) ∧ T.attr c f = true ∧ fs.length < 1000 ∧ P .nx e (S2.set n (.ins c (putD f v fs)))) : okS (fldS T f mv mo) e S P := by
  unfold fldS
  refine okS_bind (h.imp fun v S1 q => okS_bind (q.imp fun o S2 q => ?_))
  obtain ⟨n, c, fs, rfl, h1, h2, h3, p⟩ := q
  exact ⟨_, _, _, by dsimp only; rw [h1]; dsimp only; rw [if_pos ⟨h2, h3⟩], p⟩
theorem fFld_ok {T : Tab} {f c : Str} {n : Nat} {fs : List (Str × D)} {d : D} (h : S[n]? = some (.ins c fs)) (h2 : T.attr c f = true) (h3 : fs.lookup f = some d) : fFld T f (.ref n) S = some (d, S) := by
  unfold fFld
  simp [h, h2, h3]
end
def arrO (ps : List PyData) (zs : List Int) : O := .ins "Array" [("sides", .tup (ps.map sideD)), ("cells", .tup (zs.map .int))]
theorem keep_set {S T : So} {n : Nat} {o : O} (h : Keep S T) (hn : S.length ≤ n) : Keep S (T.set n o) := fun i x e => by
  have hi : i < S.length := (List.getElem?_eq_some_iff.mp e).1
  rw [List.getElem?_set_ne (by omega)]
  exact h i x e
theorem ints_row {S : So} {d : D} {qs : List PyData} {zs : List Int} (h : Row S d qs) (hz : qs = zs.map .int) : ∃ b, seqOf d S = some (b, zs.map .int) := by
  obtain ⟨b, xs, h1, h2, h3⟩ := h
  refine ⟨b, ?_⟩
  have e : xs = zs.map .int := by
    apply List.ext_getElem?
    intro i
    by_cases hi : i < xs.length
    · obtain ⟨q, g1, g2⟩ := h3 i xs[i] (List.getElem?_eq_getElem hi)
      rw [hz, List.getElem?_map] at g1
      obtain ⟨z, g3, rfl⟩ := Option.map_eq_some_iff.mp g1
      rw [List.getElem?_eq_getElem hi, Py.int_eq g2, List.getElem?_map, g3]
      rfl
    · rw [List.getElem?_eq_none (by omega), List.getElem?_eq_none (by rw [h2, hz] at hi; simpa using hi)]
  rw [h1, e]
/-- Array(sides, cells) -/
theorem sp_array [oa : OkA tb] {ds dc : D} {p pc : PyData} {ps qs : List PyData} {zs : List Int} {S : So} {P : D → So → Prop} (h : Py S ds p) (hp : p = .list ps ∨ p = .tuple ps) (hs : Short2 p) (hv : sidesP p = true) (hc : Py S dc pc) (hq : pc = .list qs ∨ pc = .tuple qs) (hz : qs = zs.map .int) (hm : (zs.length : Int) = manyP ps) (hl : zs.length ≤ 1000)
    (hP : ∀ T, Keep S T → T[S.length]? = some (arrO ps zs) → P (.ref S.length) T) : okC (makeF "Array" (phi_Array_init tb) [ds, dc] S) P := by
  have hE : sidesP p = sidesL ps := by rcases hp with rfl | rfl <;> rfl
  have ha : ps.all sideP = true := by
    rw [hE] at hv
    unfold sidesL sizesL at hv
    exact (Bool.and_eq_true_iff.mp (Bool.and_eq_true_iff.mp hv).2).1
  have h4 : ps.length ≤ 4 := by
    rw [hE] at hv
    unfold sidesL sizesL at hv
    exact of_decide_eq_true (Bool.and_eq_true_iff.mp hv).1
  have hcell : cellsP pc (manyP ps) = true := by
    have e1 : ((zs.map PyData.int).all isIntP) = true := by
      rw [List.all_map, List.all_eq_true]
      intro z _
      rfl
    subst hz
    rcases hq with rfl | rfl
    · show (decide (((zs.map PyData.int).length : Int) = manyP ps) && (zs.map PyData.int).all isIntP) = true; rw [e1, List.length_map, decide_eq_true hm]; rfl
    · show (decide (((zs.map PyData.int).length : Int) = manyP ps) && (zs.map PyData.int).all isIntP) = true; rw [e1, List.length_map, decide_eq_true hm]; rfl
  refine okC_make ?_
  unfold phi_Array_init
  refine okC_fn rfl ?_
  unfold m_Array_init
  simp only [startE, List.map, List.length, List.replicate, List.cons_append, List.nil_append]
  have k0 : Keep S (S ++ [O.ins "Array" []]) := Keep.app _ _
  have e0 : (S ++ [O.ins "Array" []])[S.length]? = some (.ins "Array" []) := get_new
  refine okS_seq (okS_ifF ?_)
  simp only [okM_not, okM_tst, okM_call, okM_cons, okM_var, okM_nil]
  refine ⟨ds, rfl, sp_sides (h.up k0) hs fun T1 k1 => ⟨_, rfl, by rw [hv]; rfl, okS_nx ?_⟩⟩
  refine okS_seq (okS_ifF ?_)
  simp only [okM_not, okM_tst, okM_call, okM_cons, okM_var, okM_nil]
  refine ⟨dc, rfl, ds, rfl, sp_cells (hc.up (k0.trans k1)) (h.up (k0.trans k1)) hp ha (by omega) (fun xs hx => ?_) fun T2 k2 => ⟨_, rfl, by rw [hcell]; rfl, okS_nx ?_⟩⟩
  · have : xs = qs := by
      rcases hq with rfl | rfl <;> rcases hx with hx | hx <;> cases hx <;> rfl
    rw [this, hz]
    simpa using hl
  · have k02 := (k0.trans k1).trans k2
    refine okS_seq (okS_fld ?_)
    simp only [okM_call, okM_cons, okM_var, okM_nil]
    refine ⟨ds, rfl, sp_tuples (h.up k02) hp ha (by omega) fun T3 k3 => ⟨.ref S.length, rfl, S.length, "Array", [], rfl, k3 _ _ (k2 _ _ (k1 _ _ e0)), oa.att_s, by decide, ?_⟩⟩
    have k03 := k02.trans k3
    have l3 : S.length < T3.length := (List.getElem?_eq_some_iff.mp (k3 _ _ (k2 _ _ (k1 _ _ e0)))).1
    have e3 : (T3.set S.length (.ins "Array" (putD "sides" (.tup (ps.map sideD)) [])))[S.length]? = some (.ins "Array" (putD "sides" (.tup (ps.map sideD)) [])) := List.getElem?_set_self l3
    have k4 : Keep S (T3.set S.length (.ins "Array" (putD "sides" (.tup (ps.map sideD)) []))) := keep_set k03 (Nat.le_refl _)
    refine okS_fld ?_
    simp only [okM_opA, okM_cons, okM_var, okM_nil]
    refine ⟨dc, rfl, ?_⟩
    obtain ⟨b, r1⟩ := ints_row ((hc.up k4).row hq) hz
    rw [fTuple_seq r1, okF_some]
    refine ⟨.ref S.length, rfl, S.length, "Array", _, rfl, e3, oa.att_c, by simp [putD], ?_⟩
    refine ⟨rfl, hP _ (keep_set k4 (Nat.le_refl _)) ?_⟩
    rw [List.getElem?_set_self (by simpa using l3)]
    rfl
/-- Array(..) of what are no sides, of what are no cells -/
theorem sp_array_no {ds dc : D} {p : PyData} {S : So} {E : Str → List (Str × D) → So → Prop} (h : Py S ds p) (hs : Short2 p) (hv : sidesP p = false) (hE : ∀ T, Keep S T → E "InvalidSides" [("sides", ds)] T) : exC (makeF "Array" (phi_Array_init tb) [ds, dc] S) E := by
  refine exC_make ?_
  unfold phi_Array_init
  refine exC_fn rfl ?_
  unfold m_Array_init
  simp only [startE, List.map, List.length, List.replicate, List.cons_append, List.nil_append]
  have k0 : Keep S (S ++ [O.ins "Array" []]) := Keep.app _ _
  refine okS_seq (okS_ifT ?_)
  simp only [okM_not, okM_tst, okM_call, okM_cons, okM_var, okM_nil]
  refine ⟨ds, rfl, sp_sides (h.up k0) hs fun T1 k1 => ⟨_, rfl, by rw [hv]; rfl, okS_raise ?_⟩⟩
  simp only [okM_cons, okM_var, okM_nil]
  exact ⟨ds, rfl, rfl, hE _ (k0.trans k1)⟩
theorem sp_array_noc {ds dc : D} {p pc : PyData} {ps : List PyData} {S : So} {E : Str → List (Str × D) → So → Prop} (h : Py S ds p) (hp : p = .list ps ∨ p = .tuple ps) (hs : Short2 p) (hv : sidesP p = true) (hc : Py S dc pc) (hl : ∀ xs, (pc = .list xs ∨ pc = .tuple xs) → xs.length ≤ 1000) (hn : cellsP pc (manyP ps) = false)
    (hE : ∀ T, Keep S T → E "InvalidCells" [("cells", dc)] T) : exC (makeF "Array" (phi_Array_init tb) [ds, dc] S) E := by
  have hE' : sidesP p = sidesL ps := by rcases hp with rfl | rfl <;> rfl
  have ha : ps.all sideP = true := by
    rw [hE'] at hv
    unfold sidesL sizesL at hv
    exact (Bool.and_eq_true_iff.mp (Bool.and_eq_true_iff.mp hv).2).1
  have h4 : ps.length ≤ 4 := by
    rw [hE'] at hv
    unfold sidesL sizesL at hv
    exact of_decide_eq_true (Bool.and_eq_true_iff.mp hv).1
  refine exC_make ?_
  unfold phi_Array_init
  refine exC_fn rfl ?_
  unfold m_Array_init
  simp only [startE, List.map, List.length, List.replicate, List.cons_append, List.nil_append]
  have k0 : Keep S (S ++ [O.ins "Array" []]) := Keep.app _ _
  refine okS_seq (okS_ifF ?_)
  simp only [okM_not, okM_tst, okM_call, okM_cons, okM_var, okM_nil]
  refine ⟨ds, rfl, sp_sides (h.up k0) hs fun T1 k1 => ⟨_, rfl, by rw [hv]; rfl, okS_nx ?_⟩⟩
  refine okS_seq (okS_ifT ?_)
  simp only [okM_not, okM_tst, okM_call, okM_cons, okM_var, okM_nil]
  refine ⟨dc, rfl, ds, rfl, sp_cells (hc.up (k0.trans k1)) (h.up (k0.trans k1)) hp ha (by omega) hl fun T2 k2 => ⟨_, rfl, by rw [hn]; rfl, okS_raise ?_⟩⟩
  simp only [okM_cons, okM_var, okM_nil]
  exact ⟨dc, rfl, rfl, hE _ ((k0.trans k1).trans k2)⟩
end PB

set_option Elab.async false
set_option linter.all false
set_option maxRecDepth 100000
set_option maxHeartbeats 1000000
namespace PB
open PySem PySem.Spec PyProof.Rows L2 DD
variable {tb : Tab} [ok : Ok tb]
/-! ### rows of places -/
def stepL (rows : List (List Int)) (s : Nat) : List (List Int) := rows.flatMap fun r => (List.range s).map fun (k : Nat) => r ++ [(k : Int)]
def rowsL (ss : List Nat) : List (List Int) := ss.foldl stepL [[]]
/-- where a place stands in the told order -/
def ixL (ss : List Nat) (ks : List Int) : Int := (ss.zip ks).foldl (fun n p => n * (p.1 : Int) + p.2) 0
theorem step_get {rows : List (List Int)} {s : Nat} : ∀ {k : Nat} {r : List Int}, (stepL rows s)[k]? = some r → ∃ q j, rows[q]? = some r.dropLast ∧ j < s ∧ k = q * s + j ∧ r = r.dropLast ++ [(j : Int)] := by
  induction rows with
  | nil => intro k r h; simp [stepL] at h
  | cons r0 rest ih =>
    intro k r h
    have e : stepL (r0 :: rest) s = ((List.range s).map fun (k : Nat) => r0 ++ [(k : Int)]) ++ stepL rest s := by simp [stepL]
    rw [e] at h
    by_cases hk : k < s
    · rw [List.getElem?_append_left (by simpa using hk)] at h
      simp [hk] at h
      subst h
      exact ⟨0, k, by simp, hk, by simp, by simp⟩
    · rw [List.getElem?_append_right (by simpa using Nat.le_of_not_lt hk)] at h
      simp only [List.length_map, List.length_range] at h
      obtain ⟨q, j, h1, h2, h3, h4⟩ := ih h
      refine ⟨q + 1, j, by simpa using h1, h2, ?_, h4⟩
      rw [Nat.add_mul]
      omega
theorem rows_ix : ∀ (n : Nat) (ss : List Nat), ss.length = n → ∀ (k : Nat) (r : List Int), (rowsL ss)[k]? = some r → r.length = ss.length ∧ ixL ss r = (k : Int)
  | 0, ss, hn, k, r, h => by
    have : ss = [] := List.length_eq_zero_iff.mp hn
    subst this
    cases k with
    | zero => simp [rowsL] at h; subst h; exact ⟨rfl, rfl⟩
    | succ k => simp [rowsL] at h
  | n + 1, ss, hn, k, r, h => by
    have hne : ss ≠ [] := fun z => by rw [z] at hn; cases hn
    have es : ss = ss.dropLast ++ [ss.getLast hne] := (List.dropLast_concat_getLast hne).symm
    generalize hs : ss.getLast hne = s at es
    have e1 : rowsL ss = stepL (rowsL ss.dropLast) s := by
      conv => lhs; rw [es]
      unfold rowsL
      rw [List.foldl_append]
      rfl
    rw [e1] at h
    obtain ⟨q, j, h1, h2, h3, h4⟩ := step_get h
    obtain ⟨g1, g2⟩ := rows_ix n ss.dropLast (by rw [List.length_dropLast, hn]; rfl) q r.dropLast h1
    refine ⟨?_, ?_⟩
    · rw [h4, List.length_append, g1, List.length_dropLast, hn]
      rfl
    · rw [h4]
      conv => lhs; rw [es]
      unfold ixL
      rw [List.zip_append (by rw [g1]), List.foldl_append]
      have g2' : (ss.dropLast.zip r.dropLast).foldl (fun n p => n * (p.1 : Int) + p.2) 0 = (q : Int) := g2
      rw [g2']
      simp
      rw [h3]
      simp
theorem step_length (rows : List (List Int)) (s : Nat) : (stepL rows s).length = rows.length * s := by
  induction rows with
  | nil => simp [stepL]
  | cons r rest ih =>
    have e : stepL (r :: rest) s = ((List.range s).map fun (k : Nat) => r ++ [(k : Int)]) ++ stepL rest s := by simp [stepL]
    rw [e, List.length_append, ih]
    simp [Nat.add_mul, Nat.add_comm]
end PB

set_option Elab.async false
set_option linter.all false
set_option maxRecDepth 100000
set_option maxHeartbeats 1000000
namespace PB
open PySem PySem.Spec PyProof.Rows L2 DD
variable {tb : Tab} [ok : Ok tb]
theorem okS_eachG {mi : MM Itm} {t : Tg} {b : MS} {e : Sl} {S : So} {P : Fl → Sl → So → Prop} (h : okM mi e S fun it S1 => ∃ xs, SeqIt .non xs it S1 ∧ ∃ I : Nat → Sl → So → Prop, I 0 e S1 ∧
    (∀ i e2 S2 x, Keep S1 S2 → xs[i]? = some x → I i e2 S2 → ∃ e3, t x S2 e2 = some e3 ∧ okS b e3 S2 (turnP (fun e4 S4 => Keep S2 S4 ∧ I (i + 1) e4 S4) P)) ∧ ∀ e2 S2, Keep S1 S2 → I xs.length e2 S2 → P .nx e2 S2) : okS (forS mi t b) e S P := by
  refine okS_for (h.imp fun it S1 q => ?_)
  obtain ⟨xs, ⟨h2, h3⟩, I, h4, h5, h6⟩ := q
  refine ⟨fun i e2 S2 => Keep S1 S2 ∧ i ≤ xs.length ∧ I i e2 S2, ⟨Keep.refl _, Nat.zero_le _, h4⟩, ?_⟩
  rintro i e2 S2 ⟨k1, k2, k3⟩
  by_cases hi : i < xs.length
  · obtain ⟨e3, g1, g2⟩ := h5 i e2 S2 xs[i] k1 (List.getElem?_eq_getElem hi) k3
    refine .inr ⟨by omega, xs[i], e3, by rw [h3 S2 k1 i, List.getElem?_eq_getElem hi], g1, g2.imp fun f e4 S4 q => ?_⟩
    cases f with
    | nx => exact ⟨k1.trans q.1, hi, q.2⟩
    | ct => exact ⟨k1.trans q.1, hi, q.2⟩
    | _ => exact q
  · have ei : i = xs.length := by omega
    subst ei
    exact .inl ⟨by rw [h3 S2 k1, List.getElem?_eq_none (Nat.le_refl _)], h6 _ _ k1 k3⟩
theorem zip_tups {e : Sl} {S : So} {xs ys : List D} : ∃ it, zipI [.tup xs, .tup ys] e S = some (.ok it, S) ∧ SeqIt .non ((xs.zip ys).map fun p => .tup [p.1, p.2]) it S := by
  refine ⟨⟨min xs.length ys.length, DD.pairAt (.tup xs) (.tup ys)⟩, rfl, by simp, fun T k i => ?_⟩
  unfold DD.pairAt
  dsimp only [seqOf]
  rw [if_pos rfl, zip_get]
  all_goals (cases xs[i]? <;> cases ys[i]? <;> rfl)
def rowD (ks : List Int) : D := .tup (ks.map .int)
theorem ix_take {ss : List Nat} {ks : List Int} {i s : Nat} {k : Int} (h1 : ss[i]? = some s) (h2 : ks[i]? = some k) : ixL (ss.take (i + 1)) (ks.take (i + 1)) = ixL (ss.take i) (ks.take i) * (s : Int) + k := by
  unfold ixL
  have l1 : i < ss.length := (List.getElem?_eq_some_iff.mp h1).1
  have l2 : i < ks.length := (List.getElem?_eq_some_iff.mp h2).1
  rw [List.take_add_one, List.take_add_one, h1, h2, List.zip_append (by simp; omega), List.foldl_append]
  simp
/-- place_number(pairs, place) of a tuple of pairs and a row of numbers -/
theorem sp_place_number {ps : List PyData} {L : Int} {ss : List Nat} {ks : List Int} {S : So} {P : D → So → Prop} (hL : L < 2 ^ 64) (ha : ps.all (sizedP L) = true) (hss : ps.map sizeP = ss.map fun (s : Nat) => (s : Int)) (hlen : ks.length = ss.length) (hP : P (.int (ixL ss ks)) S) :
    okC (phi_place_number tb [.tup (ps.map sideD), rowD ks] S) P := by
  have lps : ps.length = ss.length := by
    have := congrArg List.length hss
    simpa using this
  unfold phi_place_number
  refine okC_fn rfl ?_
  unfold m_place_number
  simp only [startE, List.map, List.length, List.replicate, List.cons_append, List.nil_append]
  refine okS_seq (okS_asg (okM_ret.mpr ?_))
  refine okS_seq (okS_eachG ?_)
  unfold mZip
  simp only [okM_bind, okM_cons, okM_op1, okM_var, okM_nil]
  refine ⟨_, rfl, rowD ks, rfl, ?_⟩
  obtain ⟨it, z1, z2⟩ := zip_tups (e := ([.v (.tup (ps.map sideD)), .v (rowD ks), .v (.int 0), .no, .no, .no] : Sl)) (S := S) (xs := ps.map sideD) (ys := ks.map .int)
  refine ⟨it, S, z1, _, z2, fun i e2 S2 => S2 = S ∧ ∃ s3 s4 s5, e2 = [.v (.tup (ps.map sideD)), .v (rowD ks), .v (.int (ixL (ss.take i) (ks.take i))), s3, s4, s5], ⟨rfl, .no, .no, .no, rfl⟩, ?_, ?_⟩
  · rintro i e2 S2 x hk hx ⟨rfl, s3, s4, s5, rfl⟩
    rw [List.zip_map, List.map_map, List.getElem?_map] at hx
    obtain ⟨⟨p, kk⟩, g1, rfl⟩ := Option.map_eq_some_iff.mp hx
    obtain ⟨g2, g3⟩ := List.getElem?_zip_eq_some.mp g1
    have gs : ss[i]? = some (ss[i]'(by rw [← lps]; exact (List.getElem?_eq_some_iff.mp g2).1)) := List.getElem?_eq_getElem _
    have hi : i < ss.length := by rw [← lps]; exact (List.getElem?_eq_some_iff.mp g2).1
    generalize ss[i]'(by rw [← lps]; exact (List.getElem?_eq_some_iff.mp g2).1) = s at gs
    have esz : sizeP p = (s : Int) := by
      have := congrArg (fun l : List Int => l[i]?) hss
      simp only [List.getElem?_map, g2, gs, Option.map_some] at this
      exact Option.some.inj this
    obtain ⟨nn, z, s1, s2, s3', s4', s5', s6'⟩ := sized_shape (List.all_eq_true.mp ha p (List.mem_of_getElem? g2))
    refine ⟨_, rfl, ?_⟩
    unfold b_place_number_1
    refine okS_asg ?_
    simp only [okM_op2, okM_var]
    refine ⟨_, rfl, .int (sizeP p), rfl, ?_⟩
    rw [okF_mul]
    refine ⟨cm (by rw [s6']; omega), .int kk, rfl, ?_⟩
    rw [fAdd_int, okF_some]
    refine ⟨Keep.refl _, rfl, .v (.str (nameP p)), .v (.int (sizeP p)), .v (.int kk), ?_⟩
    rw [ix_take gs g3, esz]
    rfl
  · rintro e2 S2 hk ⟨rfl, s3, s4, s5, rfl⟩
    have e1 : ((ps.map sideD).zip (ks.map D.int)).length = ss.length := by simp [lps, hlen]
    simp only [List.length_map, e1]
    refine okS_ret ?_
    rw [okM_var]
    refine ⟨_, rfl, ?_⟩
    rw [List.take_of_length_le (Nat.le_refl _), List.take_of_length_le (by rw [hlen]; exact Nat.le_refl _)]
    exact hP
/-- array.cell(place) -/
theorem sp_cell [oa : OkA tb] {n k : Nat} {ps : List PyData} {zs : List Int} {ss : List Nat} {ks : List Int} {v : Int} {S : So} {P : D → So → Prop} (h : S[n]? = some (arrO ps zs)) (ha : ps.all sideP = true) (hss : ps.map sizeP = ss.map fun (s : Nat) => (s : Int)) (hr : (rowsL ss)[k]? = some ks) (hv : zs[k]? = some v) (hP : P (.int v) S) :
    okC (phi_Array_cell tb [.ref n, rowD ks] S) P := by
  obtain ⟨hlen, hix⟩ := rows_ix ss.length ss rfl k ks hr
  unfold phi_Array_cell
  refine okC_fn rfl ?_
  unfold m_Array_cell
  simp only [startE, List.map, List.length, List.replicate, List.cons_append, List.nil_append]
  refine okS_ret ?_
  simp only [okM_op2, okM_op1, okM_var, okM_call, okM_cons, okM_nil]
  refine ⟨_, rfl, ?_⟩
  rw [fFld_ok h oa.att_c (d := .tup (zs.map .int)) rfl, okF_some]
  refine ⟨_, rfl, ?_⟩
  rw [fFld_ok h oa.att_s (d := .tup (ps.map sideD)) rfl, okF_some]
  refine ⟨_, rfl, sp_place_number (L := 6) (by decide) ha hss hlen ?_⟩
  rw [hix]
  have hk2 : k < zs.length := (List.getElem?_eq_some_iff.mp hv).1
  have a0 : atI (zs.map D.int) (k : Int) = some (.int v) := by
    obtain ⟨d, a1, a2⟩ := atI_ok (xs := zs.map D.int) (i := (k : Int)) (by omega) (by simp; omega)
    rw [Int.toNat_natCast, List.getElem?_map, hv] at a2
    cases a2
    exact a1
  rw [fIx_seq (b := true) (xs := zs.map .int) rfl a0, okF_some]
  exact hP
end PB

set_option Elab.async false
set_option linter.all false
set_option maxRecDepth 100000
set_option maxHeartbeats 1000000
namespace PB
open PySem PySem.Spec PyProof.Rows L2 DD
variable {tb : Tab} [ok : Ok tb]
/-- one walk of the inner row -/
theorem inner_run {it1 : Itm} {ys : List D} {t1 : Tg} {te : MM D} {n0 : Nat} {e : Sl} {f : D → D} {T0 : So} (hit : SeqIt .non ys it1 T0) (hn : T0.length ≤ n0) (hstep : ∀ (j : Nat) (y : D) (V : So), ys[j]? = some y → Keep T0 V → ∃ e3, t1 y V e = some e3 ∧ okM te e3 V fun z U => U = V ∧ z = f y) :
    ∀ (k j : Nat) (V : So) (acc : List D), j + k = ys.length → Keep T0 V → V[n0]? = some (.lst acc) → acc.length + k < sizeLine → ∃ V', compI it1.get t1 yesM te n0 e k j V = some V' ∧ Keep T0 V' ∧ V'[n0]? = some (.lst (acc ++ (ys.drop j).map f)) := by
  intro k
  induction k with
  | zero =>
    intro j V acc hj hk hV hl
    have ej : j = ys.length := by omega
    subst ej
    exact ⟨V, by unfold compI; rw [hit.2 V hk, List.getElem?_eq_none (Nat.le_refl _)], hk, by simpa using hV⟩
  | succ k ih =>
    intro j V acc hj hk hV hl
    have hjs : j < ys.length := by omega
    have hy : ys[j]? = some ys[j] := List.getElem?_eq_getElem hjs
    obtain ⟨e3, g1, y, U, g2, rfl, rfl⟩ := hstep j ys[j] V hy hk
    have lV : n0 < U.length := (List.getElem?_eq_some_iff.mp hV).1
    obtain ⟨V', q1, q2, q3⟩ := ih (j + 1) (U.set n0 (.lst (acc ++ [f ys[j]]))) (acc ++ [f ys[j]]) (by omega) (keep_set hk hn) (List.getElem?_set_self lV) (by simp; omega)
    refine ⟨V', ?_, q2, ?_⟩
    · unfold compI
      rw [hit.2 U hk, hy]
      dsimp only
      rw [g1]
      dsimp only [yesM, retM]
      rw [g2]
      dsimp only
      rw [hV]
      dsimp only
      rw [if_pos (by omega)]
      exact q1
    · rw [q3, List.append_assoc]
      congr 3
      rw [List.drop_eq_getElem_cons hjs]
      rfl
/-- [g(x, y) for x in a walk for y in a row] -/
theorem okM_comp2 {own own1 : List Nat} {mi m1 : MM Itm} {t t1 : Tg} {te : MM D} {e : Sl} {S : So} {P : D → So → Prop} (h : okM mi e S fun it S1 => ∃ xs, SeqIt .non xs it S1 ∧ ∃ (ys : D → List D) (f : D → D → D), (xs.flatMap ys).length < sizeLine ∧
    (∀ (i : Nat) (x : D) (T : So), Keep S1 T → xs[i]? = some x → ∃ e1 it1, t x T (wipeE e own) = some e1 ∧ m1 e1 T = some (.ok it1, T) ∧ SeqIt .non (ys x) it1 S1 ∧ ∀ (j : Nat) (y : D) (V : So), (ys x)[j]? = some y → Keep S1 V → ∃ e3, t1 y V (wipeE e1 own1) = some e3 ∧ okM te e3 V fun z U => U = V ∧ z = f x y) ∧
    ∀ T, Keep S1 T → T[S1.length]? = some (.lst (xs.flatMap fun x => (ys x).map (f x))) → P (.ref S1.length) T) : okM (comp2M own own1 mi t m1 t1 te) e S P := by
  unfold comp2M
  rw [okM_bind]
  refine h.imp fun it S1 q => ?_
  obtain ⟨xs, ⟨h2, h3⟩, ys, f, hl, h4, h5⟩ := q
  have key : ∀ (k i : Nat) (T : So) (acc : List D), i + k = xs.length → Keep S1 T → T[S1.length]? = some (.lst acc) → acc.length + ((xs.drop i).flatMap ys).length < sizeLine →
      ∃ T', compJ it.get t m1 own1 t1 te S1.length (wipeE e own) k i T = some T' ∧ Keep S1 T' ∧ T'[S1.length]? = some (.lst (acc ++ (xs.drop i).flatMap fun x => (ys x).map (f x))) := by
    intro k
    induction k with
    | zero =>
      intro i T acc hi hk hT hl2
      have ei : i = xs.length := by omega
      subst ei
      exact ⟨T, by unfold compJ; rw [h3 T hk, List.getElem?_eq_none (Nat.le_refl _)], hk, by simpa using hT⟩
    | succ k ih =>
      intro i T acc hi hk hT hl2
      have hix : i < xs.length := by omega
      obtain ⟨e1, it1, g1, g2, gi, g3⟩ := h4 i xs[i] T hk (List.getElem?_eq_getElem hix)
      rw [List.drop_eq_getElem_cons hix, List.flatMap_cons, List.length_append] at hl2
      obtain ⟨V, q1, q2, q3⟩ := inner_run (T0 := S1) (n0 := S1.length) (f := f xs[i]) gi (Nat.le_refl _) g3 (ys xs[i]).length 0 T acc (by omega) hk hT (by omega)
      obtain ⟨T', u1, u2, u3⟩ := ih (i + 1) V _ (by omega) q2 q3 (by rw [List.drop_zero, List.length_append, List.length_map]; omega)
      refine ⟨T', ?_, u2, ?_⟩
      · unfold compJ
        rw [h3 T hk, List.getElem?_eq_getElem hix]
        dsimp only
        rw [g1]
        dsimp only
        rw [g2]
        dsimp only
        rw [gi.1, q1]
        exact u1
      · rw [u3, List.append_assoc]
        congr 3
        rw [List.drop_eq_getElem_cons hix, List.flatMap_cons]
        rfl
  obtain ⟨T', u1, u2, u3⟩ := key it.n 0 (S1 ++ [.lst []]) [] (by omega) (Keep.app _ _) get_new (by simpa using hl)
  refine ⟨_, T', by dsimp only; rw [u1], h5 T' u2 ?_⟩
  rw [u3]
  simp
end PB

set_option Elab.async false
set_option linter.all false
set_option maxRecDepth 100000
set_option maxHeartbeats 1000000
namespace PB
open PySem PySem.Spec PyProof.Rows L2 DD
variable {tb : Tab} [ok : Ok tb]
theorem seqOf_up {S T : So} {d : D} {b : Bool} {xs : List D} (k : Keep S T) (h : seqOf d S = some (b, xs)) : seqOf d T = some (b, xs) := by
  cases d with
  | ref n =>
    unfold seqOf at h ⊢
    dsimp only at h ⊢
    cases e : S[n]? with
    | none => rw [e] at h; cases h
    | some o => rw [e] at h; rw [k _ _ e]; exact h
  | _ => exact h
/-- all rows with a member of each -/
def combS (acc : List (List D)) (r : List D) : List (List D) := acc.flatMap fun m => r.map fun y => m ++ [y]
def combL (rows : List (List D)) : List (List D) := rows.foldl combS [[]]
theorem comb_take {rows : List (List D)} {i : Nat} {r : List D} (h : rows[i]? = some r) : combL (rows.take (i + 1)) = combS (combL (rows.take i)) r := by
  unfold combL
  rw [List.take_add_one, h, List.foldl_append]
  rfl
theorem combS_length (acc : List (List D)) (r : List D) : (combS acc r).length = acc.length * r.length := by
  unfold combS
  induction acc with
  | nil => simp
  | cons a acc ih => rw [List.flatMap_cons, List.length_append, ih, List.length_map, List.length_cons, Nat.succ_mul, Nat.add_comm]
theorem comb_mem : ∀ (n : Nat) (rows : List (List D)), rows.length = n → ∀ m ∈ combL rows, m.length = n
  | 0, rows, hn, m, hm => by
    have : rows = [] := List.length_eq_zero_iff.mp hn
    subst this
    have : m = [] := by simpa [combL] using hm
    rw [this]
    rfl
  | n + 1, rows, hn, m, hm => by
    have hne : rows ≠ [] := fun z => by rw [z] at hn; cases hn
    have es : rows = rows.dropLast ++ [rows.getLast hne] := (List.dropLast_concat_getLast hne).symm
    have e1 : combL rows = combS (combL rows.dropLast) (rows.getLast hne) := by
      conv => lhs; rw [es]
      unfold combL
      rw [List.foldl_append]
      rfl
    rw [e1] at hm
    unfold combS at hm
    obtain ⟨q, hq, hm⟩ := List.mem_flatMap.mp hm
    obtain ⟨y, _, rfl⟩ := List.mem_map.mp hm
    rw [List.length_append, comb_mem n rows.dropLast (by rw [List.length_dropLast, hn]; rfl) q hq]
    rfl
def frD (x y : D) : D := match x with
  | .tup ds => .tup (ds ++ [y])
  | _ => .non
theorem frD_step (acc : List (List D)) (r : List D) : ((acc.map D.tup).flatMap fun x => r.map (frD x)) = (combS acc r).map D.tup := by
  unfold combS
  induction acc with
  | nil => rfl
  | cons a acc ih =>
    rw [List.map_cons, List.flatMap_cons, ih, List.flatMap_cons, List.map_append, List.map_map]
    rfl
theorem flat_const {xs : List D} {r : List D} : (xs.flatMap fun _ => r).length = xs.length * r.length := by
  induction xs with
  | nil => simp
  | cons a acc ih => rw [List.flatMap_cons, List.length_append, ih, List.length_cons, Nat.succ_mul, Nat.add_comm]
theorem seqI_tup {xs : List D} : ∃ it, (∀ e S, seqI (.tup xs) e S = some (.ok it, S)) ∧ ∀ d S, SeqIt d xs it S := ⟨_, fun _ _ => rfl, fun _ _ => ⟨rfl, fun _ _ _ => rfl⟩⟩
/-- combined(rows) -/
theorem sp_combined {d : D} {b : Bool} {rows : List (List D)} {S : So} {P : D → So → Prop} (h : seqOf d S = some (b, rows.map D.tup)) (hl : rows.length ≤ 1000) (hb : ∀ i, (combL (rows.take i)).length < 100000)
    (hP : ∀ T n, Keep S T → T[n]? = some (.lst ((combL rows).map D.tup)) → P (.ref n) T) : okC (phi_combined tb [d] S) P := by
  unfold phi_combined
  refine okC_fn rfl ?_
  unfold m_combined
  simp only [startE, List.map, List.length, List.replicate, List.cons_append, List.nil_append]
  refine okS_seq (okS_asg ?_)
  simp only [okM_opA, okM_cons, okM_nil]
  rw [fTup_ok (by simp), okF_some, DD.fLst_ok (by simp), okF_some]
  have k0 : Keep S (S ++ [O.lst [D.tup []]]) := Keep.app _ _
  have h0 := seqOf_up k0 h
  refine okS_seq (okS_each (okM_var.mpr ⟨d, rfl, ?_⟩))
  obtain ⟨it, i1, i2⟩ := seqI_row (e := ([.v d, .v (.ref S.length), .no, .no, .no] : Sl)) h0
  refine ⟨it, _, i1, i2, fun i e2 S2 => ∃ r s2 s3 s4, e2 = [.v d, .v (.ref r), s2, s3, s4] ∧ S2[r]? = some (.lst ((combL (rows.take i)).map D.tup)), ⟨S.length, .no, .no, .no, rfl, get_new⟩, ?_, ?_⟩
  · rintro i e2 S2 x hk hx ⟨r, s2, s3, s4, rfl, e2⟩
    rw [List.getElem?_map] at hx
    obtain ⟨row, g1, rfl⟩ := Option.map_eq_some_iff.mp hx
    refine ⟨[.v d, .v (.ref r), .v (.tup row), s3, s4], rfl, ?_⟩
    unfold b_combined_1
    refine okS_asg (okM_comp2 ?_)
    unfold mSeq
    rw [okM_bind, okM_var]
    refine ⟨.ref r, rfl, ?_⟩
    have sq : seqOf (.ref r) S2 = some (false, (combL (rows.take i)).map D.tup) := by unfold seqOf; simp [e2]
    obtain ⟨it2, j1, j2⟩ := seqI_row (e := ([.v d, .v (.ref r), .v (.tup row), s3, s4] : Sl)) sq
    refine ⟨it2, S2, j1, _, j2, fun _ => row, frD, ?_, ?_, ?_⟩
    · have := hb (i + 1)
      rw [comb_take g1, combS_length] at this
      have := line200k
      rw [flat_const, List.length_map]
      omega
    · intro k y T hkT hy
      rw [List.getElem?_map] at hy
      obtain ⟨m, v1, rfl⟩ := Option.map_eq_some_iff.mp hy
      have hm : m.length ≤ 1000 := by
        rw [comb_mem _ (rows.take i) rfl m (List.mem_of_getElem? v1)]
        simp
        omega
      obtain ⟨it1, y1, y2⟩ := seqI_tup (xs := row)
      refine ⟨[.v d, .v (.ref r), .v (.tup row), .v (.tup m), .no], it1, rfl, y1 [.v d, .v (.ref r), .v (.tup row), .v (.tup m), .no] T, y2 _ _, fun j y V hj hkV => ?_⟩
      refine ⟨[.v d, .v (.ref r), .v (.tup row), .v (.tup m), .v y], rfl, ?_⟩
      simp only [okM_op2, okM_opA, okM_cons, okM_var, okM_nil]
      refine ⟨_, rfl, _, rfl, ?_⟩
      rw [fTup_ok (by simp), okF_some]
      have ea : fAdd (.tup m) (.tup [y]) V = some (.tup (m ++ [y]), V) := by
        unfold fAdd
        dsimp only
        rw [if_pos (by have := line200k; simp; omega)]
      rw [ea, okF_some]
      exact ⟨rfl, rfl⟩
    · intro T hkT hT
      rw [frD_step, ← comb_take g1] at hT
      exact ⟨hkT, S2.length, .v (.tup row), s3, s4, rfl, hT⟩
  · rintro e2 S2 hk ⟨r, s2, s3, s4, rfl, e2⟩
    rw [List.length_map, List.take_length] at e2
    refine okS_ret (okM_var.mpr ⟨_, rfl, ?_⟩)
    exact hP S2 r (k0.trans hk) e2
theorem rows_take {ss : List Nat} {i s : Nat} (h : ss[i]? = some s) : rowsL (ss.take (i + 1)) = stepL (rowsL (ss.take i)) s := by
  unfold rowsL
  rw [List.take_add_one, h, List.foldl_append]
  rfl
theorem rows_len : ∀ (n : Nat) (ss : List Nat), ss.length = n → (∀ s ∈ ss, s ≤ 6) → (rowsL ss).length ≤ 6 ^ n
  | 0, ss, hn, _ => by
    have : ss = [] := List.length_eq_zero_iff.mp hn
    subst this
    decide
  | n + 1, ss, hn, h6 => by
    have hne : ss ≠ [] := fun z => by rw [z] at hn; cases hn
    have es : ss = ss.dropLast ++ [ss.getLast hne] := (List.dropLast_concat_getLast hne).symm
    have hs := h6 _ (List.getLast_mem hne)
    generalize ss.getLast hne = s at es hs
    have e1 : rowsL ss = stepL (rowsL ss.dropLast) s := by
      conv => lhs; rw [es]
      unfold rowsL
      rw [List.foldl_append]
      rfl
    rw [e1, step_length]
    have := rows_len n ss.dropLast (by rw [List.length_dropLast, hn]; rfl) fun x hx => h6 x (List.dropLast_subset _ hx)
    rw [Nat.pow_succ]
    exact Nat.mul_le_mul this hs
theorem comb_rows (ss : List Nat) : combL (ss.map rngD) = (rowsL ss).map fun r => r.map D.int := by
  have step : ∀ (acc : List (List Int)) (s : Nat), combS (acc.map fun r => r.map D.int) (rngD s) = (stepL acc s).map fun r => r.map D.int := by
    intro acc s
    unfold combS stepL rngD
    induction acc with
    | nil => rfl
    | cons a acc ih =>
      rw [List.map_cons, List.flatMap_cons, ih, List.flatMap_cons, List.map_append, List.map_map, List.map_map]
      congr 1
      apply List.map_congr_left
      intro k _
      simp
  have key : ∀ (ss : List Nat) (acc : List (List Int)), (ss.map rngD).foldl combS (acc.map fun r => r.map D.int) = (ss.foldl stepL acc).map fun r => r.map D.int := by
    intro ss
    induction ss with
    | nil => intro acc; rfl
    | cons s ss ih => intro acc; rw [List.map_cons, List.foldl_cons, step, ih]; rfl
  exact key ss [[]]
/-- places(sides) -/
theorem sp_places {d : D} {p : PyData} {ps : List PyData} {L : Int} {ss : List Nat} {S : So} {P : D → So → Prop} (h : Py S d p) (hp : p = .list ps ∨ p = .tuple ps) (ha : ps.all (sizedP L) = true) (h4 : ps.length ≤ 4) (hss : ps.map sizeP = ss.map fun (s : Nat) => (s : Int)) (h6 : ∀ s ∈ ss, s ≤ 6)
    (hP : ∀ T, Keep S T → P (.tup ((rowsL ss).map rowD)) T) : okC (phi_places tb [d] S) P := by
  have lps : ps.length = ss.length := by
    have := congrArg List.length hss
    simpa using this
  have bound : ∀ i, (rowsL (ss.take i)).length ≤ 1296 := fun i => by
    have hl : (ss.take i).length ≤ 4 := by simp; omega
    have := rows_len _ (ss.take i) rfl fun s hs => h6 s (List.take_subset _ _ hs)
    have e : (6 : Nat) ^ (ss.take i).length ≤ 6 ^ 4 := Nat.pow_le_pow_right (by decide) hl
    have : (6 : Nat) ^ 4 = 1296 := by decide
    omega
  unfold phi_places
  refine okC_fn rfl ?_
  unfold m_places
  simp only [startE, List.map, List.length, List.replicate, List.cons_append, List.nil_append]
  refine okS_ret ?_
  rw [okM_opA]
  refine okM_cons.mpr ?_
  rw [okM_call]
  obtain ⟨b, xs, r1, r2, r3⟩ := h.row hp
  refine okM_cons.mpr (okM_each (okM_var.mpr ⟨d, rfl, ?_⟩))
  obtain ⟨it, i1, i2⟩ := seqI_row (e := ([.v d, .no, .no] : Sl)) r1
  refine ⟨it, xs, i1, i2, by have := line200k; omega, fun i y => ∃ s, ss[i]? = some s ∧ y = .tup (rngD s), ?_, ?_⟩
  · intro i x T hk hx
    obtain ⟨q, g1, g2⟩ := r3 i x hx
    obtain ⟨n, z, t1, t2, t3, t4, t5, t6⟩ := sized_shape (List.all_eq_true.mp ha q (List.mem_of_getElem? g1))
    obtain ⟨kk, x1, x2, u1, u2, u3⟩ := pair_seq (g2.up hk) t1
    have e' := Py.int_eq u3
    subst e'
    have hi : i < ss.length := by rw [← lps]; exact (List.getElem?_eq_some_iff.mp g1).1
    have gs : ss[i]? = some ss[i] := List.getElem?_eq_getElem hi
    have h6i := h6 ss[i] (List.getElem_mem hi)
    generalize ss[i] = s at gs h6i
    have esz : z = (s : Int) := by
      have := congrArg (fun l : List Int => l[i]?) hss
      simp only [List.getElem?_map, g1, gs, Option.map_some] at this
      rw [← t6]
      exact Option.some.inj this
    subst esz
    refine ⟨[.v d, .v x1, .v (.int (s : Nat))], by unfold tupT; rw [u1]; rfl, okM_tupRng (okM_var.mpr ⟨_, rfl, s, rfl, by omega, Keep.refl _, s, gs, rfl⟩)⟩
  · intro ys T hk hT hl2 hV
    have hys : ys = (ss.map rngD).map D.tup := by
      rw [List.map_map]
      apply List.ext_getElem?
      intro i
      by_cases hi : i < ys.length
      · obtain ⟨s, g1, g2⟩ := hV i ys[i] (List.getElem?_eq_getElem hi)
        rw [List.getElem?_eq_getElem hi, g2, List.getElem?_map, g1]
        rfl
      · rw [List.getElem?_eq_none (by omega), List.getElem?_eq_none (by simp only [List.length_map]; omega)]
    rw [hys] at hT
    rw [okM_nil]
    refine sp_combined (b := false) (rows := ss.map rngD) (by unfold seqOf; simp [hT]) (by simp; omega) (fun i => ?_) fun T2 n hk2 hT2 => ?_
    · rw [← List.map_take, comb_rows, List.length_map]
      have := bound i
      omega
    · rw [okM_nil]
      rw [comb_rows, List.map_map] at hT2
      rw [fTuple_seq (b := false) (xs := (rowsL ss).map rowD) (by unfold seqOf; simp only [hT2]; rfl), okF_some]
      exact hP T2 (hk.trans hk2)
end PB

set_option Elab.async false
set_option linter.all false
set_option maxRecDepth 100000
namespace PB
open PySem PySem.Spec PyProof.Rows L2 DD
def m_is_row_of_words (tb : Tab) : MS := (retS (mAndV (mCall (phi_is_row tb) (mCons (mVar 0) mNil)) (mAndV (mOpA fAll (mCons (compM [1] (mSeq (mVar 0)) (nmT 1) yesM (mCall (phi_is_word tb) (mCons (mVar 1) mNil))) mNil)) (mCall (phi_are_ascending tb) (mCons (mVar 0) mNil)))))
def phi_is_row_of_words (tb : Tab) : FnD := fnM 1 2 (m_is_row_of_words tb)
def m_Grid_init (tb : Tab) : MS := (seqS (ifS (mOr (mNot (mTst (mCall (phi_are_sizes tb) (mCons (mVar 1) (mCons (retM (.int 3)) (mCons (retM (.int 4)) (mCons (retM (.int 8)) mNil))))))) (mTst (mOp2 fEq (mOpA fLen (mCons (mVar 1) mNil)) (retM (.int 0))))) (raiseS "InvalidGrid" ["directions"] (mCons (mVar 1) mNil)) nxS) (seqS (fldS tb "directions" (mCall (phi_as_tuples tb) (mCons (mVar 1) mNil)) (mVar 0)) (seqS (fldS tb "_places" (mCall (phi_places tb) (mCons (mOp1 (fFld tb "directions") (mVar 0)) mNil)) (mVar 0)) (fldS tb "many" (mOpA fLen (mCons (mOp1 (fFld tb "_places") (mVar 0)) mNil)) (mVar 0)))))
def phi_Grid_init (tb : Tab) : FnD := fnM 2 2 (m_Grid_init tb)
def m_Grid_eq (tb : Tab) : MS := (retS (mAndV (mOpA (fIsiA tb) (mCons (mVar 1) (mCons (retM (.glo "Grid")) mNil))) (mOp2 fEq (mOp1 (fFld tb "directions") (mVar 0)) (mOp1 (fFld tb "directions") (mVar 1)))))
def phi_Grid_eq (tb : Tab) : FnD := fnM 2 2 (m_Grid_eq tb)
def m_is_cut (tb : Tab) : MS := (seqS (ifS (mOr (mNot (mTst (mCall (phi_is_row tb) (mCons (mVar 0) mNil)))) (mTst (mOp2 fNe (mOpA fLen (mCons (mVar 0) mNil)) (retM (.int 3))))) (retS (retM (.bl false))) nxS) (retS (mAndV (mCall (phi_is_word tb) (mCons (mOp2 fIx (mVar 0) (retM (.int 0))) mNil)) (mAndV (mOp2 (fInF false) (mOp2 fIx (mVar 0) (retM (.int 1))) (mOpA fTup (mCons (retM (.str "blocks")) (mCons (retM (.str "turns")) mNil)))) (mCall (phi_is_word tb) (mCons (mOp2 fIx (mVar 0) (retM (.int 2))) mNil))))))
def phi_is_cut (tb : Tab) : FnD := fnM 1 1 (m_is_cut tb)
def m_are_cuts (tb : Tab) : MS := (seqS (ifS (mOr (mNot (mTst (mCall (phi_is_row tb) (mCons (mVar 0) mNil)))) (mNot (mTst (mOpA fAll (mCons (compM [1] (mSeq (mVar 0)) (nmT 1) yesM (mCall (phi_is_cut tb) (mCons (mVar 1) mNil))) mNil))))) (retS (retM (.bl false))) nxS) (seqS (asgS (compM [1] (mSeq (mVar 0)) (nmT 1) yesM (mOp2 fIx (mVar 1) (retM (.int 2)))) (nmT 2)) (retS (mAndV (mCall (phi_are_ascending tb) (mCons (compM [1] (mSeq (mVar 0)) (nmT 1) yesM (mOp2 fIx (mVar 1) (retM (.int 0)))) mNil)) (mOp2 fEq (bindM (mVar 2) lenSetS) (mOpA fLen (mCons (mVar 2) mNil)))))))
def phi_are_cuts (tb : Tab) : FnD := fnM 1 3 (m_are_cuts tb)
def m_meet (tb : Tab) : MS := (retS (mNotV (mOpA fAll (mCons (compM [2] (mSeq (mVar 0)) (nmT 2) yesM (mOp2 (fInF true) (mOp2 fIx (mVar 2) (retM (.int 2))) (mVar 1))) mNil))))
def phi_meet (tb : Tab) : FnD := fnM 2 3 (m_meet tb)
def m_Dealing_init (tb : Tab) : MS := (seqS (ifS (mOr (mNot (mTst (mCall (phi_are_cuts tb) (mCons (mVar 1) mNil)))) (mOr (mNot (mTst (mCall (phi_is_row_of_words tb) (mCons (mVar 2) mNil)))) (mTst (mCall (phi_meet tb) (mCons (mVar 1) (mCons (mVar 2) mNil)))))) (raiseS "InvalidDealing" ["cuts", "parts"] (mCons (mVar 1) (mCons (mVar 2) mNil))) nxS) (seqS (fldS tb "cuts" (mCall (phi_as_tuples tb) (mCons (mVar 1) mNil)) (mVar 0)) (fldS tb "parts" (mOpA fTuple (mCons (mVar 2) mNil)) (mVar 0))))
def phi_Dealing_init (tb : Tab) : FnD := fnM 3 3 (m_Dealing_init tb)
def m_Dealing_eq (tb : Tab) : MS := (retS (mAndV (mOpA (fIsiA tb) (mCons (mVar 1) (mCons (retM (.glo "Dealing")) mNil))) (mAndV (mOp2 fEq (mOp1 (fFld tb "cuts") (mVar 0)) (mOp1 (fFld tb "cuts") (mVar 1))) (mOp2 fEq (mOp1 (fFld tb "parts") (mVar 0)) (mOp1 (fFld tb "parts") (mVar 1))))))
def phi_Dealing_eq (tb : Tab) : FnD := fnM 2 2 (m_Dealing_eq tb)
def m_fits (tb : Tab) : MS := (seqS (asgS (mOpA fDict (mCons (mVar 1) mNil)) (nmT 3)) (seqS (asgS (mOpA fDict (mCons (mOp1 (fFld tb "directions") (mVar 2)) mNil)) (nmT 4)) (seqS (ifS (mNot (mTst (mOpA fAll (mCons (compM [5, 6, 7] (mSeq (mOp1 (fFld tb "cuts") (mVar 0))) (tupT 3 (consT (nmT 5) (consT (nmT 6) (consT (nmT 7) nilT)))) yesM (mAndV (mOp2 (fDin false) (mVar 5) (mVar 3)) (mOp2 (fDin false) (mVar 7) (mVar 4)))) mNil)))) (retS (retM (.bl false))) nxS) (retS (mOpA fAll (mCons (compM [7] (mSeq (mOp1 (fFld tb "parts") (mVar 0))) (nmT 7) yesM (mOp2 (fDin false) (mVar 7) (mVar 4))) mNil))))))
def phi_fits (tb : Tab) : FnD := fnM 3 8 (m_fits tb)
def m_with_direction (tb : Tab) : MS := (seqS (asgS (compM [5, 6] (mSeq (mVar 3)) (tupT 2 (consT (nmT 5) (consT (nmT 6) nilT))) (mTst (mOp2 (fInF true) (mVar 5) (compM [7] (mSeq (mVar 0)) (nmT 7) yesM (mOp2 fIx (mVar 7) (retM (.int 0)))))) (mVar 5)) (nmT 4)) (seqS (asgS (comp2M [5, 9] [9] (mSeq (mVar 4)) (nmT 5) (mSeq (mOpA fTup (mCons (retM (.str "blocks")) (mCons (retM (.str "turns")) mNil)))) (nmT 9) (mOpA fTup (mCons (mVar 5) (mCons (mVar 9) (mCons (mVar 2) mNil))))) (nmT 8)) (retS (mOp2 fAdd (mOpA fLst (mCons (mOpA fTup (mCons (mVar 0) (mCons (mVar 1) mNil))) (mCons (mOpA fTup (mCons (mVar 0) (mCons (mOpA fTup (mStar (mVar 1) (mCons (mVar 2) mNil))) mNil))) mNil))) (compM [7] (mSeq (mVar 8)) (nmT 7) yesM (mOpA fTup (mCons (mOpA fTuple (mCons (mOpA fSorted (mCons (mOpA fLst (mStar (mVar 0) (mCons (mVar 7) mNil))) mNil)) mNil)) (mCons (mVar 1) mNil))))))))
def phi_with_direction (tb : Tab) : FnD := fnM 4 10 (m_with_direction tb)
def b_dealings_1 (tb : Tab) : MS := (asgS (comp2M [5, 6, 7] [7] (mSeq (mVar 2)) (tupT 2 (consT (nmT 5) (consT (nmT 6) nilT))) (mSeq (mCall (phi_with_direction tb) (mCons (mVar 5) (mCons (mVar 6) (mCons (mVar 3) (mCons (mVar 0) mNil)))))) (nmT 7) (mVar 7)) (nmT 2))
def m_dealings (tb : Tab) : MS := (seqS (asgS (mOpA fLst (mCons (mOpA fTup (mCons (mOpA fTup mNil) (mCons (mOpA fTup mNil) mNil))) mNil)) (nmT 2)) (seqS (forS (mSeq (mOp1 (fFld tb "directions") (mVar 1))) (tupT 2 (consT (nmT 3) (consT (nmT 4) nilT))) (b_dealings_1 tb)) (retS (mOpA fTuple (mCons (compM [5, 6] (mSeq (mOpA fSorted (mCons (mVar 2) mNil))) (tupT 2 (consT (nmT 5) (consT (nmT 6) nilT))) yesM (mCall (makeF "Dealing" (phi_Dealing_init tb)) (mCons (mVar 5) (mCons (mVar 6) mNil)))) mNil)))))
def phi_dealings (tb : Tab) : FnD := fnM 2 8 (m_dealings tb)
def b_ldraw_1 (tb : Tab) : MS := (seqS (setS (mOp2 fAdd (mVar 4) (retM (.int 1))) (mVar 1) (retM (.int 0))) (ifS (mOr (mTst (mOp2 (fOrd pGe qGe) (mOp2 fIx (mVar 0) (mVar 4)) (mOp2 fPow (retM (.int 10)) (retM (.int 18))))) (mTst (mOp2 (fOrd pLe qLe) (mOp2 fIx (mVar 0) (mVar 4)) (mOp1 fNeg (mOp2 fPow (retM (.int 10)) (retM (.int 18))))))) (seqS (asgS (mOpA fAbs (mCons (mOp2 fIx (mVar 0) (mVar 4)) mNil)) (nmT 5)) (seqS (setS (mOp2 fDiv (mVar 5) (mVar 2)) (mVar 1) (retM (.int 1))) (retS (mOp2 fMod (mOpA fInt (mCons (mVar 5) mNil)) (mVar 2))))) nxS))
def m_ldraw (tb : Tab) : MS := (seqS (ifS (mTst (mOp2 (fOrd pGt qGt) (mOp2 fIx (mVar 1) (retM (.int 1))) (retM (.int 1)))) (seqS (asgS (mOp2 fMod (mOpA fInt (mCons (mOp2 fIx (mVar 1) (retM (.int 1))) mNil)) (mVar 2)) (nmT 3)) (seqS (setS (mOp2 fDiv (mOp2 fIx (mVar 1) (retM (.int 1))) (mVar 2)) (mVar 1) (retM (.int 1))) (retS (mVar 3)))) nxS) (seqS (forS (mRng2 (mCons (mOp2 fIx (mVar 1) (retM (.int 0))) (mCons (mOpA fLen (mCons (mVar 0) mNil)) mNil))) (nmT 4) (b_ldraw_1 tb)) (seqS (setS (mOp2 fAdd (mOp2 fIx (mVar 1) (retM (.int 2))) (retM (.int 1))) (mVar 1) (retM (.int 2))) (seqS (asgS (mIf (mTst (mOp2 (fOrd pGt qGt) (mOpA fLen (mCons (mVar 0) mNil)) (retM (.int 0)))) (mOp2 fIx (mVar 0) (mOp2 fMod (mOpA fInt (mCons (mOp2 fIx (mVar 1) (retM (.int 2))) mNil)) (mOpA fLen (mCons (mVar 0) mNil)))) (retM (.int 5))) (nmT 6)) (seqS (setS (mOp2 fMod (mOpA fInt (mCons (mOp2 fAdd (mOp2 fAdd (mOp2 fAdd (mOp2 fMul (mOp2 fIx (mVar 1) (retM (.int 3))) (retM (.int 48271))) (mOp2 fMul (mVar 6) (retM (.int 16807)))) (mOp2 fMul (mOp2 fIx (mVar 1) (retM (.int 2))) (retM (.int 69621)))) (retM (.int 11))) mNil)) (retM (.int 2147483647))) (mVar 1) (retM (.int 3))) (seqS (asgS (mOp2 fMod (mOpA fInt (mCons (mOp2 fAdd (mOp2 fAdd (mOp2 fMul (mOp2 fIx (mVar 1) (retM (.int 3))) (mOp2 fIx (mVar 1) (retM (.int 3)))) (mOp2 fMul (mOp2 fIx (mVar 1) (retM (.int 2))) (retM (.int 40692)))) (retM (.int 3))) mNil)) (retM (.int 2147483399))) (nmT 7)) (retS (mOp2 fMod (mOpA fInt (mCons (mOp2 fDiv (mVar 7) (retM (.int 7))) mNil)) (mVar 2)))))))))
def phi_ldraw (tb : Tab) : FnD := fnM 3 8 (m_ldraw tb)
def b_lstate_1 (tb : Tab) : MS := (setS (mOp2 fMod (mOpA fInt (mCons (mOp2 fAdd (mOp2 fAdd (mOp2 fMul (mOp2 fIx (mVar 1) (retM (.int 3))) (retM (.int 31))) (mOp2 fIx (mVar 0) (mVar 2))) (mVar 2)) mNil)) (retM (.int 2147483647))) (mVar 1) (retM (.int 3)))
def m_lstate (tb : Tab) : MS := (seqS (asgS (mOpA fLst (mCons (retM (.int 0)) (mCons (retM (.int 0)) (mCons (retM (.int 0)) (mCons (mOpA fLen (mCons (mVar 0) mNil)) mNil))))) (nmT 1)) (seqS (forS (mRng1 (mCons (mOpA fLen (mCons (mVar 0) mNil)) mNil)) (nmT 2) (b_lstate_1 tb)) (retS (mVar 1))))
def phi_lstate (tb : Tab) : FnD := fnM 1 3 (m_lstate tb)
def b_lword_1 (tb : Tab) : MS := (asgS (mOp2 fAdd (mVar 3) (mOp2 fIx (mVar 2) (mCall (phi_ldraw tb) (mCons (mVar 0) (mCons (mVar 1) (mCons (retM (.int 36)) mNil)))))) (nmT 3))
def m_lword (tb : Tab) : MS := (seqS (asgS (retM (.str "abcdefghijklmnopqrstuvwxyz0123456789")) (nmT 2)) (seqS (asgS (mOp2 fIx (mVar 2) (mCall (phi_ldraw tb) (mCons (mVar 0) (mCons (mVar 1) (mCons (retM (.int 26)) mNil))))) (nmT 3)) (seqS (forS (mRng1 (mCons (mCall (phi_ldraw tb) (mCons (mVar 0) (mCons (mVar 1) (mCons (retM (.int 8)) mNil)))) mNil)) (nmT 4) (b_lword_1 tb)) (retS (mVar 3)))))
def phi_lword (tb : Tab) : FnD := fnM 2 5 (m_lword tb)
def b_lwords_1 (tb : Tab) : MS := (seqS (ifS (mTst (mOp2 (fInF true) (mVar 7) (mVar 5))) (fS .bk) nxS) (asgS (mVar 9) (nmT 7)))
def b_lwords_2 (tb : Tab) : MS := (seqS (asgS (mCall (phi_lword tb) (mCons (mVar 0) (mCons (mVar 1) mNil))) (nmT 7)) (seqS (ifS (mAnd (mTst (mVar 4)) (mTst (mOp2 (fOrd pGt qGt) (mOpA fLen (mCons (mVar 3) mNil)) (retM (.int 1))))) (seqS (asgS (mOp2 fAdd (retM (.int 1)) (mCall (phi_ldraw tb) (mCons (mVar 0) (mCons (mVar 1) (mCons (mOp2 fSub (mOpA fLen (mCons (mVar 3) mNil)) (retM (.int 1))) mNil))))) (nmT 8)) (asgS (mOp2 fAdd (mOp2 fAdd (mSl (mVar 3) mNoPart (mPart (mVar 8))) (mOp2 fIx (retM (.str "abcdefghijklmnopqrstuvwxyz0123456789")) (mCall (phi_ldraw tb) (mCons (mVar 0) (mCons (mVar 1) (mCons (retM (.int 36)) mNil)))))) (mSl (mVar 3) (mPart (mOp2 fAdd (mVar 8) (retM (.int 1)))) mNoPart)) (nmT 7))) nxS) (seqS (forS (mSeq (mOpA fLst (mCons (retM (.str "z")) (mCons (retM (.str "y")) (mCons (retM (.str "x")) (mCons (retM (.str "w")) (mCons (retM (.str "v")) (mCons (retM (.str "u")) (mCons (retM (.str "t")) (mCons (retM (.str "s")) mNil)))))))))) (nmT 9) (b_lwords_1 tb)) (exprS (mMeth isL fAppend (mVar 5) (mCons (mVar 7) mNil))))))
def m_lwords (tb : Tab) : MS := (seqS (asgS (mCall (phi_lword tb) (mCons (mVar 0) (mCons (mVar 1) mNil))) (nmT 3)) (seqS (asgS (mOp2 fEq (mCall (phi_ldraw tb) (mCons (mVar 0) (mCons (mVar 1) (mCons (retM (.int 2)) mNil)))) (retM (.int 0))) (nmT 4)) (seqS (asgS (mOpA fLst mNil) (nmT 5)) (seqS (forS (mRng1 (mCons (mVar 2) mNil)) (nmT 6) (b_lwords_2 tb)) (retS (mOpA fSorted (mCons (mVar 5) mNil)))))))
def phi_lwords (tb : Tab) : FnD := fnM 3 10 (m_lwords tb)
def b_lgrid_1 (tb : Tab) : MS := (seqS (asgS (mOp2 fAdd (retM (.int 1)) (mCall (phi_ldraw tb) (mCons (mVar 0) (mCons (mVar 1) (mCons (mOpA fMin2 (mCons (retM (.int 4)) (mCons (mVar 4) mNil))) mNil))))) (nmT 7)) (seqS (exprS (mMeth isL fAppend (mVar 5) (mCons (mVar 7) mNil))) (asgS (mOp2 fDiv (mVar 4) (mVar 7)) (nmT 4))))
def m_lgrid (tb : Tab) : MS := (seqS (asgS (mVar 2) (nmT 4)) (seqS (asgS (mOpA fLst mNil) (nmT 5)) (seqS (forS (mRng1 (mCons (mOp2 fAdd (retM (.int 1)) (mCall (phi_ldraw tb) (mCons (mVar 0) (mCons (mVar 1) (mCons (mVar 3) mNil))))) mNil)) (nmT 6) (b_lgrid_1 tb)) (seqS (asgS (mCall (phi_lwords tb) (mCons (mVar 0) (mCons (mVar 1) (mCons (mOpA fLen (mCons (mVar 5) mNil)) mNil)))) (nmT 8)) (retS (compM [6] (mRng1 (mCons (mOpA fLen (mCons (mVar 5) mNil)) mNil)) (nmT 6) yesM (mOpA fTup (mCons (mOp2 fIx (mVar 8) (mVar 6)) (mCons (mOp2 fIx (mVar 5) (mVar 6)) mNil)))))))))
def phi_lgrid (tb : Tab) : FnD := fnM 4 9 (m_lgrid tb)
def b_lsides_1 (tb : Tab) : MS := (seqS (asgS (mOp2 fAdd (retM (.int 1)) (mCall (phi_ldraw tb) (mCons (mVar 0) (mCons (mVar 1) (mCons (mOpA fMin2 (mCons (retM (.int 6)) (mCons (mVar 4) mNil))) mNil))))) (nmT 7)) (seqS (exprS (mMeth isL fAppend (mVar 5) (mCons (mVar 7) mNil))) (asgS (mOp2 fDiv (mVar 4) (mVar 7)) (nmT 4))))
def m_lsides (tb : Tab) : MS := (seqS (asgS (mVar 3) (nmT 4)) (seqS (asgS (mOpA fLst mNil) (nmT 5)) (seqS (forS (mRng1 (mCons (mCall (phi_ldraw tb) (mCons (mVar 0) (mCons (mVar 1) (mCons (mOp2 fAdd (mVar 2) (retM (.int 1))) mNil)))) mNil)) (nmT 6) (b_lsides_1 tb)) (seqS (asgS (mCall (phi_lwords tb) (mCons (mVar 0) (mCons (mVar 1) (mCons (mOpA fLen (mCons (mVar 5) mNil)) mNil)))) (nmT 8)) (retS (compM [6] (mRng1 (mCons (mOpA fLen (mCons (mVar 5) mNil)) mNil)) (nmT 6) yesM (mOpA fTup (mCons (mOp2 fIx (mVar 8) (mVar 6)) (mCons (mOp2 fIx (mVar 5) (mVar 6)) mNil)))))))))
def phi_lsides (tb : Tab) : FnD := fnM 4 9 (m_lsides tb)
def m_Grid_place_of (tb : Tab) : MS := (seqS (ifS (mNot (mTst (mCall (phi_is_integer_within tb) (mCons (mVar 1) (mCons (retM (.int 0)) (mCons (mOp2 fSub (mOp1 (fFld tb "many") (mVar 0)) (retM (.int 1))) mNil)))))) (raiseS "NoMachine" ["machine"] (mCons (mVar 1) mNil)) nxS) (retS (mOp2 fIx (mOp1 (fFld tb "_places") (mVar 0)) (mVar 1))))
def phi_Grid_place_of (tb : Tab) : FnD := fnM 2 2 (m_Grid_place_of tb)
def m_Grid_machine_at (tb : Tab) : MS := (retS (mCall (phi_place_number tb) (mCons (mOp1 (fFld tb "directions") (mVar 0)) (mCons (mVar 1) mNil))))
def phi_Grid_machine_at (tb : Tab) : FnD := fnM 2 2 (m_Grid_machine_at tb)
def m_lpick (tb : Tab) : MS := (retS (mOp2 fIx (mVar 2) (mCall (phi_ldraw tb) (mCons (mVar 0) (mCons (mVar 1) (mCons (mOpA fLen (mCons (mVar 2) mNil)) mNil))))))
def phi_lpick (tb : Tab) : FnD := fnM 3 3 (m_lpick tb)
def b_lmachines_1 (tb : Tab) : MS := (exprS (mMeth isL fExtend (mVar 3) (mCons (compM [5] (mRng1 (mCons (mOp2 fIx (mVar 2) (retM (.int 1))) mNil)) (nmT 5) yesM (mOp2 fAdd (mVar 4) (mOpA fTup (mCons (mVar 5) mNil)))) mNil)))
def b_lmachines_2 (tb : Tab) : MS := (seqS (asgS (mOpA fLst mNil) (nmT 3)) (seqS (forS (mSeq (mVar 1)) (nmT 4) (b_lmachines_1 tb)) (asgS (mVar 3) (nmT 1))))
def m_lmachines (tb : Tab) : MS := (seqS (asgS (mOpA fLst (mCons (mOpA fTup mNil) mNil)) (nmT 1)) (seqS (forS (mSeq (mVar 0)) (nmT 2) (b_lmachines_2 tb)) (retS (mVar 1))))
def phi_lmachines (tb : Tab) : FnD := fnM 1 6 (m_lmachines tb)
def b_lsame_1 (tb : Tab) (φ : FnD) : MS := (ifS (mNot (mTst (mCall φ (mCons (mOp2 fIx (mVar 0) (mVar 2)) (mCons (mOp2 fIx (mVar 1) (mVar 2)) mNil))))) (retS (retM (.bl false))) nxS)
def m_lsame (tb : Tab) (φ : FnD) : MS := (seqS (ifS (mTst (mOp2 (fIs false) (mVar 1) (retM .non))) (retS (mOp2 (fIs false) (mVar 0) (retM .non))) nxS) (seqS (ifS (mTst (mOpA (fIsiA tb) (mCons (mVar 1) (mCons (retM (.ty "bool")) mNil)))) (retS (mAndV (mOpA (fIsiA tb) (mCons (mVar 0) (mCons (retM (.ty "bool")) mNil))) (mOp2 fEq (mVar 0) (mVar 1)))) nxS) (seqS (ifS (mTst (mOpA (fIsiA tb) (mCons (mVar 1) (mCons (retM (.ty "str")) mNil)))) (retS (mAndV (mOpA (fIsiA tb) (mCons (mVar 0) (mCons (retM (.ty "str")) mNil))) (mOp2 fEq (mVar 0) (mVar 1)))) nxS) (seqS (ifS (mTst (mOpA (fIsiA tb) (mCons (mVar 1) (mCons (retM (.ty "int")) mNil)))) (retS (mAndV (mOpA (fIsiA tb) (mCons (mVar 0) (mCons (retM (.ty "int")) mNil))) (mAndV (mNotV (mOpA (fIsiA tb) (mCons (mVar 0) (mCons (retM (.ty "bool")) mNil)))) (mOp2 fEq (mVar 0) (mVar 1))))) nxS) (seqS (ifS (mTst (mOpA (fIsiA tb) (mCons (mVar 1) (mCons (retM (.ty "list")) mNil)))) (ifS (mOr (mNot (mTst (mOpA (fIsiA tb) (mCons (mVar 0) (mCons (retM (.ty "list")) mNil))))) (mTst (mOp2 fNe (mOpA fLen (mCons (mVar 0) mNil)) (mOpA fLen (mCons (mVar 1) mNil))))) (retS (retM (.bl false))) nxS) (ifS (mOr (mNot (mTst (mOpA (fIsiA tb) (mCons (mVar 0) (mCons (retM (.ty "tuple")) mNil))))) (mTst (mOp2 fNe (mOpA fLen (mCons (mVar 0) mNil)) (mOpA fLen (mCons (mVar 1) mNil))))) (retS (retM (.bl false))) nxS)) (seqS (forS (mRng1 (mCons (mOpA fLen (mCons (mVar 1) mNil)) mNil)) (nmT 2) (b_lsame_1 tb φ)) (retS (retM (.bl true)))))))))
def phi_lsame (tb : Tab) : Nat → FnD
  | 0 => fun _ _ => none
  | k + 1 => fnM 2 3 (m_lsame tb (phi_lsame tb k))
end PB

set_option Elab.async false
set_option linter.all false
set_option maxRecDepth 100000
set_option maxHeartbeats 1000000
namespace PB
open PySem PySem.Spec PyProof.Rows L2 DD
theorem okS_rng2 {m : MM (List D)} {t : Tg} {b : MS} {e : Sl} {S : So} {P : Fl → Sl → So → Prop} (h : okM m e S fun ds S1 => ∃ (lo : Int) (j : Nat), ds = [.int lo, .int (lo + (j : Nat))] ∧ (-(2 ^ 62) ≤ lo ∧ lo < 2 ^ 62) ∧ lo + (j : Nat) < 2 ^ 62 ∧ ∃ I : Nat → Sl → So → Prop, I 0 e S1 ∧ (∀ i e2 S2, i < j → I i e2 S2 → ∃ e3, t (.int (lo + (i : Nat))) S2 e2 = some e3 ∧ okS b e3 S2 (turnP (I (i + 1)) P)) ∧ ∀ e2 S2, I j e2 S2 → P .nx e2 S2) :
    okS (forS (mRng2 m) t b) e S P := by
  refine okS_for ?_
  unfold mRng2
  simp only [okM_bind]
  refine h.imp fun ds S1 q => ?_
  obtain ⟨lo, j, rfl, hl, hj, I, h0, hs, hd⟩ := q
  have e0 : (lo + (j : Nat) - lo).toNat = j := by omega
  refine ⟨itRng lo j, S1, ?_, fun i e2 S2 => i ≤ j ∧ I i e2 S2, ⟨Nat.zero_le _, h0⟩, fun i e2 S2 hI => ?_⟩
  · unfold rng2
    simp only [e0]
    rw [if_pos ⟨hl, by omega, hj⟩]
  · obtain ⟨hi, hI⟩ := hI
    by_cases hij : i < j
    · obtain ⟨e3, h1, h2⟩ := hs i e2 S2 hij hI
      refine .inr ⟨hij, .int (lo + (i : Nat)), e3, by unfold itRng; simp [hij], h1, h2.imp fun f e' S' q => ?_⟩
      cases f with
      | nx => exact ⟨hij, q⟩
      | ct => exact ⟨hij, q⟩
      | _ => exact q
    · have : i = j := by omega
      subst this
      exact .inl ⟨by unfold itRng; simp, hd _ _ hI⟩
/-! ### the draws of the laws from k24 on -/
abbrev st4 (a b c d : Int) : List D := [.int a, .int b, .int c, .int d]
/-- the state of the draws -/
def St (L n : Nat) (S : So) : Prop := ∃ a b c d : Int, S[n]? = some (.lst (st4 a b c d)) ∧ 0 ≤ a ∧ a ≤ L
/-- nothing but what stands at n is changed -/
structure Same (n : Nat) (S S' : So) : Prop where
  len : S'.length = S.length
  get : ∀ i, i ≠ n → S'[i]? = S[i]?
theorem Same.refl (n : Nat) (S : So) : Same n S S := ⟨rfl, fun _ _ => rfl⟩
theorem Same.trans {n : Nat} {S S1 S2 : So} (a : Same n S S1) (b : Same n S1 S2) : Same n S S2 := ⟨b.len.trans a.len, fun i h => (b.get i h).trans (a.get i h)⟩
theorem Same.set (n : Nat) (S : So) (o : O) : Same n S (S.set n o) := ⟨by simp, fun i h => List.getElem?_set_ne (Ne.symm h)⟩
variable {tb : Tab}
theorem st_at {n : Nat} {S : So} {o o' : O} (h : S[n]? = some o) : (S.set n o')[n]? = some o' := List.getElem?_set_self (List.getElem?_eq_some_iff.mp h).1
theorem sp_ldraw {ns : List Int} {n : Nat} {m : Int} {S : So} {P : D → So → Prop} (hL : ns.length ≤ 1000) (hS : St ns.length n S) (hm : 1 ≤ m) (hm2 : m < 2 ^ 64)
    (hP : ∀ (r : Int) (S' : So), 0 ≤ r → r < m → St ns.length n S' → Same n S S' → P (.int r) S') : okC (phi_ldraw tb [.rol (ns.map .int), .ref n, .int m] S) P := by
  obtain ⟨a, b, c, d, hS, ha, ha2⟩ := hS
  have dv : ∀ x : Int, CDivW x m := fun x => ⟨by omega, by
    by_cases h0 : m.natAbs = 0
    · rw [h0]; decide
    · have : m.natAbs < 2 ^ 64 := by omega
      have := (Nat.log2_lt h0).mpr this
      omega⟩
  have md : ∀ x : Int, 0 ≤ x % m ∧ x % m < m := fun x => ⟨Int.emod_nonneg _ (by omega), Int.emod_lt_of_pos _ (by omega)⟩
  have pw : CPow 10 18 := by unfold CPow; decide
  unfold phi_ldraw
  refine okC_fn rfl ?_
  unfold m_ldraw
  simp only [startE, List.map, List.length, List.replicate, List.cons_append, List.nil_append]
  refine okS_seq ?_
  by_cases hb : 1 < b
  · refine okS_ifT ?_
    simp [fIx_ref hS (show atI (st4 a b c d) 1 = some (.int b) from rfl), hb]
    refine okS_seq (okS_asg ?_)
    simp [fIx_ref hS (show atI (st4 a b c d) 1 = some (.int b) from rfl)]
    refine ⟨by omega, ?_⟩
    refine okS_seq (okS_setix ?_)
    simp [fIx_ref hS (show atI (st4 a b c d) 1 = some (.int b) from rfl), fSet_ref hS (show (0 : Int) ≤ 1 by decide) (by simp)]
    refine ⟨dv _, ?_⟩
    refine okS_ret ?_
    simp
    exact hP _ _ (md b).1 (md b).2 ⟨a, b / m, c, d, st_at hS, ha, ha2⟩ (Same.set _ _ _)
  · refine okS_ifF ?_
    simp [fIx_ref hS (show atI (st4 a b c d) 1 = some (.int b) from rfl), hb]
    refine okS_nx ?_
    simp only [nxt_nx]
    have last : ∀ (e : Sl) (S2 : So) (s4 : Sv) (a2 : Int), S2[n]? = some (.lst (st4 a2 b c d)) → 0 ≤ a2 → a2 ≤ ns.length → Same n S S2 → e = [.v (.rol (ns.map .int)), .v (.ref n), .v (.int m), .no, s4, .no, .no, .no] →
        okS (seqS (setS (mOp2 fAdd (mOp2 fIx (mVar 1) (retM (.int 2))) (retM (.int 1))) (mVar 1) (retM (.int 2))) (seqS (asgS (mIf (mTst (mOp2 (fOrd pGt qGt) (mOpA fLen (mCons (mVar 0) mNil)) (retM (.int 0)))) (mOp2 fIx (mVar 0) (mOp2 fMod (mOpA fInt (mCons (mOp2 fIx (mVar 1) (retM (.int 2))) mNil)) (mOpA fLen (mCons (mVar 0) mNil)))) (retM (.int 5))) (nmT 6)) (seqS (setS (mOp2 fMod (mOpA fInt (mCons (mOp2 fAdd (mOp2 fAdd (mOp2 fAdd (mOp2 fMul (mOp2 fIx (mVar 1) (retM (.int 3))) (retM (.int 48271))) (mOp2 fMul (mVar 6) (retM (.int 16807)))) (mOp2 fMul (mOp2 fIx (mVar 1) (retM (.int 2))) (retM (.int 69621)))) (retM (.int 11))) mNil)) (retM (.int 2147483647))) (mVar 1) (retM (.int 3))) (seqS (asgS (mOp2 fMod (mOpA fInt (mCons (mOp2 fAdd (mOp2 fAdd (mOp2 fMul (mOp2 fIx (mVar 1) (retM (.int 3))) (mOp2 fIx (mVar 1) (retM (.int 3)))) (mOp2 fMul (mOp2 fIx (mVar 1) (retM (.int 2))) (retM (.int 40692)))) (retM (.int 3))) mNil)) (retM (.int 2147483399))) (nmT 7)) (retS (mOp2 fMod (mOpA fInt (mCons (mOp2 fDiv (mVar 7) (retM (.int 7))) mNil)) (mVar 2))))))) e S2 (endP P) := by
      intro e S2 s4 a2 h2 k1 k2 sm ee
      subst ee
      have cmr : ∀ x y : Int, -(2 ^ 64) < y ∧ y < 2 ^ 64 → CMul x y ∨ CMulW x y := fun x y h => .inl (.inr h)
      refine okS_seq (okS_setix ?_)
      simp [fIx_ref h2 (show atI (st4 a2 b c d) 2 = some (.int c) from rfl), fSet_ref h2 (show (0 : Int) ≤ 2 by decide) (by simp)]
      have h3 : (S2.set n (.lst [.int a2, .int b, .int (c + 1), .int d]))[n]? = some (.lst (st4 a2 b (c + 1) d)) := st_at h2
      generalize hS3 : S2.set n (.lst [.int a2, .int b, .int (c + 1), .int d]) = S3 at h3 ⊢
      have sm3 : Same n S S3 := by rw [← hS3]; exact sm.trans (Same.set _ _ _)
      refine okS_seq (okS_asg ?_)
      refine okM.imp (P := fun d2 S4 => S4 = S3 ∧ ∃ v : Int, d2 = .int v) ?_ fun d2 S4 q => ?_
      · by_cases hn : ns = []
        · subst hn
          simp
        · have hpos : 0 < ns.length := List.length_pos_iff.mpr hn
          have j1 : 0 ≤ (c + 1) % (ns.length : Int) ∧ (c + 1) % (ns.length : Int) < ns.length := ⟨Int.emod_nonneg _ (by omega), Int.emod_lt_of_pos _ (by omega)⟩
          obtain ⟨d1, q1, g1⟩ := atI_ok (xs := ns.map D.int) j1.1 (by simpa using j1.2)
          rw [List.getElem?_map] at g1
          obtain ⟨v, g1, rfl⟩ := Option.map_eq_some_iff.mp g1
          simp [hpos, fIx_ref h3 (show atI (st4 a2 b (c + 1) d) 2 = some (.int (c + 1)) from rfl), fIx_rol q1]
      · obtain ⟨rfl, v, rfl⟩ := q
        simp only [nxt_nx, List.set]
        refine okS_seq (okS_setix ?_)
        simp [fIx_ref h3 (show atI (st4 a2 b (c + 1) d) 2 = some (.int (c + 1)) from rfl), fIx_ref h3 (show atI (st4 a2 b (c + 1) d) 3 = some (.int d) from rfl), fSet_ref h3 (show (0 : Int) ≤ 3 by decide) (by simp)]
        refine ⟨cmr _ _ (by decide), cmr _ _ (by decide), cmr _ _ (by decide), ?_⟩
        generalize hq : (d * 48271 + v * 16807 + (c + 1) * 69621 + 11) % 2147483647 = q
        have q1 : 0 ≤ q ∧ q < 2147483647 := by rw [← hq]; exact ⟨Int.emod_nonneg _ (by decide), Int.emod_lt_of_pos _ (by decide)⟩
        have h4 : (S4.set n (.lst [.int a2, .int b, .int (c + 1), .int q]))[n]? = some (.lst (st4 a2 b (c + 1) q)) := st_at h3
        generalize hS5 : S4.set n (.lst [.int a2, .int b, .int (c + 1), .int q]) = S5 at h4 ⊢
        have sm5 : Same n S S5 := by rw [← hS5]; exact sm3.trans (Same.set _ _ _)
        refine okS_seq (okS_asg ?_)
        simp [fIx_ref h4 (show atI (st4 a2 b (c + 1) q) 2 = some (.int (c + 1)) from rfl), fIx_ref h4 (show atI (st4 a2 b (c + 1) q) 3 = some (.int q) from rfl)]
        refine ⟨cmr _ _ (by omega), cmr _ _ (by decide), ?_⟩
        refine okS_ret ?_
        simp
        refine ⟨by unfold CDivW; decide, by omega, ?_⟩
        exact hP _ _ (md _).1 (md _).2 ⟨a2, b, c + 1, q, h4, k1, k2⟩ sm5
    refine okS_seq (okS_rng2 ?_)
    simp [fIx_ref hS (show atI (st4 a b c d) 0 = some (.int a) from rfl)]
    refine ⟨a, ns.length - a.toNat, ⟨rfl, by omega⟩, by omega, by omega, fun i e2 S2 => ∃ s4 a2, S2[n]? = some (.lst (st4 a2 b c d)) ∧ 0 ≤ a2 ∧ a2 ≤ ns.length ∧ Same n S S2 ∧ e2 = [.v (.rol (ns.map .int)), .v (.ref n), .v (.int m), .no, s4, .no, .no, .no], ⟨.no, a, hS, ha, ha2, Same.refl _ _, rfl⟩, ?_, ?_⟩
    · rintro i e2 S2 hi ⟨s4, a2, h2, k1, k2, sm, rfl⟩
      refine ⟨_, rfl, ?_⟩
      have ki : 0 ≤ a + (i : Int) ∧ a + (i : Int) < (ns.map D.int).length := by rw [List.length_map]; omega
      obtain ⟨d1, q1, g1⟩ := atI_ok (xs := ns.map D.int) ki.1 ki.2
      rw [List.getElem?_map] at g1
      obtain ⟨v, g1, rfl⟩ := Option.map_eq_some_iff.mp g1
      unfold b_ldraw_1
      simp only [List.set]
      refine okS_seq (okS_setix ?_)
      simp [fSet_ref h2 (show (0 : Int) ≤ 0 by decide) (by simp)]
      have h3 : (S2.set n (.lst [.int (a + i + 1), .int b, .int c, .int d]))[n]? = some (.lst (st4 (a + i + 1) b c d)) := st_at h2
      generalize hS3 : S2.set n (.lst [.int (a + i + 1), .int b, .int c, .int d]) = S3 at h3 ⊢
      have sm3 : Same n S S3 := by rw [← hS3]; exact sm.trans (Same.set _ _ _)
      have k3 : 0 ≤ a + (i : Int) + 1 ∧ a + (i : Int) + 1 ≤ ns.length := by rw [List.length_map] at ki; omega
      refine okS_if ?_
      have tst : ∀ P : Bool → So → Prop, (∀ x, P x S3) → okM (mOr (mTst (mOp2 (fOrd pGe qGe) (mOp2 fIx (mVar 0) (mVar 4)) (mOp2 fPow (retM (.int 10)) (retM (.int 18))))) (mTst (mOp2 (fOrd pLe qLe) (mOp2 fIx (mVar 0) (mVar 4)) (mOp1 fNeg (mOp2 fPow (retM (.int 10)) (retM (.int 18)))))))
          [.v (.rol (ns.map .int)), .v (.ref n), .v (.int m), .no, .v (.int (a + i)), .no, .no, .no] S3 P := by
        intro P hp
        simp [pw, fIx_rol q1]
        by_cases z1 : v < 1000000000000000000
        · by_cases z2 : -1000000000000000000 < v
          · exact .inl ⟨z1, .inl ⟨z2, hp _⟩⟩
          · exact .inl ⟨z1, .inr ⟨by omega, hp _⟩⟩
        · exact .inr ⟨by omega, hp _⟩
      refine tst _ fun x => ?_
      cases x with
      | false =>
        refine okS_nx ?_
        exact ⟨_, _, h3, k3.1, k3.2, sm3, rfl⟩
      | true =>
        refine okS_seq (okS_asg ?_)
        simp [fIx_rol q1]
        refine okS_seq (okS_setix ?_)
        simp [fSet_ref h3 (show (0 : Int) ≤ 1 by decide) (by simp)]
        refine ⟨dv _, ?_⟩
        refine okS_ret ?_
        simp
        refine ⟨by omega, ?_⟩
        exact hP _ _ (md _).1 (md _).2 ⟨_, _, _, _, st_at h3, k3.1, k3.2⟩ (sm3.trans (Same.set _ _ _))
    · rintro e2 S2 ⟨s4, a2, h2, k1, k2, sm, ee⟩
      exact last e2 S2 s4 a2 h2 k1 k2 sm ee
end PB

set_option Elab.async false
set_option linter.all false
set_option maxRecDepth 100000
set_option maxHeartbeats 1000000
namespace PB
open PySem PySem.Spec PyProof.Rows L2 DD
variable {tb : Tab}
/-! ### the state -/
theorem sp_lstate {ns : List Int} {S : So} {P : D → So → Prop} (hL : ns.length ≤ 1000) (hP : ∀ S', S'.length = S.length + 1 → Keep S S' → St ns.length S.length S' → P (.ref S.length) S') : okC (phi_lstate tb [.rol (ns.map .int)] S) P := by
  have cmr : ∀ x y : Int, -(2 ^ 64) < y ∧ y < 2 ^ 64 → CMul x y ∨ CMulW x y := fun x y h => .inl (.inr h)
  unfold phi_lstate
  refine okC_fn rfl ?_
  unfold m_lstate
  simp only [startE, List.map, List.length, List.replicate, List.cons_append, List.nil_append]
  refine okS_seq (okS_asg ?_)
  simp
  rw [fLst_ok (by simp)]
  simp
  refine okS_seq (okS_rng ?_)
  simp
  refine ⟨ns.length, rfl, by omega, fun i e2 S2 => ∃ s d, e2 = [.v (.rol (ns.map .int)), .v (.ref S.length), s] ∧ S2 = S ++ [.lst (st4 0 0 0 d)], ⟨.no, _, rfl, rfl⟩, ?_, ?_⟩
  · rintro i e2 S2 hi ⟨s, d, rfl, rfl⟩
    refine ⟨_, rfl, ?_⟩
    have h2 : (S ++ [O.lst (st4 0 0 0 d)])[S.length]? = some (.lst (st4 0 0 0 d)) := by simp
    obtain ⟨d1, q1, g1⟩ := atI_ok (xs := ns.map D.int) (i := (i : Int)) (by omega) (by rw [List.length_map]; omega)
    rw [List.getElem?_map] at g1
    obtain ⟨v, g1, rfl⟩ := Option.map_eq_some_iff.mp g1
    unfold b_lstate_1
    simp only [List.set]
    refine okS_setix ?_
    simp [fIx_ref h2 (show atI (st4 0 0 0 d) 3 = some (.int d) from rfl), fIx_rol q1]
    refine ⟨cmr _ _ (by decide), _, fSet_ref h2 (by decide) (by simp), ?_⟩
    refine ⟨(d * 31 + v + (i : Int)) % 2147483647, ?_⟩
    rw [List.set_append_right _ _ (Nat.le_refl _)]
    simp
  · rintro e2 S2 ⟨s, d, rfl, rfl⟩
    refine okS_ret ?_
    simp
    exact hP _ (by simp) (Keep.app _ _) ⟨0, 0, 0, d, by simp, by omega, by omega⟩
/-! ### a word -/
def abc36 : Str := "abcdefghijklmnopqrstuvwxyz0123456789"
theorem sign_ok : ∀ k < 36, (signP (abc36.cps.toList.getD k 0) && (decide (26 ≤ k) || btw "a" "z" (abc36.cps.toList.getD k 0))) = true := by decide +kernel
theorem signs_len : abc36.cps.toList.length = 36 := by decide +kernel
theorem sign_at {S : So} {i : Int} (h0 : 0 ≤ i) (h : i < 36) : ∃ c, fIx (.str abc36) (.int i) S = some (.str ⟨#[c]⟩, S) ∧ signP c = true ∧ (i < 26 → btw "a" "z" c = true) := by
  obtain ⟨c, q, g⟩ := atI_ok (xs := abc36.cps.toList) h0 (by rw [signs_len]; exact h)
  have k := sign_ok i.toNat (by omega)
  rw [List.getD_eq_getElem?_getD, g] at k
  obtain ⟨k1, k2⟩ := Bool.and_eq_true_iff.mp k
  refine ⟨c, ?_, k1, fun hi => ?_⟩
  · unfold fIx
    dsimp only
    rw [if_pos (by show abc36.cps.size ≤ _; rw [← Array.length_toList, signs_len]; have := line200; omega), q]
    rfl
  · rcases Bool.or_eq_true_iff.mp k2 with z | z
    · have := of_decide_eq_true z
      omega
    · exact z
theorem word_one {c : Nat} (h : signP c = true) (h2 : btw "a" "z" c = true) : wordZ ⟨#[c]⟩ = true := by
  unfold wordZ
  have : (⟨#[c]⟩ : Str).cps.toList = [c] := rfl
  rw [this]
  simp only [h2, List.all_cons, List.all_nil, h, Bool.and_true, Bool.true_and]
  rfl
theorem str_len (a b : Str) : (a ++ b).length = a.length + b.length := by show (a.cps ++ b.cps).size = _; simp; rfl
theorem str_cps (a b : Str) : (a ++ b).cps.toList = a.cps.toList ++ b.cps.toList := by show (a.cps ++ b.cps).toList = _; simp
theorem wordZ_iff {w : Str} : wordZ w = true ↔ (1 ≤ w.length ∧ w.length ≤ 8) ∧ (∃ c r, w.cps.toList = c :: r ∧ btw "a" "z" c = true) ∧ ∀ c ∈ w.cps.toList, signP c = true := by
  unfold wordZ
  simp only [Bool.and_eq_true, decide_eq_true_eq, List.all_eq_true]
  constructor
  · rintro ⟨h1, h2, h3⟩
    refine ⟨h1, ?_, h3⟩
    cases q : w.cps.toList with
    | nil => rw [q] at h2; cases h2
    | cons c r => rw [q] at h2; exact ⟨c, r, rfl, h2⟩
  · rintro ⟨h1, ⟨c, r, q, h2⟩, h3⟩
    exact ⟨h1, by rw [q]; exact h2, h3⟩
theorem word_app {w : Str} {c : Nat} (h : wordZ w = true) (hc : signP c = true) (hl : w.length < 8) : wordZ (w ++ ⟨#[c]⟩) = true := by
  obtain ⟨h1, ⟨c0, r, q, h2⟩, h3⟩ := wordZ_iff.mp h
  refine wordZ_iff.mpr ⟨?_, ⟨c0, r ++ [c], by rw [str_cps, q]; rfl, h2⟩, fun x hx => ?_⟩
  · rw [str_len]
    have : (⟨#[c]⟩ : Str).length = 1 := rfl
    omega
  · rw [str_cps] at hx
    rcases List.mem_append.mp hx with z | z
    · exact h3 x z
    · have : x = c := by simpa using z
      rw [this]; exact hc
theorem sp_lword {ns : List Int} {n : Nat} {S : So} {P : D → So → Prop} (hL : ns.length ≤ 1000) (hS : St ns.length n S) (hP : ∀ w S', wordZ w = true → St ns.length n S' → Same n S S' → P (.str w) S') : okC (phi_lword tb [.rol (ns.map .int), .ref n] S) P := by
  unfold phi_lword
  refine okC_fn rfl ?_
  unfold m_lword
  simp only [startE, List.map, List.length, List.replicate, List.cons_append, List.nil_append]
  refine okS_seq (okS_asg ?_)
  simp only [okM_ret, nxt_nx, List.set]
  refine okS_seq (okS_asg ?_)
  simp only [okM_op2, okM_call, okM_cons, okM_var, okM_ret, okM_nil]
  refine ⟨_, rfl, _, rfl, _, rfl, ?_⟩
  refine sp_ldraw hL hS (by decide) (by decide) fun r S1 r0 r1 hS1 sm1 => ?_
  obtain ⟨c, q, c1, c2⟩ := sign_at (S := S1) r0 (by omega)
  have q' : fIx (.str "abcdefghijklmnopqrstuvwxyz0123456789") (.int r) S1 = some (.str ⟨#[c]⟩, S1) := q
  rw [q', okF_some, nxt_nx]
  simp only [List.set]
  refine okS_seq (okS_rng ?_)
  simp only [okM_call, okM_cons, okM_var, okM_ret, okM_nil]
  refine ⟨_, rfl, _, rfl, ?_⟩
  refine sp_ldraw hL hS1 (by decide) (by decide) fun k S2 k0 k1 hS2 sm2 => ?_
  refine ⟨k.toNat, by rw [Int.toNat_of_nonneg k0], by omega, fun i e2 S3 => ∃ w s, e2 = [.v (.rol (ns.map .int)), .v (.ref n), .v (.str abc36), .v (.str w), s] ∧ wordZ w = true ∧ w.length = i + 1 ∧ St ns.length n S3 ∧ Same n S S3, ⟨_, .no, rfl, word_one c1 (c2 r1), rfl, hS2, sm1.trans sm2⟩, ?_, ?_⟩
  · rintro i e2 S3 hi ⟨w, s, rfl, hw, hl, hS3, sm3⟩
    refine ⟨_, rfl, ?_⟩
    unfold b_lword_1
    simp only [List.set]
    refine okS_asg ?_
    simp only [okM_op2, okM_call, okM_cons, okM_var, okM_ret, okM_nil]
    refine ⟨_, rfl, _, rfl, _, rfl, _, rfl, ?_⟩
    refine sp_ldraw hL hS3 (by decide) (by decide) fun j S4 j0 j1 hS4 sm4 => ?_
    obtain ⟨c, q, c1, c2⟩ := sign_at (S := S4) j0 j1
    rw [q, okF_some]
    have e : fAdd (.str w) (.str ⟨#[c]⟩) S4 = some (.str (w ++ ⟨#[c]⟩), S4) := by
      unfold fAdd
      dsimp only
      rw [if_pos (by have := line200; have : (⟨#[c]⟩ : Str).length = 1 := rfl; omega)]
    rw [e, okF_some]
    exact ⟨_, _, rfl, word_app hw c1 (by omega), by rw [str_len]; have : (⟨#[c]⟩ : Str).length = 1 := rfl; omega, hS4, sm3.trans sm4⟩
  · rintro e2 S3 ⟨w, s, rfl, hw, hl, hS3, sm3⟩
    refine okS_ret ?_
    simp only [okM_var]
    exact ⟨_, rfl, hP w S3 hw hS3 sm3⟩
end PB

set_option Elab.async false
set_option linter.all false
set_option maxRecDepth 100000
set_option maxHeartbeats 1000000
namespace PB
open PySem PySem.Spec PyProof.Rows L2 DD
variable {tb : Tab}
/-- all that stood stays, but for the state of the draws -/
structure Kx (n : Nat) (S T : So) : Prop where
  len : S.length ≤ T.length
  get : ∀ i o, i ≠ n → S[i]? = some o → T[i]? = some o
theorem Kx.refl (n : Nat) (S : So) : Kx n S S := ⟨Nat.le_refl _, fun _ _ _ h => h⟩
theorem Kx.trans {n : Nat} {S T U : So} (a : Kx n S T) (b : Kx n T U) : Kx n S U := ⟨Nat.le_trans a.len b.len, fun i o h q => b.get i o h (a.get i o h q)⟩
theorem Same.kx {n : Nat} {S T : So} (h : Same n S T) : Kx n S T := ⟨by rw [h.len]; exact Nat.le_refl _, fun i o hi q => by rw [h.get i hi]; exact q⟩
theorem Keep.kx {n : Nat} {S T : So} (h : Keep S T) : Kx n S T := ⟨h.len, fun i o _ q => h i o q⟩
theorem St.keep {L n : Nat} {S T : So} (h : St L n S) (k : Keep S T) : St L n T := by
  obtain ⟨a, b, c, d, h1, h2⟩ := h
  exact ⟨a, b, c, d, k _ _ h1, h2⟩
theorem St.lt {L n : Nat} {S : So} (h : St L n S) : n < S.length := by
  obtain ⟨a, b, c, d, h1, h2⟩ := h
  exact (List.getElem?_eq_some_iff.mp h1).1
/-! ### words in order -/
theorem strs_flat : ∀ ws : List Str, toFlats (ws.map .str) = some (ws.map V.str)
  | [] => rfl
  | w :: ws => by
    show (match toFlat (.str w), toFlats (ws.map .str) with | some v, some vs => some (v :: vs) | _, _ => none) = _
    rw [strs_flat ws]
    rfl
theorem inV_strs (w : Str) (ws : List Str) : inV (.str w) (ws.map V.str) = decide (w ∈ ws) := by
  induction ws with
  | nil => rfl
  | cons x ws ih =>
    have e : inV (.str w) ((x :: ws).map V.str) = (eqV (.str x) (.str w) || inV (.str w) (ws.map V.str)) := rfl
    rw [e, ih]
    have e2 : eqV (.str x) (.str w) = decide (x = w) := by
      by_cases h : x = w
      · subst h; simp [eqV]
      · simp [eqV, h]
    rw [e2]
    by_cases h : w = x
    · subst h; simp
    · have h' : ¬ x = w := fun q => h q.symm
      simp [h, h']
theorem fInF_strs {w : Str} {f : Nat} {ws : List Str} {S : So} {neg : Bool} (h : S[f]? = some (.lst (ws.map .str))) : fInF neg (.str w) (.ref f) S = some (.bl (if neg then !decide (w ∈ ws) else decide (w ∈ ws)), S) := by
  have q : seqOf (.ref f) S = some (false, ws.map .str) := by unfold seqOf; dsimp only; rw [h]
  unfold fInF
  rw [q]
  dsimp only [toFlat]
  rw [strs_flat]
  dsimp only
  rw [inV_strs]
theorem pys_strs {S : So} {k : Nat} : ∀ ws : List Str, toPys S k (ws.map .str) = some (ws.map .str)
  | [] => by unfold toPys; rfl
  | w :: ws => by
    show toPys S k (.str w :: ws.map .str) = _
    unfold toPys
    have e : toPy S k (.str w) = some (.str w) := by cases k <;> (unfold toPy; rfl)
    rw [pys_strs ws, e]
    rfl
/-- the words in ascending order -/
def sortW (ws : List Str) : List Str := ws.mergeSort fun a b => decide (a.cps.toList ≤ b.cps.toList)
theorem sortW_perm (ws : List Str) : (sortW ws).Perm ws := List.mergeSort_perm _ _
theorem sortW_le (ws : List Str) : (sortW ws).Pairwise fun a b => a.cps.toList ≤ b.cps.toList := by
  have := List.pairwise_mergeSort (le := fun a b : Str => decide (a.cps.toList ≤ b.cps.toList)) (fun a b c h1 h2 => decide_eq_true (List.le_trans (of_decide_eq_true h1) (of_decide_eq_true h2)))
    (fun a b => by rcases List.le_total a.cps.toList b.cps.toList with h | h <;> simp [h]) ws
  exact this.imp fun h => of_decide_eq_true h
theorem sortW_lt {ws : List Str} (nd : ws.Nodup) : (sortW ws).Pairwise fun a b => a.cps.toList < b.cps.toList := by
  have n2 : (sortW ws).Nodup := (sortW_perm ws).symm.nodup nd
  refine (List.pairwise_and_iff.mpr ⟨sortW_le ws, n2⟩).imp fun {a b} ⟨h1, h2⟩ => ?_
  by_cases h : a.cps.toList < b.cps.toList
  · exact h
  · exact absurd (PySem.W.str_of_cps (List.le_antisymm h1 h)) h2
theorem sortD_strs (ws : List Str) : sortD (ws.map .str) (ws.map .str) = (sortW ws).map .str := by
  unfold sortD sortW
  have z : (ws.map D.str).zip (ws.map PyData.str) = ws.map fun w => (D.str w, PyData.str w) := by
    induction ws with
    | nil => rfl
    | cons w ws ih => simp [ih]
  rw [z]
  have h := PySem.W.sort_maps (r := fun a b : Str => decide (a.cps.toList ≤ b.cps.toList)) (s := PySem.W.dataLe false fun b : D × PyData => b.2) (fun w : Str => (D.str w, PyData.str w)) (l := ws) (fun a _ b _ => by
    have := congrFun (congrFun (PySem.W.dataLe_str (fun w : Str => w)) a) b
    exact this.symm)
  rw [← h, List.map_map]
  rfl
theorem sortOk_strs (ws : List Str) : sortOk (ws.map .str) = true := by
  unfold sortOk
  simp only [Bool.and_eq_true, Bool.or_eq_true, List.all_eq_true, List.mem_map]
  refine ⟨?_, .inr ?_, ?_⟩
  · rintro _ ⟨a, _, rfl⟩ _ ⟨b, _, rfl⟩
    rfl
  · rintro _ ⟨a, _, rfl⟩
    rfl
  · rintro _ ⟨a, _, rfl⟩
    exact decide_eq_true (by unfold PyData.depth; omega)
theorem fSorted_strs {f : Nat} {ws : List Str} {S : So} (h : S[f]? = some (.lst (ws.map .str))) : fSorted [.ref f] S = some (.ref S.length, S ++ [.lst ((sortW ws).map .str)]) := by
  have q : seqOf (.ref f) S = some (false, ws.map .str) := by unfold seqOf; dsimp only; rw [h]
  unfold fSorted
  dsimp only
  rw [q]
  dsimp only
  rw [pys_strs]
  dsimp only
  rw [if_pos (sortOk_strs ws), sortD_strs]
theorem ascP_of : ∀ {ws : List Str}, (ws.Pairwise fun a b => a.cps.toList < b.cps.toList) → ascP ws = true
  | [], _ => rfl
  | [_], _ => rfl
  | a :: b :: ws, h => by
    obtain ⟨h1, h2⟩ := List.pairwise_cons.mp h
    have ih := ascP_of h2
    unfold ascP at ih ⊢
    simp only [List.drop_one, List.tail_cons, List.zip_cons_cons, List.all_cons, Bool.and_eq_true] at ih ⊢
    refine ⟨decide_eq_true (h1 b (List.mem_cons_self ..)), ?_⟩
    exact ih
/-! ### slices of a word -/
theorem cutS_to {z : Str} {k : Int} (h0 : 0 ≤ k) (h1 : k ≤ z.length) : (cutS z none (some k)).cps.toList = z.cps.toList.take k.toNat := by
  unfold cutS HT.sIx
  dsimp only
  rw [if_neg (by omega), List.drop_zero, Nat.sub_zero, Nat.min_eq_left (by omega)]
theorem cutS_from {z : Str} {k : Int} (h0 : 0 ≤ k) (h1 : k ≤ z.length) : (cutS z (some k) none).cps.toList = z.cps.toList.drop k.toNat := by
  unfold cutS HT.sIx
  dsimp only
  rw [if_neg (by omega), Nat.min_eq_left (by omega)]
  exact List.take_of_length_le (by rw [List.length_drop, Array.length_toList]; exact Nat.le_refl _)
theorem word_swap {z : Str} {k : Int} {c : Nat} (hz : wordZ z = true) (h0 : 1 ≤ k) (h1 : k < z.length) (hc : signP c = true) : wordZ (cutS z none (some k) ++ ⟨#[c]⟩ ++ cutS z (some (k + 1)) none) = true := by
  obtain ⟨a1, ⟨c0, r, q, a2⟩, a3⟩ := wordZ_iff.mp hz
  have lz : z.cps.toList.length = z.length := by rw [Array.length_toList]; rfl
  have e1 := cutS_to (z := z) (k := k) (by omega) (by omega)
  have e2 := cutS_from (z := z) (k := k + 1) (by omega) (by omega)
  have all : (cutS z none (some k) ++ ⟨#[c]⟩ ++ cutS z (some (k + 1)) none).cps.toList = z.cps.toList.take k.toNat ++ [c] ++ z.cps.toList.drop (k + 1).toNat := by rw [str_cps, str_cps, e1, e2]
  have len : (cutS z none (some k) ++ ⟨#[c]⟩ ++ cutS z (some (k + 1)) none).length = z.length := by
    have : (cutS z none (some k) ++ ⟨#[c]⟩ ++ cutS z (some (k + 1)) none).cps.toList.length = z.length := by
      rw [all]
      simp only [List.length_append, List.length_take, List.length_drop, List.length_cons, List.length_nil, lz]
      omega
    rw [← this, Array.length_toList]
    rfl
  refine wordZ_iff.mpr ⟨by rw [len]; exact a1, ⟨c0, (r.take (k.toNat - 1)) ++ [c] ++ z.cps.toList.drop (k + 1).toNat, ?_, a2⟩, fun x hx => ?_⟩
  · rw [all, q]
    obtain ⟨j, hj⟩ : ∃ j, k.toNat = j + 1 := ⟨k.toNat - 1, by omega⟩
    rw [hj]
    simp
  · rw [all] at hx
    rcases List.mem_append.mp hx with hx | hx
    · rcases List.mem_append.mp hx with hx | hx
      · exact a3 x (List.mem_of_mem_take hx)
      · have : x = c := by simpa using hx
        rw [this]; exact hc
    · exact a3 x (List.mem_of_mem_drop hx)
theorem mSl_to {z : Str} {ma mh : MM D} {e : Sl} {S : So} {P : D → So → Prop} (h : okM ma e S fun a S1 => a = .str z ∧ z.length ≤ 1000 ∧ okM mh e S1 fun k S2 => ∃ i, k = .int i ∧ P (.str (cutS z none (some i))) S2) : okM (mSl ma mNoPart (mPart mh)) e S P := by
  unfold mSl mNoPart mPart
  simp only [okM_bind, okM_ret, okM_lift]
  refine h.imp fun a S1 q => ?_
  obtain ⟨rfl, hl, q⟩ := q
  refine q.imp fun k S2 q => ?_
  obtain ⟨i, rfl, q⟩ := q
  refine ⟨_, _, rfl, ?_⟩
  unfold fSl
  dsimp only
  rw [if_pos (by have := line200k; omega), okF_some]
  exact q
theorem mSl_from {z : Str} {ma ml : MM D} {e : Sl} {S : So} {P : D → So → Prop} (h : okM ma e S fun a S1 => a = .str z ∧ z.length ≤ 1000 ∧ okM ml e S1 fun k S2 => ∃ i, k = .int i ∧ P (.str (cutS z (some i) none)) S2) : okM (mSl ma (mPart ml) mNoPart) e S P := by
  unfold mSl mNoPart mPart
  simp only [okM_bind, okM_ret, okM_lift]
  refine h.imp fun a S1 q => ?_
  obtain ⟨rfl, hl, q⟩ := q
  refine q.imp fun k S2 q => ?_
  obtain ⟨i, rfl, q⟩ := q
  refine ⟨_, _, rfl, ?_⟩
  unfold fSl
  dsimp only
  rw [if_pos (by have := line200k; omega), okF_some]
  exact q
end PB

set_option Elab.async false
set_option linter.all false
set_option maxRecDepth 100000
set_option maxHeartbeats 1000000
namespace PB
open PySem PySem.Spec PyProof.Rows L2 DD
variable {tb : Tab}
theorem nodup_le {α : Type} [DecidableEq α] : ∀ {xs ws : List α}, xs.Nodup → (∀ x ∈ xs, x ∈ ws) → xs.length ≤ ws.length
  | [], _, _, _ => Nat.zero_le _
  | x :: xs, ws, nd, h => by
    obtain ⟨h1, h2⟩ := List.nodup_cons.mp nd
    have hx : x ∈ ws := h x (List.mem_cons_self ..)
    have := nodup_le (ws := ws.erase x) h2 fun y hy => by
      have hne : y ≠ x := fun z => h1 (z ▸ hy)
      exact (List.mem_erase_of_ne hne).mpr (h y (List.mem_cons_of_mem _ hy))
    rw [List.length_erase_of_mem hx] at this
    have : 0 < ws.length := List.length_pos_of_mem hx
    simp only [List.length_cons]
    omega
def lits : List Str := ["z", "y", "x", "w", "v", "u", "t", "s"]
theorem lits_word : ∀ w ∈ lits, wordZ w = true := by decide +kernel
theorem lits_nodup : (lits.take 7).Nodup := by decide +kernel
/-- a store with one list written anew that is not the state -/
theorem St.set_ne {L n f : Nat} {S : So} {o : O} (h : St L n S) (hf : f ≠ n) : St L n (S.set f o) := by
  obtain ⟨a, b, c, d, h1, h2⟩ := h
  exact ⟨a, b, c, d, by rw [List.getElem?_set_ne hf]; exact h1, h2⟩
theorem Kx.set_ge {n f : Nat} {S T : So} {o : O} (h : Kx n S T) (hf : S.length ≤ f) : Kx n S (T.set f o) := ⟨by simp [h.len], fun i x hi q => by
  have := (List.getElem?_eq_some_iff.mp q).1
  rw [List.getElem?_set_ne (by omega)]
  exact h.get i x hi q⟩
/-- the word is taken from the letters until it is new -/
theorem fresh_word {ns : List Int} {n f : Nat} {S : So} {ws : List Str} {w : Str} {d2 d3 d4 : D} {s6 s8 s9 : Sv} {P : Fl → Sl → So → Prop} (hf : S[f]? = some (.lst (ws.map .str))) (hl : ws.length ≤ 6) (hw : wordZ w = true)
    (hP : ∀ w s9 T, wordZ w = true → w ∉ ws → Keep S T → P .nx [.v (.rol (ns.map .int)), .v (.ref n), .v d2, .v d3, .v d4, .v (.ref f), s6, .v (.str w), s8, s9] T) :
    okS (forS (mSeq (mOpA fLst (mCons (retM (.str "z")) (mCons (retM (.str "y")) (mCons (retM (.str "x")) (mCons (retM (.str "w")) (mCons (retM (.str "v")) (mCons (retM (.str "u")) (mCons (retM (.str "t")) (mCons (retM (.str "s")) mNil)))))))))) (nmT 9) (b_lwords_1 tb))
      [.v (.rol (ns.map .int)), .v (.ref n), .v d2, .v d3, .v d4, .v (.ref f), s6, .v (.str w), s8, s9] S P := by
  refine okS_each ?_
  simp only [okM_opA, okM_cons, okM_ret, okM_nil]
  rw [fLst_ok (by simp), okF_some]
  have q0 : seqOf (.ref S.length) (S ++ [.lst (lits.map .str)]) = some (false, lits.map .str) := by unfold seqOf; simp
  obtain ⟨it, g1, g2⟩ := seqI_row (e := [.v (.rol (ns.map .int)), .v (.ref n), .v d2, .v d3, .v d4, .v (.ref f), s6, .v (.str w), s8, s9]) q0
  refine ⟨it, _, g1, g2, fun i e2 T => ∃ w s9, e2 = [.v (.rol (ns.map .int)), .v (.ref n), .v d2, .v d3, .v d4, .v (.ref f), s6, .v (.str w), s8, s9] ∧ wordZ w = true ∧ (i = 0 ∨ lits[i - 1]? = some w) ∧ ∀ j x, j + 1 < i → lits[j]? = some x → x ∈ ws, ⟨w, s9, rfl, hw, .inl rfl, fun j x h => absurd h (by omega)⟩, ?_, ?_⟩
  · rintro i e2 T x k hx ⟨w, s9, rfl, hw, h1, h2⟩
    rw [List.getElem?_map] at hx
    obtain ⟨y, hy, rfl⟩ := Option.map_eq_some_iff.mp hx
    refine ⟨_, rfl, ?_⟩
    have kST : Keep S T := (Keep.app _ _).trans k
    unfold b_lwords_1
    simp only [List.set]
    refine okS_seq (okS_if ?_)
    simp only [okM_tst, okM_op2, okM_var]
    refine ⟨_, rfl, _, rfl, ?_⟩
    rw [fInF_strs (kST _ _ hf), okF_some]
    refine ⟨_, rfl, ?_⟩
    by_cases hin : w ∈ ws
    · simp only [hin, decide_true, Bool.not_true, if_true, Bool.false_eq_true, if_false]
      refine okS_nx ?_
      simp only [nxt_nx]
      refine okS_asg ?_
      simp only [okM_var]
      refine ⟨_, rfl, Keep.refl _, y, _, rfl, lits_word y (List.mem_of_getElem? hy), .inr (by simpa using hy), fun j x hj hx2 => ?_⟩
      by_cases hj2 : j + 1 < i
      · exact h2 j x hj2 hx2
      · have e : j = i - 1 := by omega
        rcases h1 with h1 | h1
        · omega
        · rw [e, h1] at hx2
          cases hx2
          exact hin
    · simp only [hin, decide_false, Bool.not_false, if_true]
      refine okS_fl ?_
      exact hP w _ T hw hin kST
  · rintro e2 T k ⟨w, s9, rfl, hw, h1, h2⟩
    exfalso
    have := nodup_le lits_nodup (ws := ws) fun x hx => by
      obtain ⟨j, hj⟩ := List.mem_iff_getElem?.mp hx
      rw [List.getElem?_take] at hj
      split at hj
      · exact h2 j x (by show j + 1 < 8; omega) hj
      · cases hj
    have l7 : (lits.take 7).length = 7 := rfl
    omega
theorem sp_lwords {ns : List Int} {n many : Nat} {S : So} {P : D → So → Prop} (hL : ns.length ≤ 1000) (hS : St ns.length n S) (hm : many ≤ 6)
    (hP : ∀ ws T j, ws.length = many → ascP ws = true → (∀ w ∈ ws, wordZ w = true) → T[j]? = some (.lst (ws.map .str)) → S.length ≤ j → St ns.length n T → Kx n S T → P (.ref j) T) :
    okC (phi_lwords tb [.rol (ns.map .int), .ref n, .int (many : Nat)] S) P := by
  unfold phi_lwords
  refine okC_fn rfl ?_
  unfold m_lwords
  simp only [startE, List.map, List.length, List.replicate, List.cons_append, List.nil_append]
  refine okS_seq (okS_asg ?_)
  simp only [okM_call, okM_cons, okM_var, okM_nil]
  refine ⟨_, rfl, _, rfl, ?_⟩
  refine sp_lword hL hS fun base S1 hb hS1 sm1 => ?_
  simp only [nxt_nx, List.set]
  refine okS_seq (okS_asg ?_)
  simp only [okM_op2, okM_call, okM_cons, okM_var, okM_ret, okM_nil]
  refine ⟨_, rfl, _, rfl, ?_⟩
  refine sp_ldraw hL hS1 (by decide) (by decide) fun r S2 r0 r1 hS2 sm2 => ?_
  rw [fEq_int, okF_some]
  simp only [nxt_nx, List.set]
  refine okS_seq (okS_asg ?_)
  simp only [okM_opA, okM_nil]
  rw [fLst_ok (by simp), okF_some]
  simp only [nxt_nx, List.set]
  have kx2 : Kx n S S2 := sm1.kx.trans sm2.kx
  have nlt : n < S2.length := hS2.lt
  have b8 := (wordZ_iff.mp hb).1
  refine okS_seq (okS_rng ?_)
  simp only [okM_cons, okM_var, okM_nil]
  refine ⟨_, rfl, many, rfl, by omega, fun i e2 T => ∃ (ws : List Str) (s6 s7 s8 s9 : Sv), e2 = [.v (.rol (ns.map .int)), .v (.ref n), .v (.int (many : Nat)), .v (.str base), .v (.bl (r == 0)), .v (.ref S2.length), s6, s7, s8, s9] ∧ ws.length = i ∧ ws.Nodup ∧ (∀ w ∈ ws, wordZ w = true) ∧
    T[S2.length]? = some (.lst (ws.map .str)) ∧ St ns.length n T ∧ Kx n S T, ⟨[], .no, .no, .no, .no, rfl, rfl, List.nodup_nil, fun _ h => (by cases h), by simp, hS2.keep (Keep.app _ _), kx2.trans (Keep.kx (Keep.app _ _))⟩, ?_, ?_⟩
  · rintro i e2 T hi ⟨ws, s6, s7, s8, s9, rfl, lw, nd, hws, hT, hST, kT⟩
    refine ⟨_, rfl, ?_⟩
    unfold b_lwords_2
    simp only [List.set]
    refine okS_seq (okS_asg ?_)
    simp only [okM_call, okM_cons, okM_var, okM_nil]
    refine ⟨_, rfl, _, rfl, ?_⟩
    refine sp_lword hL hST fun w0 T1 hw0 hS3 sm3 => ?_
    simp only [nxt_nx, List.set]
    have rest : ∀ (w : Str) (T2 : So) (s8 : Sv), wordZ w = true → St ns.length n T2 → Same n T T2 →
        okS (seqS (forS (mSeq (mOpA fLst (mCons (retM (.str "z")) (mCons (retM (.str "y")) (mCons (retM (.str "x")) (mCons (retM (.str "w")) (mCons (retM (.str "v")) (mCons (retM (.str "u")) (mCons (retM (.str "t")) (mCons (retM (.str "s")) mNil)))))))))) (nmT 9) (b_lwords_1 tb)) (exprS (mMeth isL fAppend (mVar 5) (mCons (mVar 7) mNil))))
          [.v (.rol (ns.map .int)), .v (.ref n), .v (.int (many : Nat)), .v (.str base), .v (.bl (r == 0)), .v (.ref S2.length), .v (.int (i : Nat)), .v (.str w), s8, s9] T2
          (turnP (fun e2 T => ∃ (ws : List Str) (s6 s7 s8 s9 : Sv), e2 = [.v (.rol (ns.map .int)), .v (.ref n), .v (.int (many : Nat)), .v (.str base), .v (.bl (r == 0)), .v (.ref S2.length), s6, s7, s8, s9] ∧ ws.length = i + 1 ∧ ws.Nodup ∧ (∀ w ∈ ws, wordZ w = true) ∧
            T[S2.length]? = some (.lst (ws.map .str)) ∧ St ns.length n T ∧ Kx n S T) (nxt (retS (mOpA fSorted (mCons (mVar 5) mNil))) (endP P))) := by
      intro w T2 s8 hw hS4 sm4
      have hT2 : T2[S2.length]? = some (.lst (ws.map .str)) := by rw [sm4.get _ (by omega)]; exact hT
      refine okS_seq (fresh_word hT2 (by omega) hw fun w s9 T3 hw hn k3 => ?_)
      simp only [nxt_nx]
      refine okS_expr ?_
      simp only [okM_meth, okM_var, okM_cons, okM_nil]
      refine ⟨_, rfl, isL_ref (k3 _ _ hT2), _, rfl, ?_⟩
      rw [fAppend_ref (k3 _ _ hT2) (by rw [List.length_map]; have := line200; omega), okF_some]
      refine ⟨ws ++ [w], _, _, _, _, rfl, by simp [lw], ?_, ?_, ?_, (hS4.keep k3).set_ne (by omega), (kT.trans (sm4.kx.trans (Keep.kx k3))).set_ge (by have := kx2.len; omega)⟩
      · exact List.nodup_append.mpr ⟨nd, by simp, fun a ha b hb => by
          have : b = w := by simpa using hb
          rw [this]
          exact fun z => hn (z ▸ ha)⟩
      · intro x hx
        rcases List.mem_append.mp hx with hx | hx
        · exact hws x hx
        · have : x = w := by simpa using hx
          rw [this]; exact hw
      · rw [st_at (k3 _ _ hT2)]
        simp
    refine okS_seq (okS_if ?_)
    simp only [okM_and, okM_tst, okM_var]
    refine ⟨_, rfl, _, rfl, ?_⟩
    by_cases ha : (r == 0) = true
    · rw [if_pos ha]
      simp only [okM_op2, okM_opA, okM_cons, okM_var, okM_nil, okM_ret]
      refine ⟨_, rfl, ?_⟩
      have fl : fLen [.str base] T1 = some (.int base.length, T1) := by unfold fLen; dsimp only; rw [if_pos (by have := line200; omega)]
      rw [fl, okF_some, fOrd_int, okF_some]
      by_cases hb1 : 1 < base.length
      · have e1 : pGt (base.length : Int) 1 = true := decide_eq_true (by omega)
        refine ⟨_, rfl, ?_⟩
        rw [e1, if_pos rfl]
        refine okS_seq (okS_asg ?_)
        simp only [okM_op2, okM_opA, okM_call, okM_cons, okM_var, okM_nil, okM_ret]
        refine ⟨_, rfl, _, rfl, _, rfl, ?_⟩
        rw [fl, okF_some, fSub_int, okF_some]
        refine sp_ldraw hL hS3 (by omega) (by omega) fun j T2 j0 j1 hS4 sm4 => ?_
        rw [fAdd_int, okF_some]
        simp only [nxt_nx, List.set]
        refine okS_asg ?_
        simp only [okM_op2]
        refine mSl_to (z := base) ?_
        simp only [okM_var]
        refine ⟨_, rfl, rfl, by omega, _, rfl, _, rfl, ?_⟩
        simp only [okM_ret, okM_call, okM_cons, okM_var, okM_nil]
        refine ⟨_, rfl, _, rfl, ?_⟩
        refine sp_ldraw hL hS4 (by decide) (by decide) fun q T3 q0 q1 hS5 sm5 => ?_
        obtain ⟨c, g, c1, _⟩ := sign_at (S := T3) q0 q1
        have g' : fIx (.str "abcdefghijklmnopqrstuvwxyz0123456789") (.int q) T3 = some (.str ⟨#[c]⟩, T3) := g
        rw [g', okF_some]
        have hsw := word_swap (k := 1 + j) hb (by omega) (by omega) c1
        have l9 := (wordZ_iff.mp hsw).1
        rw [str_len, str_len] at l9
        have add : ∀ x y : Str, x.length + y.length ≤ 8 → fAdd (.str x) (.str y) T3 = some (.str (x ++ y), T3) := fun x y h => by
          unfold fAdd
          dsimp only
          rw [if_pos (by have := line200; omega)]
        rw [add _ _ (by omega), okF_some]
        refine mSl_from (z := base) ?_
        simp only [okM_var, okM_op2, okM_ret]
        refine ⟨_, rfl, rfl, by omega, _, rfl, ?_⟩
        rw [fAdd_int, okF_some]
        refine ⟨_, rfl, ?_⟩
        rw [add _ _ (by rw [str_len]; omega), okF_some]
        exact rest _ T3 _ hsw hS5 (sm3.trans (sm4.trans sm5))
      · have e1 : pGt (base.length : Int) 1 = false := decide_eq_false (by omega)
        refine ⟨_, rfl, ?_⟩
        rw [e1, if_neg (by decide)]
        refine okS_nx ?_
        simp only [nxt_nx]
        exact rest w0 T1 _ hw0 hS3 sm3
    · rw [if_neg ha]
      simp only [Bool.not_eq_true] at ha
      rw [if_neg (by decide)]
      refine okS_nx ?_
      simp only [nxt_nx]
      exact rest w0 T1 _ hw0 hS3 sm3
  · rintro e2 T ⟨ws, s6, s7, s8, s9, rfl, lw, nd, hws, hT, hST, kT⟩
    simp only [nxt_nx]
    refine okS_ret ?_
    simp only [okM_opA, okM_cons, okM_var, okM_nil]
    refine ⟨_, rfl, ?_⟩
    rw [fSorted_strs hT, okF_some]
    have pm := sortW_perm ws
    exact hP (sortW ws) _ _ (by rw [pm.length_eq, lw]) (ascP_of (sortW_lt nd)) (fun w hw => hws w (pm.mem_iff.mp hw)) (by simp) kT.len (hST.keep (Keep.app _ _)) (kT.trans (Keep.kx (Keep.app _ _)))
end PB

set_option Elab.async false
set_option linter.all false
set_option maxRecDepth 100000
set_option maxHeartbeats 1000000
namespace PB
open PySem PySem.Spec PyProof.Rows L2 DD
variable {tb : Tab}
def prodN (ss : List Nat) : Nat := ss.foldl (· * ·) 1
theorem prodN_app (ss : List Nat) (s : Nat) : prodN (ss ++ [s]) = prodN ss * s := by unfold prodN; rw [List.foldl_append]; rfl
def prD (p : Str × Nat) : D := .tup [.str p.1, .int (p.2 : Nat)]
def sizeB (tb : Tab) (M : Nat) : MS := (seqS (asgS (mOp2 fAdd (retM (.int 1)) (mCall (phi_ldraw tb) (mCons (mVar 0) (mCons (mVar 1) (mCons (mOpA fMin2 (mCons (retM (.int M)) (mCons (mVar 4) mNil))) mNil))))) (nmT 7)) (seqS (exprS (mMeth isL fAppend (mVar 5) (mCons (mVar 7) mNil))) (asgS (mOp2 fDiv (mVar 4) (mVar 7)) (nmT 4))))
theorem size_turn {ns : List Int} {n f M left : Nat} {S : So} {ss : List Nat} {d2 d3 : D} {s6 s7 s8 : Sv} {P : Fl → Sl → So → Prop} (hL : ns.length ≤ 1000) (hS : St ns.length n S) (hM : 1 ≤ M ∧ M ≤ 100) (hf : S[f]? = some (.lst (ss.map fun s => .int (s : Nat)))) (hl : ss.length ≤ 100) (h1 : 1 ≤ left) (hfn : f ≠ n)
    (hP : ∀ s left' T, 1 ≤ s → s ≤ M → 1 ≤ left' → s * left' ≤ left → St ns.length n T → Kx n (S.set f (.lst ((ss ++ [s]).map fun s => .int (s : Nat)))) T → T[f]? = some (.lst ((ss ++ [s]).map fun s => .int (s : Nat))) → P .nx [.v (.rol (ns.map .int)), .v (.ref n), .v d2, .v d3, .v (.int (left' : Nat)), .v (.ref f), s6, .v (.int (s : Nat)), s8] T) :
    okS (sizeB tb M) [.v (.rol (ns.map .int)), .v (.ref n), .v d2, .v d3, .v (.int (left : Nat)), .v (.ref f), s6, s7, s8] S P := by
  unfold sizeB
  refine okS_seq (okS_asg ?_)
  simp only [okM_op2, okM_opA, okM_call, okM_cons, okM_var, okM_nil, okM_ret]
  refine ⟨_, rfl, _, rfl, _, rfl, ?_⟩
  have mn : fMin2 [.int (M : Nat), .int (left : Nat)] S = some (.int ((min M left : Nat) : Int), S) := by
    unfold fMin2
    dsimp only
    congr 3
    split <;> omega
  rw [mn, okF_some]
  refine sp_ldraw hL hS (by omega) (by omega) fun r T r0 r1 hT sm => ?_
  rw [fAdd_int, okF_some]
  simp only [nxt_nx, List.set]
  obtain ⟨s, hs⟩ : ∃ s : Nat, (1 + r) = (s : Int) := ⟨(1 + r).toNat, by omega⟩
  rw [hs]
  have hTf : T[f]? = some (.lst (ss.map fun s => .int (s : Nat))) := by rw [sm.get f hfn]; exact hf
  refine okS_seq (okS_expr ?_)
  simp only [okM_meth, okM_var, okM_cons, okM_nil]
  refine ⟨_, rfl, isL_ref hTf, _, rfl, ?_⟩
  rw [fAppend_ref hTf (by rw [List.length_map]; have := line200; omega), okF_some]
  simp only [nxt_nx]
  refine okS_asg ?_
  simp only [okM_op2, okM_var]
  refine ⟨_, rfl, _, rfl, ?_⟩
  rw [okF_div]
  have e : ((left : Nat) : Int) / ((s : Nat) : Int) = ((left / s : Nat) : Int) := by simp
  rw [e]
  have app : (ss.map fun s => D.int (s : Nat)) ++ [D.int (s : Nat)] = (ss ++ [s]).map fun s => D.int (s : Nat) := by simp
  rw [app]
  have sl : s ≤ left := by omega
  refine ⟨⟨by omega, ?_⟩, hP s (left / s) _ (by omega) (by omega) (Nat.div_pos sl (by omega)) (Nat.mul_div_le _ _) (hT.set_ne hfn) ?_ (st_at hTf)⟩
  · have h0 : (s : Int).natAbs ≠ 0 := by omega
    have : (s : Int).natAbs < 2 ^ 64 := by omega
    have := (Nat.log2_lt h0).mpr this
    omega
  · refine ⟨by simp [sm.len], fun i o hi q => ?_⟩
    by_cases hif : i = f
    · subst hif
      rw [st_at hf] at q
      rw [st_at hTf]
      exact q
    · rw [List.getElem?_set_ne (Ne.symm hif)] at q ⊢
      rw [sm.get i hi]
      exact q
/-- [f(k) for k in range(s)] that changes nothing else -/
theorem okM_rngQ {own : List Nat} {m : MM (List D)} {t : Tg} {te : MM D} {e : Sl} {S : So} {s : Nat} {f : Nat → D} {P : D → So → Prop} (hm : okM m e S fun ds T => ds = [.int (s : Nat)] ∧ T = S) (hs : s < 100000)
    (hte : ∀ j T, j < s → Keep S T → ∃ e3, t (.int (j : Nat)) T (wipeE e own) = some e3 ∧ okM te e3 T fun y U => U = T ∧ y = f j)
    (hP : ∀ T, Keep S T → T[S.length]? = some (.lst ((List.range s).map f)) → P (.ref S.length) T) : okM (compM own (mRng1 m) t yesM te) e S P := by
  refine okM_compR (hm.imp fun ds T q => ?_)
  obtain ⟨rfl, rfl⟩ := q
  refine ⟨s, rfl, by omega, fun i U => Keep T U ∧ U[T.length]? = some (.lst ((List.range i).map f)), ⟨Keep.app _ _, get_new⟩, ?_, fun U h => hP U h.1 h.2⟩
  intro i U hi hU
  obtain ⟨h1, h2⟩ := hU
  obtain ⟨e3, g1, g2⟩ := hte i U hi h1
  refine ⟨e3, g1, g2.imp fun y V q => ?_⟩
  obtain ⟨rfl, rfl⟩ := q
  have := line200k
  refine ⟨_, h2, by simp; omega, keep_set h1 (Nat.le_refl _), ?_⟩
  rw [List.getElem?_set_self (List.getElem?_eq_some_iff.mp h2).1, List.range_succ, List.map_append]
  rfl
/-- pairs of names and sizes, as the laws draw them -/
structure Sized (M cells : Nat) (l : List (Str × Nat)) : Prop where
  asc : ascP (l.map (·.1)) = true
  word : ∀ p ∈ l, wordZ p.1 = true
  size : ∀ p ∈ l, 1 ≤ p.2 ∧ p.2 ≤ M
  prod : prodN (l.map (·.2)) ≤ cells
theorem sizes_named {ns : List Int} {n f M cells : Nat} {S : So} {ss : List Nat} {d2 d3 d4 : D} {s6 s7 s8 : Sv} {P : D → So → Prop} (hL : ns.length ≤ 1000) (hS : St ns.length n S) (hf : S[f]? = some (.lst (ss.map fun s => .int (s : Nat)))) (hfn : f ≠ n) (hl : ss.length ≤ 6)
    (h1 : ∀ s ∈ ss, 1 ≤ s ∧ s ≤ M) (h2 : prodN ss ≤ cells)
    (hP : ∀ l T j, l.length = ss.length → Sized M cells l → T[j]? = some (.lst (l.map prD)) → S.length ≤ j → St ns.length n T → Kx n S T → P (.ref j) T) :
    okS (seqS (asgS (mCall (phi_lwords tb) (mCons (mVar 0) (mCons (mVar 1) (mCons (mOpA fLen (mCons (mVar 5) mNil)) mNil)))) (nmT 8)) (retS (compM [6] (mRng1 (mCons (mOpA fLen (mCons (mVar 5) mNil)) mNil)) (nmT 6) yesM (mOpA fTup (mCons (mOp2 fIx (mVar 8) (mVar 6)) (mCons (mOp2 fIx (mVar 5) (mVar 6)) mNil))))))
      [.v (.rol (ns.map .int)), .v (.ref n), .v d2, .v d3, .v d4, .v (.ref f), s6, s7, s8] S (endP P) := by
  refine okS_seq (okS_asg ?_)
  simp only [okM_opA, okM_call, okM_cons, okM_var, okM_nil]
  refine ⟨_, rfl, _, rfl, _, rfl, ?_⟩
  rw [fLen_ref hf, okF_some, List.length_map]
  refine sp_lwords hL hS hl fun ws T j lw asc hw hj hjS hT kx => ?_
  simp only [nxt_nx, List.set]
  refine okS_ret ?_
  have hTf : T[f]? = some (.lst (ss.map fun s => .int (s : Nat))) := kx.get f _ hfn hf
  refine okM_rngQ (s := ss.length) (f := fun k => prD (ws.getD k Str.empty, ss.getD k 0)) ?_ (by omega) ?_ ?_
  · simp only [okM_opA, okM_cons, okM_var, okM_nil]
    refine ⟨_, rfl, ?_⟩
    rw [fLen_ref hTf, okF_some, List.length_map]
    exact ⟨rfl, rfl⟩
  · intro k U hk kU
    refine ⟨_, rfl, ?_⟩
    have g1 : ws[k]? = some (ws.getD k Str.empty) := by
      have : k < ws.length := by omega
      rw [List.getElem?_eq_getElem this, List.getD_eq_getElem?_getD, List.getElem?_eq_getElem this]; rfl
    have g2 : ss[k]? = some (ss.getD k 0) := by rw [List.getElem?_eq_getElem hk, List.getD_eq_getElem?_getD, List.getElem?_eq_getElem hk]; rfl
    have a1 : atI (ws.map D.str) (k : Int) = some (.str (ws.getD k Str.empty)) := by
      obtain ⟨d, q, g⟩ := atI_ok (xs := ws.map D.str) (i := (k : Int)) (by omega) (by rw [List.length_map]; omega)
      rw [Int.toNat_natCast, List.getElem?_map, g1] at g
      cases g
      exact q
    have a2 : atI (ss.map fun s => D.int (s : Nat)) (k : Int) = some (.int (ss.getD k 0 : Nat)) := by
      obtain ⟨d, q, g⟩ := atI_ok (xs := ss.map fun s => D.int (s : Nat)) (i := (k : Int)) (by omega) (by rw [List.length_map]; omega)
      rw [Int.toNat_natCast, List.getElem?_map, g2] at g
      cases g
      exact q
    have w1 : (wipeE [Sv.v (.rol (ns.map .int)), .v (.ref n), .v d2, .v d3, .v d4, .v (.ref f), s6, s7, .v (.ref j)] [6]).set 6 (.v (.int (k : Nat))) = [Sv.v (.rol (ns.map .int)), .v (.ref n), .v d2, .v d3, .v d4, .v (.ref f), .v (.int (k : Nat)), s7, .v (.ref j)] := rfl
    simp only [okM_opA, okM_op2, okM_cons, okM_var, okM_nil]
    refine ⟨_, rfl, _, rfl, ?_⟩
    rw [fIx_ref (kU _ _ hj) a1, okF_some]
    refine ⟨_, rfl, _, rfl, ?_⟩
    rw [fIx_ref (kU _ _ hTf) a2, okF_some, fTup_ok (by simp), okF_some]
    exact ⟨rfl, rfl⟩
  · intro U kU hU
    let l : List (Str × Nat) := (List.range ss.length).map fun k => (ws.getD k Str.empty, ss.getD k 0)
    have l1 : l.map (·.1) = ws := by
      apply List.ext_getElem?
      intro k
      show (((List.range ss.length).map fun k => (ws.getD k Str.empty, ss.getD k 0)).map (·.1))[k]? = ws[k]?
      rw [List.map_map, List.getElem?_map]
      by_cases hk : k < ss.length
      · have hk2 : k < ws.length := by omega
        rw [List.getElem?_range hk, List.getElem?_eq_getElem hk2]
        show some (ws.getD k Str.empty) = _
        rw [List.getD_eq_getElem?_getD, List.getElem?_eq_getElem hk2]; rfl
      · rw [List.getElem?_eq_none (by simp; omega), List.getElem?_eq_none (by omega)]; rfl
    have l2 : l.map (·.2) = ss := by
      apply List.ext_getElem?
      intro k
      show (((List.range ss.length).map fun k => (ws.getD k Str.empty, ss.getD k 0)).map (·.2))[k]? = ss[k]?
      rw [List.map_map, List.getElem?_map]
      by_cases hk : k < ss.length
      · rw [List.getElem?_range hk, List.getElem?_eq_getElem hk]
        show some (ss.getD k 0) = _
        rw [List.getD_eq_getElem?_getD, List.getElem?_eq_getElem hk]; rfl
      · rw [List.getElem?_eq_none (by simp; omega), List.getElem?_eq_none (by omega)]; rfl
    refine hP l U T.length (by simp [l]) ⟨by rw [l1]; exact asc, fun p hp => ?_, fun p hp => ?_, by rw [l2]; exact h2⟩ ?_ kx.len (hT.keep kU) (kx.trans (Keep.kx kU))
    · exact hw p.1 (by rw [← l1]; exact List.mem_map_of_mem hp)
    · exact h1 p.2 (by rw [← l2]; exact List.mem_map_of_mem hp)
    · rw [hU]
      show _ = some (O.lst (((List.range ss.length).map fun k => (ws.getD k Str.empty, ss.getD k 0)).map prD))
      rw [List.map_map]
      rfl
end PB

set_option Elab.async false
set_option linter.all false
set_option maxRecDepth 100000
set_option maxHeartbeats 1000000
namespace PB
open PySem PySem.Spec PyProof.Rows L2 DD
variable {tb : Tab}
theorem sp_lgrid {ns : List Int} {n cells ways : Nat} {S : So} {P : D → So → Prop} (hL : ns.length ≤ 1000) (hS0 : St ns.length n S) (hw : 1 ≤ ways ∧ ways ≤ 6) (hcl : 1 ≤ cells ∧ cells ≤ 1000)
    (hP : ∀ l T j, 1 ≤ l.length → l.length ≤ ways → Sized 4 cells l → T[j]? = some (.lst (l.map prD)) → S.length ≤ j → St ns.length n T → Kx n S T → P (.ref j) T) :
    okC (phi_lgrid tb [.rol (ns.map .int), .ref n, (.int (cells : Nat)), (.int (ways : Nat))] S) P := by
  unfold phi_lgrid
  refine okC_fn rfl ?_
  unfold m_lgrid
  simp only [startE, List.map, List.length, List.replicate, List.cons_append, List.nil_append]
  refine okS_seq (okS_asg ?_)
  simp only [okM_var]
  refine ⟨_, rfl, ?_⟩
  simp only [nxt_nx, List.set]
  refine okS_seq (okS_asg ?_)
  simp only [okM_opA, okM_nil]
  rw [fLst_ok (by simp), okF_some]
  simp only [nxt_nx, List.set]
  have nlt := hS0.lt
  have hS : St ns.length n (S ++ [.lst []]) := hS0.keep (Keep.app _ _)
  refine okS_seq (okS_rng ?_)
  simp only [okM_op2, okM_call, okM_cons, okM_var, okM_ret, okM_nil]
  refine ⟨_, rfl, _, rfl, _, rfl, ?_⟩
  refine sp_ldraw hL hS (by omega) (by omega) fun r S1 r0 r1 hS1 sm1 => ?_
  rw [fAdd_int, okF_some]
  obtain ⟨cnt, hc⟩ : ∃ cnt : Nat, 1 + r = (cnt : Int) := ⟨(1 + r).toNat, by omega⟩
  rw [hc]
  refine ⟨cnt, rfl, by omega, fun i e2 T => ∃ (ss : List Nat) (left : Nat) (s6 s7 : Sv), e2 = [.v (.rol (ns.map .int)), .v (.ref n), .v (.int (cells : Nat)), .v (.int (ways : Nat)), .v (.int (left : Nat)), .v (.ref S.length), s6, s7, .no] ∧ ss.length = i ∧ 1 ≤ left ∧ prodN ss * left ≤ cells ∧ (∀ s ∈ ss, 1 ≤ s ∧ s ≤ 4) ∧
    T[S.length]? = some (.lst (ss.map fun s => .int (s : Nat))) ∧ St ns.length n T ∧ Kx n S T, ⟨[], cells, .no, .no, rfl, rfl, hcl.1, by simp [prodN], fun _ h => (by cases h), ?_, hS1, (Keep.kx (Keep.app _ _)).trans sm1.kx⟩, ?_, ?_⟩
  · rw [sm1.get _ (by omega)]
    simp
  · rintro i e2 T hi ⟨ss, left, s6, s7, rfl, ls, l1, pr, hs, hT, hST, kT⟩
    refine ⟨_, rfl, ?_⟩
    refine size_turn (M := 4) hL hST (by decide) hT (by omega) l1 (by omega) fun s left' U s1 s2 l2 m hU kU hUf => ?_
    refine ⟨ss ++ [s], left', _, _, rfl, by simp [ls], l2, ?_, ?_, hUf, hU, (kT.set_ge (Nat.le_refl _)).trans kU⟩
    · rw [prodN_app, Nat.mul_assoc]
      exact Nat.le_trans (Nat.mul_le_mul_left _ m) pr
    · intro x hx
      rcases List.mem_append.mp hx with hx | hx
      · exact hs x hx
      · have : x = s := by simpa using hx
        rw [this]; exact ⟨s1, s2⟩
  · rintro e2 T ⟨ss, left, s6, s7, rfl, ls, l1, pr, hs, hT, hST, kT⟩
    simp only [nxt_nx]
    have pr2 : prodN ss ≤ cells := Nat.le_trans (Nat.le_mul_of_pos_right _ l1) pr
    exact sizes_named hL hST hT (by omega) (by omega) hs pr2 fun l U j hl hz hj hjS hU kU => hP l U j (by omega) (by omega) hz hj (Nat.le_trans kT.len hjS) hU (kT.trans kU)
theorem sp_lsides {ns : List Int} {n cells ways : Nat} {S : So} {P : D → So → Prop} (hL : ns.length ≤ 1000) (hS0 : St ns.length n S) (hw : ways ≤ 6) (hcl : 1 ≤ cells ∧ cells ≤ 1000)
    (hP : ∀ l T j, l.length ≤ ways → Sized 6 cells l → T[j]? = some (.lst (l.map prD)) → S.length ≤ j → St ns.length n T → Kx n S T → P (.ref j) T) :
    okC (phi_lsides tb [.rol (ns.map .int), .ref n, (.int (ways : Nat)), (.int (cells : Nat))] S) P := by
  unfold phi_lsides
  refine okC_fn rfl ?_
  unfold m_lsides
  simp only [startE, List.map, List.length, List.replicate, List.cons_append, List.nil_append]
  refine okS_seq (okS_asg ?_)
  simp only [okM_var]
  refine ⟨_, rfl, ?_⟩
  simp only [nxt_nx, List.set]
  refine okS_seq (okS_asg ?_)
  simp only [okM_opA, okM_nil]
  rw [fLst_ok (by simp), okF_some]
  simp only [nxt_nx, List.set]
  have nlt := hS0.lt
  have hS : St ns.length n (S ++ [.lst []]) := hS0.keep (Keep.app _ _)
  refine okS_seq (okS_rng ?_)
  simp only [okM_op2, okM_call, okM_cons, okM_var, okM_ret, okM_nil]
  refine ⟨_, rfl, _, rfl, _, rfl, ?_⟩
  rw [fAdd_int, okF_some]
  refine sp_ldraw hL hS (by omega) (by omega) fun r S1 r0 r1 hS1 sm1 => ?_
  obtain ⟨cnt, hc⟩ : ∃ cnt : Nat, r = (cnt : Int) := ⟨r.toNat, by omega⟩
  rw [hc]
  refine ⟨cnt, rfl, by omega, fun i e2 T => ∃ (ss : List Nat) (left : Nat) (s6 s7 : Sv), e2 = [.v (.rol (ns.map .int)), .v (.ref n), .v (.int (ways : Nat)), .v (.int (cells : Nat)), .v (.int (left : Nat)), .v (.ref S.length), s6, s7, .no] ∧ ss.length = i ∧ 1 ≤ left ∧ prodN ss * left ≤ cells ∧ (∀ s ∈ ss, 1 ≤ s ∧ s ≤ 6) ∧
    T[S.length]? = some (.lst (ss.map fun s => .int (s : Nat))) ∧ St ns.length n T ∧ Kx n S T, ⟨[], cells, .no, .no, rfl, rfl, hcl.1, by simp [prodN], fun _ h => (by cases h), ?_, hS1, (Keep.kx (Keep.app _ _)).trans sm1.kx⟩, ?_, ?_⟩
  · rw [sm1.get _ (by omega)]
    simp
  · rintro i e2 T hi ⟨ss, left, s6, s7, rfl, ls, l1, pr, hs, hT, hST, kT⟩
    refine ⟨_, rfl, ?_⟩
    refine size_turn (M := 6) hL hST (by decide) hT (by omega) l1 (by omega) fun s left' U s1 s2 l2 m hU kU hUf => ?_
    refine ⟨ss ++ [s], left', _, _, rfl, by simp [ls], l2, ?_, ?_, hUf, hU, (kT.set_ge (Nat.le_refl _)).trans kU⟩
    · rw [prodN_app, Nat.mul_assoc]
      exact Nat.le_trans (Nat.mul_le_mul_left _ m) pr
    · intro x hx
      rcases List.mem_append.mp hx with hx | hx
      · exact hs x hx
      · have : x = s := by simpa using hx
        rw [this]; exact ⟨s1, s2⟩
  · rintro e2 T ⟨ss, left, s6, s7, rfl, ls, l1, pr, hs, hT, hST, kT⟩
    simp only [nxt_nx]
    have pr2 : prodN ss ≤ cells := Nat.le_trans (Nat.le_mul_of_pos_right _ l1) pr
    exact sizes_named hL hST hT (by omega) (by omega) hs pr2 fun l U j hl hz hj hjS hU kU => hP l U j (by omega) hz hj (Nat.le_trans kT.len hjS) hU (kT.trans kU)
end PB

set_option Elab.async false
set_option linter.all false
set_option maxRecDepth 100000
set_option maxHeartbeats 1000000
namespace PB
open PySem PySem.Spec PyProof.Rows L2 DD
/-- what is asked of a table where grids and dealings are -/
class OkG (tb : Tab) : Prop where
  g_d : tb.attr "Grid" "directions" = true
  g_p : tb.attr "Grid" "_places" = true
  g_m : tb.attr "Grid" "many" = true
  d_c : tb.attr "Dealing" "cuts" = true
  d_p : tb.attr "Dealing" "parts" = true
variable {tb : Tab} [ok : Ok tb]
def pairP (p : Str × Nat) : PyData := .tuple [.str p.1, .int (p.2 : Nat)]
theorem py_pair {S : So} {k : Nat} (p : Str × Nat) : toPy S k (prD p) = some (pairP p) := by
  unfold prD toPy
  have e : toPys S k [.str p.1, .int (p.2 : Nat)] = some [.str p.1, .int (p.2 : Nat)] := by
    cases k <;> (unfold toPys; unfold toPys; unfold toPys; unfold toPy; rfl)
  rw [e]
  rfl
theorem pys_pairs {S : So} {k : Nat} : ∀ l : List (Str × Nat), toPys S k (l.map prD) = some (l.map pairP)
  | [] => by unfold toPys; rfl
  | p :: l => by
    show toPys S k (prD p :: l.map prD) = _
    unfold toPys
    rw [py_pair, pys_pairs l]
    rfl
theorem py_pairsL {S : So} {j : Nat} {l : List (Str × Nat)} (h : S[j]? = some (.lst (l.map prD))) : Py S (.ref j) (.list (l.map pairP)) := ⟨9, Nat.le_refl _, by
  show toPy S (8 + 1) (.ref j) = _
  unfold toPy
  rw [h]
  dsimp only
  rw [pys_pairs l]
  rfl⟩
theorem py_pairsT {S : So} {l : List (Str × Nat)} : Py S (.tup (l.map prD)) (.tuple (l.map pairP)) := ⟨9, Nat.le_refl _, by
  unfold toPy
  rw [pys_pairs l]
  rfl⟩
theorem pair_short {l : List (Str × Nat)} {p : PyData} (hp : p = .list (l.map pairP) ∨ p = .tuple (l.map pairP)) (hl : l.length ≤ 1000) (hw : ∀ q ∈ l, wordZ q.1 = true) : Short2 p := by
  intro ps h
  have e : ps = l.map pairP := by rcases hp with rfl | rfl <;> rcases h with h | h <;> cases h <;> rfl
  subst e
  refine ⟨by rw [List.length_map]; exact hl, fun q hq qs h2 a ha => ?_⟩
  obtain ⟨x, hx, rfl⟩ := List.mem_map.mp hq
  have e2 : qs = [.str x.1, .int (x.2 : Nat)] := by unfold pairP at h2; rcases h2 with h2 | h2 <;> cases h2; rfl
  subst e2
  intro z hz
  have l8 := (wordZ_iff.mp (hw x hx)).1
  rcases List.mem_cons.mp ha with rfl | ha
  · cases hz; omega
  · have : a = .int (x.2 : Nat) := by simpa using ha
    subst this
    cases hz
theorem pairs_names (l : List (Str × Nat)) : (l.map pairP).map nameP = l.map (·.1) := by rw [List.map_map]; rfl
theorem pairs_sizes (l : List (Str × Nat)) : (l.map pairP).map sizeP = (l.map (·.2)).map fun (s : Nat) => (s : Int) := by rw [List.map_map, List.map_map]; rfl
theorem pairs_side (l : List (Str × Nat)) : (l.map pairP).map sideD = l.map prD := by rw [List.map_map]; rfl
theorem prod_cast : ∀ (ss : List Nat) (a : Nat), (ss.map fun (s : Nat) => (s : Int)).foldl (· * ·) (a : Int) = ((ss.foldl (· * ·) a : Nat) : Int)
  | [], _ => rfl
  | s :: ss, a => by
    show (ss.map fun (s : Nat) => (s : Int)).foldl (· * ·) ((a : Int) * (s : Int)) = _
    rw [← Int.natCast_mul, prod_cast ss]
    rfl
theorem sized_ok {M cells : Nat} {l : List (Str × Nat)} (h : Sized M cells l) {most : Nat} (hl : l.length ≤ most) : sizesL most M cells (l.map pairP) = true := by
  unfold sizesL
  simp only [Bool.and_eq_true, decide_eq_true_eq, List.all_eq_true, List.length_map, List.mem_map]
  refine ⟨hl, ?_, by rw [pairs_names]; exact h.asc, ?_⟩
  · rintro _ ⟨p, hp, rfl⟩
    show (wordP (.str p.1) && withinP (.int (p.2 : Nat)) 1 M) = true
    have := h.size p hp
    have hw : wordP (.str p.1) = true := h.word p hp
    rw [hw]
    unfold withinP
    simp
    omega
  · rw [pairs_sizes]
    have := prod_cast (l.map (·.2)) 1
    rw [show (1 : Int) = ((1 : Nat) : Int) from rfl, this]
    have := h.prod
    unfold prodN at this
    omega
theorem sized_all {M cells : Nat} {l : List (Str × Nat)} (h : Sized M cells l) {L : Int} (hL : (M : Int) ≤ L) : (l.map pairP).all (sizedP L) = true := by
  rw [List.all_eq_true]
  intro q hq
  obtain ⟨p, hp, rfl⟩ := List.mem_map.mp hq
  show (wordP (.str p.1) && withinP (.int (p.2 : Nat)) 1 L) = true
  have := h.size p hp
  have hw : wordP (.str p.1) = true := h.word p hp
  rw [hw]
  unfold withinP
  simp
  omega
/-! ### Grid(directions) -/
def placesD (l : List (Str × Nat)) : List D := (rowsL (l.map (·.2))).map rowD
def gridO (l : List (Str × Nat)) : O := .ins "Grid" [("directions", .tup (l.map prD)), ("_places", .tup (placesD l)), ("many", .int ((rowsL (l.map (·.2))).length : Nat))]
theorem sp_grid [og : OkG tb] {d : D} {l : List (Str × Nat)} {p : PyData} {S : So} {P : D → So → Prop} (h : Py S d p) (hp : p = .list (l.map pairP) ∨ p = .tuple (l.map pairP)) (hz : Sized 4 8 l) (h0 : 1 ≤ l.length) (h3 : l.length ≤ 3)
    (hP : ∀ T, Keep S T → T[S.length]? = some (gridO l) → P (.ref S.length) T) : okC (makeF "Grid" (phi_Grid_init tb) [d] S) P := by
  refine okC_make ?_
  unfold phi_Grid_init
  refine okC_fn rfl ?_
  unfold m_Grid_init
  simp only [startE, List.map, List.length, List.replicate, List.cons_append, List.nil_append]
  have k0 : Keep S (S ++ [O.ins "Grid" []]) := Keep.app _ _
  have e0 : (S ++ [O.ins "Grid" []])[S.length]? = some (.ins "Grid" []) := get_new
  have hv : sizesP 3 4 8 p = true := by rcases hp with rfl | rfl <;> exact sized_ok hz h3
  have hs : Short2 p := pair_short hp (by omega) hz.word
  refine okS_seq (okS_ifF ?_)
  simp only [okM_or, okM_not, okM_tst, okM_call, okM_cons, okM_var, okM_ret, okM_nil, okM_op2, okM_opA]
  refine ⟨d, rfl, sp_sizes (by decide) (h.up k0) hs fun T1 k1 => ⟨_, rfl, ?_⟩⟩
  have k01 := k0.trans k1
  obtain ⟨b, xs, q1, q2, _⟩ := ((h.up k01).row hp)
  have hlen : fLen [d] T1 = some (.int (l.length : Nat), T1) := by rw [fLen_seq q1, q2, List.length_map]
  rw [hv]
  simp only [Bool.not_true, Bool.false_eq_true, if_false]
  refine ⟨d, rfl, ?_⟩
  rw [hlen, okF_some, fEq_int, okF_some]
  refine ⟨_, rfl, ?_, okS_nx ?_⟩
  · exact beq_eq_false_iff_ne.mpr (by omega)
  refine okS_seq (okS_fld ?_)
  simp only [okM_call, okM_cons, okM_var, okM_nil]
  have e1 := k1 _ _ e0
  refine ⟨d, rfl, sp_tuples (h.up k01) hp (sized_all hz (by decide)) (by rw [List.length_map]; omega) fun T2 k2 => ⟨.ref S.length, rfl, S.length, "Grid", [], rfl, k2 _ _ e1, og.g_d, by decide, ?_⟩⟩
  rw [pairs_side]
  simp only [nxt_nx]
  have k02 := k01.trans k2
  have e2 := k2 _ _ e1
  have e3 : (T2.set S.length (.ins "Grid" (putD "directions" (.tup (l.map prD)) [])))[S.length]? = some (.ins "Grid" [("directions", .tup (l.map prD))]) := st_at e2
  have k3 : Keep S (T2.set S.length (.ins "Grid" (putD "directions" (.tup (l.map prD)) []))) := keep_set k02 (Nat.le_refl _)
  generalize hT3 : T2.set S.length (.ins "Grid" (putD "directions" (.tup (l.map prD)) [])) = T3 at e3 k3 ⊢
  have h4 : ∀ s ∈ l.map (·.2), s ≤ 6 := fun s hs => by
    obtain ⟨p, hp, rfl⟩ := List.mem_map.mp hs
    have := hz.size p hp
    omega
  refine okS_seq (okS_fld ?_)
  simp only [okM_call, okM_cons, okM_op1, okM_var, okM_nil]
  refine ⟨.ref S.length, rfl, ?_⟩
  rw [fFld_ok e3 og.g_d (d := .tup (l.map prD)) rfl, okF_some]
  refine sp_places (py_pairsT (l := l)) (.inr rfl) (sized_all hz (L := 4) (by decide)) (by rw [List.length_map]; omega) (pairs_sizes l) h4 fun T4 k4 => ⟨.ref S.length, rfl, S.length, "Grid", _, rfl, k4 _ _ e3, og.g_p, by simp, ?_⟩
  simp only [nxt_nx]
  have e4 := k4 _ _ e3
  have e5 : (T4.set S.length (.ins "Grid" (putD "_places" (.tup ((rowsL (l.map (·.2))).map rowD)) [("directions", .tup (l.map prD))])))[S.length]? = some (.ins "Grid" [("directions", .tup (l.map prD)), ("_places", .tup (placesD l))]) := by rw [st_at e4]; rfl
  have k5 : Keep S (T4.set S.length (.ins "Grid" (putD "_places" (.tup ((rowsL (l.map (·.2))).map rowD)) [("directions", .tup (l.map prD))]))) := keep_set (k3.trans k4) (Nat.le_refl _)
  generalize hT5 : T4.set S.length (.ins "Grid" (putD "_places" (.tup ((rowsL (l.map (·.2))).map rowD)) [("directions", .tup (l.map prD))])) = T5 at e5 k5 ⊢
  refine okS_fld ?_
  simp only [okM_opA, okM_cons, okM_op1, okM_var, okM_nil]
  refine ⟨.ref S.length, rfl, ?_⟩
  rw [fFld_ok e5 og.g_p (d := .tup (placesD l)) rfl, okF_some]
  have hl2 : fLen [.tup (placesD l)] T5 = some (.int ((rowsL (l.map (·.2))).length : Nat), T5) := by rw [fLen_seq (b := true) rfl]; unfold placesD; rw [List.length_map]
  rw [hl2, okF_some]
  refine ⟨.ref S.length, rfl, S.length, "Grid", _, rfl, e5, og.g_m, by simp, ?_⟩
  refine ⟨rfl, hP _ (keep_set k5 (Nat.le_refl _)) ?_⟩
  rw [st_at e5]
  rfl
end PB

set_option Elab.async false
set_option linter.all false
set_option maxRecDepth 100000
set_option maxHeartbeats 1000000
namespace PB
open PySem PySem.Spec PyProof.Rows L2 DD
/-- [f(a) for a in a row], where nothing that stood is changed -/
theorem okM_mapA {α : Type} {own : List Nat} {m : MM D} {t : Tg} {te : MM D} {e : Sl} {S : So} {P : D → So → Prop} (g f : α → D) (h : okM m e S fun d S1 => ∃ (b : Bool) (as : List α), seqOf d S1 = some (b, as.map g) ∧ as.length ≤ 100000 ∧
    (∀ a T, a ∈ as → Keep S1 T → ∃ e3, t (g a) T (wipeE e own) = some e3 ∧ okM te e3 T fun y U => Keep T U ∧ y = f a) ∧
    ∀ T, Keep S1 T → T[S1.length]? = some (.lst (as.map f)) → P (.ref S1.length) T) : okM (compM own (mSeq m) t yesM te) e S P := by
  refine okM_each (h.imp fun d S1 q => ?_)
  obtain ⟨b, as, hd, hl, h1, h2⟩ := q
  obtain ⟨it, i1, i2⟩ := seqI_row (e := e) hd
  refine ⟨it, _, i1, i2, by rw [List.length_map]; have := line200k; omega, fun i y => ∃ a, as[i]? = some a ∧ y = f a, ?_, ?_⟩
  · intro i x T hk hx
    rw [List.getElem?_map] at hx
    obtain ⟨a, ha, rfl⟩ := Option.map_eq_some_iff.mp hx
    obtain ⟨e3, g1, g2⟩ := h1 a T (List.mem_of_getElem? ha) hk
    exact ⟨e3, g1, g2.imp fun y U q => ⟨q.1, a, ha, q.2⟩⟩
  · intro ys T hk hT hl2 hV
    refine h2 T hk ?_
    rw [hT]
    have : ys = as.map f := by
      apply List.ext_getElem?
      intro i
      by_cases hi : i < ys.length
      · obtain ⟨a, g1, g2⟩ := hV i ys[i] (List.getElem?_eq_getElem hi)
        rw [List.getElem?_eq_getElem hi, g2, List.getElem?_map, g1]
        rfl
      · rw [List.length_map] at hl2
        rw [List.getElem?_eq_none (by omega), List.getElem?_eq_none (by rw [List.length_map]; omega)]
    rw [this]
theorem fInF_seq {w : Str} {d : D} {b : Bool} {ws : List Str} {S : So} {neg : Bool} (h : seqOf d S = some (b, ws.map .str)) : fInF neg (.str w) d S = some (.bl (if neg then !decide (w ∈ ws) else decide (w ∈ ws)), S) := by
  unfold fInF
  rw [h]
  dsimp only [toFlat]
  rw [strs_flat]
  dsimp only
  rw [inV_strs]
/-! ### cuts and parts -/
abbrev Cut := Str × Str × Str
def cutD (c : Cut) : D := .tup [.str c.1, .str c.2.1, .str c.2.2]
def cutP (c : Cut) : PyData := .tuple [.str c.1, .str c.2.1, .str c.2.2]
theorem py_cut {S : So} {k : Nat} (c : Cut) : toPy S k (cutD c) = some (cutP c) := by
  unfold cutD toPy
  have e : toPys S k [.str c.1, .str c.2.1, .str c.2.2] = some [.str c.1, .str c.2.1, .str c.2.2] := by
    have := pys_strs (S := S) (k := k) [c.1, c.2.1, c.2.2]
    exact this
  rw [e]
  rfl
theorem pys_cuts {S : So} {k : Nat} : ∀ cs : List Cut, toPys S k (cs.map cutD) = some (cs.map cutP)
  | [] => by unfold toPys; rfl
  | c :: cs => by
    show toPys S k (cutD c :: cs.map cutD) = _
    unfold toPys
    rw [py_cut, pys_cuts cs]
    rfl
theorem Py.cut {S : So} (c : Cut) : Py S (cutD c) (cutP c) := ⟨9, Nat.le_refl _, py_cut c⟩
theorem Py.str {S : So} (z : Str) : Py S (.str z) (.str z) := ⟨9, Nat.le_refl _, by unfold toPy; rfl⟩
theorem Py.cuts {S : So} (cs : List Cut) : Py S (.tup (cs.map cutD)) (.tuple (cs.map cutP)) := ⟨9, Nat.le_refl _, by unfold toPy; rw [pys_cuts]; rfl⟩
theorem Py.strs {S : So} (ws : List Str) : Py S (.tup (ws.map .str)) (.tuple (ws.map .str)) := ⟨9, Nat.le_refl _, by unfold toPy; rw [pys_strs]; rfl⟩
/-- a cut as the document has it -/
structure GoodCut (c : Cut) : Prop where
  side : wordZ c.1 = true
  kind : c.2.1 ∈ (["blocks", "turns"] : List Str)
  dir : wordZ c.2.2 = true
structure GoodDeal (cs : List Cut) (ps : List Str) : Prop where
  cut : ∀ c ∈ cs, GoodCut c
  asc : ascP (cs.map (·.1)) = true
  dirs : (cs.map (·.2.2)).Nodup
  parts : ascP ps = true
  words : ∀ p ∈ ps, wordZ p = true
  apart : ∀ c ∈ cs, c.2.2 ∉ ps
  few : cs.length ≤ 6 ∧ ps.length ≤ 6
section
variable {tb : Tab} [ok : Ok tb]
theorem ix3 {a b c : D} {S : So} : fIx (.tup [a, b, c]) (.int 0) S = some (a, S) ∧ fIx (.tup [a, b, c]) (.int 1) S = some (b, S) ∧ fIx (.tup [a, b, c]) (.int 2) S = some (c, S) := ⟨rfl, rfl, rfl⟩
theorem sp_is_cut {c : Cut} {S : So} {P : D → So → Prop} (h : GoodCut c) (hP : ∀ T, Keep S T → P (.bl true) T) : okC (phi_is_cut tb [cutD c] S) P := by
  unfold phi_is_cut
  refine okC_fn rfl ?_
  unfold m_is_cut
  simp only [startE, List.map, List.length, List.replicate, List.cons_append, List.nil_append]
  refine okS_seq (okS_ifF ?_)
  simp only [okM_or, okM_not, okM_tst, okM_call, okM_op2, okM_opA, okM_cons, okM_var, okM_ret, okM_nil]
  refine ⟨_, rfl, sp_is_row (Py.cut c) ⟨_, rfl, ?_⟩⟩
  rw [show isRowP (cutP c) = true from rfl]
  simp only [Bool.not_true, Bool.false_eq_true, if_false]
  refine ⟨_, rfl, ?_⟩
  rw [fLen_seq (show seqOf (cutD c) S = some (true, _) from rfl), okF_some, fNe_int, okF_some]
  refine ⟨_, rfl, rfl, okS_nx ?_⟩
  simp only [nxt_nx]
  refine okS_ret ?_
  simp only [okM_andV, okM_call, okM_op2, okM_opA, okM_cons, okM_var, okM_ret, okM_nil]
  have len : ∀ z : Str, wordZ z = true → z.length ≤ 1000 := fun z hz => by have := (wordZ_iff.mp hz).1; omega
  refine ⟨_, rfl, ?_⟩
  rw [show fIx (cutD c) (.int 0) S = some (.str c.1, S) from rfl, okF_some]
  refine sp_is_word (Py.str c.1) (fun z hz => by cases hz; exact len _ h.side) fun T1 k1 => ⟨_, rfl, ?_⟩
  rw [show wordP (.str c.1) = true from h.side, if_pos rfl]
  refine ⟨_, rfl, ?_⟩
  rw [show fIx (cutD c) (.int 1) T1 = some (.str c.2.1, T1) from rfl, okF_some, fTup_ok (by simp), okF_some]
  rw [fInF_seq (ws := ["blocks", "turns"]) (b := true) rfl, okF_some]
  refine ⟨_, rfl, ?_⟩
  simp only [Bool.false_eq_true, if_false]
  rw [if_pos (decide_eq_true h.kind)]
  refine ⟨_, rfl, ?_⟩
  rw [show fIx (cutD c) (.int 2) T1 = some (.str c.2.2, T1) from rfl, okF_some]
  refine sp_is_word (Py.str c.2.2) (fun z hz => by cases hz; exact len _ h.dir) fun T2 k2 => ?_
  rw [show wordP (.str c.2.2) = true from h.dir]
  exact hP T2 (k1.trans k2)
theorem unlike_nodup : ∀ (xs : List Str), xs.Nodup → ∀ i, i ≤ xs.length → unlike xs i = i := fun xs nd i => by
  induction i with
  | zero => intro _; rfl
  | succ i ih =>
    intro hi
    have hlt : i < xs.length := by omega
    unfold unlike
    have e : (xs.take i).any (· == xs.getD i Str.empty) = false := by
      rw [List.any_eq_false]
      intro x hx hxe
      have hxe : x = xs.getD i Str.empty := by simpa using hxe
      obtain ⟨j, hj⟩ := List.mem_iff_getElem?.mp hx
      rw [List.getElem?_take] at hj
      split at hj
      · rename_i hji
        have g : xs[i]? = some x := by rw [hxe, List.getElem?_eq_getElem hlt, List.getD_eq_getElem?_getD, List.getElem?_eq_getElem hlt]; rfl
        have hj' : j < xs.length := by omega
        have := (List.getElem?_inj hj' nd).mp (hj.trans g.symm)
        omega
      · cases hj
    rw [e, if_neg (by decide), ih (by omega)]
theorem strsD_map : ∀ ws : List Str, strsD (ws.map .str) = some ws
  | [] => rfl
  | w :: ws => by
    show (strsD (ws.map .str)).map (w :: ·) = _
    rw [strsD_map ws]
    rfl
theorem okM_lenSetS {n : Nat} {zs : List Str} {e : Sl} {S : So} {P : D → So → Prop} (h : S[n]? = some (.lst (zs.map .str))) (nd : zs.Nodup) (hl : zs.length ≤ 1000) (hP : P (.int (zs.length : Nat)) S) : okM (lenSetS (.ref n)) e S P := by
  refine ⟨_, S, ?_, hP⟩
  have q : lstAt (.ref n) S = some (n, zs.map .str) := by unfold lstAt; dsimp only; rw [h]
  unfold lenSetS
  rw [q]
  dsimp only
  rw [strsD_map]
  dsimp only
  rw [if_pos hl, unlike_nodup zs nd _ (Nat.le_refl _)]
theorem all_true {S : So} {n k : Nat} (h : S[n]? = some (.lst (List.replicate k (.bl true)))) : fAll [.ref n] S = some (.bl true, S) := by
  have : List.replicate k (D.bl true) = (List.replicate k true).map .bl := by simp
  rw [this] at h
  rw [fAll_ok h]
  congr 3
  simp
theorem sp_are_cuts {cs : List Cut} {ps : List Str} {S : So} {P : D → So → Prop} (h : GoodDeal cs ps) (hP : ∀ T, Keep S T → P (.bl true) T) : okC (phi_are_cuts tb [.tup (cs.map cutD)] S) P := by
  unfold phi_are_cuts
  refine okC_fn rfl ?_
  unfold m_are_cuts
  simp only [startE, List.map, List.length, List.replicate, List.cons_append, List.nil_append]
  refine okS_seq (okS_ifF ?_)
  simp only [okM_or, okM_not, okM_tst, okM_call, okM_opA, okM_cons, okM_var, okM_nil]
  refine ⟨_, rfl, sp_is_row (Py.cuts cs) ⟨_, rfl, ?_⟩⟩
  rw [show isRowP (.tuple (cs.map cutP)) = true from rfl]
  simp only [Bool.not_true, Bool.false_eq_true, if_false]
  refine okM_mapA cutD (fun _ => .bl true) (okM_var.mpr ⟨_, rfl, true, cs, rfl, by have := h.few; omega, fun c T hc hk => ⟨_, rfl, ?_⟩, fun T1 k1 hT1 => ?_⟩)
  · simp only [okM_call, okM_cons, okM_var, okM_nil]
    exact ⟨_, rfl, sp_is_cut (h.cut c hc) fun U hU => ⟨hU, rfl⟩⟩
  have e1 : cs.map (fun _ => D.bl true) = List.replicate cs.length (.bl true) := List.eq_replicate_iff.mpr ⟨by rw [List.length_map], fun b hb => by obtain ⟨_, _, rfl⟩ := List.mem_map.mp hb; rfl⟩
  rw [e1] at hT1
  rw [all_true hT1, okF_some]
  refine ⟨_, rfl, rfl, okS_nx ?_⟩
  simp only [nxt_nx]
  refine okS_seq (okS_asg ?_)
  refine okM_mapA cutD (fun c => .str c.2.2) (okM_var.mpr ⟨_, rfl, true, cs, rfl, by have := h.few; omega, fun c T hc hk => ⟨_, rfl, ?_⟩, fun T2 k2 hT2 => ?_⟩)
  · simp only [okM_op2, okM_var, okM_ret]
    refine ⟨_, rfl, ?_⟩
    rw [show fIx (cutD c) (.int 2) T = some (.str c.2.2, T) from rfl, okF_some]
    exact ⟨Keep.refl _, rfl⟩
  simp only [nxt_nx, List.set]
  refine okS_ret ?_
  simp only [okM_andV, okM_call, okM_cons, okM_nil]
  refine okM_mapA cutD (fun c => .str c.1) (okM_var.mpr ⟨_, rfl, true, cs, rfl, by have := h.few; omega, fun c T hc hk => ⟨_, rfl, ?_⟩, fun T3 k3 hT3 => ?_⟩)
  · simp only [okM_op2, okM_var, okM_ret]
    refine ⟨_, rfl, ?_⟩
    rw [show fIx (cutD c) (.int 0) T = some (.str c.1, T) from rfl, okF_some]
    exact ⟨Keep.refl _, rfl⟩
  have e3 : cs.map (fun c => D.str c.1) = (cs.map (·.1)).map .str := by rw [List.map_map]; rfl
  have e2 : cs.map (fun c => D.str c.2.2) = (cs.map (·.2.2)).map .str := by rw [List.map_map]; rfl
  rw [e3] at hT3
  rw [e2] at hT2
  refine sp_asc hT3 (by rw [List.length_map]; have := h.few; omega) fun T4 k4 => ⟨_, rfl, ?_⟩
  rw [h.asc, if_pos rfl]
  simp only [okM_op2, okM_opA, okM_bind, okM_cons, okM_var, okM_nil]
  refine ⟨_, rfl, ?_⟩
  have hT2' := k4 _ _ (k3 _ _ hT2)
  have l6 := h.few
  refine okM_lenSetS hT2' h.dirs (by rw [List.length_map]; omega) ?_
  refine ⟨_, rfl, ?_⟩
  rw [fLen_ref hT2', okF_some, fEq_int, okF_some]
  simp only [List.length_map, beq_self_eq_true]
  exact hP T4 (((k1.trans k2).trans k3).trans k4)
theorem sp_ascT {ws : List Str} {S : So} {P : D → So → Prop} (hl : ws.length ≤ 1000) (hP : ∀ T, Keep S T → P (.bl (ascP ws)) T) : okC (phi_are_ascending tb [.tup (ws.map .str)] S) P := by
  unfold phi_are_ascending
  refine okC_fn rfl ?_
  unfold m_are_ascending
  simp only [startE, List.map, List.length, List.replicate, List.cons_append, List.nil_append]
  refine okS_ret ?_
  rw [okM_opA]
  refine okM_cons.mpr (okM_eachG ?_)
  unfold mZip mSl mPart mNoPart
  simp only [okM_bind, okM_cons, okM_var, okM_ret, okM_nil, okM_lift]
  refine ⟨_, rfl, _, rfl, _, S, rfl, ?_⟩
  have e2 : DD.cutD (ws.map D.str) (some 1) none = (ws.map D.str).drop 1 := by
    cases hx : ws.map D.str with
    | nil => rfl
    | cons x r =>
      unfold DD.cutD
      have e3 : HT.sIx (x :: r).length 0 (some 1) = 1 := by
        have := HT.sIx_nat (x :: r).length 0 1
        rw [show ((1 : Nat) : Int) = 1 from rfl] at this
        rw [this]
        simp
      rw [e3, HT.sIx_none]
      simp
  have e1 : fSl (.tup (ws.map D.str)) (some 1) none S = some (.tup ((ws.map D.str).drop 1), S) := by
    unfold fSl
    dsimp only
    rw [e2]
  show okF (fSl (.tup (ws.map D.str)) (some 1) none S) _
  rw [e1, okF_some]
  obtain ⟨it, z1, z2⟩ := zip_tups (e := [Sv.v (D.tup (ws.map D.str)), .no, .no]) (S := S) (xs := ws.map D.str) (ys := (ws.map D.str).drop 1)
  refine ⟨it, _, z1, _, z2, ?_, fun i y => ∃ p, (ws.zip (ws.drop 1))[i]? = some p ∧ y = .bl (qLt p.1.cps.toList p.2.cps.toList), ?_, ?_⟩
  · simp
    have := line200k
    omega
  · intro i x T hk hx
    have hx2 : ∃ p, (ws.zip (ws.drop 1))[i]? = some p ∧ x = .tup [.str p.1, .str p.2] := by
      rw [← List.map_drop, List.zip_map, List.map_map] at hx
      rw [List.getElem?_map] at hx
      obtain ⟨p, g1, g2⟩ := Option.map_eq_some_iff.mp hx
      exact ⟨p, g1, g2.symm⟩
    obtain ⟨p, g1, rfl⟩ := hx2
    refine ⟨_, rfl, ?_⟩
    rw [okM_op2, okM_var]
    refine ⟨_, rfl, ?_⟩
    rw [okM_var]
    refine ⟨_, rfl, ?_⟩
    rw [fOrd_str, okF_some]
    exact ⟨Keep.refl _, p, g1, rfl⟩
  · intro ys T hk hT hl2 hV
    have hys : ys = ((ws.zip (ws.drop 1)).map fun p => qLt p.1.cps.toList p.2.cps.toList).map .bl := by
      apply List.ext_getElem?
      intro i
      by_cases hi : i < ys.length
      · obtain ⟨p, g1, g2⟩ := hV i ys[i] (List.getElem?_eq_getElem hi)
        rw [List.getElem?_eq_getElem hi, g2]
        simp only [List.getElem?_map, g1, Option.map_some]
      · rw [List.getElem?_eq_none (by omega), List.getElem?_eq_none]
        simp at hl2 ⊢
        omega
    rw [hys] at hT
    rw [fAll_ok hT, okF_some]
    have e : (((ws.zip (ws.drop 1)).map fun p => qLt p.1.cps.toList p.2.cps.toList)).all id = ascP ws := by rw [List.all_map]; rfl
    rw [e]
    exact hP T hk
theorem sp_row_words {ps : List Str} {S : So} {P : D → So → Prop} (ha : ascP ps = true) (hw : ∀ p ∈ ps, wordZ p = true) (hl : ps.length ≤ 6) (hP : ∀ T, Keep S T → P (.bl true) T) : okC (phi_is_row_of_words tb [.tup (ps.map .str)] S) P := by
  unfold phi_is_row_of_words
  refine okC_fn rfl ?_
  unfold m_is_row_of_words
  simp only [startE, List.map, List.length, List.replicate, List.cons_append, List.nil_append]
  refine okS_ret ?_
  simp only [okM_andV, okM_call, okM_opA, okM_cons, okM_var, okM_nil]
  refine ⟨_, rfl, sp_is_row (Py.strs ps) ⟨_, rfl, ?_⟩⟩
  rw [show isRowP (.tuple (ps.map .str)) = true from rfl, if_pos rfl]
  refine okM_mapA D.str (fun _ => .bl true) (okM_var.mpr ⟨_, rfl, true, ps, rfl, by omega, fun p T hp hk => ⟨_, rfl, ?_⟩, fun T1 k1 hT1 => ?_⟩)
  · simp only [okM_call, okM_cons, okM_var, okM_nil]
    refine ⟨_, rfl, sp_is_word (Py.str p) (fun z hz => by cases hz; have := (wordZ_iff.mp (hw p hp)).1; omega) fun U hU => ⟨hU, ?_⟩⟩
    rw [show wordP (.str p) = true from hw p hp]
  have e1 : ps.map (fun _ => D.bl true) = List.replicate ps.length (.bl true) := List.eq_replicate_iff.mpr ⟨by rw [List.length_map], fun b hb => by obtain ⟨_, _, rfl⟩ := List.mem_map.mp hb; rfl⟩
  rw [e1] at hT1
  rw [all_true hT1, okF_some]
  refine ⟨_, rfl, ?_⟩
  rw [if_pos rfl]
  refine ⟨_, rfl, sp_ascT (by omega) fun T2 k2 => ?_⟩
  rw [ha]
  exact hP T2 (k1.trans k2)
theorem sp_meet {cs : List Cut} {ps : List Str} {S : So} {P : D → So → Prop} (h : GoodDeal cs ps) (hP : ∀ T, Keep S T → P (.bl false) T) : okC (phi_meet tb [.tup (cs.map cutD), .tup (ps.map .str)] S) P := by
  unfold phi_meet
  refine okC_fn rfl ?_
  unfold m_meet
  simp only [startE, List.map, List.length, List.replicate, List.cons_append, List.nil_append]
  refine okS_ret ?_
  simp only [okM_notV, okM_opA, okM_cons, okM_nil]
  refine okM_mapA cutD (fun _ => .bl true) (okM_var.mpr ⟨_, rfl, true, cs, rfl, by have := h.few; omega, fun c T hc hk => ⟨_, rfl, ?_⟩, fun T1 k1 hT1 => ?_⟩)
  · simp only [okM_op2, okM_var, okM_ret]
    refine ⟨_, rfl, ?_⟩
    rw [show fIx (cutD c) (.int 2) T = some (.str c.2.2, T) from rfl, okF_some]
    refine ⟨_, rfl, ?_⟩
    rw [fInF_seq (ws := ps) (b := true) rfl, okF_some, if_pos rfl, decide_eq_false (h.apart c hc)]
    exact ⟨Keep.refl _, rfl⟩
  have e1 : cs.map (fun _ => D.bl true) = List.replicate cs.length (.bl true) := List.eq_replicate_iff.mpr ⟨by rw [List.length_map], fun b hb => by obtain ⟨_, _, rfl⟩ := List.mem_map.mp hb; rfl⟩
  rw [e1] at hT1
  rw [all_true hT1, okF_some]
  exact ⟨_, rfl, hP T1 k1⟩
/-- as_tuples of cuts -/
theorem sp_tuples_cuts {cs : List Cut} {S : So} {P : D → So → Prop} (hl : cs.length ≤ 1000) (hP : ∀ T, Keep S T → P (.tup (cs.map cutD)) T) : okC (phi_as_tuples tb [.tup (cs.map cutD)] S) P := by
  unfold phi_as_tuples
  refine okC_fn rfl ?_
  unfold m_as_tuples
  simp only [startE, List.map, List.length, List.replicate, List.cons_append, List.nil_append]
  refine okS_ret ?_
  simp only [okM_opA, okM_cons, okM_nil]
  refine okM_mapA cutD cutD (okM_var.mpr ⟨_, rfl, true, cs, rfl, by omega, fun c T hc hk => ⟨_, rfl, ?_⟩, fun T1 k1 hT1 => ?_⟩)
  · simp only [okM_if, okM_tst, okM_call, okM_opA, okM_cons, okM_var, okM_nil]
    refine ⟨_, rfl, sp_is_row (Py.cut c) ⟨_, rfl, ?_⟩⟩
    rw [show isRowP (cutP c) = true from rfl, if_pos rfl]
    refine ⟨_, rfl, ?_⟩
    rw [show fTuple [cutD c] T = some (cutD c, T) from rfl, okF_some]
    exact ⟨Keep.refl _, rfl⟩
  have q : seqOf (.ref S.length) T1 = some (false, cs.map cutD) := by unfold seqOf; dsimp only; rw [hT1]
  rw [fTuple_seq q, okF_some]
  exact hP T1 k1
def dealO (cs : List Cut) (ps : List Str) : O := .ins "Dealing" [("cuts", .tup (cs.map cutD)), ("parts", .tup (ps.map .str))]
theorem sp_dealing [og : OkG tb] {cs : List Cut} {ps : List Str} {S : So} {P : D → So → Prop} (h : GoodDeal cs ps) (hP : ∀ T, Keep S T → T[S.length]? = some (dealO cs ps) → P (.ref S.length) T) :
    okC (makeF "Dealing" (phi_Dealing_init tb) [.tup (cs.map cutD), .tup (ps.map .str)] S) P := by
  have l6 := h.few
  refine okC_make ?_
  unfold phi_Dealing_init
  refine okC_fn rfl ?_
  unfold m_Dealing_init
  simp only [startE, List.map, List.length, List.replicate, List.cons_append, List.nil_append]
  have k0 : Keep S (S ++ [O.ins "Dealing" []]) := Keep.app _ _
  have e0 : (S ++ [O.ins "Dealing" []])[S.length]? = some (.ins "Dealing" []) := get_new
  refine okS_seq (okS_ifF ?_)
  simp only [okM_or, okM_not, okM_tst, okM_call, okM_cons, okM_var, okM_nil]
  refine ⟨_, rfl, sp_are_cuts h fun T1 k1 => ⟨_, rfl, ?_⟩⟩
  simp only [Bool.not_true, Bool.false_eq_true, if_false]
  refine ⟨_, rfl, sp_row_words h.parts h.words l6.2 fun T2 k2 => ⟨_, rfl, ?_⟩⟩
  simp only [Bool.not_true, Bool.false_eq_true, if_false]
  refine ⟨_, rfl, _, rfl, sp_meet h fun T3 k3 => ⟨_, rfl, rfl, okS_nx ?_⟩⟩
  simp only [nxt_nx]
  have k03 := ((k0.trans k1).trans k2).trans k3
  have e3 := k3 _ _ (k2 _ _ (k1 _ _ e0))
  refine okS_seq (okS_fld ?_)
  simp only [okM_call, okM_cons, okM_var, okM_nil]
  refine ⟨_, rfl, sp_tuples_cuts (by omega) fun T4 k4 => ⟨.ref S.length, rfl, S.length, "Dealing", [], rfl, k4 _ _ e3, og.d_c, by simp, ?_⟩⟩
  simp only [nxt_nx]
  have e4 := k4 _ _ e3
  have e5 : (T4.set S.length (.ins "Dealing" (putD "cuts" (.tup (cs.map cutD)) [])))[S.length]? = some (.ins "Dealing" [("cuts", .tup (cs.map cutD))]) := st_at e4
  have k5 : Keep S (T4.set S.length (.ins "Dealing" (putD "cuts" (.tup (cs.map cutD)) []))) := keep_set (k03.trans k4) (Nat.le_refl _)
  generalize hT5 : T4.set S.length (.ins "Dealing" (putD "cuts" (.tup (cs.map cutD)) [])) = T5 at e5 k5 ⊢
  refine okS_fld ?_
  simp only [okM_opA, okM_cons, okM_var, okM_nil]
  refine ⟨_, rfl, ?_⟩
  rw [show fTuple [.tup (ps.map D.str)] T5 = some (.tup (ps.map .str), T5) from rfl, okF_some]
  refine ⟨.ref S.length, rfl, S.length, "Dealing", _, rfl, e5, og.d_p, by simp, rfl, hP _ (keep_set k5 (Nat.le_refl _)) ?_⟩
  rw [st_at e5]
  rfl
end
end PB

set_option Elab.async false
set_option linter.all false
set_option maxRecDepth 100000
set_option maxHeartbeats 1000000
namespace PB
open PySem PySem.Spec PyProof.Rows L2 DD
/-- [f(a) for a in a row if p(a)], where nothing that stood is changed -/
theorem okM_filterA {α : Type} {own : List Nat} {m : MM D} {t : Tg} {tt : MM Bool} {te : MM D} {e : Sl} {S : So} {P : D → So → Prop} (g f : α → D) (p : α → Bool) (h : okM m e S fun d S1 => ∃ (b : Bool) (as : List α), seqOf d S1 = some (b, as.map g) ∧ as.length ≤ 100000 ∧
    (∀ a T, a ∈ as → Keep S1 T → ∃ e3, t (g a) T (wipeE e own) = some e3 ∧ okM tt e3 T fun c U => Keep T U ∧ c = p a ∧ (c = true → okM te e3 U fun y V => Keep U V ∧ y = f a)) ∧
    ∀ T, Keep S1 T → T[S1.length]? = some (.lst ((as.filter p).map f)) → P (.ref S1.length) T) : okM (compM own (mSeq m) t tt te) e S P := by
  unfold compM mSeq
  simp only [okM_bind]
  refine h.imp fun d S1 q => ?_
  obtain ⟨b, as, hd, hl, h1, h2⟩ := q
  obtain ⟨it, i1, i2, i3⟩ := seqI_row (e := e) hd
  refine ⟨it, S1, i1, ?_⟩
  have key : ∀ (k i : Nat) (T : So), i + k = as.length → Keep S1 T → T[S1.length]? = some (.lst (((as.take i).filter p).map f)) →
      ∃ T', compI it.get t tt te S1.length (wipeE e own) k i T = some T' ∧ Keep S1 T' ∧ T'[S1.length]? = some (.lst ((as.filter p).map f)) := by
    intro k
    induction k with
    | zero =>
      intro i T hi hk hT
      have ei : i = as.length := by omega
      subst ei
      refine ⟨T, by unfold compI; rw [i3 T hk, List.getElem?_eq_none (by rw [List.length_map]; exact Nat.le_refl _)], hk, ?_⟩
      rw [List.take_length] at hT
      exact hT
    | succ k ih =>
      intro i T hi hk hT
      have hlt : i < as.length := by omega
      obtain ⟨e3, g1, c, U, g2, ku, rfl, g3⟩ := h1 as[i] T (List.getElem_mem hlt) hk
      have hx : it.get i T = some (some (g as[i])) := by rw [i3 T hk, List.getElem?_map, List.getElem?_eq_getElem hlt]; rfl
      have tk : as.take (i + 1) = as.take i ++ [as[i]] := by rw [List.take_add_one, List.getElem?_eq_getElem hlt]; rfl
      cases hp : p as[i] with
      | false =>
        rw [hp] at g2
        obtain ⟨T', q1, q2, q3⟩ := ih (i + 1) U (by omega) (hk.trans ku) (by rw [ku _ _ hT, tk, List.filter_append]; simp [hp])
        refine ⟨T', ?_, q2, q3⟩
        unfold compI
        rw [hx]
        dsimp only
        rw [g1]
        dsimp only
        rw [g2]
        exact q1
      | true =>
        obtain ⟨y, V, g4, kv, rfl⟩ := g3 hp
        rw [hp] at g2
        have hV := kv _ _ (ku _ _ hT)
        have lt : S1.length < V.length := (List.getElem?_eq_some_iff.mp hV).1
        obtain ⟨T', q1, q2, q3⟩ := ih (i + 1) (V.set S1.length (.lst (((as.take i).filter p).map f ++ [f as[i]]))) (by omega) (keep_set ((hk.trans ku).trans kv) (Nat.le_refl _)) (by rw [List.getElem?_set_self lt, tk, List.filter_append]; simp [hp])
        refine ⟨T', ?_, q2, q3⟩
        unfold compI
        rw [hx]
        dsimp only
        rw [g1]
        dsimp only
        rw [g2]
        dsimp only
        rw [g4]
        dsimp only
        rw [hV]
        dsimp only
        rw [if_pos ?_]
        · exact q1
        · have := List.length_filter_le p (as.take i)
          rw [List.length_map]
          simp only [List.length_take] at this
          have := line200k
          omega
  obtain ⟨T', q1, q2, q3⟩ := key as.length 0 (S1 ++ [.lst []]) (by omega) (Keep.app _ _) (by simp)
  have hn : it.n = as.length := by rw [i2, List.length_map]
  refine ⟨_, T', ?_, h2 T' q2 q3⟩
  dsimp only
  rw [hn, q1]
/-- [f(a, b) for a in a row for b in a new row of a's] -/
theorem okM_comp2K {α β : Type} {own own1 : List Nat} {m m1 : MM D} {t t1 : Tg} {te : MM D} {e : Sl} {S : So} {P : D → So → Prop} (g : α → D) (g1 : β → D) (f : α → β → D) (ys : α → List β)
    (h : okM m e S fun d S1 => ∃ (b : Bool) (as : List α), seqOf d S1 = some (b, as.map g) ∧ (as.flatMap ys).length ≤ 100000 ∧
      (∀ a T, a ∈ as → Keep S1 T → S1.length < T.length → ∃ e1, t (g a) T (wipeE e own) = some e1 ∧ okM m1 e1 T fun d1 U => Keep T U ∧ (∃ r, d1 = .ref r ∧ r ≠ S1.length ∧ U[r]? = some (.lst ((ys a).map g1))) ∧
        ∀ b V, b ∈ ys a → ∃ e3, t1 (g1 b) V (wipeE e1 own1) = some e3 ∧ okM te e3 V fun z W => W = V ∧ z = f a b) ∧
      ∀ T, Keep S1 T → T[S1.length]? = some (.lst (as.flatMap fun a => (ys a).map (f a))) → P (.ref S1.length) T) : okM (comp2M own own1 (mSeq m) t (mSeq m1) t1 te) e S P := by
  unfold comp2M mSeq
  simp only [okM_bind]
  refine h.imp fun d S1 q => ?_
  obtain ⟨b, as, hd, hl, h1, h2⟩ := q
  obtain ⟨it, i1, i2, i3⟩ := seqI_row (e := e) hd
  refine ⟨it, S1, i1, ?_⟩
  have hlen := line200k
  -- one inner walk
  have inner : ∀ (a : α) (e1 : Sl) (r : Nat) (V0 : So), r ≠ S1.length → V0[r]? = some (.lst ((ys a).map g1)) → (∀ b V, b ∈ ys a → ∃ e3, t1 (g1 b) V (wipeE e1 own1) = some e3 ∧ okM te e3 V fun z W => W = V ∧ z = f a b) →
      ∀ (k j : Nat) (V : So) (acc : List D), j + k = (ys a).length → Kx S1.length V0 V → V[S1.length]? = some (.lst acc) → acc.length + k ≤ 100000 →
        ∃ V', compI (itLst r (ys a).length).get t1 yesM te S1.length (wipeE e1 own1) k j V = some V' ∧ Kx S1.length V0 V' ∧ V'[S1.length]? = some (.lst (acc ++ ((ys a).drop j).map (f a))) := by
    intro a e1 r V0 hr hV0 hst k
    induction k with
    | zero =>
      intro j V acc hj kx hV hl
      have ej : j = (ys a).length := by omega
      subst ej
      refine ⟨V, ?_, kx, by simpa using hV⟩
      unfold compI itLst
      dsimp only
      rw [kx.get r _ hr hV0]
      dsimp only
      rw [List.getElem?_eq_none (by rw [List.length_map]; exact Nat.le_refl _)]
    | succ k ih =>
      intro j V acc hj kx hV hl
      have hjs : j < (ys a).length := by omega
      obtain ⟨e3, q1, z, W, q2, rfl, rfl⟩ := hst (ys a)[j] V (List.getElem_mem hjs)
      have lV : S1.length < W.length := (List.getElem?_eq_some_iff.mp hV).1
      have kx2 : Kx S1.length V0 (W.set S1.length (.lst (acc ++ [f a (ys a)[j]]))) := ⟨by simp [kx.len], fun i o hi q => by rw [List.getElem?_set_ne (Ne.symm hi)]; exact kx.get i o hi q⟩
      obtain ⟨V', u1, u2, u3⟩ := ih (j + 1) (W.set S1.length (.lst (acc ++ [f a (ys a)[j]]))) (acc ++ [f a (ys a)[j]]) (by omega) kx2 (List.getElem?_set_self lV) (by simp; omega)
      refine ⟨V', ?_, u2, ?_⟩
      · unfold compI
        have hx : (itLst r (ys a).length).get j W = some (some (g1 (ys a)[j])) := by
          unfold itLst
          dsimp only
          rw [kx.get r _ hr hV0]
          dsimp only
          rw [List.getElem?_map, List.getElem?_eq_getElem hjs]
          rfl
        rw [hx]
        dsimp only
        rw [q1]
        dsimp only [yesM, retM]
        rw [q2]
        dsimp only
        rw [hV]
        dsimp only
        rw [if_pos (by omega)]
        exact u1
      · rw [u3, List.append_assoc]
        congr 3
        rw [List.drop_eq_getElem_cons hjs]
        rfl
  have key : ∀ (k i : Nat) (T : So) (acc : List D), i + k = as.length → Keep S1 T → T[S1.length]? = some (.lst acc) → acc.length + ((as.drop i).flatMap ys).length ≤ 100000 →
      ∃ T', compJ it.get t (DD.bindM m1 seqI) own1 t1 te S1.length (wipeE e own) k i T = some T' ∧ Keep S1 T' ∧ T'[S1.length]? = some (.lst (acc ++ (as.drop i).flatMap fun a => (ys a).map (f a))) := by
    intro k
    induction k with
    | zero =>
      intro i T acc hi hk hT hl2
      have ei : i = as.length := by omega
      subst ei
      exact ⟨T, by unfold compJ; rw [i3 T hk, List.getElem?_eq_none (by rw [List.length_map]; exact Nat.le_refl _)], hk, by simpa using hT⟩
    | succ k ih =>
      intro i T acc hi hk hT hl2
      have hix : i < as.length := by omega
      have lT : S1.length < T.length := (List.getElem?_eq_some_iff.mp hT).1
      obtain ⟨e1, g0, d1, U, g2, ku, ⟨r, rfl, hr, hU⟩, g3⟩ := h1 as[i] T (List.getElem_mem hix) hk lT
      rw [List.drop_eq_getElem_cons hix, List.flatMap_cons, List.length_append] at hl2
      obtain ⟨V, q1, q2, q3⟩ := inner as[i] e1 r U hr hU g3 (ys as[i]).length 0 U acc (by omega) (Kx.refl _ _) (ku _ _ hT) (by omega)
      have kV : Keep S1 V := fun n o q => q2.get n o (by have := (List.getElem?_eq_some_iff.mp q).1; omega) ((hk.trans ku) n o q)
      obtain ⟨T', u1, u2, u3⟩ := ih (i + 1) V _ (by omega) kV q3 (by rw [List.drop_zero, List.length_append, List.length_map]; omega)
      refine ⟨T', ?_, u2, ?_⟩
      · unfold compJ
        rw [i3 T hk, List.getElem?_map, List.getElem?_eq_getElem hix]
        dsimp only [Option.map]
        rw [g0]
        dsimp only
        have hb : (DD.bindM m1 seqI) e1 T = some (.ok (itLst r (ys as[i]).length), U) := by
          unfold DD.bindM
          rw [g2]
          dsimp only
          unfold seqI
          dsimp only
          rw [hU]
          dsimp only
          rw [List.length_map]
        rw [hb]
        dsimp only
        have hn : (itLst r (ys as[i]).length).n = (ys as[i]).length := rfl
        rw [hn, q1]
        exact u1
      · rw [u3, List.append_assoc, List.drop_eq_getElem_cons hix, List.flatMap_cons, List.drop_zero]
  obtain ⟨T', q1, q2, q3⟩ := key as.length 0 (S1 ++ [.lst []]) [] (by omega) (Keep.app _ _) (by simp) (by simpa using hl)
  have hn : it.n = as.length := by rw [i2, List.length_map]
  refine ⟨_, T', ?_, h2 T' q2 (by simpa using q3)⟩
  dsimp only
  rw [hn, q1]
end PB

set_option Elab.async false
set_option linter.all false
set_option maxRecDepth 100000
set_option maxHeartbeats 1000000
namespace PB
open PySem PySem.Spec PyProof.Rows L2 DD
/-! ### cuts in order -/
def sortC (cs : List Cut) : List Cut := cs.mergeSort (PySem.W.dataLe false cutP)
theorem alike_cut (a b : Cut) : PySem.W.alike (cutP a) (cutP b) = true := rfl
theorem depth_cut (c : Cut) : (cutP c).depth ≤ 60 := by
  unfold cutP
  simp [PyData.depth, PyData.depthAll]
theorem sortOk_cuts (cs : List Cut) : sortOk (cs.map cutP) = true := by
  unfold sortOk
  simp only [Bool.and_eq_true, Bool.or_eq_true, List.all_eq_true, List.mem_map]
  refine ⟨?_, .inl ?_, ?_⟩
  · rintro _ ⟨a, _, rfl⟩ _ ⟨b, _, rfl⟩
    exact alike_cut a b
  · rintro _ ⟨a, _, rfl⟩
    rfl
  · rintro _ ⟨a, _, rfl⟩
    exact decide_eq_true (depth_cut a)
theorem zip_map2 {α β γ : Type} (f : α → β) (k : α → γ) : ∀ l : List α, (l.map f).zip (l.map k) = l.map fun a => (f a, k a)
  | [] => rfl
  | a :: l => by simp [zip_map2 f k l]
theorem sortD_of {α : Type} (f : α → D) (k : α → PyData) (l : List α) : sortD (l.map f) (l.map k) = (l.mergeSort (PySem.W.dataLe false k)).map f := by
  unfold sortD
  rw [zip_map2]
  have h := PySem.W.sort_maps (r := PySem.W.dataLe false k) (s := PySem.W.dataLe false fun b : D × PyData => b.2) (fun a : α => (f a, k a)) (l := l) (fun a _ b _ => rfl)
  rw [← h, List.map_map]
  rfl
theorem fSorted_of {α : Type} (f : α → D) (k : α → PyData) {n : Nat} {l : List α} {S : So} (h : S[n]? = some (.lst (l.map f))) (hp : toPys S 9 (l.map f) = some (l.map k)) (ho : sortOk (l.map k) = true) :
    fSorted [.ref n] S = some (.ref S.length, S ++ [.lst ((l.mergeSort (PySem.W.dataLe false k)).map f)]) := by
  have q : seqOf (.ref n) S = some (false, l.map f) := by unfold seqOf; dsimp only; rw [h]
  unfold fSorted
  dsimp only
  rw [q]
  dsimp only
  rw [hp]
  dsimp only
  rw [if_pos ho, sortD_of]
/-! ### the rows of dealings -/
abbrev Rw := List Cut × List Str
def rowDD (r : Rw) : D := .tup [.tup (r.1.map cutD), .tup (r.2.map .str)]
def freeN (cs : List Cut) (l : List (Str × Nat)) : List Str := (l.filter fun p => !decide (p.1 ∈ cs.map (·.1))).map (·.1)
def moreC (dir : Str) (cs : List Cut) (l : List (Str × Nat)) : List Cut := (freeN cs l).flatMap fun s => (["blocks", "turns"] : List Str).map fun k => (s, k, dir)
def stepW (dir : Str) (l : List (Str × Nat)) (r : Rw) : List Rw := [(r.1, r.2), (r.1, r.2 ++ [dir])] ++ (moreC dir r.1 l).map fun c => (sortC (r.1 ++ [c]), r.2)
theorem freeN_len (cs : List Cut) (l : List (Str × Nat)) : (freeN cs l).length ≤ l.length := by
  unfold freeN
  rw [List.length_map]
  exact List.length_filter_le _ _
theorem moreC_len (dir : Str) (cs : List Cut) (l : List (Str × Nat)) : (moreC dir cs l).length ≤ 2 * l.length := by
  unfold moreC
  have : ∀ xs : List Str, (xs.flatMap fun s => (["blocks", "turns"] : List Str).map fun k => (s, k, dir)).length = 2 * xs.length := fun xs => by
    induction xs with
    | nil => rfl
    | cons x xs ih => rw [List.flatMap_cons, List.length_append, ih]; simp; omega
  rw [this]
  have := freeN_len cs l
  omega
theorem okM_star {m : MM D} {k : MM (List D)} {e : Sl} {S : So} {P : List D → So → Prop} (h : okM m e S fun d S1 => ∃ b xs, seqOf d S1 = some (b, xs) ∧ okM k e S1 fun ys S2 => P (xs ++ ys) S2) : okM (mStar m k) e S P := by
  unfold mStar
  obtain ⟨d, S1, h1, b, xs, hx, ys, S2, h2, hP⟩ := h
  refine ⟨xs ++ ys, S2, ?_, hP⟩
  unfold DD.bindM
  rw [h1]
  dsimp only
  rw [hx]
  dsimp only
  rw [h2]
  rfl
section
variable {tb : Tab} [ok : Ok tb]
theorem sp_with_direction {dir : Str} {cs : List Cut} {ps : List Str} {d : D} {l : List (Str × Nat)} {b : Bool} {S : So} {P : D → So → Prop} (hd : seqOf d S = some (b, l.map prD)) (hl : l.length ≤ 6) (hc : cs.length ≤ 6) (hp : ps.length ≤ 6)
    (hP : ∀ T r, Keep S T → S.length ≤ r → T[r]? = some (.lst ((stepW dir l (cs, ps)).map rowDD)) → P (.ref r) T) : okC (phi_with_direction tb [.tup (cs.map cutD), .tup (ps.map .str), .str dir, d] S) P := by
  unfold phi_with_direction
  refine okC_fn rfl ?_
  unfold m_with_direction
  simp only [startE, List.map, List.length, List.replicate, List.cons_append, List.nil_append]
  refine okS_seq (okS_asg ?_)
  refine okM_filterA prD (fun p => .str p.1) (fun p => !decide (p.1 ∈ cs.map (·.1))) (okM_var.mpr ⟨_, rfl, b, l, hd, by omega, fun p T hpl hk => ⟨_, rfl, ?_⟩, fun T1 k1 hT1 => ?_⟩)
  · simp only [okM_tst, okM_op2, okM_var]
    refine ⟨_, rfl, ?_⟩
    refine okM_mapA cutD (fun c => .str c.1) (okM_var.mpr ⟨_, rfl, true, cs, rfl, by omega, fun c U hc hk => ⟨_, rfl, ?_⟩, fun U ku hU => ?_⟩)
    · simp only [okM_op2, okM_var, okM_ret]
      refine ⟨_, rfl, ?_⟩
      rw [show fIx (cutD c) (.int 0) U = some (.str c.1, U) from rfl, okF_some]
      exact ⟨Keep.refl _, rfl⟩
    have e3 : cs.map (fun c => D.str c.1) = (cs.map (·.1)).map .str := by rw [List.map_map]; rfl
    rw [e3] at hU
    rw [fInF_strs hU, okF_some, if_pos rfl]
    refine ⟨_, rfl, ku, rfl, fun _ => ?_⟩
    exact ⟨_, rfl, Keep.refl _, rfl⟩
  have e1 : ((l.filter fun p => !decide (p.1 ∈ cs.map (·.1))).map fun p => D.str p.1) = (freeN cs l).map .str := by unfold freeN; rw [List.map_map]; rfl
  rw [e1] at hT1
  simp only [nxt_nx, List.set]
  refine okS_seq (okS_asg ?_)
  have fl := freeN_len cs l
  refine okM_comp2 ?_
  unfold mSeq
  simp only [okM_bind, okM_var]
  obtain ⟨it, i1, i2, i3⟩ := seqI_row (e := [Sv.v (.tup (cs.map cutD)), .v (.tup (ps.map .str)), .v (.str dir), .v d, .v (.ref S.length), .no, .no, .no, .no, .no]) (show seqOf (.ref S.length) T1 = some (false, (freeN cs l).map .str) by unfold seqOf; dsimp only; rw [hT1])
  refine ⟨_, rfl, it, T1, i1, (freeN cs l).map .str, ⟨i2, i3⟩, fun _ => [.str "blocks", .str "turns"], fun x y => .tup [x, y, .str dir], ?_, ?_, fun T2 k2 hT2 => ?_⟩
  · have : ∀ xs : List D, (xs.flatMap fun _ => [D.str "blocks", D.str "turns"]).length = 2 * xs.length := fun xs => by
      induction xs with
      | nil => rfl
      | cons x xs ih => rw [List.flatMap_cons, List.length_append, ih]; simp; omega
    rw [this, List.length_map]
    have := line200
    omega
  · intro i x T hk hx
    have hm : ∀ E : Sl, okM (fun e S => DD.bindM (mOpA fTup (mCons (retM (.str "blocks")) (mCons (retM (.str "turns")) mNil))) seqI e S) E T fun it U => U = T ∧ it = itFix [.str "blocks", .str "turns"] := fun E => by
      show okM (DD.bindM _ _) E T _
      simp only [okM_bind, okM_opA, okM_cons, okM_ret, okM_nil]
      rw [fTup_ok (by simp), okF_some]
      exact ⟨_, _, rfl, rfl, rfl⟩
    obtain ⟨_, _, hq, rfl, rfl⟩ := hm ((wipeE [Sv.v (.tup (cs.map cutD)), .v (.tup (ps.map .str)), .v (.str dir), .v d, .v (.ref S.length), .no, .no, .no, .no, .no] [5, 9]).set 5 (.v x))
    refine ⟨_, itFix [.str "blocks", .str "turns"], rfl, hq, ⟨rfl, fun V kV j => rfl⟩, fun j y V hy kV => ⟨_, rfl, ?_⟩⟩
    · simp only [okM_opA, okM_cons, okM_var, okM_nil]
      refine ⟨_, rfl, _, rfl, _, rfl, ?_⟩
      rw [fTup_ok (by simp), okF_some]
      exact ⟨rfl, rfl⟩
  have e2 : (((freeN cs l).map D.str).flatMap fun x => [D.str "blocks", D.str "turns"].map fun y => .tup [x, y, .str dir]) = (moreC dir cs l).map cutD := by
    unfold moreC
    rw [List.map_flatMap, List.flatMap_map]
    rfl
  have e2' : (((freeN cs l).map D.str).flatMap fun x => ([D.str "blocks", D.str "turns"]).map ((fun x y => D.tup [x, y, .str dir]) x)) = (moreC dir cs l).map cutD := e2
  rw [e2'] at hT2
  have ml := moreC_len dir cs l
  simp only [nxt_nx, List.set]
  refine okS_ret ?_
  simp only [okM_op2, okM_opA, okM_cons, okM_var, okM_nil]
  refine ⟨_, rfl, _, rfl, ?_⟩
  rw [fTup_ok (by simp), okF_some]
  refine ⟨_, rfl, ?_⟩
  refine okM_star (okM_var.mpr ⟨_, rfl, true, _, rfl, ?_⟩)
  simp only [okM_cons, okM_var, okM_nil]
  refine ⟨_, rfl, ?_⟩
  rw [fTup_ok (by simp; omega), okF_some, fTup_ok (by simp), okF_some, fLst_ok (by simp), okF_some]
  have k12 := k1.trans k2
  have k3 := k12.trans (Keep.app T2 (.lst [.tup [.tup (cs.map cutD), .tup (ps.map .str)], .tup [.tup (cs.map cutD), .tup (ps.map .str ++ [.str dir])]]))
  have hT2' := Keep.app T2 (.lst [.tup [.tup (cs.map cutD), .tup (ps.map .str)], .tup [.tup (cs.map cutD), .tup (ps.map .str ++ [.str dir])]]) _ _ hT2
  refine okM_mapA cutD (fun c => rowDD (sortC (cs ++ [c]), ps)) (okM_var.mpr ⟨_, rfl, false, moreC dir cs l, ?_, by omega, fun c T hc hk => ⟨_, rfl, ?_⟩, fun T4 k4 hT4 => ?_⟩)
  · unfold seqOf
    dsimp only
    rw [hT2']
  · simp only [okM_opA, okM_cons, okM_var, okM_nil]
    refine okM_star (okM_var.mpr ⟨_, rfl, true, _, rfl, ?_⟩)
    simp only [okM_cons, okM_var, okM_nil]
    refine ⟨_, rfl, ?_⟩
    rw [fLst_ok (by simp; omega), okF_some]
    have hh : (T ++ [O.lst (cs.map cutD ++ [cutD c])])[T.length]? = some (.lst ((cs ++ [c]).map cutD)) := by simp
    rw [fSorted_of cutD cutP hh (pys_cuts _) (sortOk_cuts _), okF_some]
    have q : seqOf (.ref (T ++ [O.lst (cs.map cutD ++ [cutD c])]).length) ((T ++ [O.lst (cs.map cutD ++ [cutD c])]) ++ [.lst ((sortC (cs ++ [c])).map cutD)]) = some (false, (sortC (cs ++ [c])).map cutD) := by unfold seqOf; dsimp only; rw [get_new]
    rw [show ((cs ++ [c]).mergeSort (PySem.W.dataLe false cutP)) = sortC (cs ++ [c]) from rfl, fTuple_seq q, okF_some]
    refine ⟨_, rfl, ?_⟩
    rw [fTup_ok (by simp), okF_some]
    exact ⟨(Keep.app _ _).trans (Keep.app _ _), rfl⟩
  have kk := k4 _ _ (get_new (S := T2) (o := .lst [.tup [.tup (cs.map cutD), .tup (ps.map .str)], .tup [.tup (cs.map cutD), .tup (ps.map .str ++ [.str dir])]]))
  have add : ∀ {n m : Nat} {xs ys : List D} {T : So}, T[n]? = some (.lst xs) → T[m]? = some (.lst ys) → xs.length + ys.length ≤ 1000 → fAdd (.ref n) (.ref m) T = some (.ref T.length, T ++ [.lst (xs ++ ys)]) := fun {n m xs ys T} h1 h2 h3 => by
    unfold fAdd
    dsimp only
    rw [h1, h2]
    dsimp only
    rw [if_pos (by have := line200k; omega)]
  rw [add kk hT4 (by rw [List.length_map]; simp; omega), okF_some]
  refine hP _ _ ((k3.trans k4).trans (Keep.app _ _)) (k3.trans k4).len ?_
  rw [get_new]
  unfold stepW
  simp [rowDD]
end
end PB

set_option Elab.async false
set_option linter.all false
set_option maxRecDepth 100000
set_option maxHeartbeats 1000000
namespace PB
open PySem PySem.Spec PyProof.Rows L2 DD
/-- [v(a) for a in a row], the values told by what stands in the store -/
theorem okM_mapV {α : Type} {own : List Nat} {m : MM D} {t : Tg} {te : MM D} {e : Sl} {S : So} {P : D → So → Prop} (g : α → D) (V : Nat → α → D → So → Prop) (mono : ∀ n0 a y U T, Kx n0 U T → V n0 a y U → V n0 a y T)
    (h : okM m e S fun d S1 => ∃ (b : Bool) (as : List α), seqOf d S1 = some (b, as.map g) ∧ as.length ≤ 100000 ∧
      (∀ a T, a ∈ as → Keep S1 T → S1.length < T.length → ∃ e3, t (g a) T (wipeE e own) = some e3 ∧ okM te e3 T fun y U => Keep T U ∧ V S1.length a y U) ∧
      ∀ T ys, Keep S1 T → T[S1.length]? = some (.lst ys) → ys.length = as.length → (∀ (i : Nat) (a : α) (y : D), as[i]? = some a → ys[i]? = some y → V S1.length a y T) → P (.ref S1.length) T) : okM (compM own (mSeq m) t yesM te) e S P := by
  refine okM_comp ?_
  unfold mSeq
  rw [okM_bind]
  refine h.imp fun d S1 q => ?_
  obtain ⟨b, as, hd, hl, h1, h2⟩ := q
  obtain ⟨it, i1, i2, i3⟩ := seqI_row (e := e) hd
  rw [List.length_map] at i2
  refine ⟨it, S1, i1, fun i T => Keep S1 T ∧ i ≤ as.length ∧ ∃ acc, T[S1.length]? = some (.lst acc) ∧ acc.length = i ∧ ∀ (j : Nat) (a : α) (y : D), as[j]? = some a → acc[j]? = some y → V S1.length a y T, ⟨Keep.app _ _, Nat.zero_le _, [], get_new, rfl, fun j a y _ z => by simp at z⟩, ?_⟩
  rintro i T ⟨k1, k2, acc, k3, k4, k5⟩
  by_cases hi : i < as.length
  · have lT : S1.length < T.length := (List.getElem?_eq_some_iff.mp k3).1
    obtain ⟨e3, g1, g2⟩ := h1 as[i] T (List.getElem_mem hi) k1 lT
    refine .inr ⟨by omega, g as[i], e3, by rw [i3 T k1 i, List.getElem?_map, List.getElem?_eq_getElem hi]; rfl, g1, g2.imp fun y U q => ?_⟩
    have u1 := q.1 _ _ k3
    have lU : S1.length < U.length := (List.getElem?_eq_some_iff.mp u1).1
    have kx : Kx S1.length U (U.set S1.length (.lst (acc ++ [y]))) := ⟨by simp, fun n o hn z => by rw [List.getElem?_set_ne (Ne.symm hn)]; exact z⟩
    refine ⟨acc, u1, by have := line200k; omega, keep_set (k1.trans q.1) (Nat.le_refl _), hi, acc ++ [y], List.getElem?_set_self lU, by simp [k4], fun j a z ha hz => ?_⟩
    by_cases hj : j < acc.length
    · rw [List.getElem?_append_left hj] at hz
      exact mono _ _ _ _ _ ((Keep.kx q.1).trans kx) (k5 j a z ha hz)
    · rw [List.getElem?_append_right (by omega)] at hz
      have hj2 : j = i := by
        have := (List.getElem?_eq_some_iff.mp hz).1
        simp at this
        omega
      subst hj2
      rw [List.getElem?_eq_getElem hi] at ha
      cases ha
      have : z = y := by rw [show j - acc.length = 0 by omega] at hz; simpa using hz.symm
      rw [this]
      exact mono _ _ _ _ _ kx q.2
  · have ei : i = as.length := by omega
    subst ei
    exact .inl ⟨by rw [i3 T k1, List.getElem?_eq_none (by rw [List.length_map]; exact Nat.le_refl _)], h2 T acc k1 k3 k4 k5⟩
/-! ### rows, all of them -/
def rowsW (l : List (Str × Nat)) : List Str → List Rw → List Rw
  | [], rs => rs
  | d :: ds, rs => rowsW l ds (rs.flatMap (stepW d l))
theorem rowsW_app (l : List (Str × Nat)) : ∀ (ds es : List Str) (rs : List Rw), rowsW l (ds ++ es) rs = rowsW l es (rowsW l ds rs)
  | [], _, _ => rfl
  | d :: ds, es, rs => rowsW_app l ds es _
theorem stepW_len (d : Str) (l : List (Str × Nat)) (r : Rw) : (stepW d l r).length ≤ 2 + 2 * l.length := by
  have := moreC_len d r.1 l
  unfold stepW
  simp only [List.length_append, List.length_map, List.length_cons, List.length_nil]
  omega
theorem flatW_len (d : Str) (l : List (Str × Nat)) : ∀ rs : List Rw, (rs.flatMap (stepW d l)).length ≤ rs.length * (2 + 2 * l.length)
  | [] => by simp
  | r :: rs => by
    rw [List.flatMap_cons, List.length_append, List.length_cons, Nat.add_mul]
    have := stepW_len d l r
    have := flatW_len d l rs
    omega
theorem rowsW_len (l : List (Str × Nat)) (hl : l.length ≤ 4) : ∀ (ds : List Str) (rs : List Rw), (rowsW l ds rs).length ≤ rs.length * 10 ^ ds.length
  | [], rs => by simp [rowsW]
  | d :: ds, rs => by
    have h1 := rowsW_len l hl ds (rs.flatMap (stepW d l))
    have h2 := flatW_len d l rs
    have h3 : rs.length * (2 + 2 * l.length) ≤ rs.length * 10 := Nat.mul_le_mul_left _ (by omega)
    show (rowsW l ds (rs.flatMap (stepW d l))).length ≤ rs.length * 10 ^ (ds.length + 1)
    have h4 : (rs.flatMap (stepW d l)).length * 10 ^ ds.length ≤ (rs.length * 10) * 10 ^ ds.length := Nat.mul_le_mul_right _ (Nat.le_trans h2 h3)
    have h5 : (rs.length * 10) * 10 ^ ds.length = rs.length * 10 ^ (ds.length + 1) := by rw [Nat.pow_succ]; ac_rfl
    omega
/-- no row grows by more than one a step -/
theorem stepW_few {d : Str} {l : List (Str × Nat)} {r r' : Rw} (h : r' ∈ stepW d l r) : r'.1.length ≤ r.1.length + 1 ∧ r'.2.length ≤ r.2.length + 1 := by
  unfold stepW at h
  rcases List.mem_append.mp h with h | h
  · simp only [List.mem_cons, List.not_mem_nil, or_false] at h
    rcases h with rfl | rfl <;> simp
  · obtain ⟨c, _, rfl⟩ := List.mem_map.mp h
    refine ⟨?_, by simp⟩
    unfold sortC
    rw [List.length_mergeSort]
    simp
theorem rowsW_few (l : List (Str × Nat)) : ∀ (ds : List Str) (rs : List Rw) (k : Nat), (∀ r ∈ rs, r.1.length ≤ k ∧ r.2.length ≤ k) → ∀ r ∈ rowsW l ds rs, r.1.length ≤ k + ds.length ∧ r.2.length ≤ k + ds.length
  | [], rs, k, h, r, hr => h r hr
  | d :: ds, rs, k, h, r, hr => by
    have := rowsW_few l ds (rs.flatMap (stepW d l)) (k + 1) (fun x hx => by
      obtain ⟨y, hy, hxy⟩ := List.mem_flatMap.mp hx
      have := stepW_few hxy
      have := h y hy
      omega) r hr
    simp only [List.length_cons]
    omega
def rowP (r : Rw) : PyData := .tuple [.tuple (r.1.map cutP), .tuple (r.2.map .str)]
theorem py_row {S : So} {k : Nat} (r : Rw) : toPy S k (rowDD r) = some (rowP r) := by
  unfold rowDD toPy
  have e1 : toPy S k (.tup (r.1.map cutD)) = some (.tuple (r.1.map cutP)) := by unfold toPy; rw [pys_cuts]; rfl
  have e2 : toPy S k (.tup (r.2.map .str)) = some (.tuple (r.2.map .str)) := by unfold toPy; rw [pys_strs]; rfl
  have e : toPys S k [.tup (r.1.map cutD), .tup (r.2.map .str)] = some [.tuple (r.1.map cutP), .tuple (r.2.map .str)] := by
    unfold toPys
    rw [e1]
    unfold toPys
    rw [e2]
    unfold toPys
    rfl
  rw [e]
  rfl
theorem pys_rows {S : So} {k : Nat} : ∀ rs : List Rw, toPys S k (rs.map rowDD) = some (rs.map rowP)
  | [] => by unfold toPys; rfl
  | r :: rs => by
    show toPys S k (rowDD r :: rs.map rowDD) = _
    unfold toPys
    rw [py_row, pys_rows rs]
    rfl
theorem alike_cuts : ∀ a b : List Cut, PySem.W.alikeAll (a.map cutP) (b.map cutP) = true
  | [], [] => by simp [PySem.W.alikeAll]
  | [], b :: bs => by simp [PySem.W.alikeAll]
  | a :: as, [] => by simp [PySem.W.alikeAll]
  | a :: as, b :: bs => by
    show PySem.W.alikeAll (cutP a :: as.map cutP) (cutP b :: bs.map cutP) = true
    unfold PySem.W.alikeAll
    rw [alike_cut, alike_cuts as bs]
    rfl
theorem alike_strs : ∀ a b : List Str, PySem.W.alikeAll (a.map .str) (b.map .str) = true
  | [], [] => by simp [PySem.W.alikeAll]
  | [], b :: bs => by simp [PySem.W.alikeAll]
  | a :: as, [] => by simp [PySem.W.alikeAll]
  | a :: as, b :: bs => by
    show PySem.W.alikeAll (.str a :: as.map .str) (.str b :: bs.map .str) = true
    unfold PySem.W.alikeAll
    rw [show PySem.W.alike (.str a) (.str b) = true from rfl, alike_strs as bs]
    rfl
theorem alike_row (a b : Rw) : PySem.W.alike (rowP a) (rowP b) = true := by
  unfold rowP
  have e1 : PySem.W.alike (.tuple (a.1.map cutP)) (.tuple (b.1.map cutP)) = true := alike_cuts _ _
  have e2 : PySem.W.alike (.tuple (a.2.map .str)) (.tuple (b.2.map .str)) = true := alike_strs _ _
  show PySem.W.alikeAll [.tuple (a.1.map cutP), .tuple (a.2.map .str)] [.tuple (b.1.map cutP), .tuple (b.2.map .str)] = true
  unfold PySem.W.alikeAll
  rw [e1]
  unfold PySem.W.alikeAll
  rw [e2]
  unfold PySem.W.alikeAll
  rfl
theorem depth_all {ps : List PyData} {k : Nat} (h : ∀ p ∈ ps, p.depth ≤ k) : PyData.depthAll ps ≤ k := by
  induction ps with
  | nil => simp [PyData.depthAll]
  | cons p ps ih =>
    have h1 := h p (List.mem_cons_self ..)
    have h2 := ih fun q hq => h q (List.mem_cons_of_mem _ hq)
    simp only [PyData.depthAll]
    omega
end PB

set_option Elab.async false
set_option linter.all false
set_option maxRecDepth 100000
set_option maxHeartbeats 1000000
namespace PB
open PySem PySem.Spec PyProof.Rows L2 DD
theorem depth_cut1 (c : Cut) : (cutP c).depth ≤ 1 := by
  unfold cutP
  simp [PyData.depth, PyData.depthAll]
theorem depth_row (r : Rw) : (rowP r).depth ≤ 60 := by
  have h1 : PyData.depthAll (r.1.map cutP) ≤ 1 := depth_all fun p hp => by
    obtain ⟨c, _, rfl⟩ := List.mem_map.mp hp
    exact depth_cut1 c
  have h2 : PyData.depthAll (r.2.map .str) ≤ 1 := depth_all fun p hp => by
    obtain ⟨c, _, rfl⟩ := List.mem_map.mp hp
    simp [PyData.depth]
  unfold rowP
  simp only [PyData.depth, PyData.depthAll]
  omega
theorem sortOk_rows (rs : List Rw) : sortOk (rs.map rowP) = true := by
  unfold sortOk
  simp only [Bool.and_eq_true, Bool.or_eq_true, List.all_eq_true, List.mem_map]
  refine ⟨?_, .inl ?_, ?_⟩
  · rintro _ ⟨a, _, rfl⟩ _ ⟨b, _, rfl⟩
    exact alike_row a b
  · rintro _ ⟨a, _, rfl⟩
    rfl
  · rintro _ ⟨a, _, rfl⟩
    exact decide_eq_true (depth_row a)
def sortR (rs : List Rw) : List Rw := rs.mergeSort (PySem.W.dataLe false rowP)
/-- the rows of all dealings, in order -/
def allRows (dirs : List Str) (l : List (Str × Nat)) : List Rw := rowsW l dirs [([], [])]
theorem seqOf_ref {n : Nat} {xs : List D} {S : So} (h : S[n]? = some (.lst xs)) : seqOf (.ref n) S = some (false, xs) := by unfold seqOf; dsimp only; rw [h]
section
variable {tb : Tab} [ok : Ok tb]
theorem sp_dealings [og : OkG tb] {d : D} {l dl : List (Str × Nat)} {b : Bool} {gn : Nat} {S : So} {P : D → So → Prop} (hd : seqOf d S = some (b, l.map prD)) (hg : S[gn]? = some (gridO dl)) (hl : l.length ≤ 4) (hdl : dl.length ≤ 3)
    (hgood : ∀ r ∈ allRows (dl.map (·.1)) l, GoodDeal r.1 r.2)
    (hP : ∀ T ys, Keep S T → ys.length = (sortR (allRows (dl.map (·.1)) l)).length → (∀ (i : Nat) (r : Rw) (y : D), (sortR (allRows (dl.map (·.1)) l))[i]? = some r → ys[i]? = some y → ∃ n, y = .ref n ∧ T[n]? = some (dealO r.1 r.2)) → P (.tup ys) T) :
    okC (phi_dealings tb [d, .ref gn] S) P := by
  unfold phi_dealings
  refine okC_fn rfl ?_
  unfold m_dealings
  simp only [startE, List.map, List.length, List.replicate, List.cons_append, List.nil_append]
  refine okS_seq (okS_asg ?_)
  simp only [okM_opA, okM_cons, okM_nil]
  rw [fTup_ok (by simp), okF_some, fTup_ok (by simp), okF_some, fTup_ok (by simp), okF_some, fLst_ok (by simp), okF_some]
  simp only [nxt_nx, List.set]
  have k0 : Keep S (S ++ [O.lst [D.tup [.tup [], .tup []]]]) := Keep.app _ _
  have few : ∀ i, ∀ r ∈ rowsW l ((dl.map (·.1)).take i) [([], [])], r.1.length ≤ 6 ∧ r.2.length ≤ 6 := fun i r hr => by
    have := rowsW_few l ((dl.map (·.1)).take i) [([], [])] 0 (fun x hx => by simp at hx; subst hx; simp) r hr
    have : ((dl.map (·.1)).take i).length ≤ 3 := by simp; omega
    omega
  have many : ∀ i, (rowsW l ((dl.map (·.1)).take i) [([], [])]).length ≤ 1000 := fun i => by
    have h1 := rowsW_len l hl ((dl.map (·.1)).take i) [([], [])]
    have h2 : ((dl.map (·.1)).take i).length ≤ 3 := by simp; omega
    have h3 : (10 : Nat) ^ ((dl.map (·.1)).take i).length ≤ 10 ^ 3 := Nat.pow_le_pow_right (by decide) h2
    simp only [List.length_cons, List.length_nil] at h1
    have h4 : (10 : Nat) ^ 3 = 1000 := by decide
    omega
  refine okS_seq (okS_each ?_)
  simp only [okM_op1, okM_var]
  refine ⟨_, rfl, ?_⟩
  rw [fFld_ok (k0 _ _ hg) og.g_d (d := .tup (dl.map prD)) rfl, okF_some]
  obtain ⟨it, i1, i2⟩ := seqI_row (e := [Sv.v d, .v (.ref gn), .v (.ref S.length), .no, .no, .no, .no, .no]) (show seqOf (.tup (dl.map prD)) (S ++ [O.lst [D.tup [.tup [], .tup []]]]) = some (true, dl.map prD) from rfl)
  refine ⟨it, _, i1, i2, fun i e2 T => Keep S T ∧ ∃ r2 s3 s4, e2 = [.v d, .v (.ref gn), .v (.ref r2), s3, s4, .no, .no, .no] ∧ T[r2]? = some (.lst ((rowsW l ((dl.map (·.1)).take i) [([], [])]).map rowDD)), ⟨k0, S.length, .no, .no, rfl, by rw [get_new]; rfl⟩, ?_, ?_⟩
  · rintro i e2 T x hk hx ⟨kT, r2, s3, s4, rfl, hT⟩
    rw [List.getElem?_map] at hx
    obtain ⟨p, hp, rfl⟩ := Option.map_eq_some_iff.mp hx
    refine ⟨_, rfl, ?_⟩
    unfold b_dealings_1
    refine okS_asg ?_
    refine okM_comp2K rowDD rowDD (fun _ r => rowDD r) (stepW p.1 l) (okM_var.mpr ⟨_, rfl, false, rowsW l ((dl.map (·.1)).take i) [([], [])], seqOf_ref hT, ?_, fun r U hr kU lU => ⟨_, rfl, ?_⟩, fun U kU hU => ?_⟩)
    · have h2 := flatW_len p.1 l (rowsW l ((dl.map (·.1)).take i) [([], [])])
      have h3 := many i
      have h4 : (rowsW l ((dl.map (·.1)).take i) [([], [])]).length * (2 + 2 * l.length) ≤ 1000 * 10 := Nat.mul_le_mul h3 (by omega)
      omega
    · simp only [okM_call, okM_cons, okM_var, okM_nil]
      refine ⟨_, rfl, _, rfl, _, rfl, _, rfl, ?_⟩
      have f6 := few i r hr
      refine sp_with_direction (seqOf_up (kT.trans kU) hd) (by omega) f6.1 f6.2 fun V r' kV hr' hV => ⟨kV, ⟨r', rfl, by omega, hV⟩, fun b V2 hb => ⟨_, rfl, ⟨_, rfl, trivial, rfl⟩⟩⟩
    · have e : ((rowsW l ((dl.map (·.1)).take i) [([], [])]).flatMap fun a => (stepW p.1 l a).map fun r => rowDD r) = (rowsW l ((dl.map (·.1)).take (i + 1)) [([], [])]).map rowDD := by
        rw [List.take_add_one, List.getElem?_map, hp]
        show _ = (rowsW l ((dl.map (·.1)).take i ++ [p.1]) [([], [])]).map rowDD
        rw [rowsW_app]
        show _ = ((rowsW l ((dl.map (·.1)).take i) [([], [])]).flatMap (stepW p.1 l)).map rowDD
        rw [List.map_flatMap]
      rw [e] at hU
      exact ⟨kU, kT.trans kU, _, _, _, rfl, hU⟩
  · rintro e2 T hk ⟨kT, r2, s3, s4, rfl, hT⟩
    simp only [nxt_nx]
    rw [List.length_map] at hT
    have el : (dl.map (·.1)).take dl.length = dl.map (·.1) := by rw [List.take_of_length_le (by simp)]
    rw [el] at hT
    have hT' : T[r2]? = some (.lst ((allRows (dl.map (·.1)) l).map rowDD)) := hT
    have m3 := many 3
    have el3 : (dl.map (·.1)).take 3 = dl.map (·.1) := List.take_of_length_le (by simp; omega)
    rw [el3] at m3
    have hm : (sortR (allRows (dl.map (·.1)) l)).length ≤ 1000 := by unfold sortR; rw [List.length_mergeSort]; exact m3
    refine okS_ret ?_
    simp only [okM_opA, okM_cons, okM_nil]
    refine okM_mapV rowDD (fun n0 r y U => ∃ n, y = .ref n ∧ n ≠ n0 ∧ U[n]? = some (dealO r.1 r.2)) (fun n0 r y U T kx ⟨n, h1, h2, h3⟩ => ⟨n, h1, h2, kx.get n _ h2 h3⟩) ?_
    simp only [okM_opA, okM_cons, okM_var, okM_nil]
    refine ⟨_, rfl, ?_⟩
    rw [fSorted_of rowDD rowP hT' (pys_rows _) (sortOk_rows _), okF_some]
    refine ⟨false, sortR (allRows (dl.map (·.1)) l), seqOf_ref get_new, by omega, fun r U hr kU lU => ⟨_, rfl, ?_⟩, fun U ys kU hU hlen hV => ?_⟩
    · simp only [okM_call, okM_cons, okM_var, okM_nil]
      refine ⟨_, rfl, _, rfl, ?_⟩
      have hr2 : r ∈ allRows (dl.map (·.1)) l := List.mem_mergeSort.mp hr
      exact sp_dealing (hgood r hr2) fun V kV hV => ⟨kV, U.length, rfl, by omega, hV⟩
    · rw [fTuple_seq (seqOf_ref hU), okF_some]
      exact hP U ys (kT.trans ((Keep.app _ _).trans kU)) hlen fun i r y h1 h2 => by
        obtain ⟨n, a1, a2, a3⟩ := hV i r y h1 h2
        exact ⟨n, a1, a3⟩
end
end PB

set_option Elab.async false
set_option linter.all false
set_option maxRecDepth 100000
set_option maxHeartbeats 1000000
namespace PB
open PySem PySem.Spec PyProof.Rows L2 DD
abbrev LtS (a b : Str) : Prop := a.cps.toList < b.cps.toList
theorem ltS_trans {a b c : Str} (h1 : LtS a b) (h2 : LtS b c) : LtS a c := List.lt_trans h1 h2
theorem ltS_ne {a b : Str} (h : LtS a b) : a ≠ b := fun z => by subst z; exact List.lt_irrefl _ h
theorem pairwise_of_ascP : ∀ {ws : List Str}, ascP ws = true → ws.Pairwise LtS
  | [], _ => .nil
  | [_], _ => by simp
  | a :: b :: ws, h => by
    unfold ascP at h
    simp only [List.drop_one, List.tail_cons, List.zip_cons_cons, List.all_cons, Bool.and_eq_true] at h
    have h1 : LtS a b := of_decide_eq_true h.1
    have ih := pairwise_of_ascP (ws := b :: ws) (by unfold ascP; simpa only [List.drop_one, List.tail_cons] using h.2)
    refine List.pairwise_cons.mpr ⟨fun x hx => ?_, ih⟩
    rcases List.mem_cons.mp hx with rfl | hx
    · exact h1
    · exact ltS_trans h1 ((List.pairwise_cons.mp ih).1 x hx)
theorem nodup_of_lt {ws : List Str} (h : ws.Pairwise LtS) : ws.Nodup := h.imp ltS_ne
/-- the order of cuts of unlike sides -/
theorem leC_ne {a b : Cut} (h : a.1 ≠ b.1) : PySem.W.dataLe false cutP a b = decide (a.1.cps.toList ≤ b.1.cps.toList) := by
  rw [PySem.W.dataLe_eq]
  show (!PySem.W.dataLt (cutP b) (cutP a)) = _
  unfold cutP
  rw [PySem.W.dataLt_tuple, PySem.W.dataLt_cons (by rfl)]
  have e : PyData.eqv (.str b.1) (.str a.1) = false := by
    have : ¬ b.1 = a.1 := fun z => h z.symm
    simp [PyData.eqv, this]
  rw [e, if_neg (by decide), PySem.W.dataLt_str, PySem.W.not_lt_str]
theorem sortC_perm (cs : List Cut) : (sortC cs).Perm cs := List.mergeSort_perm _ _
theorem sortC_le (cs : List Cut) : (sortC cs).Pairwise fun a b => PySem.W.dataLe false cutP a b = true := PySem.W.sort_pairwise (PySem.W.sortLe_total _ _ _) cs
theorem sortC_lt {cs : List Cut} (nd : (cs.map (·.1)).Nodup) : (sortC cs).Pairwise fun a b => LtS a.1 b.1 := by
  have n2 : ((sortC cs).map (·.1)).Nodup := ((sortC_perm cs).map _).symm.nodup nd
  have n3 : (sortC cs).Pairwise fun a b => a.1 ≠ b.1 := by
    rw [List.Nodup, List.pairwise_map] at n2
    exact n2
  refine (List.pairwise_and_iff.mpr ⟨sortC_le cs, n3⟩).imp fun {a b} ⟨h1, h2⟩ => ?_
  rw [leC_ne h2] at h1
  have h1 := of_decide_eq_true h1
  by_cases h : LtS a.1 b.1
  · exact h
  · exact absurd (PySem.W.str_of_cps (List.le_antisymm h1 h)) h2
/-- a row that is right, made with these directions -/
structure OkRow (ds : List Str) (r : Rw) : Prop where
  cut : ∀ c ∈ r.1, wordZ c.1 = true ∧ c.2.1 ∈ (["blocks", "turns"] : List Str) ∧ c.2.2 ∈ ds
  lt : (r.1.map (·.1)).Pairwise LtS
  dirs : (r.1.map (·.2.2)).Nodup
  parts : r.2.Pairwise LtS
  sub : ∀ p ∈ r.2, p ∈ ds
  apart : ∀ c ∈ r.1, c.2.2 ∉ r.2
theorem stepW_ok {ds : List Str} {d : Str} {l : List (Str × Nat)} {r r' : Rw} (h : OkRow ds r) (hd : ∀ x ∈ ds, LtS x d) (hw : ∀ p ∈ l, wordZ p.1 = true) (hr : r' ∈ stepW d l r) : OkRow (ds ++ [d]) r' := by
  have up : ∀ x ∈ ds, x ∈ ds ++ [d] := fun x hx => List.mem_append_left _ hx
  have notin : ∀ x ∈ ds, x ≠ d := fun x hx => ltS_ne (hd x hx)
  unfold stepW at hr
  rcases List.mem_append.mp hr with hr | hr
  · simp only [List.mem_cons, List.not_mem_nil, or_false] at hr
    rcases hr with rfl | rfl
    · exact ⟨fun c hc => ⟨(h.cut c hc).1, (h.cut c hc).2.1, up _ (h.cut c hc).2.2⟩, h.lt, h.dirs, h.parts, fun p hp => up p (h.sub p hp), h.apart⟩
    · refine ⟨fun c hc => ⟨(h.cut c hc).1, (h.cut c hc).2.1, up _ (h.cut c hc).2.2⟩, h.lt, h.dirs, ?_, fun p hp => ?_, fun c hc hin => ?_⟩
      · exact List.pairwise_append.mpr ⟨h.parts, by simp, fun a ha b hb => by
          have : b = d := by simpa using hb
          rw [this]; exact hd a (h.sub a ha)⟩
      · rcases List.mem_append.mp hp with hp | hp
        · exact up p (h.sub p hp)
        · exact List.mem_append_right _ hp
      · rcases List.mem_append.mp hin with hin | hin
        · exact h.apart c hc hin
        · have : c.2.2 = d := by simpa using hin
          exact notin _ (h.cut c hc).2.2 this
  · obtain ⟨c, hc, rfl⟩ := List.mem_map.mp hr
    unfold moreC freeN at hc
    obtain ⟨s, hs, hck⟩ := List.mem_flatMap.mp hc
    obtain ⟨k, hk, rfl⟩ := List.mem_map.mp hck
    obtain ⟨p, hp, rfl⟩ := List.mem_map.mp hs
    obtain ⟨hp1, hp2⟩ := List.mem_filter.mp hp
    have fresh : p.1 ∉ r.1.map (·.1) := by simpa using hp2
    have pm := sortC_perm (r.1 ++ [(p.1, k, d)])
    have mem : ∀ x, x ∈ sortC (r.1 ++ [(p.1, k, d)]) → x ∈ r.1 ∨ x = (p.1, k, d) := fun x hx => by
      rcases List.mem_append.mp (pm.mem_iff.mp hx) with z | z
      · exact .inl z
      · exact .inr (by simpa using z)
    have nd : ((r.1 ++ [(p.1, k, d)]).map (·.1)).Nodup := by
      rw [List.map_append]
      exact List.nodup_append.mpr ⟨nodup_of_lt h.lt, by simp, fun a ha b hb => by
        have : b = p.1 := by simpa using hb
        rw [this]; exact fun z => fresh (z ▸ ha)⟩
    have nd2 : ((r.1 ++ [(p.1, k, d)]).map (·.2.2)).Nodup := by
      rw [List.map_append]
      exact List.nodup_append.mpr ⟨h.dirs, by simp, fun a ha b hb => by
        have : b = d := by simpa using hb
        obtain ⟨c, hc, rfl⟩ := List.mem_map.mp ha
        rw [this]; exact notin _ (h.cut c hc).2.2⟩
    refine ⟨fun x hx => ?_, ?_, (pm.map _).symm.nodup nd2, h.parts, fun q hq => up q (h.sub q hq), fun x hx hin => ?_⟩
    · rcases mem x hx with hx | rfl
      · exact ⟨(h.cut x hx).1, (h.cut x hx).2.1, up _ (h.cut x hx).2.2⟩
      · exact ⟨hw p hp1, hk, by simp⟩
    · rw [List.pairwise_map]
      exact sortC_lt nd
    · rcases mem x hx with hx | rfl
      · exact h.apart x hx hin
      · exact notin _ (h.sub _ hin) rfl
theorem rowsW_ok {l : List (Str × Nat)} (hw : ∀ p ∈ l, wordZ p.1 = true) : ∀ (ds es : List Str) (rs : List Rw), (es ++ ds).Pairwise LtS → (∀ r ∈ rs, OkRow es r) → ∀ r ∈ rowsW l ds rs, OkRow (es ++ ds) r
  | [], es, rs, _, h, r, hr => by rw [List.append_nil]; exact h r hr
  | d :: ds, es, rs, hp, h, r, hr => by
    have e : es ++ d :: ds = (es ++ [d]) ++ ds := by simp
    rw [e] at hp ⊢
    refine rowsW_ok hw ds (es ++ [d]) (rs.flatMap (stepW d l)) hp (fun x hx => ?_) r hr
    obtain ⟨y, hy, hxy⟩ := List.mem_flatMap.mp hx
    refine stepW_ok (h y hy) (fun z hz => ?_) hw hxy
    have := (List.pairwise_append.mp (List.pairwise_append.mp hp).1).2.2
    exact this z hz d (by simp)
theorem rows_good {l : List (Str × Nat)} {ds : List Str} (hw : ∀ p ∈ l, wordZ p.1 = true) (hd : ascP ds = true) (hdw : ∀ d ∈ ds, wordZ d = true) (hl : ds.length ≤ 3) : ∀ r ∈ allRows ds l, OkRow ds r ∧ GoodDeal r.1 r.2 := fun r hr => by
  have h : OkRow ds r := rowsW_ok hw ds [] [([], [])] (pairwise_of_ascP hd) (fun x hx => by
    have : x = ([], []) := by simpa using hx
    subst this
    exact ⟨fun c hc => (nomatch hc), .nil, .nil, .nil, fun p hp => (nomatch hp), fun c hc => (nomatch hc)⟩) r hr
  have few := rowsW_few l ds [([], [])] 0 (fun x hx => by simp at hx; subst hx; simp) r hr
  exact ⟨h, ⟨fun c hc => ⟨(h.cut c hc).1, (h.cut c hc).2.1, hdw _ (h.cut c hc).2.2⟩, ascP_of h.lt, h.dirs, ascP_of h.parts, fun p hp => hdw p (h.sub p hp), h.apart, by omega⟩⟩
end PB

set_option Elab.async false
set_option linter.all false
set_option maxRecDepth 100000
set_option maxHeartbeats 1000000
namespace PB
open PySem PySem.Spec PyProof.Rows L2 DD
/-- for x in a list that stands as it is, whatever else is changed -/
theorem okS_ref {m : MM D} {t : Tg} {b : MS} {e : Sl} {S : So} {P : Fl → Sl → So → Prop} (h : okM m e S fun d S1 => ∃ n xs, d = .ref n ∧ S1[n]? = some (.lst xs) ∧ ∃ I : Nat → Sl → So → Prop, I 0 e S1 ∧ (∀ i e2 T, I i e2 T → T[n]? = some (.lst xs)) ∧
    (∀ i e2 T x, xs[i]? = some x → I i e2 T → ∃ e3, t x T e2 = some e3 ∧ okS b e3 T (turnP (I (i + 1)) P)) ∧ ∀ e2 T, I xs.length e2 T → P .nx e2 T) : okS (forS (mSeq m) t b) e S P := by
  refine okS_for ?_
  unfold mSeq
  rw [okM_bind]
  refine h.imp fun d S1 q => ?_
  obtain ⟨n, xs, rfl, hS, I, h0, hk, hs, he⟩ := q
  refine ⟨itLst n xs.length, S1, by unfold seqI; dsimp only; rw [hS], fun i e2 T => i ≤ xs.length ∧ I i e2 T, ⟨Nat.zero_le _, h0⟩, ?_⟩
  rintro i e2 T ⟨hi, hI⟩
  have hT := hk i e2 T hI
  have get : (itLst n xs.length).get i T = some xs[i]? := by unfold itLst; dsimp only; rw [hT]
  by_cases hlt : i < xs.length
  · obtain ⟨e3, g1, g2⟩ := hs i e2 T xs[i] (List.getElem?_eq_getElem hlt) hI
    refine .inr ⟨hlt, xs[i], e3, by rw [get, List.getElem?_eq_getElem hlt], g1, g2.imp fun f e4 U q => ?_⟩
    cases f with
    | nx => exact ⟨hlt, q⟩
    | ct => exact ⟨hlt, q⟩
    | _ => exact q
  · have ei : i = xs.length := by omega
    subst ei
    exact .inl ⟨by rw [get, List.getElem?_eq_none (Nat.le_refl _)], he _ _ hI⟩
/-! ### the law's own rows: lists in lists -/
/-- y is the list [cuts, parts] of two lists, none of them at f -/
def Ent (f : Nat) (T : So) (y : D) (r : Rw) : Prop := ∃ e c p, y = .ref e ∧ e ≠ f ∧ c ≠ f ∧ p ≠ f ∧ T[e]? = some (.lst [.ref c, .ref p]) ∧ T[c]? = some (.lst (r.1.map cutD)) ∧ T[p]? = some (.lst (r.2.map .str))
theorem Ent.kx {f : Nat} {T U : So} {y : D} {r : Rw} (h : Ent f T y r) (k : Kx f T U) : Ent f U y r := by
  obtain ⟨e, c, p, h1, h2, h3, h4, h5, h6, h7⟩ := h
  exact ⟨e, c, p, h1, h2, h3, h4, k.get _ _ h2 h5, k.get _ _ h3 h6, k.get _ _ h4 h7⟩
/-- a row of such lists -/
def Ents (f : Nat) (T : So) (ys : List D) (rs : List Rw) : Prop := ys.length = rs.length ∧ ∀ (i : Nat) (y : D) (r : Rw), ys[i]? = some y → rs[i]? = some r → Ent f T y r
theorem Ents.kx {f : Nat} {T U : So} {ys : List D} {rs : List Rw} (h : Ents f T ys rs) (k : Kx f T U) : Ents f U ys rs := ⟨h.1, fun i y r a b => (h.2 i y r a b).kx k⟩
theorem Ents.snoc {f : Nat} {T : So} {ys : List D} {rs : List Rw} {y : D} {r : Rw} (h : Ents f T ys rs) (h2 : Ent f T y r) : Ents f T (ys ++ [y]) (rs ++ [r]) := by
  refine ⟨by simp [h.1], fun i y' r' a b => ?_⟩
  by_cases hi : i < ys.length
  · rw [List.getElem?_append_left hi] at a
    rw [List.getElem?_append_left (by rw [← h.1]; exact hi)] at b
    exact h.2 i y' r' a b
  · rw [List.getElem?_append_right (by omega)] at a
    rw [List.getElem?_append_right (by rw [← h.1]; omega)] at b
    rw [← h.1] at b
    have : i - ys.length = 0 := by
      have := (List.getElem?_eq_some_iff.mp a).1
      simp at this
      omega
    rw [this] at a b
    simp at a b
    subst a b
    exact h2
theorem Ents.other {f g : Nat} {T : So} {ys : List D} {rs : List Rw} (h : Ents f T ys rs) (hg : T.length ≤ g) : Ents g T ys rs := ⟨h.1, fun i y r a b => by
  obtain ⟨e, c, p, h1, h2, h3, h4, h5, h6, h7⟩ := h.2 i y r a b
  have l1 := (List.getElem?_eq_some_iff.mp h5).1
  have l2 := (List.getElem?_eq_some_iff.mp h6).1
  have l3 := (List.getElem?_eq_some_iff.mp h7).1
  exact ⟨e, c, p, h1, by omega, by omega, by omega, h5, h6, h7⟩⟩
/-- the same rows, the cuts not yet in order -/
def stepU (d : Str) (l : List (Str × Nat)) (r : Rw) : List Rw := [(r.1, r.2), (r.1, r.2 ++ [d])] ++ (freeN r.1 l).flatMap fun s => (["blocks", "turns"] : List Str).map fun k => (r.1 ++ [(s, k, d)], r.2)
/-- f holds the rows so far; one more is appended -/
theorem kx_append {f : Nat} {S T : So} {ys : List D} {y : D} (k : Kx f S T) : Kx f S (T.set f (.lst (ys ++ [y]))) := ⟨by simp [k.len], fun i o hi q => by rw [List.getElem?_set_ne (Ne.symm hi)]; exact k.get i o hi q⟩
end PB

set_option Elab.async false
set_option linter.all false
set_option maxRecDepth 100000
set_option maxHeartbeats 4000000
namespace K26
open PySem PySem.Spec PyProof.Rows L2 DD
def xcs : List (Str × List Str) := [("InvalidGrid", ["directions"]), ("InvalidDealing", ["cuts", "parts"])]
def owns : List Str := ["Grid", "Dealing"]
def tB (x : String) : TyN := .inl x
def tO (x : Str) : TyN := .inr x
def base6 : List String := ["NoneType", "bool", "int", "str", "tuple", "list"]
def kits : List (TyN × TyN × Bool) := (base6.flatMap fun t => ["int", "bool", "str", "list", "tuple"].map fun c => (tB t, tB c, decide (t = c) || (decide (t = "bool") && decide (c = "int")))) ++ (base6.flatMap fun t => owns.map fun o => (tB t, tO o, false)) ++ (owns.flatMap fun o => owns.map fun p => (tO o, tO p, decide (o = p))) ++
  (xcs.flatMap fun a => xcs.map fun b => (tO a.1, tO b.1, decide (a.1 = b.1))) ++ xcs.flatMap fun a => [(tO a.1, tO ("DealError" : Str), true), (tO a.1, tB "ValueError", true)]
def top (i : Nat) : Stmt := PySem.Challenge.pw_dealtarrays_k26_all_dealings.main.body.getD i (.Pass ⟨0, 0, 0, 0⟩)
def frees : List Str := ["int", "isinstance", "bool", "tuple", "list", "str", "len", "all", "zip", "range", "set", "dict", "sorted", "abs", "min"]
def globs : List Str := ["Grid", "Dealing"]
abbrev Z (mg : Str → Option Value) : Prop := ∀ (i : Nat) (x : Str), frees[i]? = some x → mg x = none
abbrev Gs (mg : Str → Option Value) : Prop := ∀ (i : Nat) (x : Str), globs[i]? = some x → ∃ a, mg x = some (.ref a)
def intc : List (Str × Int) := [("LONGEST_WORD", 8), ("MOST_MACHINES", 8), ("MOST_ALONG", 4), ("MOST_DIRECTIONS", 3)]
def txtc : List (Str × Str) := [("TURNS", "turns"), ("BLOCKS", "blocks")]
abbrev Gt (mg : Str → Option Value) : Prop := ∀ (i : Nat) (x : Str) (v : Str), txtc[i]? = some (x, v) → ∃ t, mg x = some (.str v t)
abbrev Gi (mg : Str → Option Value) : Prop := ∀ (i : Nat) (x : Str) (v : Int), intc[i]? = some (x, v) → ∃ t, mg x = some (.int v t)
def ask : Ask := ⟨xcs, kits, "DealError" :: "Grid" :: "Dealing" :: "InvalidGrid" :: "InvalidDealing" :: "is_integer" :: "is_integer_within" :: "is_row" :: "is_word" :: "are_ascending" :: "is_row_of_words" :: "are_sizes" :: "product_of" :: "combined" :: "as_tuples" :: "_is_sized_word" :: "places" :: "fits" :: "dealings" :: "_with_direction" :: "_are_cuts" :: "_is_cut" :: "_meet" :: "_law_draw" :: "_law_state" :: "_law_same" :: "_law_word" :: "_law_words" :: "_law_grid" :: "_law_sides" :: "_law_due" :: "_law_shown" :: "law" :: [], frees⟩
def askc : AskC := ⟨ask, [("Grid", ["directions", "_places", "many"]), ("Dealing", ["cuts", "parts"])], [.cls "Grid", .mkr "Grid", .cls "Dealing", .mkr "Dealing"] ++ (intc.map (fun p => .int p.1 p.2) ++ txtc.map (fun p => .str p.1 p.2)), [], (["Dealing"] : List Str).flatMap (fun c => (base6.map fun t => (tB t, (c : Str))) ++ owns.map fun o => (tO o, (c : Str))), ["Dealing"]⟩
def tb : Tab := askc.tab
section
variable {P : Program} {w : World} {K : PySem.W.Frag} {mg : Str → Option Value} {base : Heap}
abbrev m_is_integer : MS := PB.m_is_integer tb
abbrev phi_is_integer : FnD := PB.phi_is_integer tb
abbrev s_is_integer : Stmt := top 3
theorem sc_is_integer : FnScope ["value"] ["value"] (defScope s_is_integer) := ⟨rfl, rfl, rfl, by decide +kernel, rfl, by decide +kernel, by decide +kernel⟩
theorem d_is_integer (hF : Facts (GK K mg) tb) (hN : Named (GK K mg) tb) (hC : Catch (GK K mg) (catL askc.exms)) (hNF : ∀ x, NotF (GK K mg) x (nfL askc.nfs x)) (z : Z mg) (gl : Gs mg) (gi : Gi mg) (gt : Gt mg) {fd : FuncData} (FD : FunD K "is_integer" "is_integer" (defArgs s_is_integer) (defBody s_is_integer) (defScope s_is_integer) [] [] (He.ga K "is_integer") fd) (hm : mg "is_integer" = some (.ref (He.ga K "is_integer"))) : FnN P w K mg base (0 + 1) "is_integer" ["value"] phi_is_integer := by
  have hN0 : (["value"] : List Str).Nodup := by decide +kernel
  refine fnn (st := s_is_integer) (N := ["value"]) (m := m_is_integer) (k := 0) FD sc_is_integer hm (fun _ _ _ _ _ _ us hl => match us, hl with | [_], _ => rfl) fun cdv A outer s H E hr hG0 => ?_
  have hu : (A.deeper (envOfC "is_integer" (defScope s_is_integer) s.heap.objs.size (He.ga K "is_integer") cdv)).units + 66 < cLine := by have := hr.un; omega
  have hG : (A.deeper (envOfC "is_integer" (defScope s_is_integer) s.heap.objs.size (He.ga K "is_integer") cdv)).guards = some [] := hG0
  exact (sm_one (sm_ret (em_and (em_callB (call_isiB rfl) (f_isiB hF hN) (z 1 _ rfl) (am_cons (em_var 0) (am_cons (em_ty (z 0 _ rfl)) am_nil))) (em_one (em_not (em_callB (call_isiB rfl) (f_isiB hF hN) (z 1 _ rfl) (am_cons (em_var 0) (am_cons (em_ty (z 2 _ rfl)) am_nil))))))))
abbrev m_is_integer_within : MS := PB.m_is_integer_within tb
abbrev phi_is_integer_within : FnD := PB.phi_is_integer_within tb
abbrev s_is_integer_within : Stmt := top 4
theorem sc_is_integer_within : FnScope ["value", "low", "high"] ["value", "low", "high"] (defScope s_is_integer_within) := ⟨rfl, rfl, rfl, by decide +kernel, rfl, by decide +kernel, by decide +kernel⟩
theorem d_is_integer_within (hF : Facts (GK K mg) tb) (hN : Named (GK K mg) tb) (hC : Catch (GK K mg) (catL askc.exms)) (hNF : ∀ x, NotF (GK K mg) x (nfL askc.nfs x)) (z : Z mg) (gl : Gs mg) (gi : Gi mg) (gt : Gt mg) (h_is_integer : FnN P w K mg base 1 "is_integer" ["value"] phi_is_integer) {fd : FuncData} (FD : FunD K "is_integer_within" "is_integer_within" (defArgs s_is_integer_within) (defBody s_is_integer_within) (defScope s_is_integer_within) [] [] (He.ga K "is_integer_within") fd) (hm : mg "is_integer_within" = some (.ref (He.ga K "is_integer_within"))) : FnN P w K mg base (1 + 1) "is_integer_within" ["value", "low", "high"] phi_is_integer_within := by
  have hN0 : (["value", "low", "high"] : List Str).Nodup := by decide +kernel
  refine fnn (st := s_is_integer_within) (N := ["value", "low", "high"]) (m := m_is_integer_within) (k := 1) FD sc_is_integer_within hm (fun _ _ _ _ _ _ us hl => match us, hl with | [_, _, _], _ => rfl) fun cdv A outer s H E hr hG0 => ?_
  have hu : (A.deeper (envOfC "is_integer_within" (defScope s_is_integer_within) s.heap.objs.size (He.ga K "is_integer_within") cdv)).units + 66 < cLine := by have := hr.un; omega
  have hG : (A.deeper (envOfC "is_integer_within" (defScope s_is_integer_within) s.heap.objs.size (He.ga K "is_integer_within") cdv)).guards = some [] := hG0
  exact (sm_one (sm_ret (em_and (em_callN h_is_integer (hr.mono (by decide)) hG (takes_of rfl rfl rfl rfl) (am_cons (em_var 0) am_nil)) (em_one (em_chain op_leM f_ord op_leM f_ord (em_var 1) (em_var 0) (em_var 2))))))
abbrev m_is_row : MS := PB.m_is_row tb
abbrev phi_is_row : FnD := PB.phi_is_row tb
abbrev s_is_row : Stmt := top 5
theorem sc_is_row : FnScope ["value"] ["value"] (defScope s_is_row) := ⟨rfl, rfl, rfl, by decide +kernel, rfl, by decide +kernel, by decide +kernel⟩
theorem d_is_row (hF : Facts (GK K mg) tb) (hN : Named (GK K mg) tb) (hC : Catch (GK K mg) (catL askc.exms)) (hNF : ∀ x, NotF (GK K mg) x (nfL askc.nfs x)) (z : Z mg) (gl : Gs mg) (gi : Gi mg) (gt : Gt mg) {fd : FuncData} (FD : FunD K "is_row" "is_row" (defArgs s_is_row) (defBody s_is_row) (defScope s_is_row) [] [] (He.ga K "is_row") fd) (hm : mg "is_row" = some (.ref (He.ga K "is_row"))) : FnN P w K mg base (0 + 1) "is_row" ["value"] phi_is_row := by
  have hN0 : (["value"] : List Str).Nodup := by decide +kernel
  refine fnn (st := s_is_row) (N := ["value"]) (m := m_is_row) (k := 0) FD sc_is_row hm (fun _ _ _ _ _ _ us hl => match us, hl with | [_], _ => rfl) fun cdv A outer s H E hr hG0 => ?_
  have hu : (A.deeper (envOfC "is_row" (defScope s_is_row) s.heap.objs.size (He.ga K "is_row") cdv)).units + 66 < cLine := by have := hr.un; omega
  have hG : (A.deeper (envOfC "is_row" (defScope s_is_row) s.heap.objs.size (He.ga K "is_row") cdv)).guards = some [] := hG0
  exact (sm_one (sm_ret (em_callB (call_isiB rfl) (f_isiB hF hN) (z 1 _ rfl) (am_cons (em_var 0) (am_cons (em_tup (am_cons (em_ty (z 4 _ rfl)) (am_cons (em_ty (z 3 _ rfl)) am_nil))) am_nil)))))
abbrev m_is_word : MS := PB.m_is_word tb
abbrev phi_is_word : FnD := PB.phi_is_word tb
abbrev s_is_word : Stmt := top 6
theorem sc_is_word : FnScope ["value", "sign"] ["value"] (defScope s_is_word) := ⟨rfl, rfl, rfl, by decide +kernel, rfl, by decide +kernel, by decide +kernel⟩
theorem d_is_word (hF : Facts (GK K mg) tb) (hN : Named (GK K mg) tb) (hC : Catch (GK K mg) (catL askc.exms)) (hNF : ∀ x, NotF (GK K mg) x (nfL askc.nfs x)) (z : Z mg) (gl : Gs mg) (gi : Gi mg) (gt : Gt mg) {fd : FuncData} (FD : FunD K "is_word" "is_word" (defArgs s_is_word) (defBody s_is_word) (defScope s_is_word) [] [] (He.ga K "is_word") fd) (hm : mg "is_word" = some (.ref (He.ga K "is_word"))) : FnN P w K mg base (0 + 1) "is_word" ["value"] phi_is_word := by
  have hN0 : (["value", "sign"] : List Str).Nodup := by decide +kernel
  refine fnn (st := s_is_word) (N := ["value", "sign"]) (m := m_is_word) (k := 0) FD sc_is_word hm (fun _ _ _ _ _ _ us hl => match us, hl with | [_], _ => rfl) fun cdv A outer s H E hr hG0 => ?_
  have hu : (A.deeper (envOfC "is_word" (defScope s_is_word) s.heap.objs.size (He.ga K "is_word") cdv)).units + 66 < cLine := by have := hr.un; omega
  have hG : (A.deeper (envOfC "is_word" (defScope s_is_word) s.heap.objs.size (He.ga K "is_word") cdv)).guards = some [] := hG0
  exact (sm_cons (sm_if (L2.PW.pt (wm_or (tm_not (tm_val (em_callB (call_isiB rfl) (f_isiB hF hN) (z 1 _ rfl) (am_cons (em_var 0) (am_cons (em_ty (z 5 _ rfl)) am_nil))))) (wm_or1 (tm_not (tm_chain op_leM f_ord op_leM f_ord em_int (em_callB (call_lenM rfl) f_len (z 6 _ rfl) (am_cons (em_var 0) am_nil)) (em_gintE (gi 0 _ _ rfl))))))) (sm_one (sm_ret em_bl)) sm_nil) (sm_cons (sm_if (tm_not (tm_chain op_leM f_ord op_leM f_ord em_str (em_ix (em_var 0) em_int) em_str)) (sm_one (sm_ret em_bl)) sm_nil) (sm_one (sm_ret (em_callB (call_allM rfl rfl) f_allB (z 7 _ rfl) (am_cons (em_lc [("sign", 1)] rfl hN0 (im_seq (em_var 0)) (blkOk_by rfl) (fun _ _ _ _ _ => (gc_name 1 hN0)) (fun _ _ _ _ _ => sm_yes) (fun _ _ _ _ _ => (em_or (em_chain op_leM f_ord op_leM f_ord em_str (em_var 1) em_str) (em_one (em_chain op_leM f_ord op_leM f_ord em_str (em_var 1) em_str))))) am_nil))))))
abbrev m_are_ascending : MS := PB.m_are_ascending tb
abbrev phi_are_ascending : FnD := PB.phi_are_ascending tb
abbrev s_are_ascending : Stmt := top 7
theorem sc_are_ascending : FnScope ["words", "low", "high"] ["words"] (defScope s_are_ascending) := ⟨rfl, rfl, rfl, by decide +kernel, rfl, by decide +kernel, by decide +kernel⟩
theorem d_are_ascending (hF : Facts (GK K mg) tb) (hN : Named (GK K mg) tb) (hC : Catch (GK K mg) (catL askc.exms)) (hNF : ∀ x, NotF (GK K mg) x (nfL askc.nfs x)) (z : Z mg) (gl : Gs mg) (gi : Gi mg) (gt : Gt mg) {fd : FuncData} (FD : FunD K "are_ascending" "are_ascending" (defArgs s_are_ascending) (defBody s_are_ascending) (defScope s_are_ascending) [] [] (He.ga K "are_ascending") fd) (hm : mg "are_ascending" = some (.ref (He.ga K "are_ascending"))) : FnN P w K mg base (0 + 1) "are_ascending" ["words"] phi_are_ascending := by
  have hN0 : (["words", "low", "high"] : List Str).Nodup := by decide +kernel
  refine fnn (st := s_are_ascending) (N := ["words", "low", "high"]) (m := m_are_ascending) (k := 0) FD sc_are_ascending hm (fun _ _ _ _ _ _ us hl => match us, hl with | [_], _ => rfl) fun cdv A outer s H E hr hG0 => ?_
  have hu : (A.deeper (envOfC "are_ascending" (defScope s_are_ascending) s.heap.objs.size (He.ga K "are_ascending") cdv)).units + 66 < cLine := by have := hr.un; omega
  have hG : (A.deeper (envOfC "are_ascending" (defScope s_are_ascending) s.heap.objs.size (He.ga K "are_ascending") cdv)).guards = some [] := hG0
  exact (sm_one (sm_ret (em_callB (call_allM rfl rfl) f_allB (z 7 _ rfl) (am_cons (em_lc [("low", 1), ("high", 2)] rfl hN0 (im_zip (z 8 _ rfl) (am_cons (em_var 0) (am_cons (em_slice (em_var 0) (om_some em_int) om_none) am_nil))) (blkOk_by rfl) (fun _ _ _ _ _ => (gc_tup rfl (gcs_cons (gc_name 1 hN0) (gcs_cons (gc_name 2 hN0) gcs_nil)))) (fun _ _ _ _ _ => sm_yes) (fun _ _ _ _ _ => (em_cmp op_ltM f_ord (em_var 1) (em_var 2) rfl))) am_nil))))
abbrev m_is_row_of_words : MS := PB.m_is_row_of_words tb
abbrev phi_is_row_of_words : FnD := PB.phi_is_row_of_words tb
abbrev s_is_row_of_words : Stmt := top 8
theorem sc_is_row_of_words : FnScope ["value", "word"] ["value"] (defScope s_is_row_of_words) := ⟨rfl, rfl, rfl, by decide +kernel, rfl, by decide +kernel, by decide +kernel⟩
theorem d_is_row_of_words (hF : Facts (GK K mg) tb) (hN : Named (GK K mg) tb) (hC : Catch (GK K mg) (catL askc.exms)) (hNF : ∀ x, NotF (GK K mg) x (nfL askc.nfs x)) (z : Z mg) (gl : Gs mg) (gi : Gi mg) (gt : Gt mg) (h_is_row : FnN P w K mg base 1 "is_row" ["value"] phi_is_row) (h_is_word : FnN P w K mg base 1 "is_word" ["value"] phi_is_word) (h_are_ascending : FnN P w K mg base 1 "are_ascending" ["words"] phi_are_ascending) {fd : FuncData} (FD : FunD K "is_row_of_words" "is_row_of_words" (defArgs s_is_row_of_words) (defBody s_is_row_of_words) (defScope s_is_row_of_words) [] [] (He.ga K "is_row_of_words") fd) (hm : mg "is_row_of_words" = some (.ref (He.ga K "is_row_of_words"))) : FnN P w K mg base (1 + 1) "is_row_of_words" ["value"] phi_is_row_of_words := by
  have hN0 : (["value", "word"] : List Str).Nodup := by decide +kernel
  refine fnn (st := s_is_row_of_words) (N := ["value", "word"]) (m := m_is_row_of_words) (k := 1) FD sc_is_row_of_words hm (fun _ _ _ _ _ _ us hl => match us, hl with | [_], _ => rfl) fun cdv A outer s H E hr hG0 => ?_
  have hu : (A.deeper (envOfC "is_row_of_words" (defScope s_is_row_of_words) s.heap.objs.size (He.ga K "is_row_of_words") cdv)).units + 66 < cLine := by have := hr.un; omega
  have hG : (A.deeper (envOfC "is_row_of_words" (defScope s_is_row_of_words) s.heap.objs.size (He.ga K "is_row_of_words") cdv)).guards = some [] := hG0
  exact (sm_one (sm_ret (em_and (em_callN h_is_row (hr.mono (by decide)) hG (takes_of rfl rfl rfl rfl) (am_cons (em_var 0) am_nil)) (em_and (em_callB (call_allM rfl rfl) f_allB (z 7 _ rfl) (am_cons (em_lc [("word", 1)] rfl hN0 (im_seq (em_var 0)) (blkOk_by rfl) (fun _ _ _ _ _ => (gc_name 1 hN0)) (fun _ _ _ _ _ => sm_yes) (fun _ _ _ _ _ => (em_callN h_is_word (hr.mono (by decide)) hG takes_none5 (am_cons (em_var 1) am_nil)))) am_nil)) (em_one (em_callN h_are_ascending (hr.mono (by decide)) hG (takes_of rfl rfl rfl rfl) (am_cons (em_var 0) am_nil)))))))
abbrev m_is_sized_word : MS := PB.m_is_sized_word tb
abbrev phi_is_sized_word : FnD := PB.phi_is_sized_word tb
abbrev s_is_sized_word : Stmt := top 13
theorem sc_is_sized_word : FnScope ["value", "largest"] ["value", "largest"] (defScope s_is_sized_word) := ⟨rfl, rfl, rfl, by decide +kernel, rfl, by decide +kernel, by decide +kernel⟩
theorem d_is_sized_word (hF : Facts (GK K mg) tb) (hN : Named (GK K mg) tb) (hC : Catch (GK K mg) (catL askc.exms)) (hNF : ∀ x, NotF (GK K mg) x (nfL askc.nfs x)) (z : Z mg) (gl : Gs mg) (gi : Gi mg) (gt : Gt mg) (h_is_row : FnN P w K mg base 1 "is_row" ["value"] phi_is_row) (h_is_word : FnN P w K mg base 1 "is_word" ["value"] phi_is_word) (h_is_integer_within : FnN P w K mg base 2 "is_integer_within" ["value", "low", "high"] phi_is_integer_within) {fd : FuncData} (FD : FunD K "_is_sized_word" "_is_sized_word" (defArgs s_is_sized_word) (defBody s_is_sized_word) (defScope s_is_sized_word) [] [] (He.ga K "_is_sized_word") fd) (hm : mg "_is_sized_word" = some (.ref (He.ga K "_is_sized_word"))) : FnN P w K mg base (2 + 1) "_is_sized_word" ["value", "largest"] phi_is_sized_word := by
  have hN0 : (["value", "largest"] : List Str).Nodup := by decide +kernel
  refine fnn (st := s_is_sized_word) (N := ["value", "largest"]) (m := m_is_sized_word) (k := 2) FD sc_is_sized_word hm (fun _ _ _ _ _ _ us hl => match us, hl with | [_, _], _ => rfl) fun cdv A outer s H E hr hG0 => ?_
  have hu : (A.deeper (envOfC "_is_sized_word" (defScope s_is_sized_word) s.heap.objs.size (He.ga K "_is_sized_word") cdv)).units + 66 < cLine := by have := hr.un; omega
  have hG : (A.deeper (envOfC "_is_sized_word" (defScope s_is_sized_word) s.heap.objs.size (He.ga K "_is_sized_word") cdv)).guards = some [] := hG0
  exact (sm_cons (sm_if (L2.PW.pt (wm_or (tm_not (tm_val (em_callN h_is_row (hr.mono (by decide)) hG (takes_of rfl rfl rfl rfl) (am_cons (em_var 0) am_nil)))) (wm_or1 (tm_cmp (op_neN rfl hu) f_ne (em_callB (call_lenM rfl) f_len (z 6 _ rfl) (am_cons (em_var 0) am_nil)) em_int rfl)))) (sm_one (sm_ret em_bl)) sm_nil) (sm_one (sm_ret (em_and (em_callN h_is_word (hr.mono (by decide)) hG (takes_of rfl rfl rfl rfl) (am_cons (em_ix (em_var 0) em_int) am_nil)) (em_one (em_callN h_is_integer_within (hr.mono (by decide)) hG (takes_of rfl rfl rfl rfl) (am_cons (em_ix (em_var 0) em_int) (am_cons em_int (am_cons (em_var 1) am_nil)))))))))
abbrev b_product_of_1 : MS := PB.b_product_of_1 tb
abbrev m_product_of : MS := PB.m_product_of tb
abbrev phi_product_of : FnD := PB.phi_product_of tb
abbrev s_product_of : Stmt := top 10
theorem sc_product_of : FnScope ["numbers", "found", "number"] ["numbers"] (defScope s_product_of) := ⟨rfl, rfl, rfl, by decide +kernel, rfl, by decide +kernel, by decide +kernel⟩
theorem d_product_of (hF : Facts (GK K mg) tb) (hN : Named (GK K mg) tb) (hC : Catch (GK K mg) (catL askc.exms)) (hNF : ∀ x, NotF (GK K mg) x (nfL askc.nfs x)) (z : Z mg) (gl : Gs mg) (gi : Gi mg) (gt : Gt mg) {fd : FuncData} (FD : FunD K "product_of" "product_of" (defArgs s_product_of) (defBody s_product_of) (defScope s_product_of) [] [] (He.ga K "product_of") fd) (hm : mg "product_of" = some (.ref (He.ga K "product_of"))) : FnN P w K mg base (0 + 1) "product_of" ["numbers"] phi_product_of := by
  have hN0 : (["numbers", "found", "number"] : List Str).Nodup := by decide +kernel
  refine fnn (st := s_product_of) (N := ["numbers", "found", "number"]) (m := m_product_of) (k := 0) FD sc_product_of hm (fun _ _ _ _ _ _ us hl => match us, hl with | [_], _ => rfl) fun cdv A outer s H E hr hG0 => ?_
  have hu : (A.deeper (envOfC "product_of" (defScope s_product_of) s.heap.objs.size (He.ga K "product_of") cdv)).units + 66 < cLine := by have := hr.un; omega
  have hG : (A.deeper (envOfC "product_of" (defScope s_product_of) s.heap.objs.size (He.ga K "product_of") cdv)).guards = some [] := hG0
  exact (sm_cons (sm_set 1 hN0 em_int) (sm_cons (sm_for PassesOwn.leaving rfl (im_seq (em_var 0)) (gm_name 2 hN0) (sm_one (sm_set 1 hN0 (em_mul (em_var 1) (em_var 2))))) (sm_one (sm_ret (em_var 1)))))
abbrev m_are_sizes : MS := PB.m_are_sizes tb
abbrev phi_are_sizes : FnD := PB.phi_are_sizes tb
abbrev s_are_sizes : Stmt := top 9
theorem sc_are_sizes : FnScope ["value", "most", "largest", "many", "pair"] ["value", "most", "largest", "many"] (defScope s_are_sizes) := ⟨rfl, rfl, rfl, by decide +kernel, rfl, by decide +kernel, by decide +kernel⟩
theorem d_are_sizes (hF : Facts (GK K mg) tb) (hN : Named (GK K mg) tb) (hC : Catch (GK K mg) (catL askc.exms)) (hNF : ∀ x, NotF (GK K mg) x (nfL askc.nfs x)) (z : Z mg) (gl : Gs mg) (gi : Gi mg) (gt : Gt mg) (h_is_row : FnN P w K mg base 1 "is_row" ["value"] phi_is_row) (h_is_sized_word : FnN P w K mg base 3 "_is_sized_word" ["value", "largest"] phi_is_sized_word) (h_are_ascending : FnN P w K mg base 1 "are_ascending" ["words"] phi_are_ascending) (h_product_of : FnN P w K mg base 1 "product_of" ["numbers"] phi_product_of) {fd : FuncData} (FD : FunD K "are_sizes" "are_sizes" (defArgs s_are_sizes) (defBody s_are_sizes) (defScope s_are_sizes) [] [] (He.ga K "are_sizes") fd) (hm : mg "are_sizes" = some (.ref (He.ga K "are_sizes"))) : FnN P w K mg base (3 + 1) "are_sizes" ["value", "most", "largest", "many"] phi_are_sizes := by
  have hN0 : (["value", "most", "largest", "many", "pair"] : List Str).Nodup := by decide +kernel
  refine fnn (st := s_are_sizes) (N := ["value", "most", "largest", "many", "pair"]) (m := m_are_sizes) (k := 3) FD sc_are_sizes hm (fun _ _ _ _ _ _ us hl => match us, hl with | [_, _, _, _], _ => rfl) fun cdv A outer s H E hr hG0 => ?_
  have hu : (A.deeper (envOfC "are_sizes" (defScope s_are_sizes) s.heap.objs.size (He.ga K "are_sizes") cdv)).units + 66 < cLine := by have := hr.un; omega
  have hG : (A.deeper (envOfC "are_sizes" (defScope s_are_sizes) s.heap.objs.size (He.ga K "are_sizes") cdv)).guards = some [] := hG0
  exact (sm_cons (sm_if (L2.PW.pt (wm_or (tm_not (tm_val (em_callN h_is_row (hr.mono (by decide)) hG (takes_of rfl rfl rfl rfl) (am_cons (em_var 0) am_nil)))) (wm_or1 (tm_cmp op_gtM f_ord (em_callB (call_lenM rfl) f_len (z 6 _ rfl) (am_cons (em_var 0) am_nil)) (em_var 1) rfl)))) (sm_one (sm_ret em_bl)) sm_nil) (sm_cons (sm_if (tm_not (tm_val (em_callB (call_allM rfl rfl) f_allB (z 7 _ rfl) (am_cons (em_lc [("pair", 4)] rfl hN0 (im_seq (em_var 0)) (blkOk_by rfl) (fun _ _ _ _ _ => (gc_name 4 hN0)) (fun _ _ _ _ _ => sm_yes) (fun _ _ _ _ _ => (em_callN h_is_sized_word (hr.mono (by decide)) hG takes_none5 (am_cons (em_var 4) (am_cons (em_var 2) am_nil))))) am_nil)))) (sm_one (sm_ret em_bl)) sm_nil) (sm_one (sm_ret (em_and (em_callN h_are_ascending (hr.mono (by decide)) hG (takes_of rfl rfl rfl rfl) (am_cons (em_lc [("pair", 4)] rfl hN0 (im_seq (em_var 0)) (blkOk_by rfl) (fun _ _ _ _ _ => (gc_name 4 hN0)) (fun _ _ _ _ _ => sm_yes) (fun _ _ _ _ _ => (em_ix (em_var 4) em_int))) am_nil)) (em_one (em_cmp op_leM f_ord (em_callN h_product_of (hr.mono (by decide)) hG (takes_of rfl rfl rfl rfl) (am_cons (em_lc [("pair", 4)] rfl hN0 (im_seq (em_var 0)) (blkOk_by rfl) (fun _ _ _ _ _ => (gc_name 4 hN0)) (fun _ _ _ _ _ => sm_yes) (fun _ _ _ _ _ => (em_ix (em_var 4) em_int))) am_nil)) (em_var 3) rfl)))))))
abbrev b_combined_1 : MS := PB.b_combined_1 tb
abbrev m_combined : MS := PB.m_combined tb
abbrev phi_combined : FnD := PB.phi_combined tb
abbrev s_combined : Stmt := top 11
theorem sc_combined : FnScope ["rows", "found", "row", "members", "member"] ["rows"] (defScope s_combined) := ⟨rfl, rfl, rfl, by decide +kernel, rfl, by decide +kernel, by decide +kernel⟩
theorem d_combined (hF : Facts (GK K mg) tb) (hN : Named (GK K mg) tb) (hC : Catch (GK K mg) (catL askc.exms)) (hNF : ∀ x, NotF (GK K mg) x (nfL askc.nfs x)) (z : Z mg) (gl : Gs mg) (gi : Gi mg) (gt : Gt mg) {fd : FuncData} (FD : FunD K "combined" "combined" (defArgs s_combined) (defBody s_combined) (defScope s_combined) [] [] (He.ga K "combined") fd) (hm : mg "combined" = some (.ref (He.ga K "combined"))) : FnN P w K mg base (0 + 1) "combined" ["rows"] phi_combined := by
  have hN0 : (["rows", "found", "row", "members", "member"] : List Str).Nodup := by decide +kernel
  refine fnn (st := s_combined) (N := ["rows", "found", "row", "members", "member"]) (m := m_combined) (k := 0) FD sc_combined hm (fun _ _ _ _ _ _ us hl => match us, hl with | [_], _ => rfl) fun cdv A outer s H E hr hG0 => ?_
  have hu : (A.deeper (envOfC "combined" (defScope s_combined) s.heap.objs.size (He.ga K "combined") cdv)).units + 66 < cLine := by have := hr.un; omega
  have hG : (A.deeper (envOfC "combined" (defScope s_combined) s.heap.objs.size (He.ga K "combined") cdv)).guards = some [] := hG0
  exact (sm_cons (sm_set 1 hN0 (em_lst (am_cons (em_tup am_nil) am_nil))) (sm_cons (sm_for PassesOwn.leaving rfl (im_seq (em_var 0)) (gm_name 2 hN0) (sm_one (sm_setLc2 1 [("members", 3), ("member", 4)] [4] rfl hN0 rfl rfl rfl (im_seq (em_var 1)) (blkOk_by rfl) (fun _ _ _ _ _ => (gc_name 3 hN0)) (fun _ _ _ _ _ => (im_seq (em_var 2))) (fun _ _ _ _ _ => (gc_name 4 hN0)) (fun _ _ _ _ _ => (em_add (em_var 3) (em_tup (am_cons (em_var 4) am_nil))))))) (sm_one (sm_ret (em_var 1)))))
abbrev m_as_tuples : MS := PB.m_as_tuples tb
abbrev phi_as_tuples : FnD := PB.phi_as_tuples tb
abbrev s_as_tuples : Stmt := top 12
theorem sc_as_tuples : FnScope ["row", "part"] ["row"] (defScope s_as_tuples) := ⟨rfl, rfl, rfl, by decide +kernel, rfl, by decide +kernel, by decide +kernel⟩
theorem d_as_tuples (hF : Facts (GK K mg) tb) (hN : Named (GK K mg) tb) (hC : Catch (GK K mg) (catL askc.exms)) (hNF : ∀ x, NotF (GK K mg) x (nfL askc.nfs x)) (z : Z mg) (gl : Gs mg) (gi : Gi mg) (gt : Gt mg) (h_is_row : FnN P w K mg base 1 "is_row" ["value"] phi_is_row) {fd : FuncData} (FD : FunD K "as_tuples" "as_tuples" (defArgs s_as_tuples) (defBody s_as_tuples) (defScope s_as_tuples) [] [] (He.ga K "as_tuples") fd) (hm : mg "as_tuples" = some (.ref (He.ga K "as_tuples"))) : FnN P w K mg base (1 + 1) "as_tuples" ["row"] phi_as_tuples := by
  have hN0 : (["row", "part"] : List Str).Nodup := by decide +kernel
  refine fnn (st := s_as_tuples) (N := ["row", "part"]) (m := m_as_tuples) (k := 1) FD sc_as_tuples hm (fun _ _ _ _ _ _ us hl => match us, hl with | [_], _ => rfl) fun cdv A outer s H E hr hG0 => ?_
  have hu : (A.deeper (envOfC "as_tuples" (defScope s_as_tuples) s.heap.objs.size (He.ga K "as_tuples") cdv)).units + 66 < cLine := by have := hr.un; omega
  have hG : (A.deeper (envOfC "as_tuples" (defScope s_as_tuples) s.heap.objs.size (He.ga K "as_tuples") cdv)).guards = some [] := hG0
  exact (sm_one (sm_ret (em_callTy (call_tupleM rfl) f_tuple (z 3 _ rfl) (am_cons (em_lc [("part", 1)] rfl hN0 (im_seq (em_var 0)) (blkOk_by rfl) (fun _ _ _ _ _ => (gc_name 1 hN0)) (fun _ _ _ _ _ => sm_yes) (fun _ _ _ _ _ => (em_if (tm_val (em_callN h_is_row (hr.mono (by decide)) hG takes_none5 (am_cons (em_var 1) am_nil))) (em_callTy (call_tupleM rfl) f_tuple (z 3 _ rfl) (am_cons (em_var 1) am_nil)) (em_var 1)))) am_nil))))
abbrev m_places : MS := PB.m_places tb
abbrev phi_places : FnD := PB.phi_places tb
abbrev s_places : Stmt := top 19
theorem sc_places : FnScope ["sides", "_", "size"] ["sides"] (defScope s_places) := ⟨rfl, rfl, rfl, by decide +kernel, rfl, by decide +kernel, by decide +kernel⟩
theorem d_places (hF : Facts (GK K mg) tb) (hN : Named (GK K mg) tb) (hC : Catch (GK K mg) (catL askc.exms)) (hNF : ∀ x, NotF (GK K mg) x (nfL askc.nfs x)) (z : Z mg) (gl : Gs mg) (gi : Gi mg) (gt : Gt mg) (h_combined : FnN P w K mg base 1 "combined" ["rows"] phi_combined) {fd : FuncData} (FD : FunD K "places" "places" (defArgs s_places) (defBody s_places) (defScope s_places) [] [] (He.ga K "places") fd) (hm : mg "places" = some (.ref (He.ga K "places"))) : FnN P w K mg base (1 + 1) "places" ["sides"] phi_places := by
  have hN0 : (["sides", "_", "size"] : List Str).Nodup := by decide +kernel
  refine fnn (st := s_places) (N := ["sides", "_", "size"]) (m := m_places) (k := 1) FD sc_places hm (fun _ _ _ _ _ _ us hl => match us, hl with | [_], _ => rfl) fun cdv A outer s H E hr hG0 => ?_
  have hu : (A.deeper (envOfC "places" (defScope s_places) s.heap.objs.size (He.ga K "places") cdv)).units + 66 < cLine := by have := hr.un; omega
  have hG : (A.deeper (envOfC "places" (defScope s_places) s.heap.objs.size (He.ga K "places") cdv)).guards = some [] := hG0
  exact (sm_one (sm_ret (em_callTy (call_tupleM rfl) f_tuple (z 3 _ rfl) (am_cons (em_callN h_combined (hr.mono (by decide)) hG (takes_of rfl rfl rfl rfl) (am_cons (em_lc [("_", 1), ("size", 2)] rfl hN0 (im_seq (em_var 0)) (blkOk_by rfl) (fun _ _ _ _ _ => (gc_tup rfl (gcs_cons (gc_name 1 hN0) (gcs_cons (gc_name 2 hN0) gcs_nil)))) (fun _ _ _ _ _ => sm_yes) (fun _ _ _ _ _ => (em_tupRng rfl (z 3 _ rfl) (z 9 _ rfl) (em_var 2)))) am_nil)) am_nil))))
abbrev m_Grid_init : MS := PB.m_Grid_init tb
abbrev phi_Grid_init : FnD := PB.phi_Grid_init tb
abbrev s_Grid_init : Stmt := DD.inClass (top 26) 0
theorem sc_Grid_init : FnScope ["self", "directions"] ["self", "directions"] (defScope s_Grid_init) := ⟨rfl, rfl, rfl, by decide +kernel, rfl, by decide +kernel, by decide +kernel⟩
theorem d_Grid_init (hF : Facts (GK K mg) tb) (hN : Named (GK K mg) tb) (hC : Catch (GK K mg) (catL askc.exms)) (hNF : ∀ x, NotF (GK K mg) x (nfL askc.nfs x)) (z : Z mg) (gl : Gs mg) (gi : Gi mg) (gt : Gt mg) (h_are_sizes : FnN P w K mg base 4 "are_sizes" ["value", "most", "largest", "many"] phi_are_sizes) (x_InvalidGrid : XiN P w K mg base "InvalidGrid" ["directions"]) (h_as_tuples : FnN P w K mg base 2 "as_tuples" ["row"] phi_as_tuples) (h_places : FnN P w K mg base 2 "places" ["sides"] phi_places) {fd : FuncData} (FD : FunD K "__init__" "Grid.__init__" (defArgs s_Grid_init) (defBody s_Grid_init) (defScope s_Grid_init) [] [] (He.ma K (He.ga K "Grid") "__init__") fd) : FnG P w K mg base (4 + 1) (He.ma K (He.ga K "Grid") "__init__") fd ["self", "directions"] phi_Grid_init ∧ Binds K fd ["self", "directions"] [] := by
  have hN0 : (["self", "directions"] : List Str).Nodup := by decide +kernel
  refine fng_meth (c := "Grid") (st := s_Grid_init) (N := ["self", "directions"]) (b := m_Grid_init) (k := 4) FD sc_Grid_init (fun _ _ _ _ _ _ us hl => match us, hl with | [_, _], _ => rfl) fun cdv A outer s H E hr hG0 => ?_
  have hu : (A.deeper (envOfC "Grid.__init__" (defScope s_Grid_init) s.heap.objs.size (He.ma K (He.ga K "Grid") "__init__") cdv)).units + 66 < cLine := by have := hr.un; omega
  have hG : (A.deeper (envOfC "Grid.__init__" (defScope s_Grid_init) s.heap.objs.size (He.ma K (He.ga K "Grid") "__init__") cdv)).guards = some [] := hG0
  exact (sm_cons (sm_if (L2.PW.pt (wm_or (tm_not (tm_val (em_callN h_are_sizes (hr.mono (by decide)) hG (takes_of rfl rfl rfl rfl) (am_cons (em_var 1) (am_cons (em_gintE (gi 3 _ _ rfl)) (am_cons (em_gintE (gi 2 _ _ rfl)) (am_cons (em_gintE (gi 1 _ _ rfl)) am_nil))))))) (wm_or1 (tm_cmp (op_eqN rfl hu) f_eq (em_callB (call_lenM rfl) f_len (z 6 _ rfl) (am_cons (em_var 1) am_nil)) em_int rfl)))) (sm_one (sm_raise x_InvalidGrid (hr.mono (by decide)) (takes_of rfl rfl rfl rfl) rfl (am_cons (em_var 1) am_nil))) sm_nil) (sm_cons (sm_fld hF (em_callN h_as_tuples (hr.mono (by decide)) hG (takes_of rfl rfl rfl rfl) (am_cons (em_var 1) am_nil)) (em_var 0)) (sm_cons (sm_fld hF (em_callN h_places (hr.mono (by decide)) hG (takes_of rfl rfl rfl rfl) (am_cons (em_fld hF (em_var 0)) am_nil)) (em_var 0)) (sm_one (sm_fld hF (em_callB (call_lenM rfl) f_len (z 6 _ rfl) (am_cons (em_fld hF (em_var 0)) am_nil)) (em_var 0))))))
abbrev m_Grid_eq : MS := PB.m_Grid_eq tb
abbrev phi_Grid_eq : FnD := PB.phi_Grid_eq tb
abbrev s_Grid_eq : Stmt := DD.inClass (top 26) 3
theorem sc_Grid_eq : FnScope ["self", "other"] ["self", "other"] (defScope s_Grid_eq) := ⟨rfl, rfl, rfl, by decide +kernel, rfl, by decide +kernel, by decide +kernel⟩
theorem d_Grid_eq (hF : Facts (GK K mg) tb) (hN : Named (GK K mg) tb) (hC : Catch (GK K mg) (catL askc.exms)) (hNF : ∀ x, NotF (GK K mg) x (nfL askc.nfs x)) (z : Z mg) (gl : Gs mg) (gi : Gi mg) (gt : Gt mg) {fd : FuncData} (FD : FunD K "__eq__" "Grid.__eq__" (defArgs s_Grid_eq) (defBody s_Grid_eq) (defScope s_Grid_eq) [] [] (He.ma K (He.ga K "Grid") "__eq__") fd) : FnG P w K mg base (0 + 1) (He.ma K (He.ga K "Grid") "__eq__") fd ["self", "other"] phi_Grid_eq ∧ Binds K fd ["self", "other"] [] := by
  have hN0 : (["self", "other"] : List Str).Nodup := by decide +kernel
  refine fng_meth (c := "Grid") (st := s_Grid_eq) (N := ["self", "other"]) (b := m_Grid_eq) (k := 0) FD sc_Grid_eq (fun _ _ _ _ _ _ us hl => match us, hl with | [_, _], _ => rfl) fun cdv A outer s H E hr hG0 => ?_
  have hu : (A.deeper (envOfC "Grid.__eq__" (defScope s_Grid_eq) s.heap.objs.size (He.ma K (He.ga K "Grid") "__eq__") cdv)).units + 66 < cLine := by have := hr.un; omega
  have hG : (A.deeper (envOfC "Grid.__eq__" (defScope s_Grid_eq) s.heap.objs.size (He.ma K (He.ga K "Grid") "__eq__") cdv)).guards = some [] := hG0
  exact (sm_one (sm_ret (em_and (em_callB (call_isiB rfl) (f_isiB hF hN) (z 1 _ rfl) (am_cons (em_var 1) (am_cons (em_globE (gl 0 _ rfl)) am_nil))) (em_one (em_cmp (op_eqN rfl hu) f_eq (em_fld hF (em_var 0)) (em_fld hF (em_var 1)) rfl)))))
abbrev m_is_cut : MS := PB.m_is_cut tb
abbrev phi_is_cut : FnD := PB.phi_is_cut tb
abbrev s_is_cut : Stmt := top 32
theorem sc_is_cut : FnScope ["value"] ["value"] (defScope s_is_cut) := ⟨rfl, rfl, rfl, by decide +kernel, rfl, by decide +kernel, by decide +kernel⟩
theorem d_is_cut (hF : Facts (GK K mg) tb) (hN : Named (GK K mg) tb) (hC : Catch (GK K mg) (catL askc.exms)) (hNF : ∀ x, NotF (GK K mg) x (nfL askc.nfs x)) (z : Z mg) (gl : Gs mg) (gi : Gi mg) (gt : Gt mg) (h_is_row : FnN P w K mg base 1 "is_row" ["value"] phi_is_row) (h_is_word : FnN P w K mg base 1 "is_word" ["value"] phi_is_word) {fd : FuncData} (FD : FunD K "_is_cut" "_is_cut" (defArgs s_is_cut) (defBody s_is_cut) (defScope s_is_cut) [] [] (He.ga K "_is_cut") fd) (hm : mg "_is_cut" = some (.ref (He.ga K "_is_cut"))) : FnN P w K mg base (1 + 1) "_is_cut" ["value"] phi_is_cut := by
  have hN0 : (["value"] : List Str).Nodup := by decide +kernel
  refine fnn (st := s_is_cut) (N := ["value"]) (m := m_is_cut) (k := 1) FD sc_is_cut hm (fun _ _ _ _ _ _ us hl => match us, hl with | [_], _ => rfl) fun cdv A outer s H E hr hG0 => ?_
  have hu : (A.deeper (envOfC "_is_cut" (defScope s_is_cut) s.heap.objs.size (He.ga K "_is_cut") cdv)).units + 66 < cLine := by have := hr.un; omega
  have hG : (A.deeper (envOfC "_is_cut" (defScope s_is_cut) s.heap.objs.size (He.ga K "_is_cut") cdv)).guards = some [] := hG0
  exact (sm_cons (sm_if (L2.PW.pt (wm_or (tm_not (tm_val (em_callN h_is_row (hr.mono (by decide)) hG (takes_of rfl rfl rfl rfl) (am_cons (em_var 0) am_nil)))) (wm_or1 (tm_cmp (op_neN rfl hu) f_ne (em_callB (call_lenM rfl) f_len (z 6 _ rfl) (am_cons (em_var 0) am_nil)) em_int rfl)))) (sm_one (sm_ret em_bl)) sm_nil) (sm_one (sm_ret (em_and (em_callN h_is_word (hr.mono (by decide)) hG (takes_of rfl rfl rfl rfl) (am_cons (em_ix (em_var 0) em_int) am_nil)) (em_and (em_cmp (op_inF rfl) f_inF (em_ix (em_var 0) em_int) (em_tup (am_cons (em_gstrE (gt 1 _ _ rfl)) (am_cons (em_gstrE (gt 0 _ _ rfl)) am_nil))) rfl) (em_one (em_callN h_is_word (hr.mono (by decide)) hG (takes_of rfl rfl rfl rfl) (am_cons (em_ix (em_var 0) em_int) am_nil))))))))
abbrev m_are_cuts : MS := PB.m_are_cuts tb
abbrev phi_are_cuts : FnD := PB.phi_are_cuts tb
abbrev s_are_cuts : Stmt := top 31
theorem sc_are_cuts : FnScope ["value", "cut", "directions"] ["value"] (defScope s_are_cuts) := ⟨rfl, rfl, rfl, by decide +kernel, rfl, by decide +kernel, by decide +kernel⟩
theorem d_are_cuts (hF : Facts (GK K mg) tb) (hN : Named (GK K mg) tb) (hC : Catch (GK K mg) (catL askc.exms)) (hNF : ∀ x, NotF (GK K mg) x (nfL askc.nfs x)) (z : Z mg) (gl : Gs mg) (gi : Gi mg) (gt : Gt mg) (h_is_row : FnN P w K mg base 1 "is_row" ["value"] phi_is_row) (h_is_cut : FnN P w K mg base 2 "_is_cut" ["value"] phi_is_cut) (h_are_ascending : FnN P w K mg base 1 "are_ascending" ["words"] phi_are_ascending) {fd : FuncData} (FD : FunD K "_are_cuts" "_are_cuts" (defArgs s_are_cuts) (defBody s_are_cuts) (defScope s_are_cuts) [] [] (He.ga K "_are_cuts") fd) (hm : mg "_are_cuts" = some (.ref (He.ga K "_are_cuts"))) : FnN P w K mg base (2 + 1) "_are_cuts" ["value"] phi_are_cuts := by
  have hN0 : (["value", "cut", "directions"] : List Str).Nodup := by decide +kernel
  refine fnn (st := s_are_cuts) (N := ["value", "cut", "directions"]) (m := m_are_cuts) (k := 2) FD sc_are_cuts hm (fun _ _ _ _ _ _ us hl => match us, hl with | [_], _ => rfl) fun cdv A outer s H E hr hG0 => ?_
  have hu : (A.deeper (envOfC "_are_cuts" (defScope s_are_cuts) s.heap.objs.size (He.ga K "_are_cuts") cdv)).units + 66 < cLine := by have := hr.un; omega
  have hG : (A.deeper (envOfC "_are_cuts" (defScope s_are_cuts) s.heap.objs.size (He.ga K "_are_cuts") cdv)).guards = some [] := hG0
  exact (sm_cons (sm_if (L2.PW.pt (wm_or (tm_not (tm_val (em_callN h_is_row (hr.mono (by decide)) hG (takes_of rfl rfl rfl rfl) (am_cons (em_var 0) am_nil)))) (wm_or1 (tm_not (tm_val (em_callB (call_allM rfl rfl) f_allB (z 7 _ rfl) (am_cons (em_lc [("cut", 1)] rfl hN0 (im_seq (em_var 0)) (blkOk_by rfl) (fun _ _ _ _ _ => (gc_name 1 hN0)) (fun _ _ _ _ _ => sm_yes) (fun _ _ _ _ _ => (em_callN h_is_cut (hr.mono (by decide)) hG takes_none5 (am_cons (em_var 1) am_nil)))) am_nil))))))) (sm_one (sm_ret em_bl)) sm_nil) (sm_cons (sm_setLc 2 [("cut", 1)] rfl hN0 rfl rfl rfl (im_seq (em_var 0)) (blkOk_by rfl) (fun _ _ _ _ _ => (gc_name 1 hN0)) (fun _ _ _ _ _ => sm_yes) (fun _ _ _ _ _ => (em_ix (em_var 1) em_int))) (sm_one (sm_ret (em_and (em_callN h_are_ascending (hr.mono (by decide)) hG (takes_of rfl rfl rfl rfl) (am_cons (em_lc [("cut", 1)] rfl hN0 (im_seq (em_var 0)) (blkOk_by rfl) (fun _ _ _ _ _ => (gc_name 1 hN0)) (fun _ _ _ _ _ => sm_yes) (fun _ _ _ _ _ => (em_ix (em_var 1) em_int))) am_nil)) (em_one (em_cmp (op_eqN rfl hu) f_eq (em_lenSetS rfl (z 6 _ rfl) (z 10 _ rfl) (em_var 2)) (em_callB (call_lenM rfl) f_len (z 6 _ rfl) (am_cons (em_var 2) am_nil)) rfl)))))))
abbrev m_meet : MS := PB.m_meet tb
abbrev phi_meet : FnD := PB.phi_meet tb
abbrev s_meet : Stmt := top 33
theorem sc_meet : FnScope ["cuts", "parts", "cut"] ["cuts", "parts"] (defScope s_meet) := ⟨rfl, rfl, rfl, by decide +kernel, rfl, by decide +kernel, by decide +kernel⟩
theorem d_meet (hF : Facts (GK K mg) tb) (hN : Named (GK K mg) tb) (hC : Catch (GK K mg) (catL askc.exms)) (hNF : ∀ x, NotF (GK K mg) x (nfL askc.nfs x)) (z : Z mg) (gl : Gs mg) (gi : Gi mg) (gt : Gt mg) {fd : FuncData} (FD : FunD K "_meet" "_meet" (defArgs s_meet) (defBody s_meet) (defScope s_meet) [] [] (He.ga K "_meet") fd) (hm : mg "_meet" = some (.ref (He.ga K "_meet"))) : FnN P w K mg base (0 + 1) "_meet" ["cuts", "parts"] phi_meet := by
  have hN0 : (["cuts", "parts", "cut"] : List Str).Nodup := by decide +kernel
  refine fnn (st := s_meet) (N := ["cuts", "parts", "cut"]) (m := m_meet) (k := 0) FD sc_meet hm (fun _ _ _ _ _ _ us hl => match us, hl with | [_, _], _ => rfl) fun cdv A outer s H E hr hG0 => ?_
  have hu : (A.deeper (envOfC "_meet" (defScope s_meet) s.heap.objs.size (He.ga K "_meet") cdv)).units + 66 < cLine := by have := hr.un; omega
  have hG : (A.deeper (envOfC "_meet" (defScope s_meet) s.heap.objs.size (He.ga K "_meet") cdv)).guards = some [] := hG0
  exact (sm_one (sm_ret (em_not (em_callB (call_allM rfl rfl) f_allB (z 7 _ rfl) (am_cons (em_lc [("cut", 2)] rfl hN0 (im_seq (em_var 0)) (blkOk_by rfl) (fun _ _ _ _ _ => (gc_name 2 hN0)) (fun _ _ _ _ _ => sm_yes) (fun _ _ _ _ _ => (em_cmp (op_ninF rfl) f_inF (em_ix (em_var 2) em_int) (em_var 1) rfl))) am_nil)))))
abbrev m_Dealing_init : MS := PB.m_Dealing_init tb
abbrev phi_Dealing_init : FnD := PB.phi_Dealing_init tb
abbrev s_Dealing_init : Stmt := DD.inClass (top 27) 0
theorem sc_Dealing_init : FnScope ["self", "cuts", "parts"] ["self", "cuts", "parts"] (defScope s_Dealing_init) := ⟨rfl, rfl, rfl, by decide +kernel, rfl, by decide +kernel, by decide +kernel⟩
theorem d_Dealing_init (hF : Facts (GK K mg) tb) (hN : Named (GK K mg) tb) (hC : Catch (GK K mg) (catL askc.exms)) (hNF : ∀ x, NotF (GK K mg) x (nfL askc.nfs x)) (z : Z mg) (gl : Gs mg) (gi : Gi mg) (gt : Gt mg) (h_are_cuts : FnN P w K mg base 3 "_are_cuts" ["value"] phi_are_cuts) (h_is_row_of_words : FnN P w K mg base 2 "is_row_of_words" ["value"] phi_is_row_of_words) (h_meet : FnN P w K mg base 1 "_meet" ["cuts", "parts"] phi_meet) (x_InvalidDealing : XiN P w K mg base "InvalidDealing" ["cuts", "parts"]) (h_as_tuples : FnN P w K mg base 2 "as_tuples" ["row"] phi_as_tuples) {fd : FuncData} (FD : FunD K "__init__" "Dealing.__init__" (defArgs s_Dealing_init) (defBody s_Dealing_init) (defScope s_Dealing_init) [] [] (He.ma K (He.ga K "Dealing") "__init__") fd) : FnG P w K mg base (3 + 1) (He.ma K (He.ga K "Dealing") "__init__") fd ["self", "cuts", "parts"] phi_Dealing_init ∧ Binds K fd ["self", "cuts", "parts"] [] := by
  have hN0 : (["self", "cuts", "parts"] : List Str).Nodup := by decide +kernel
  refine fng_meth (c := "Dealing") (st := s_Dealing_init) (N := ["self", "cuts", "parts"]) (b := m_Dealing_init) (k := 3) FD sc_Dealing_init (fun _ _ _ _ _ _ us hl => match us, hl with | [_, _, _], _ => rfl) fun cdv A outer s H E hr hG0 => ?_
  have hu : (A.deeper (envOfC "Dealing.__init__" (defScope s_Dealing_init) s.heap.objs.size (He.ma K (He.ga K "Dealing") "__init__") cdv)).units + 66 < cLine := by have := hr.un; omega
  have hG : (A.deeper (envOfC "Dealing.__init__" (defScope s_Dealing_init) s.heap.objs.size (He.ma K (He.ga K "Dealing") "__init__") cdv)).guards = some [] := hG0
  exact (sm_cons (sm_if (L2.PW.pt (wm_or (tm_not (tm_val (em_callN h_are_cuts (hr.mono (by decide)) hG (takes_of rfl rfl rfl rfl) (am_cons (em_var 1) am_nil)))) (wm_or (tm_not (tm_val (em_callN h_is_row_of_words (hr.mono (by decide)) hG (takes_of rfl rfl rfl rfl) (am_cons (em_var 2) am_nil)))) (wm_or1 (tm_val (em_callN h_meet (hr.mono (by decide)) hG (takes_of rfl rfl rfl rfl) (am_cons (em_var 1) (am_cons (em_var 2) am_nil)))))))) (sm_one (sm_raise x_InvalidDealing (hr.mono (by decide)) (takes_of rfl rfl rfl rfl) rfl (am_cons (em_var 1) (am_cons (em_var 2) am_nil)))) sm_nil) (sm_cons (sm_fld hF (em_callN h_as_tuples (hr.mono (by decide)) hG (takes_of rfl rfl rfl rfl) (am_cons (em_var 1) am_nil)) (em_var 0)) (sm_one (sm_fld hF (em_callTy (call_tupleM rfl) f_tuple (z 3 _ rfl) (am_cons (em_var 2) am_nil)) (em_var 0)))))
abbrev m_Dealing_eq : MS := PB.m_Dealing_eq tb
abbrev phi_Dealing_eq : FnD := PB.phi_Dealing_eq tb
abbrev s_Dealing_eq : Stmt := DD.inClass (top 27) 1
theorem sc_Dealing_eq : FnScope ["self", "other"] ["self", "other"] (defScope s_Dealing_eq) := ⟨rfl, rfl, rfl, by decide +kernel, rfl, by decide +kernel, by decide +kernel⟩
theorem d_Dealing_eq (hF : Facts (GK K mg) tb) (hN : Named (GK K mg) tb) (hC : Catch (GK K mg) (catL askc.exms)) (hNF : ∀ x, NotF (GK K mg) x (nfL askc.nfs x)) (z : Z mg) (gl : Gs mg) (gi : Gi mg) (gt : Gt mg) {fd : FuncData} (FD : FunD K "__eq__" "Dealing.__eq__" (defArgs s_Dealing_eq) (defBody s_Dealing_eq) (defScope s_Dealing_eq) [] [] (He.ma K (He.ga K "Dealing") "__eq__") fd) : FnG P w K mg base (0 + 1) (He.ma K (He.ga K "Dealing") "__eq__") fd ["self", "other"] phi_Dealing_eq ∧ Binds K fd ["self", "other"] [] := by
  have hN0 : (["self", "other"] : List Str).Nodup := by decide +kernel
  refine fng_meth (c := "Dealing") (st := s_Dealing_eq) (N := ["self", "other"]) (b := m_Dealing_eq) (k := 0) FD sc_Dealing_eq (fun _ _ _ _ _ _ us hl => match us, hl with | [_, _], _ => rfl) fun cdv A outer s H E hr hG0 => ?_
  have hu : (A.deeper (envOfC "Dealing.__eq__" (defScope s_Dealing_eq) s.heap.objs.size (He.ma K (He.ga K "Dealing") "__eq__") cdv)).units + 66 < cLine := by have := hr.un; omega
  have hG : (A.deeper (envOfC "Dealing.__eq__" (defScope s_Dealing_eq) s.heap.objs.size (He.ma K (He.ga K "Dealing") "__eq__") cdv)).guards = some [] := hG0
  exact (sm_one (sm_ret (em_and (em_callB (call_isiB rfl) (f_isiB hF hN) (z 1 _ rfl) (am_cons (em_var 1) (am_cons (em_globE (gl 1 _ rfl)) am_nil))) (em_and (em_cmp (op_eqN rfl hu) f_eq (em_fld hF (em_var 0)) (em_fld hF (em_var 1)) rfl) (em_one (em_cmp (op_eqN rfl hu) f_eq (em_fld hF (em_var 0)) (em_fld hF (em_var 1)) rfl))))))
abbrev m_fits : MS := PB.m_fits tb
abbrev phi_fits : FnD := PB.phi_fits tb
abbrev s_fits : Stmt := top 28
theorem sc_fits : FnScope ["dealing", "sides", "grid", "names", "directions", "side", "_", "direction"] ["dealing", "sides", "grid"] (defScope s_fits) := ⟨rfl, rfl, rfl, by decide +kernel, rfl, by decide +kernel, by decide +kernel⟩
theorem d_fits (hF : Facts (GK K mg) tb) (hN : Named (GK K mg) tb) (hC : Catch (GK K mg) (catL askc.exms)) (hNF : ∀ x, NotF (GK K mg) x (nfL askc.nfs x)) (z : Z mg) (gl : Gs mg) (gi : Gi mg) (gt : Gt mg) {fd : FuncData} (FD : FunD K "fits" "fits" (defArgs s_fits) (defBody s_fits) (defScope s_fits) [] [] (He.ga K "fits") fd) (hm : mg "fits" = some (.ref (He.ga K "fits"))) : FnN P w K mg base (0 + 1) "fits" ["dealing", "sides", "grid"] phi_fits := by
  have hN0 : (["dealing", "sides", "grid", "names", "directions", "side", "_", "direction"] : List Str).Nodup := by decide +kernel
  refine fnn (st := s_fits) (N := ["dealing", "sides", "grid", "names", "directions", "side", "_", "direction"]) (m := m_fits) (k := 0) FD sc_fits hm (fun _ _ _ _ _ _ us hl => match us, hl with | [_, _, _], _ => rfl) fun cdv A outer s H E hr hG0 => ?_
  have hu : (A.deeper (envOfC "fits" (defScope s_fits) s.heap.objs.size (He.ga K "fits") cdv)).units + 66 < cLine := by have := hr.un; omega
  have hG : (A.deeper (envOfC "fits" (defScope s_fits) s.heap.objs.size (He.ga K "fits") cdv)).guards = some [] := hG0
  exact (sm_cons (sm_set 3 hN0 (em_callTy (call_dictM rfl rfl) f_dict (z 11 _ rfl) (am_cons (em_var 1) am_nil))) (sm_cons (sm_set 4 hN0 (em_callTy (call_dictM rfl rfl) f_dict (z 11 _ rfl) (am_cons (em_fld hF (em_var 2)) am_nil))) (sm_cons (sm_if (tm_not (tm_val (em_callB (call_allM rfl rfl) f_allB (z 7 _ rfl) (am_cons (em_lc [("side", 5), ("_", 6), ("direction", 7)] rfl hN0 (im_seq (em_fld hF (em_var 0))) (blkOk_by rfl) (fun _ _ _ _ _ => (gc_tup rfl (gcs_cons (gc_name 5 hN0) (gcs_cons (gc_name 6 hN0) (gcs_cons (gc_name 7 hN0) gcs_nil))))) (fun _ _ _ _ _ => sm_yes) (fun _ _ _ _ _ => (em_and (em_din hu (em_var 5) (em_var 3)) (em_one (em_din hu (em_var 7) (em_var 4)))))) am_nil)))) (sm_one (sm_ret em_bl)) sm_nil) (sm_one (sm_ret (em_callB (call_allM rfl rfl) f_allB (z 7 _ rfl) (am_cons (em_lc [("direction", 7)] rfl hN0 (im_seq (em_fld hF (em_var 0))) (blkOk_by rfl) (fun _ _ _ _ _ => (gc_name 7 hN0)) (fun _ _ _ _ _ => sm_yes) (fun _ _ _ _ _ => (em_din hu (em_var 7) (em_var 4)))) am_nil)))))))
abbrev m_with_direction : MS := PB.m_with_direction tb
abbrev phi_with_direction : FnD := PB.phi_with_direction tb
abbrev s_with_direction : Stmt := top 30
theorem sc_with_direction : FnScope ["cuts", "parts", "direction", "sides", "free", "side", "_", "cut", "more", "kind"] ["cuts", "parts", "direction", "sides"] (defScope s_with_direction) := ⟨rfl, rfl, rfl, by decide +kernel, rfl, by decide +kernel, by decide +kernel⟩
theorem d_with_direction (hF : Facts (GK K mg) tb) (hN : Named (GK K mg) tb) (hC : Catch (GK K mg) (catL askc.exms)) (hNF : ∀ x, NotF (GK K mg) x (nfL askc.nfs x)) (z : Z mg) (gl : Gs mg) (gi : Gi mg) (gt : Gt mg) {fd : FuncData} (FD : FunD K "_with_direction" "_with_direction" (defArgs s_with_direction) (defBody s_with_direction) (defScope s_with_direction) [] [] (He.ga K "_with_direction") fd) (hm : mg "_with_direction" = some (.ref (He.ga K "_with_direction"))) : FnN P w K mg base (0 + 1) "_with_direction" ["cuts", "parts", "direction", "sides"] phi_with_direction := by
  have hN0 : (["cuts", "parts", "direction", "sides", "free", "side", "_", "cut", "more", "kind"] : List Str).Nodup := by decide +kernel
  refine fnn (st := s_with_direction) (N := ["cuts", "parts", "direction", "sides", "free", "side", "_", "cut", "more", "kind"]) (m := m_with_direction) (k := 0) FD sc_with_direction hm (fun _ _ _ _ _ _ us hl => match us, hl with | [_, _, _, _], _ => rfl) fun cdv A outer s H E hr hG0 => ?_
  have hu : (A.deeper (envOfC "_with_direction" (defScope s_with_direction) s.heap.objs.size (He.ga K "_with_direction") cdv)).units + 66 < cLine := by have := hr.un; omega
  have hG : (A.deeper (envOfC "_with_direction" (defScope s_with_direction) s.heap.objs.size (He.ga K "_with_direction") cdv)).guards = some [] := hG0
  exact (sm_cons (sm_setLc 4 [("side", 5), ("_", 6)] rfl hN0 rfl rfl rfl (im_seq (em_var 3)) (blkOk_by rfl) (fun _ _ _ _ _ => (gc_tup rfl (gcs_cons (gc_name 5 hN0) (gcs_cons (gc_name 6 hN0) gcs_nil)))) (fun _ _ _ _ _ => (sm_one_if (tm_cmp (op_ninF rfl) f_inF (em_var 5) (em_lc [("cut", 7)] rfl hN0 (im_seq (em_var 0)) (blkOk_by rfl) (fun _ _ _ _ _ => (gc_name 7 hN0)) (fun _ _ _ _ _ => sm_yes) (fun _ _ _ _ _ => (em_ix (em_var 7) em_int))) rfl))) (fun _ _ _ _ _ => (em_var 5))) (sm_cons (sm_setLc2 8 [("side", 5), ("kind", 9)] [9] rfl hN0 rfl rfl rfl (im_seq (em_var 4)) (blkOk_by rfl) (fun _ _ _ _ _ => (gc_name 5 hN0)) (fun _ _ _ _ _ => (im_seq (em_tup (am_cons (em_gstrE (gt 1 _ _ rfl)) (am_cons (em_gstrE (gt 0 _ _ rfl)) am_nil))))) (fun _ _ _ _ _ => (gc_name 9 hN0)) (fun _ _ _ _ _ => (em_tup (am_cons (em_var 5) (am_cons (em_var 9) (am_cons (em_var 2) am_nil)))))) (sm_one (sm_ret (em_add (em_lst (am_cons (em_tup (am_cons (em_var 0) (am_cons (em_var 1) am_nil))) (am_cons (em_tup (am_cons (em_var 0) (am_cons (em_tup (am_star rfl (em_var 1) (am_cons (em_var 2) am_nil))) am_nil))) am_nil))) (em_lc [("cut", 7)] rfl hN0 (im_seq (em_var 8)) (blkOk_by rfl) (fun _ _ _ _ _ => (gc_name 7 hN0)) (fun _ _ _ _ _ => sm_yes) (fun _ _ _ _ _ => (em_tup (am_cons (em_callTy (call_tupleM rfl) f_tuple (z 3 _ rfl) (am_cons (em_callB (call_sortedM rfl hu) f_sorted (z 12 _ rfl) (am_cons (em_lst (am_star rfl (em_var 0) (am_cons (em_var 7) am_nil))) am_nil)) am_nil)) (am_cons (em_var 1) am_nil))))))))))
abbrev b_dealings_1 : MS := PB.b_dealings_1 tb
abbrev m_dealings : MS := PB.m_dealings tb
abbrev phi_dealings : FnD := PB.phi_dealings tb
abbrev s_dealings : Stmt := top 29
theorem sc_dealings : FnScope ["sides", "grid", "rows", "direction", "_", "cuts", "parts", "row"] ["sides", "grid"] (defScope s_dealings) := ⟨rfl, rfl, rfl, by decide +kernel, rfl, by decide +kernel, by decide +kernel⟩
theorem e_dealings (hF : Facts (GK K mg) tb) (hN : Named (GK K mg) tb) (hC : Catch (GK K mg) (catL askc.exms)) (hNF : ∀ x, NotF (GK K mg) x (nfL askc.nfs x)) (z : Z mg) (gl : Gs mg) (gi : Gi mg) (gt : Gt mg) (h_with_direction : FnN P w K mg base 1 "_with_direction" ["cuts", "parts", "direction", "sides"] phi_with_direction) (k_Dealing : MkN P w K mg base 4 "Dealing" ["self", "cuts", "parts"] phi_Dealing_init) {fd : FuncData} (FD : FunD K "dealings" "dealings" (defArgs s_dealings) (defBody s_dealings) (defScope s_dealings) [] [] (He.ga K "dealings") fd) (hm : mg "dealings" = some (.ref (He.ga K "dealings"))) : FnK P w K mg base (5 + 1) "dealings" ["sides", "grid"] phi_dealings := by
  have hN0 : (["sides", "grid", "rows", "direction", "_", "cuts", "parts", "row"] : List Str).Nodup := by decide +kernel
  refine fnnK (st := s_dealings) (N := ["sides", "grid", "rows", "direction", "_", "cuts", "parts", "row"]) (m := m_dealings) (k := 5) FD sc_dealings hm (fun _ _ _ _ _ _ us hl => match us, hl with | [_, _], _ => rfl) fun cdv A outer s H E hr hG0 => ?_
  have hu : (A.deeper (envOfC "dealings" (defScope s_dealings) s.heap.objs.size (He.ga K "dealings") cdv)).units + 66 < cLine := by have := hr.un; omega
  have hG : (A.deeper (envOfC "dealings" (defScope s_dealings) s.heap.objs.size (He.ga K "dealings") cdv)).guards = some [] := hG0
  exact (sm_cons (sm_set 2 hN0 (em_lst (am_cons (em_tup (am_cons (em_tup am_nil) (am_cons (em_tup am_nil) am_nil))) am_nil))) (sm_cons (sm_for PassesOwn.leaving rfl (im_seq (em_fld hF (em_var 1))) (gm_tup rfl (gms_cons (gm_name 3 hN0) (gms_cons (gm_name 4 hN0) gms_nil))) (sm_one (sm_setLc2 2 [("cuts", 5), ("parts", 6), ("row", 7)] [7] rfl hN0 rfl rfl rfl (im_seq (em_var 2)) (blkOk_by rfl) (fun _ _ _ _ _ => (gc_tup rfl (gcs_cons (gc_name 5 hN0) (gcs_cons (gc_name 6 hN0) gcs_nil)))) (fun _ _ _ _ _ => (im_seq (em_callN h_with_direction (hr.mono (by decide)) hG takes_none5 (am_cons (em_var 5) (am_cons (em_var 6) (am_cons (em_var 3) (am_cons (em_var 0) am_nil))))))) (fun _ _ _ _ _ => (gc_name 7 hN0)) (fun _ _ _ _ _ => (em_var 7))))) (sm_one (sm_ret (em_callTy (call_tupleM rfl) f_tuple (z 3 _ rfl) (am_cons (em_lc [("cuts", 5), ("parts", 6)] rfl hN0 (im_seq (em_callB (call_sortedM rfl hu) f_sorted (z 12 _ rfl) (am_cons (em_var 2) am_nil))) (blkOk_by rfl) (fun _ _ _ _ _ => (gc_tup rfl (gcs_cons (gc_name 5 hN0) (gcs_cons (gc_name 6 hN0) gcs_nil)))) (fun _ _ _ _ _ => sm_yes) (fun _ _ _ _ _ => (em_makeN k_Dealing (hr.mono (by decide)) hG takes_none5 (am_cons (em_var 5) (am_cons (em_var 6) am_nil))))) am_nil))))))
theorem d_dealings (hF : Facts (GK K mg) tb) (hN : Named (GK K mg) tb) (hC : Catch (GK K mg) (catL askc.exms)) (hNF : ∀ x, NotF (GK K mg) x (nfL askc.nfs x)) (z : Z mg) (gl : Gs mg) (gi : Gi mg) (gt : Gt mg) (h_with_direction : FnN P w K mg base 1 "_with_direction" ["cuts", "parts", "direction", "sides"] phi_with_direction) (k_Dealing : MkN P w K mg base 4 "Dealing" ["self", "cuts", "parts"] phi_Dealing_init) {fd : FuncData} (FD : FunD K "dealings" "dealings" (defArgs s_dealings) (defBody s_dealings) (defScope s_dealings) [] [] (He.ga K "dealings") fd) (hm : mg "dealings" = some (.ref (He.ga K "dealings"))) : FnN P w K mg base (5 + 1) "dealings" ["sides", "grid"] phi_dealings := by
  have hN0 : (["sides", "grid", "rows", "direction", "_", "cuts", "parts", "row"] : List Str).Nodup := by decide +kernel
  refine fnn (st := s_dealings) (N := ["sides", "grid", "rows", "direction", "_", "cuts", "parts", "row"]) (m := m_dealings) (k := 5) FD sc_dealings hm (fun _ _ _ _ _ _ us hl => match us, hl with | [_, _], _ => rfl) fun cdv A outer s H E hr hG0 => ?_
  have hu : (A.deeper (envOfC "dealings" (defScope s_dealings) s.heap.objs.size (He.ga K "dealings") cdv)).units + 66 < cLine := by have := hr.un; omega
  have hG : (A.deeper (envOfC "dealings" (defScope s_dealings) s.heap.objs.size (He.ga K "dealings") cdv)).guards = some [] := hG0
  exact (sm_cons (sm_set 2 hN0 (em_lst (am_cons (em_tup (am_cons (em_tup am_nil) (am_cons (em_tup am_nil) am_nil))) am_nil))) (sm_cons (sm_for PassesOwn.leaving rfl (im_seq (em_fld hF (em_var 1))) (gm_tup rfl (gms_cons (gm_name 3 hN0) (gms_cons (gm_name 4 hN0) gms_nil))) (sm_one (sm_setLc2 2 [("cuts", 5), ("parts", 6), ("row", 7)] [7] rfl hN0 rfl rfl rfl (im_seq (em_var 2)) (blkOk_by rfl) (fun _ _ _ _ _ => (gc_tup rfl (gcs_cons (gc_name 5 hN0) (gcs_cons (gc_name 6 hN0) gcs_nil)))) (fun _ _ _ _ _ => (im_seq (em_callN h_with_direction (hr.mono (by decide)) hG takes_none5 (am_cons (em_var 5) (am_cons (em_var 6) (am_cons (em_var 3) (am_cons (em_var 0) am_nil))))))) (fun _ _ _ _ _ => (gc_name 7 hN0)) (fun _ _ _ _ _ => (em_var 7))))) (sm_one (sm_ret (em_callTy (call_tupleM rfl) f_tuple (z 3 _ rfl) (am_cons (em_lc [("cuts", 5), ("parts", 6)] rfl hN0 (im_seq (em_callB (call_sortedM rfl hu) f_sorted (z 12 _ rfl) (am_cons (em_var 2) am_nil))) (blkOk_by rfl) (fun _ _ _ _ _ => (gc_tup rfl (gcs_cons (gc_name 5 hN0) (gcs_cons (gc_name 6 hN0) gcs_nil)))) (fun _ _ _ _ _ => sm_yes) (fun _ _ _ _ _ => (em_makeN k_Dealing (hr.mono (by decide)) hG takes_none5 (am_cons (em_var 5) (am_cons (em_var 6) am_nil))))) am_nil))))))
abbrev b_ldraw_1 : MS := PB.b_ldraw_1 tb
abbrev m_ldraw : MS := PB.m_ldraw tb
abbrev phi_ldraw : FnD := PB.phi_ldraw tb
abbrev s_ldraw : Stmt := top 35
theorem sc_ldraw : FnScope ["script", "state", "many", "found", "k", "rest", "base", "mixed"] ["script", "state", "many"] (defScope s_ldraw) := ⟨rfl, rfl, rfl, by decide +kernel, rfl, by decide +kernel, by decide +kernel⟩
theorem d_ldraw (hF : Facts (GK K mg) tb) (hN : Named (GK K mg) tb) (hC : Catch (GK K mg) (catL askc.exms)) (hNF : ∀ x, NotF (GK K mg) x (nfL askc.nfs x)) (z : Z mg) (gl : Gs mg) (gi : Gi mg) (gt : Gt mg) {fd : FuncData} (FD : FunD K "_law_draw" "_law_draw" (defArgs s_ldraw) (defBody s_ldraw) (defScope s_ldraw) [] [] (He.ga K "_law_draw") fd) (hm : mg "_law_draw" = some (.ref (He.ga K "_law_draw"))) : FnN P w K mg base (0 + 1) "_law_draw" ["script", "state", "many"] phi_ldraw := by
  have hN0 : (["script", "state", "many", "found", "k", "rest", "base", "mixed"] : List Str).Nodup := by decide +kernel
  refine fnn (st := s_ldraw) (N := ["script", "state", "many", "found", "k", "rest", "base", "mixed"]) (m := m_ldraw) (k := 0) FD sc_ldraw hm (fun _ _ _ _ _ _ us hl => match us, hl with | [_, _, _], _ => rfl) fun cdv A outer s H E hr hG0 => ?_
  have hu : (A.deeper (envOfC "_law_draw" (defScope s_ldraw) s.heap.objs.size (He.ga K "_law_draw") cdv)).units + 66 < cLine := by have := hr.un; omega
  have hG : (A.deeper (envOfC "_law_draw" (defScope s_ldraw) s.heap.objs.size (He.ga K "_law_draw") cdv)).guards = some [] := hG0
  exact (sm_cons (sm_if (tm_cmp op_gtM f_ord (em_ix (em_var 1) em_int) em_int rfl) (sm_cons (sm_set 3 hN0 (em_mod (em_callTy call_int1 f_int (z 0 _ rfl) (am_cons (em_ix (em_var 1) em_int) am_nil)) (em_var 2))) (sm_cons (sm_setix (em_div (em_ix (em_var 1) em_int) (em_var 2)) (em_var 1) em_int) (sm_one (sm_ret (em_var 3))))) sm_nil) (sm_cons (sm_for PassesOwn.leaving rfl (im_range2 (z 9 _ rfl) (am_cons (em_ix (em_var 1) em_int) (am_cons (em_callB (call_lenM rfl) f_len (z 6 _ rfl) (am_cons (em_var 0) am_nil)) am_nil))) (gm_name 4 hN0) (sm_cons (sm_setix (em_add (em_var 4) em_int) (em_var 1) em_int) (sm_one (sm_if (L2.PW.pt (wm_or (tm_cmp op_geM f_ord (em_ix (em_var 0) (em_var 4)) (em_pow em_int em_int) rfl) (wm_or1 (tm_cmp op_leM f_ord (em_ix (em_var 0) (em_var 4)) (em_neg (em_pow em_int em_int)) rfl)))) (sm_cons (sm_set 5 hN0 (em_callB call_abs f_abs (z 13 _ rfl) (am_cons (em_ix (em_var 0) (em_var 4)) am_nil))) (sm_cons (sm_setix (em_div (em_var 5) (em_var 2)) (em_var 1) em_int) (sm_one (sm_ret (em_mod (em_callTy call_int1 f_int (z 0 _ rfl) (am_cons (em_var 5) am_nil)) (em_var 2)))))) sm_nil)))) (sm_cons (sm_setix (em_add (em_ix (em_var 1) em_int) em_int) (em_var 1) em_int) (sm_cons (sm_set 6 hN0 (em_if (tm_cmp op_gtM f_ord (em_callB (call_lenM rfl) f_len (z 6 _ rfl) (am_cons (em_var 0) am_nil)) em_int rfl) (em_ix (em_var 0) (em_mod (em_callTy call_int1 f_int (z 0 _ rfl) (am_cons (em_ix (em_var 1) em_int) am_nil)) (em_callB (call_lenM rfl) f_len (z 6 _ rfl) (am_cons (em_var 0) am_nil)))) em_int)) (sm_cons (sm_setix (em_mod (em_callTy call_int1 f_int (z 0 _ rfl) (am_cons (em_add (em_add (em_add (em_mul (em_ix (em_var 1) em_int) em_int) (em_mul (em_var 6) em_int)) (em_mul (em_ix (em_var 1) em_int) em_int)) em_int) am_nil)) em_int) (em_var 1) em_int) (sm_cons (sm_set 7 hN0 (em_mod (em_callTy call_int1 f_int (z 0 _ rfl) (am_cons (em_add (em_add (em_mul (em_ix (em_var 1) em_int) (em_ix (em_var 1) em_int)) (em_mul (em_ix (em_var 1) em_int) em_int)) em_int) am_nil)) em_int)) (sm_one (sm_ret (em_mod (em_callTy call_int1 f_int (z 0 _ rfl) (am_cons (em_div (em_var 7) em_int) am_nil)) (em_var 2))))))))))
abbrev b_lstate_1 : MS := PB.b_lstate_1 tb
abbrev m_lstate : MS := PB.m_lstate tb
abbrev phi_lstate : FnD := PB.phi_lstate tb
abbrev s_lstate : Stmt := top 36
theorem sc_lstate : FnScope ["script", "state", "k"] ["script"] (defScope s_lstate) := ⟨rfl, rfl, rfl, by decide +kernel, rfl, by decide +kernel, by decide +kernel⟩
theorem d_lstate (hF : Facts (GK K mg) tb) (hN : Named (GK K mg) tb) (hC : Catch (GK K mg) (catL askc.exms)) (hNF : ∀ x, NotF (GK K mg) x (nfL askc.nfs x)) (z : Z mg) (gl : Gs mg) (gi : Gi mg) (gt : Gt mg) {fd : FuncData} (FD : FunD K "_law_state" "_law_state" (defArgs s_lstate) (defBody s_lstate) (defScope s_lstate) [] [] (He.ga K "_law_state") fd) (hm : mg "_law_state" = some (.ref (He.ga K "_law_state"))) : FnN P w K mg base (0 + 1) "_law_state" ["script"] phi_lstate := by
  have hN0 : (["script", "state", "k"] : List Str).Nodup := by decide +kernel
  refine fnn (st := s_lstate) (N := ["script", "state", "k"]) (m := m_lstate) (k := 0) FD sc_lstate hm (fun _ _ _ _ _ _ us hl => match us, hl with | [_], _ => rfl) fun cdv A outer s H E hr hG0 => ?_
  have hu : (A.deeper (envOfC "_law_state" (defScope s_lstate) s.heap.objs.size (He.ga K "_law_state") cdv)).units + 66 < cLine := by have := hr.un; omega
  have hG : (A.deeper (envOfC "_law_state" (defScope s_lstate) s.heap.objs.size (He.ga K "_law_state") cdv)).guards = some [] := hG0
  exact (sm_cons (sm_set 1 hN0 (em_lst (am_cons em_int (am_cons em_int (am_cons em_int (am_cons (em_callB (call_lenM rfl) f_len (z 6 _ rfl) (am_cons (em_var 0) am_nil)) am_nil)))))) (sm_cons (sm_for PassesOwn.leaving rfl (im_range1 (z 9 _ rfl) (am_cons (em_callB (call_lenM rfl) f_len (z 6 _ rfl) (am_cons (em_var 0) am_nil)) am_nil)) (gm_name 2 hN0) (sm_one (sm_setix (em_mod (em_callTy call_int1 f_int (z 0 _ rfl) (am_cons (em_add (em_add (em_mul (em_ix (em_var 1) em_int) em_int) (em_ix (em_var 0) (em_var 2))) (em_var 2)) am_nil)) em_int) (em_var 1) em_int))) (sm_one (sm_ret (em_var 1)))))
def b_lsame_1 (φ : FnD) : MS := (ifS (mNot (mTst (mCall φ (mCons (mOp2 fIx (mVar 0) (mVar 2)) (mCons (mOp2 fIx (mVar 1) (mVar 2)) mNil))))) (retS (retM (.bl false))) nxS)
def m_lsame (φ : FnD) : MS := (seqS (ifS (mTst (mOp2 (fIs false) (mVar 1) (retM .non))) (retS (mOp2 (fIs false) (mVar 0) (retM .non))) nxS) (seqS (ifS (mTst (mOpA (fIsiA tb) (mCons (mVar 1) (mCons (retM (.ty "bool")) mNil)))) (retS (mAndV (mOpA (fIsiA tb) (mCons (mVar 0) (mCons (retM (.ty "bool")) mNil))) (mOp2 fEq (mVar 0) (mVar 1)))) nxS) (seqS (ifS (mTst (mOpA (fIsiA tb) (mCons (mVar 1) (mCons (retM (.ty "str")) mNil)))) (retS (mAndV (mOpA (fIsiA tb) (mCons (mVar 0) (mCons (retM (.ty "str")) mNil))) (mOp2 fEq (mVar 0) (mVar 1)))) nxS) (seqS (ifS (mTst (mOpA (fIsiA tb) (mCons (mVar 1) (mCons (retM (.ty "int")) mNil)))) (retS (mAndV (mOpA (fIsiA tb) (mCons (mVar 0) (mCons (retM (.ty "int")) mNil))) (mAndV (mNotV (mOpA (fIsiA tb) (mCons (mVar 0) (mCons (retM (.ty "bool")) mNil)))) (mOp2 fEq (mVar 0) (mVar 1))))) nxS) (seqS (ifS (mTst (mOpA (fIsiA tb) (mCons (mVar 1) (mCons (retM (.ty "list")) mNil)))) (ifS (mOr (mNot (mTst (mOpA (fIsiA tb) (mCons (mVar 0) (mCons (retM (.ty "list")) mNil))))) (mTst (mOp2 fNe (mOpA fLen (mCons (mVar 0) mNil)) (mOpA fLen (mCons (mVar 1) mNil))))) (retS (retM (.bl false))) nxS) (ifS (mOr (mNot (mTst (mOpA (fIsiA tb) (mCons (mVar 0) (mCons (retM (.ty "tuple")) mNil))))) (mTst (mOp2 fNe (mOpA fLen (mCons (mVar 0) mNil)) (mOpA fLen (mCons (mVar 1) mNil))))) (retS (retM (.bl false))) nxS)) (seqS (forS (mRng1 (mCons (mOpA fLen (mCons (mVar 1) mNil)) mNil)) (nmT 2) (b_lsame_1 φ)) (retS (retM (.bl true)))))))))
def phi_lsame : Nat → FnD
  | 0 => fun _ _ => none
  | k + 1 => fnM 2 3 (m_lsame (phi_lsame k))
abbrev s_lsame : Stmt := top 38
theorem sc_lsame : FnScope ["actual", "due", "k"] ["actual", "due"] (defScope s_lsame) := ⟨rfl, rfl, rfl, by decide +kernel, rfl, by decide +kernel, by decide +kernel⟩
theorem d_lsame {φ : FnD} (hF : Facts (GK K mg) tb) (hN : Named (GK K mg) tb) (hC : Catch (GK K mg) (catL askc.exms)) (hNF : ∀ x, NotF (GK K mg) x (nfL askc.nfs x)) (z : Z mg) (gl : Gs mg) (gi : Gi mg) (gt : Gt mg) (j : Nat) (hj : 0 ≤ j) (hRec : FnN P w K mg base j "_law_same" ["actual", "due"] φ) {fd : FuncData} (FD : FunD K "_law_same" "_law_same" (defArgs s_lsame) (defBody s_lsame) (defScope s_lsame) [] [] (He.ga K "_law_same") fd) (hm : mg "_law_same" = some (.ref (He.ga K "_law_same"))) : FnN P w K mg base (j + 1) "_law_same" ["actual", "due"] (fnM 2 3 (m_lsame φ)) := by
  have hN0 : (["actual", "due", "k"] : List Str).Nodup := by decide +kernel
  refine fnn (st := s_lsame) (N := ["actual", "due", "k"]) (m := m_lsame φ) (k := j) FD sc_lsame hm (fun _ _ _ _ _ _ us hl => match us, hl with | [_, _], _ => rfl) fun cdv A outer s H E hr hG0 => ?_
  have hu : (A.deeper (envOfC "_law_same" (defScope s_lsame) s.heap.objs.size (He.ga K "_law_same") cdv)).units + 66 < cLine := by have := hr.un; omega
  have hG : (A.deeper (envOfC "_law_same" (defScope s_lsame) s.heap.objs.size (He.ga K "_law_same") cdv)).guards = some [] := hG0
  exact (sm_cons (sm_if (tm_cmp op_isM f_is (em_var 1) em_non rfl) (sm_one (sm_ret (em_cmp op_isM f_is (em_var 0) em_non rfl))) sm_nil) (sm_cons (sm_if (tm_val (em_callB (call_isiB rfl) (f_isiB hF hN) (z 1 _ rfl) (am_cons (em_var 1) (am_cons (em_ty (z 2 _ rfl)) am_nil)))) (sm_one (sm_ret (em_and (em_callB (call_isiB rfl) (f_isiB hF hN) (z 1 _ rfl) (am_cons (em_var 0) (am_cons (em_ty (z 2 _ rfl)) am_nil))) (em_one (em_cmp (op_eqN rfl hu) f_eq (em_var 0) (em_var 1) rfl))))) sm_nil) (sm_cons (sm_if (tm_val (em_callB (call_isiB rfl) (f_isiB hF hN) (z 1 _ rfl) (am_cons (em_var 1) (am_cons (em_ty (z 5 _ rfl)) am_nil)))) (sm_one (sm_ret (em_and (em_callB (call_isiB rfl) (f_isiB hF hN) (z 1 _ rfl) (am_cons (em_var 0) (am_cons (em_ty (z 5 _ rfl)) am_nil))) (em_one (em_cmp (op_eqN rfl hu) f_eq (em_var 0) (em_var 1) rfl))))) sm_nil) (sm_cons (sm_if (tm_val (em_callB (call_isiB rfl) (f_isiB hF hN) (z 1 _ rfl) (am_cons (em_var 1) (am_cons (em_ty (z 0 _ rfl)) am_nil)))) (sm_one (sm_ret (em_and (em_callB (call_isiB rfl) (f_isiB hF hN) (z 1 _ rfl) (am_cons (em_var 0) (am_cons (em_ty (z 0 _ rfl)) am_nil))) (em_and (em_not (em_callB (call_isiB rfl) (f_isiB hF hN) (z 1 _ rfl) (am_cons (em_var 0) (am_cons (em_ty (z 2 _ rfl)) am_nil)))) (em_one (em_cmp (op_eqN rfl hu) f_eq (em_var 0) (em_var 1) rfl)))))) sm_nil) (sm_cons (sm_if (tm_val (em_callB (call_isiB rfl) (f_isiB hF hN) (z 1 _ rfl) (am_cons (em_var 1) (am_cons (em_ty (z 4 _ rfl)) am_nil)))) (sm_one (sm_if (L2.PW.pt (wm_or (tm_not (tm_val (em_callB (call_isiB rfl) (f_isiB hF hN) (z 1 _ rfl) (am_cons (em_var 0) (am_cons (em_ty (z 4 _ rfl)) am_nil))))) (wm_or1 (tm_cmp (op_neN rfl hu) f_ne (em_callB (call_lenM rfl) f_len (z 6 _ rfl) (am_cons (em_var 0) am_nil)) (em_callB (call_lenM rfl) f_len (z 6 _ rfl) (am_cons (em_var 1) am_nil)) rfl)))) (sm_one (sm_ret em_bl)) sm_nil)) (sm_one (sm_if (L2.PW.pt (wm_or (tm_not (tm_val (em_callB (call_isiB rfl) (f_isiB hF hN) (z 1 _ rfl) (am_cons (em_var 0) (am_cons (em_ty (z 3 _ rfl)) am_nil))))) (wm_or1 (tm_cmp (op_neN rfl hu) f_ne (em_callB (call_lenM rfl) f_len (z 6 _ rfl) (am_cons (em_var 0) am_nil)) (em_callB (call_lenM rfl) f_len (z 6 _ rfl) (am_cons (em_var 1) am_nil)) rfl)))) (sm_one (sm_ret em_bl)) sm_nil))) (sm_cons (sm_for PassesOwn.leaving rfl (im_range1 (z 9 _ rfl) (am_cons (em_callB (call_lenM rfl) f_len (z 6 _ rfl) (am_cons (em_var 1) am_nil)) am_nil)) (gm_name 2 hN0) (sm_one (sm_if (tm_not (tm_val (em_callN hRec (hr.mono (Nat.le_refl _)) hG (takes_of rfl rfl rfl rfl) (am_cons (em_ix (em_var 0) (em_var 2)) (am_cons (em_ix (em_var 1) (em_var 2)) am_nil))))) (sm_one (sm_ret em_bl)) sm_nil))) (sm_one (sm_ret em_bl))))))))
abbrev b_lword_1 : MS := PB.b_lword_1 tb
abbrev m_lword : MS := PB.m_lword tb
abbrev phi_lword : FnD := PB.phi_lword tb
abbrev s_lword : Stmt := top 39
theorem sc_lword : FnScope ["script", "state", "signs", "word", "k"] ["script", "state"] (defScope s_lword) := ⟨rfl, rfl, rfl, by decide +kernel, rfl, by decide +kernel, by decide +kernel⟩
theorem d_lword (hF : Facts (GK K mg) tb) (hN : Named (GK K mg) tb) (hC : Catch (GK K mg) (catL askc.exms)) (hNF : ∀ x, NotF (GK K mg) x (nfL askc.nfs x)) (z : Z mg) (gl : Gs mg) (gi : Gi mg) (gt : Gt mg) (h_ldraw : FnN P w K mg base 1 "_law_draw" ["script", "state", "many"] phi_ldraw) {fd : FuncData} (FD : FunD K "_law_word" "_law_word" (defArgs s_lword) (defBody s_lword) (defScope s_lword) [] [] (He.ga K "_law_word") fd) (hm : mg "_law_word" = some (.ref (He.ga K "_law_word"))) : FnN P w K mg base (1 + 1) "_law_word" ["script", "state"] phi_lword := by
  have hN0 : (["script", "state", "signs", "word", "k"] : List Str).Nodup := by decide +kernel
  refine fnn (st := s_lword) (N := ["script", "state", "signs", "word", "k"]) (m := m_lword) (k := 1) FD sc_lword hm (fun _ _ _ _ _ _ us hl => match us, hl with | [_, _], _ => rfl) fun cdv A outer s H E hr hG0 => ?_
  have hu : (A.deeper (envOfC "_law_word" (defScope s_lword) s.heap.objs.size (He.ga K "_law_word") cdv)).units + 66 < cLine := by have := hr.un; omega
  have hG : (A.deeper (envOfC "_law_word" (defScope s_lword) s.heap.objs.size (He.ga K "_law_word") cdv)).guards = some [] := hG0
  exact (sm_cons (sm_set 2 hN0 em_str) (sm_cons (sm_set 3 hN0 (em_ix (em_var 2) (em_callN h_ldraw (hr.mono (by decide)) hG (takes_of rfl rfl rfl rfl) (am_cons (em_var 0) (am_cons (em_var 1) (am_cons em_int am_nil)))))) (sm_cons (sm_for PassesOwn.leaving rfl (im_range1 (z 9 _ rfl) (am_cons (em_callN h_ldraw (hr.mono (by decide)) hG (takes_of rfl rfl rfl rfl) (am_cons (em_var 0) (am_cons (em_var 1) (am_cons em_int am_nil)))) am_nil)) (gm_name 4 hN0) (sm_one (sm_set 3 hN0 (em_add (em_var 3) (em_ix (em_var 2) (em_callN h_ldraw (hr.mono (by decide)) hG (takes_of rfl rfl rfl rfl) (am_cons (em_var 0) (am_cons (em_var 1) (am_cons em_int am_nil))))))))) (sm_one (sm_ret (em_var 3))))))
abbrev b_lwords_1 : MS := PB.b_lwords_1 tb
abbrev b_lwords_2 : MS := PB.b_lwords_2 tb
abbrev m_lwords : MS := PB.m_lwords tb
abbrev phi_lwords : FnD := PB.phi_lwords tb
abbrev s_lwords : Stmt := top 40
theorem sc_lwords : FnScope ["script", "state", "many", "base", "alike", "found", "k", "word", "at", "other"] ["script", "state", "many"] (defScope s_lwords) := ⟨rfl, rfl, rfl, by decide +kernel, rfl, by decide +kernel, by decide +kernel⟩
theorem d_lwords (hF : Facts (GK K mg) tb) (hN : Named (GK K mg) tb) (hC : Catch (GK K mg) (catL askc.exms)) (hNF : ∀ x, NotF (GK K mg) x (nfL askc.nfs x)) (z : Z mg) (gl : Gs mg) (gi : Gi mg) (gt : Gt mg) (h_lword : FnN P w K mg base 2 "_law_word" ["script", "state"] phi_lword) (h_ldraw : FnN P w K mg base 1 "_law_draw" ["script", "state", "many"] phi_ldraw) {fd : FuncData} (FD : FunD K "_law_words" "_law_words" (defArgs s_lwords) (defBody s_lwords) (defScope s_lwords) [] [] (He.ga K "_law_words") fd) (hm : mg "_law_words" = some (.ref (He.ga K "_law_words"))) : FnN P w K mg base (2 + 1) "_law_words" ["script", "state", "many"] phi_lwords := by
  have hN0 : (["script", "state", "many", "base", "alike", "found", "k", "word", "at", "other"] : List Str).Nodup := by decide +kernel
  refine fnn (st := s_lwords) (N := ["script", "state", "many", "base", "alike", "found", "k", "word", "at", "other"]) (m := m_lwords) (k := 2) FD sc_lwords hm (fun _ _ _ _ _ _ us hl => match us, hl with | [_, _, _], _ => rfl) fun cdv A outer s H E hr hG0 => ?_
  have hu : (A.deeper (envOfC "_law_words" (defScope s_lwords) s.heap.objs.size (He.ga K "_law_words") cdv)).units + 66 < cLine := by have := hr.un; omega
  have hG : (A.deeper (envOfC "_law_words" (defScope s_lwords) s.heap.objs.size (He.ga K "_law_words") cdv)).guards = some [] := hG0
  exact (sm_cons (sm_set 3 hN0 (em_callN h_lword (hr.mono (by decide)) hG (takes_of rfl rfl rfl rfl) (am_cons (em_var 0) (am_cons (em_var 1) am_nil)))) (sm_cons (sm_set 4 hN0 (em_cmp (op_eqN rfl hu) f_eq (em_callN h_ldraw (hr.mono (by decide)) hG (takes_of rfl rfl rfl rfl) (am_cons (em_var 0) (am_cons (em_var 1) (am_cons em_int am_nil)))) em_int rfl)) (sm_cons (sm_set 5 hN0 (em_lst am_nil)) (sm_cons (sm_for PassesOwn.leaving rfl (im_range1 (z 9 _ rfl) (am_cons (em_var 2) am_nil)) (gm_name 6 hN0) (sm_cons (sm_set 7 hN0 (em_callN h_lword (hr.mono (by decide)) hG (takes_of rfl rfl rfl rfl) (am_cons (em_var 0) (am_cons (em_var 1) am_nil)))) (sm_cons (sm_if (L2.PW.pt (wm_and (tm_val (em_var 4)) (wm_and1 (tm_cmp op_gtM f_ord (em_callB (call_lenM rfl) f_len (z 6 _ rfl) (am_cons (em_var 3) am_nil)) em_int rfl)))) (sm_cons (sm_set 8 hN0 (em_add em_int (em_callN h_ldraw (hr.mono (by decide)) hG (takes_of rfl rfl rfl rfl) (am_cons (em_var 0) (am_cons (em_var 1) (am_cons (em_sub (em_callB (call_lenM rfl) f_len (z 6 _ rfl) (am_cons (em_var 3) am_nil)) em_int) am_nil)))))) (sm_one (sm_set 7 hN0 (em_add (em_add (em_slice (em_var 3) om_none (om_some (em_var 8))) (em_ix em_str (em_callN h_ldraw (hr.mono (by decide)) hG (takes_of rfl rfl rfl rfl) (am_cons (em_var 0) (am_cons (em_var 1) (am_cons em_int am_nil)))))) (em_slice (em_var 3) (om_some (em_add (em_var 8) em_int)) om_none))))) sm_nil) (sm_cons (sm_for PassesOwn.leaving rfl (im_seq (em_lst (am_cons em_str (am_cons em_str (am_cons em_str (am_cons em_str (am_cons em_str (am_cons em_str (am_cons em_str (am_cons em_str am_nil)))))))))) (gm_name 9 hN0) (sm_cons (sm_if (tm_cmp (op_ninF rfl) f_inF (em_var 7) (em_var 5) rfl) (sm_one sm_break) sm_nil) (sm_one (sm_set 7 hN0 (em_var 9))))) (sm_one (sm_expr (em_append (em_var 5) (am_cons (em_var 7) am_nil)))))))) (sm_one (sm_ret (em_callB (call_sortedM rfl hu) f_sorted (z 12 _ rfl) (am_cons (em_var 5) am_nil))))))))
abbrev b_lgrid_1 : MS := PB.b_lgrid_1 tb
abbrev m_lgrid : MS := PB.m_lgrid tb
abbrev phi_lgrid : FnD := PB.phi_lgrid tb
abbrev s_lgrid : Stmt := top 41
theorem sc_lgrid : FnScope ["script", "state", "most", "ways", "left", "sizes", "k", "size", "names"] ["script", "state", "most", "ways"] (defScope s_lgrid) := ⟨rfl, rfl, rfl, by decide +kernel, rfl, by decide +kernel, by decide +kernel⟩
theorem d_lgrid (hF : Facts (GK K mg) tb) (hN : Named (GK K mg) tb) (hC : Catch (GK K mg) (catL askc.exms)) (hNF : ∀ x, NotF (GK K mg) x (nfL askc.nfs x)) (z : Z mg) (gl : Gs mg) (gi : Gi mg) (gt : Gt mg) (h_ldraw : FnN P w K mg base 1 "_law_draw" ["script", "state", "many"] phi_ldraw) (h_lwords : FnN P w K mg base 3 "_law_words" ["script", "state", "many"] phi_lwords) {fd : FuncData} (FD : FunD K "_law_grid" "_law_grid" (defArgs s_lgrid) (defBody s_lgrid) (defScope s_lgrid) [] [] (He.ga K "_law_grid") fd) (hm : mg "_law_grid" = some (.ref (He.ga K "_law_grid"))) : FnN P w K mg base (3 + 1) "_law_grid" ["script", "state", "most", "ways"] phi_lgrid := by
  have hN0 : (["script", "state", "most", "ways", "left", "sizes", "k", "size", "names"] : List Str).Nodup := by decide +kernel
  refine fnn (st := s_lgrid) (N := ["script", "state", "most", "ways", "left", "sizes", "k", "size", "names"]) (m := m_lgrid) (k := 3) FD sc_lgrid hm (fun _ _ _ _ _ _ us hl => match us, hl with | [_, _, _, _], _ => rfl) fun cdv A outer s H E hr hG0 => ?_
  have hu : (A.deeper (envOfC "_law_grid" (defScope s_lgrid) s.heap.objs.size (He.ga K "_law_grid") cdv)).units + 66 < cLine := by have := hr.un; omega
  have hG : (A.deeper (envOfC "_law_grid" (defScope s_lgrid) s.heap.objs.size (He.ga K "_law_grid") cdv)).guards = some [] := hG0
  exact (sm_cons (sm_set 4 hN0 (em_var 2)) (sm_cons (sm_set 5 hN0 (em_lst am_nil)) (sm_cons (sm_for PassesOwn.leaving rfl (im_range1 (z 9 _ rfl) (am_cons (em_add em_int (em_callN h_ldraw (hr.mono (by decide)) hG (takes_of rfl rfl rfl rfl) (am_cons (em_var 0) (am_cons (em_var 1) (am_cons (em_var 3) am_nil))))) am_nil)) (gm_name 6 hN0) (sm_cons (sm_set 7 hN0 (em_add em_int (em_callN h_ldraw (hr.mono (by decide)) hG (takes_of rfl rfl rfl rfl) (am_cons (em_var 0) (am_cons (em_var 1) (am_cons (em_callB (call_min2 rfl) f_min2 (z 14 _ rfl) (am_cons em_int (am_cons (em_var 4) am_nil))) am_nil)))))) (sm_cons (sm_expr (em_append (em_var 5) (am_cons (em_var 7) am_nil))) (sm_one (sm_set 4 hN0 (em_div (em_var 4) (em_var 7))))))) (sm_cons (sm_set 8 hN0 (em_callN h_lwords (hr.mono (by decide)) hG (takes_of rfl rfl rfl rfl) (am_cons (em_var 0) (am_cons (em_var 1) (am_cons (em_callB (call_lenM rfl) f_len (z 6 _ rfl) (am_cons (em_var 5) am_nil)) am_nil))))) (sm_one (sm_ret (em_lc [("k", 6)] rfl hN0 (im_range1 (z 9 _ rfl) (am_cons (em_callB (call_lenM rfl) f_len (z 6 _ rfl) (am_cons (em_var 5) am_nil)) am_nil)) (blkOk_by rfl) (fun _ _ _ _ _ => (gc_name 6 hN0)) (fun _ _ _ _ _ => sm_yes) (fun _ _ _ _ _ => (em_tup (am_cons (em_ix (em_var 8) (em_var 6)) (am_cons (em_ix (em_var 5) (em_var 6)) am_nil)))))))))))
abbrev b_lsides_1 : MS := PB.b_lsides_1 tb
abbrev m_lsides : MS := PB.m_lsides tb
abbrev phi_lsides : FnD := PB.phi_lsides tb
abbrev s_lsides : Stmt := top 43
theorem sc_lsides : FnScope ["script", "state", "most", "cells", "left", "sizes", "k", "size", "names"] ["script", "state", "most", "cells"] (defScope s_lsides) := ⟨rfl, rfl, rfl, by decide +kernel, rfl, by decide +kernel, by decide +kernel⟩
theorem d_lsides (hF : Facts (GK K mg) tb) (hN : Named (GK K mg) tb) (hC : Catch (GK K mg) (catL askc.exms)) (hNF : ∀ x, NotF (GK K mg) x (nfL askc.nfs x)) (z : Z mg) (gl : Gs mg) (gi : Gi mg) (gt : Gt mg) (h_ldraw : FnN P w K mg base 1 "_law_draw" ["script", "state", "many"] phi_ldraw) (h_lwords : FnN P w K mg base 3 "_law_words" ["script", "state", "many"] phi_lwords) {fd : FuncData} (FD : FunD K "_law_sides" "_law_sides" (defArgs s_lsides) (defBody s_lsides) (defScope s_lsides) [] [] (He.ga K "_law_sides") fd) (hm : mg "_law_sides" = some (.ref (He.ga K "_law_sides"))) : FnN P w K mg base (3 + 1) "_law_sides" ["script", "state", "most", "cells"] phi_lsides := by
  have hN0 : (["script", "state", "most", "cells", "left", "sizes", "k", "size", "names"] : List Str).Nodup := by decide +kernel
  refine fnn (st := s_lsides) (N := ["script", "state", "most", "cells", "left", "sizes", "k", "size", "names"]) (m := m_lsides) (k := 3) FD sc_lsides hm (fun _ _ _ _ _ _ us hl => match us, hl with | [_, _, _, _], _ => rfl) fun cdv A outer s H E hr hG0 => ?_
  have hu : (A.deeper (envOfC "_law_sides" (defScope s_lsides) s.heap.objs.size (He.ga K "_law_sides") cdv)).units + 66 < cLine := by have := hr.un; omega
  have hG : (A.deeper (envOfC "_law_sides" (defScope s_lsides) s.heap.objs.size (He.ga K "_law_sides") cdv)).guards = some [] := hG0
  exact (sm_cons (sm_set 4 hN0 (em_var 3)) (sm_cons (sm_set 5 hN0 (em_lst am_nil)) (sm_cons (sm_for PassesOwn.leaving rfl (im_range1 (z 9 _ rfl) (am_cons (em_callN h_ldraw (hr.mono (by decide)) hG (takes_of rfl rfl rfl rfl) (am_cons (em_var 0) (am_cons (em_var 1) (am_cons (em_add (em_var 2) em_int) am_nil)))) am_nil)) (gm_name 6 hN0) (sm_cons (sm_set 7 hN0 (em_add em_int (em_callN h_ldraw (hr.mono (by decide)) hG (takes_of rfl rfl rfl rfl) (am_cons (em_var 0) (am_cons (em_var 1) (am_cons (em_callB (call_min2 rfl) f_min2 (z 14 _ rfl) (am_cons em_int (am_cons (em_var 4) am_nil))) am_nil)))))) (sm_cons (sm_expr (em_append (em_var 5) (am_cons (em_var 7) am_nil))) (sm_one (sm_set 4 hN0 (em_div (em_var 4) (em_var 7))))))) (sm_cons (sm_set 8 hN0 (em_callN h_lwords (hr.mono (by decide)) hG (takes_of rfl rfl rfl rfl) (am_cons (em_var 0) (am_cons (em_var 1) (am_cons (em_callB (call_lenM rfl) f_len (z 6 _ rfl) (am_cons (em_var 5) am_nil)) am_nil))))) (sm_one (sm_ret (em_lc [("k", 6)] rfl hN0 (im_range1 (z 9 _ rfl) (am_cons (em_callB (call_lenM rfl) f_len (z 6 _ rfl) (am_cons (em_var 5) am_nil)) am_nil)) (blkOk_by rfl) (fun _ _ _ _ _ => (gc_name 6 hN0)) (fun _ _ _ _ _ => sm_yes) (fun _ _ _ _ _ => (em_tup (am_cons (em_ix (em_var 8) (em_var 6)) (am_cons (em_ix (em_var 5) (em_var 6)) am_nil)))))))))))
def b_ldue_1 : MS := (seqS (exprS (mMeth isL fAppend (mVar 4) (mCons (mOpA fLst (mCons (mOp2 fAdd (mVar 5) (mOpA fLst (mCons (mOpA fTup (mCons (mVar 9) (mCons (retM (.str "blocks")) (mCons (mOp2 fIx (mVar 3) (retM (.int 0))) mNil)))) mNil))) (mCons (mVar 6) mNil))) mNil))) (exprS (mMeth isL fAppend (mVar 4) (mCons (mOpA fLst (mCons (mOp2 fAdd (mVar 5) (mOpA fLst (mCons (mOpA fTup (mCons (mVar 9) (mCons (retM (.str "turns")) (mCons (mOp2 fIx (mVar 3) (retM (.int 0))) mNil)))) mNil))) (mCons (mVar 6) mNil))) mNil))))
def b_ldue_2 : MS := (seqS (exprS (mMeth isL fAppend (mVar 4) (mCons (mOpA fLst (mCons (mVar 5) (mCons (mVar 6) mNil))) mNil))) (seqS (exprS (mMeth isL fAppend (mVar 4) (mCons (mOpA fLst (mCons (mVar 5) (mCons (mOp2 fAdd (mVar 6) (mOpA fLst (mCons (mOp2 fIx (mVar 3) (retM (.int 0))) mNil))) mNil))) mNil))) (seqS (asgS (compM [8] (mSeq (mVar 5)) (nmT 8) yesM (mOp2 fIx (mVar 8) (retM (.int 0)))) (nmT 7)) (forS (mSeq (compM [10] (mSeq (mVar 0)) (nmT 10) (mTst (mOp2 (fInF true) (mOp2 fIx (mVar 10) (retM (.int 0))) (mVar 7))) (mOp2 fIx (mVar 10) (retM (.int 0))))) (nmT 9) b_ldue_1))))
def b_ldue_3 : MS := (seqS (asgS (mOpA fLst mNil) (nmT 4)) (seqS (forS (mSeq (mVar 2)) (tupT 2 (consT (nmT 5) (consT (nmT 6) nilT))) b_ldue_2) (asgS (mVar 4) (nmT 2))))
def m_ldue : MS := (seqS (asgS (mOpA fLst (mCons (mOpA fLst (mCons (mOpA fLst mNil) (mCons (mOpA fLst mNil) mNil))) mNil)) (nmT 2)) (seqS (forS (mSeq (mVar 1)) (nmT 3) b_ldue_3) (retS (mOpA fSorted (mCons (compM [10] (mSeq (mVar 2)) (nmT 10) yesM (mOpA fTup (mCons (mOpA fTuple (mCons (mOpA fSorted (mCons (mOp2 fIx (mVar 10) (retM (.int 0))) mNil)) mNil)) (mCons (mOpA fTuple (mCons (mOp2 fIx (mVar 10) (retM (.int 1))) mNil)) mNil)))) mNil)))))
def phi_ldue : FnD := fnM 2 11 m_ldue
abbrev s_ldue : Stmt := top 44
theorem sc_ldue : FnScope ["sides", "grid", "found", "direction", "longer", "cuts", "parts", "used", "cut", "side", "one"] ["sides", "grid"] (defScope s_ldue) := ⟨rfl, rfl, rfl, by decide +kernel, rfl, by decide +kernel, by decide +kernel⟩
theorem d_ldue (hF : Facts (GK K mg) tb) (hN : Named (GK K mg) tb) (hC : Catch (GK K mg) (catL askc.exms)) (hNF : ∀ x, NotF (GK K mg) x (nfL askc.nfs x)) (z : Z mg) (gl : Gs mg) (gi : Gi mg) (gt : Gt mg) {fd : FuncData} (FD : FunD K "_law_due" "_law_due" (defArgs s_ldue) (defBody s_ldue) (defScope s_ldue) [] [] (He.ga K "_law_due") fd) (hm : mg "_law_due" = some (.ref (He.ga K "_law_due"))) : FnN P w K mg base (0 + 1) "_law_due" ["sides", "grid"] phi_ldue := by
  have hN0 : (["sides", "grid", "found", "direction", "longer", "cuts", "parts", "used", "cut", "side", "one"] : List Str).Nodup := by decide +kernel
  refine fnn (st := s_ldue) (N := ["sides", "grid", "found", "direction", "longer", "cuts", "parts", "used", "cut", "side", "one"]) (m := m_ldue) (k := 0) FD sc_ldue hm (fun _ _ _ _ _ _ us hl => match us, hl with | [_, _], _ => rfl) fun cdv A outer s H E hr hG0 => ?_
  have hu : (A.deeper (envOfC "_law_due" (defScope s_ldue) s.heap.objs.size (He.ga K "_law_due") cdv)).units + 66 < cLine := by have := hr.un; omega
  have hG : (A.deeper (envOfC "_law_due" (defScope s_ldue) s.heap.objs.size (He.ga K "_law_due") cdv)).guards = some [] := hG0
  exact (sm_cons (sm_set 2 hN0 (em_lst (am_cons (em_lst (am_cons (em_lst am_nil) (am_cons (em_lst am_nil) am_nil))) am_nil))) (sm_cons (sm_for PassesOwn.leaving rfl (im_seq (em_var 1)) (gm_name 3 hN0) (sm_cons (sm_set 4 hN0 (em_lst am_nil)) (sm_cons (sm_for PassesOwn.leaving rfl (im_seq (em_var 2)) (gm_tup rfl (gms_cons (gm_name 5 hN0) (gms_cons (gm_name 6 hN0) gms_nil))) (sm_cons (sm_expr (em_append (em_var 4) (am_cons (em_lst (am_cons (em_var 5) (am_cons (em_var 6) am_nil))) am_nil))) (sm_cons (sm_expr (em_append (em_var 4) (am_cons (em_lst (am_cons (em_var 5) (am_cons (em_add (em_var 6) (em_lst (am_cons (em_ix (em_var 3) em_int) am_nil))) am_nil))) am_nil))) (sm_cons (sm_set 7 hN0 (em_lc [("cut", 8)] rfl hN0 (im_seq (em_var 5)) (blkOk_by rfl) (fun _ _ _ _ _ => (gc_name 8 hN0)) (fun _ _ _ _ _ => sm_yes) (fun _ _ _ _ _ => (em_ix (em_var 8) em_int)))) (sm_one (sm_for PassesOwn.leaving rfl (im_seq (em_lc [("one", 10)] rfl hN0 (im_seq (em_var 0)) (blkOk_by rfl) (fun _ _ _ _ _ => (gc_name 10 hN0)) (fun _ _ _ _ _ => (sm_one_if (tm_cmp (op_ninF rfl) f_inF (em_ix (em_var 10) em_int) (em_var 7) rfl))) (fun _ _ _ _ _ => (em_ix (em_var 10) em_int)))) (gm_name 9 hN0) (sm_cons (sm_expr (em_append (em_var 4) (am_cons (em_lst (am_cons (em_add (em_var 5) (em_lst (am_cons (em_tup (am_cons (em_var 9) (am_cons em_str (am_cons (em_ix (em_var 3) em_int) am_nil)))) am_nil))) (am_cons (em_var 6) am_nil))) am_nil))) (sm_one (sm_expr (em_append (em_var 4) (am_cons (em_lst (am_cons (em_add (em_var 5) (em_lst (am_cons (em_tup (am_cons (em_var 9) (am_cons em_str (am_cons (em_ix (em_var 3) em_int) am_nil)))) am_nil))) (am_cons (em_var 6) am_nil))) am_nil))))))))))) (sm_one (sm_set 2 hN0 (em_var 4)))))) (sm_one (sm_ret (em_callB (call_sortedM rfl hu) f_sorted (z 12 _ rfl) (am_cons (em_lc [("one", 10)] rfl hN0 (im_seq (em_var 2)) (blkOk_by rfl) (fun _ _ _ _ _ => (gc_name 10 hN0)) (fun _ _ _ _ _ => sm_yes) (fun _ _ _ _ _ => (em_tup (am_cons (em_callTy (call_tupleM rfl) f_tuple (z 3 _ rfl) (am_cons (em_callB (call_sortedM rfl hu) f_sorted (z 12 _ rfl) (am_cons (em_ix (em_var 10) em_int) am_nil)) am_nil)) (am_cons (em_callTy (call_tupleM rfl) f_tuple (z 3 _ rfl) (am_cons (em_ix (em_var 10) em_int) am_nil)) am_nil))))) am_nil))))))
def b_lshown_1 : MS := (ifS (mNot (mTst (mOpA (fIsiA tb) (mCons (mVar 6) (mCons (retM (.glo "Dealing")) mNil))))) (retS (retM (.bl false))) nxS)
def b_lshown_2 : MS := (seqS (asgS (mCall phi_ldraw (mCons (mVar 0) (mCons (mVar 1) (mCons (mOpA fLen (mCons (mVar 3) mNil)) mNil)))) (nmT 8)) (seqS (ifS (mNot (mTst (mCall (phi_lsame 6) (mCons (mOpA fTup (mCons (mOp1 (fFld tb "cuts") (mOp2 fIx (mVar 2) (mVar 8))) (mCons (mOp1 (fFld tb "parts") (mOp2 fIx (mVar 2) (mVar 8))) mNil))) (mCons (mOp2 fIx (mVar 3) (mVar 8)) mNil))))) (retS (retM (.bl false))) nxS) (ifS (mOr (mNot (mTst (mCall (phi_lsame 6) (mCons (mCall phi_fits (mCons (mOp2 fIx (mVar 2) (mVar 8)) (mCons (mVar 4) (mCons (mVar 5) mNil)))) (mCons (retM (.bl true)) mNil))))) (mNot (mTst (mCall (phi_lsame 6) (mCons (mOp2 (altF (fOwn tb "Dealing" phi_Dealing_eq (nfL askc.nfs "Dealing") id) fEq) (mOp2 fIx (mVar 2) (mVar 8)) (mCall (makeF "Dealing" phi_Dealing_init) (mCons (mOp2 fIx (mOp2 fIx (mVar 3) (mVar 8)) (retM (.int 0))) (mCons (mOp2 fIx (mOp2 fIx (mVar 3) (mVar 8)) (retM (.int 1))) mNil)))) (mCons (retM (.bl true)) mNil)))))) (retS (retM (.bl false))) nxS)))
def m_lshown : MS := (seqS (ifS (mOr (mNot (mTst (mOpA (fIsiA tb) (mCons (mVar 2) (mCons (retM (.ty "tuple")) mNil))))) (mTst (mOp2 fNe (mOpA fLen (mCons (mVar 2) mNil)) (mOpA fLen (mCons (mVar 3) mNil))))) (retS (retM (.bl false))) nxS) (seqS (forS (mSeq (mVar 2)) (nmT 6) b_lshown_1) (seqS (ifS (mTst (mOp2 fNe (compM [6] (mSeq (mVar 2)) (nmT 6) yesM (mOpA fTup (mCons (mOp1 (fFld tb "cuts") (mVar 6)) (mCons (mOp1 (fFld tb "parts") (mVar 6)) mNil)))) (mVar 3))) (retS (retM (.bl false))) nxS) (seqS (forS (mRng1 (mCons (retM (.int 5)) mNil)) (nmT 7) b_lshown_2) (retS (retM (.bl true)))))))
def phi_lshown : FnD := fnM 6 9 m_lshown
abbrev s_lshown : Stmt := top 45
theorem sc_lshown : FnScope ["script", "state", "told", "due", "sides", "grid", "one", "k", "at"] ["script", "state", "told", "due", "sides", "grid"] (defScope s_lshown) := ⟨rfl, rfl, rfl, by decide +kernel, rfl, by decide +kernel, by decide +kernel⟩
theorem d_lshown (hF : Facts (GK K mg) tb) (hN : Named (GK K mg) tb) (hC : Catch (GK K mg) (catL askc.exms)) (hNF : ∀ x, NotF (GK K mg) x (nfL askc.nfs x)) (z : Z mg) (gl : Gs mg) (gi : Gi mg) (gt : Gt mg) (h_ldraw : FnN P w K mg base 1 "_law_draw" ["script", "state", "many"] phi_ldraw) (h_lsame : FnN P w K mg base 6 "_law_same" ["actual", "due"] (phi_lsame 6)) (h_fits : FnN P w K mg base 1 "fits" ["dealing", "sides", "grid"] phi_fits) (q_Dealing : EqN P w K mg base 1 "Dealing" ["self", "other"] phi_Dealing_eq) (k_Dealing : MkN P w K mg base 4 "Dealing" ["self", "cuts", "parts"] phi_Dealing_init) {fd : FuncData} (FD : FunD K "_law_shown" "_law_shown" (defArgs s_lshown) (defBody s_lshown) (defScope s_lshown) [] [] (He.ga K "_law_shown") fd) (hm : mg "_law_shown" = some (.ref (He.ga K "_law_shown"))) : FnN P w K mg base (6 + 1) "_law_shown" ["script", "state", "told", "due", "sides", "grid"] phi_lshown := by
  have hN0 : (["script", "state", "told", "due", "sides", "grid", "one", "k", "at"] : List Str).Nodup := by decide +kernel
  refine fnn (st := s_lshown) (N := ["script", "state", "told", "due", "sides", "grid", "one", "k", "at"]) (m := m_lshown) (k := 6) FD sc_lshown hm (fun _ _ _ _ _ _ us hl => match us, hl with | [_, _, _, _, _, _], _ => rfl) fun cdv A outer s H E hr hG0 => ?_
  have hu : (A.deeper (envOfC "_law_shown" (defScope s_lshown) s.heap.objs.size (He.ga K "_law_shown") cdv)).units + 66 < cLine := by have := hr.un; omega
  have hG : (A.deeper (envOfC "_law_shown" (defScope s_lshown) s.heap.objs.size (He.ga K "_law_shown") cdv)).guards = some [] := hG0
  exact (sm_cons (sm_if (L2.PW.pt (wm_or (tm_not (tm_val (em_callB (call_isiB rfl) (f_isiB hF hN) (z 1 _ rfl) (am_cons (em_var 2) (am_cons (em_ty (z 3 _ rfl)) am_nil))))) (wm_or1 (tm_cmp (op_neN rfl hu) f_ne (em_callB (call_lenM rfl) f_len (z 6 _ rfl) (am_cons (em_var 2) am_nil)) (em_callB (call_lenM rfl) f_len (z 6 _ rfl) (am_cons (em_var 3) am_nil)) rfl)))) (sm_one (sm_ret em_bl)) sm_nil) (sm_cons (sm_for PassesOwn.leaving rfl (im_seq (em_var 2)) (gm_name 6 hN0) (sm_one (sm_if (tm_not (tm_val (em_callB (call_isiB rfl) (f_isiB hF hN) (z 1 _ rfl) (am_cons (em_var 6) (am_cons (em_globE (gl 1 _ rfl)) am_nil))))) (sm_one (sm_ret em_bl)) sm_nil))) (sm_cons (sm_if (tm_cmp (op_neN rfl hu) f_ne (em_lc [("one", 6)] rfl hN0 (im_seq (em_var 2)) (blkOk_by rfl) (fun _ _ _ _ _ => (gc_name 6 hN0)) (fun _ _ _ _ _ => sm_yes) (fun _ _ _ _ _ => (em_tup (am_cons (em_fld hF (em_var 6)) (am_cons (em_fld hF (em_var 6)) am_nil))))) (em_var 3) rfl) (sm_one (sm_ret em_bl)) sm_nil) (sm_cons (sm_for PassesOwn.leaving rfl (im_range1 (z 9 _ rfl) (am_cons em_int am_nil)) (gm_name 7 hN0) (sm_cons (sm_set 8 hN0 (em_callN h_ldraw (hr.mono (by decide)) hG (takes_of rfl rfl rfl rfl) (am_cons (em_var 0) (am_cons (em_var 1) (am_cons (em_callB (call_lenM rfl) f_len (z 6 _ rfl) (am_cons (em_var 3) am_nil)) am_nil))))) (sm_cons (sm_if (tm_not (tm_val (em_callN h_lsame (hr.mono (by decide)) hG (takes_of rfl rfl rfl rfl) (am_cons (em_tup (am_cons (em_fld hF (em_ix (em_var 2) (em_var 8))) (am_cons (em_fld hF (em_ix (em_var 2) (em_var 8))) am_nil))) (am_cons (em_ix (em_var 3) (em_var 8)) am_nil))))) (sm_one (sm_ret em_bl)) sm_nil) (sm_one (sm_if (L2.PW.pt (wm_or (tm_not (tm_val (em_callN h_lsame (hr.mono (by decide)) hG (takes_of rfl rfl rfl rfl) (am_cons (em_callN h_fits (hr.mono (by decide)) hG (takes_of rfl rfl rfl rfl) (am_cons (em_ix (em_var 2) (em_var 8)) (am_cons (em_var 4) (am_cons (em_var 5) am_nil)))) (am_cons em_bl am_nil))))) (wm_or1 (tm_not (tm_val (em_callN h_lsame (hr.mono (by decide)) hG (takes_of rfl rfl rfl rfl) (am_cons (em_eqN q_Dealing hF (hNF "Dealing") (hr.mono (by decide)) hG (em_ix (em_var 2) (em_var 8)) (em_makeN k_Dealing (hr.mono (by decide)) hG (takes_of rfl rfl rfl rfl) (am_cons (em_ix (em_ix (em_var 3) (em_var 8)) em_int) (am_cons (em_ix (em_ix (em_var 3) (em_var 8)) em_int) am_nil))) rfl) (am_cons em_bl am_nil)))))))) (sm_one (sm_ret em_bl)) sm_nil))))) (sm_one (sm_ret em_bl))))))
def m_law : MS := (seqS (asgS (mCall phi_lstate (mCons (mVar 0) mNil)) (nmT 1)) (seqS (asgS (mOp2 fAdd (retM (.int 1)) (mCall phi_ldraw (mCons (mVar 0) (mCons (mVar 1) (mCons (retM (.int 3)) mNil))))) (nmT 2)) (seqS (asgS (mCall phi_lgrid (mCons (mVar 0) (mCons (mVar 1) (mCons (retM (.int 8)) (mCons (mVar 2) mNil))))) (nmT 3)) (seqS (asgS (mSl (mCall phi_lsides (mCons (mVar 0) (mCons (mVar 1) (mCons (mOp2 fAdd (mOp2 fSub (retM (.int 5)) (mVar 2)) (mCall phi_ldraw (mCons (mVar 0) (mCons (mVar 1) (mCons (retM (.int 2)) mNil))))) (mCons (retM (.int 200)) mNil))))) mNoPart (mPart (retM (.int 4)))) (nmT 4)) (seqS (ifS (mTst (mOp2 fEq (mCall phi_ldraw (mCons (mVar 0) (mCons (mVar 1) (mCons (retM (.int 4)) mNil)))) (retM (.int 0)))) (seqS (asgS (mOpA fSorted (mCons (compM [6] (mSeq (mVar 3)) (nmT 6) yesM (mOp2 fIx (mVar 6) (retM (.int 0)))) mNil)) (nmT 5)) (asgS (compM [7] (mRng1 (mCons (mOpA fMin2 (mCons (mOpA fLen (mCons (mVar 5) mNil)) (mCons (mOpA fLen (mCons (mVar 4) mNil)) mNil))) mNil)) (nmT 7) yesM (mOpA fTup (mCons (mOp2 fIx (mVar 5) (mVar 7)) (mCons (mOp2 fIx (mOp2 fIx (mVar 4) (mVar 7)) (retM (.int 1))) mNil)))) (nmT 4))) nxS) (seqS (asgS (mCall phi_ldue (mCons (mVar 4) (mCons (mVar 3) mNil))) (nmT 8)) (seqS (asgS (mOpA fList (mCons (mVar 4) mNil)) (nmT 9)) (seqS (ifS (mOr (mNot (mTst (mCall phi_lshown (mCons (mVar 0) (mCons (mVar 1) (mCons (mCall phi_dealings (mCons (mVar 9) (mCons (mCall (makeF "Grid" phi_Grid_init) (mCons (mVar 3) mNil)) mNil))) (mCons (mVar 8) (mCons (mVar 4) (mCons (mCall (makeF "Grid" phi_Grid_init) (mCons (mVar 3) mNil)) mNil))))))))) (mTst (mOp2 fNe (mVar 9) (mVar 4)))) (retS (retM (.bl false))) nxS) (seqS (exprS (mMeth isL fAppend (mVar 9) (mCons (mOpA fTup (mCons (retM (.str "zz")) (mCons (retM (.int 2)) mNil))) mNil))) (seqS (asgS (mCall phi_lgrid (mCons (mVar 0) (mCons (mVar 1) (mCons (retM (.int 4)) (mCons (retM (.int 1)) mNil))))) (nmT 10)) (seqS (asgS (mSl (mVar 4) (mPart (retM (.int 1))) mNoPart) (nmT 11)) (seqS (ifS (mNot (mTst (mCall phi_lshown (mCons (mVar 0) (mCons (mVar 1) (mCons (mCall phi_dealings (mCons (mVar 11) (mCons (mCall (makeF "Grid" phi_Grid_init) (mCons (mVar 10) mNil)) mNil))) (mCons (mCall phi_ldue (mCons (mVar 11) (mCons (mVar 10) mNil))) (mCons (mVar 11) (mCons (mCall (makeF "Grid" phi_Grid_init) (mCons (mVar 10) mNil)) mNil))))))))) (retS (retM (.bl false))) nxS) (retS (mCall phi_lshown (mCons (mVar 0) (mCons (mVar 1) (mCons (mCall phi_dealings (mCons (mOpA fTuple (mCons (mVar 4) mNil)) (mCons (mCall (makeF "Grid" phi_Grid_init) (mCons (mVar 3) mNil)) mNil))) (mCons (mVar 8) (mCons (mVar 4) (mCons (mCall (makeF "Grid" phi_Grid_init) (mCons (mVar 3) mNil)) mNil))))))))))))))))))))
def phi_law : FnD := fnM 1 12 m_law
abbrev s_law : Stmt := top 46
theorem sc_law : FnScope ["script", "state", "ways", "grid", "sides", "named", "direction", "k", "first", "passed", "other", "near"] ["script"] (defScope s_law) := ⟨rfl, rfl, rfl, by decide +kernel, rfl, by decide +kernel, by decide +kernel⟩
theorem d_law (hF : Facts (GK K mg) tb) (hN : Named (GK K mg) tb) (hC : Catch (GK K mg) (catL askc.exms)) (hNF : ∀ x, NotF (GK K mg) x (nfL askc.nfs x)) (z : Z mg) (gl : Gs mg) (gi : Gi mg) (gt : Gt mg) (h_lstate : FnN P w K mg base 1 "_law_state" ["script"] phi_lstate) (h_ldraw : FnN P w K mg base 1 "_law_draw" ["script", "state", "many"] phi_ldraw) (h_lgrid : FnN P w K mg base 4 "_law_grid" ["script", "state", "most", "ways"] phi_lgrid) (h_lsides : FnN P w K mg base 4 "_law_sides" ["script", "state", "most", "cells"] phi_lsides) (h_ldue : FnN P w K mg base 1 "_law_due" ["sides", "grid"] phi_ldue) (k_Grid : MkN P w K mg base 5 "Grid" ["self", "directions"] phi_Grid_init) (h_dealings : FnN P w K mg base 6 "dealings" ["sides", "grid"] phi_dealings) (h_lshown : FnN P w K mg base 7 "_law_shown" ["script", "state", "told", "due", "sides", "grid"] phi_lshown) (w_dealings : FnK P w K mg base 6 "dealings" ["sides", "grid"] phi_dealings) {fd : FuncData} (FD : FunD K "law" "law" (defArgs s_law) (defBody s_law) (defScope s_law) [] [] (He.ga K "law") fd) (hm : mg "law" = some (.ref (He.ga K "law"))) : FnG P w K mg base (7 + 1) (He.ga K "law") fd ["script"] phi_law := by
  have hN0 : (["script", "state", "ways", "grid", "sides", "named", "direction", "k", "first", "passed", "other", "near"] : List Str).Nodup := by decide +kernel
  refine fng_of (st := s_law) (N := ["script", "state", "ways", "grid", "sides", "named", "direction", "k", "first", "passed", "other", "near"]) (m := m_law) (k := 7) (He5.fun_of FD) sc_law fun cdv A outer s H E hr hG0 => ?_
  have hu : (A.deeper (envOfC "law" (defScope s_law) s.heap.objs.size (He.ga K "law") cdv)).units + 66 < cLine := by have := hr.un; omega
  have hG : (A.deeper (envOfC "law" (defScope s_law) s.heap.objs.size (He.ga K "law") cdv)).guards = some [] := hG0
  exact (sm_cons (sm_set 1 hN0 (em_callN h_lstate (hr.mono (by decide)) hG (takes_of rfl rfl rfl rfl) (am_cons (em_var 0) am_nil))) (sm_cons (sm_set 2 hN0 (em_add em_int (em_callN h_ldraw (hr.mono (by decide)) hG (takes_of rfl rfl rfl rfl) (am_cons (em_var 0) (am_cons (em_var 1) (am_cons em_int am_nil)))))) (sm_cons (sm_set 3 hN0 (em_callN h_lgrid (hr.mono (by decide)) hG (takes_of rfl rfl rfl rfl) (am_cons (em_var 0) (am_cons (em_var 1) (am_cons em_int (am_cons (em_var 2) am_nil)))))) (sm_cons (sm_set 4 hN0 (em_slice (em_callN h_lsides (hr.mono (by decide)) hG (takes_of rfl rfl rfl rfl) (am_cons (em_var 0) (am_cons (em_var 1) (am_cons (em_add (em_sub em_int (em_var 2)) (em_callN h_ldraw (hr.mono (by decide)) hG (takes_of rfl rfl rfl rfl) (am_cons (em_var 0) (am_cons (em_var 1) (am_cons em_int am_nil))))) (am_cons em_int am_nil))))) om_none (om_some em_int))) (sm_cons (sm_if (tm_cmp (op_eqN rfl hu) f_eq (em_callN h_ldraw (hr.mono (by decide)) hG (takes_of rfl rfl rfl rfl) (am_cons (em_var 0) (am_cons (em_var 1) (am_cons em_int am_nil)))) em_int rfl) (sm_cons (sm_set 5 hN0 (em_callB (call_sortedM rfl hu) f_sorted (z 12 _ rfl) (am_cons (em_lc [("direction", 6)] rfl hN0 (im_seq (em_var 3)) (blkOk_by rfl) (fun _ _ _ _ _ => (gc_name 6 hN0)) (fun _ _ _ _ _ => sm_yes) (fun _ _ _ _ _ => (em_ix (em_var 6) em_int))) am_nil))) (sm_one (sm_set 4 hN0 (em_lc [("k", 7)] rfl hN0 (im_range1 (z 9 _ rfl) (am_cons (em_callB (call_min2 rfl) f_min2 (z 14 _ rfl) (am_cons (em_callB (call_lenM rfl) f_len (z 6 _ rfl) (am_cons (em_var 5) am_nil)) (am_cons (em_callB (call_lenM rfl) f_len (z 6 _ rfl) (am_cons (em_var 4) am_nil)) am_nil))) am_nil)) (blkOk_by rfl) (fun _ _ _ _ _ => (gc_name 7 hN0)) (fun _ _ _ _ _ => sm_yes) (fun _ _ _ _ _ => (em_tup (am_cons (em_ix (em_var 5) (em_var 7)) (am_cons (em_ix (em_ix (em_var 4) (em_var 7)) em_int) am_nil)))))))) sm_nil) (sm_cons (sm_set 8 hN0 (em_callN h_ldue (hr.mono (by decide)) hG (takes_of rfl rfl rfl rfl) (am_cons (em_var 4) (am_cons (em_var 3) am_nil)))) (sm_cons (sm_set 9 hN0 (em_callTy (call_listM rfl) f_list (z 4 _ rfl) (am_cons (em_var 4) am_nil))) (sm_cons (sm_if (L2.PW.pt (wm_or (tm_not (tm_val (em_callN h_lshown (hr.mono (by decide)) hG (takes_of rfl rfl rfl rfl) (am_cons (em_var 0) (am_cons (em_var 1) (am_cons (em_callN h_dealings (hr.mono (by decide)) hG (takes_of rfl rfl rfl rfl) (am_cons (em_var 9) (am_cons (em_makeN k_Grid (hr.mono (by decide)) hG (takes_of rfl rfl rfl rfl) (am_cons (em_var 3) am_nil)) am_nil))) (am_cons (em_var 8) (am_cons (em_var 4) (am_cons (em_makeN k_Grid (hr.mono (by decide)) hG (takes_of rfl rfl rfl rfl) (am_cons (em_var 3) am_nil)) am_nil))))))))) (wm_or1 (tm_cmp (op_neN rfl hu) f_ne (em_var 9) (em_var 4) rfl)))) (sm_one (sm_ret em_bl)) sm_nil) (sm_cons (sm_expr (em_append (em_var 9) (am_cons (em_tup (am_cons em_str (am_cons em_int am_nil))) am_nil))) (sm_cons (sm_set 10 hN0 (em_callN h_lgrid (hr.mono (by decide)) hG (takes_of rfl rfl rfl rfl) (am_cons (em_var 0) (am_cons (em_var 1) (am_cons em_int (am_cons em_int am_nil)))))) (sm_cons (sm_set 11 hN0 (em_slice (em_var 4) (om_some em_int) om_none)) (sm_cons (sm_if (tm_not (tm_val (em_callN h_lshown (hr.mono (by decide)) hG (takes_of rfl rfl rfl rfl) (am_cons (em_var 0) (am_cons (em_var 1) (am_cons (em_callN h_dealings (hr.mono (by decide)) hG (takes_of rfl rfl rfl rfl) (am_cons (em_var 11) (am_cons (em_makeN k_Grid (hr.mono (by decide)) hG (takes_of rfl rfl rfl rfl) (am_cons (em_var 10) am_nil)) am_nil))) (am_cons (em_callN h_ldue (hr.mono (by decide)) hG (takes_of rfl rfl rfl rfl) (am_cons (em_var 11) (am_cons (em_var 10) am_nil))) (am_cons (em_var 11) (am_cons (em_makeN k_Grid (hr.mono (by decide)) hG (takes_of rfl rfl rfl rfl) (am_cons (em_var 10) am_nil)) am_nil))))))))) (sm_one (sm_ret em_bl)) sm_nil) (sm_one (sm_ret (em_callN h_lshown (hr.mono (by decide)) hG (takes_of rfl rfl rfl rfl) (am_cons (em_var 0) (am_cons (em_var 1) (am_cons (em_callKN w_dealings (hr.mono (by decide)) hG (takes_of rfl rfl rfl rfl) (km_cons (em_callTy (call_tupleM rfl) f_tuple (z 3 _ rfl) (am_cons (em_var 4) am_nil)) (km_cons (em_makeN k_Grid (hr.mono (by decide)) hG (takes_of rfl rfl rfl rfl) (am_cons (em_var 3) am_nil)) km_nil))) (am_cons (em_var 8) (am_cons (em_var 4) (am_cons (em_makeN k_Grid (hr.mono (by decide)) hG (takes_of rfl rfl rfl rfl) (am_cons (em_var 3) am_nil)) am_nil)))))))))))))))))))))
end
end K26

set_option Elab.async false
set_option linter.all false
set_option maxRecDepth 100000
set_option maxHeartbeats 1000000
namespace K26
open PySem PySem.Spec PyProof.Rows L2 DD PB
theorem fAdd_refs {n m : Nat} {xs ys : List D} {T : So} (h1 : T[n]? = some (.lst xs)) (h2 : T[m]? = some (.lst ys)) (h3 : xs.length + ys.length ≤ 1000) : fAdd (.ref n) (.ref m) T = some (.ref T.length, T ++ [.lst (xs ++ ys)]) := by
  unfold fAdd
  dsimp only
  rw [h1, h2]
  dsimp only
  rw [if_pos (by have := line200k; omega)]
/-- longer.append([cuts + [(side, kind, direction[0])], parts]) -/
theorem app_cut {e : Sl} {T : So} {f c p : Nat} {ys : List D} {rs : List Rw} {r : Rw} {s dir : Str} {z : Nat} {k : Str} {P : Fl → Sl → So → Prop} (h4 : e[4]? = some (.v (.ref f))) (h5 : e[5]? = some (.v (.ref c))) (h6 : e[6]? = some (.v (.ref p))) (h9 : e[9]? = some (.v (.str s))) (h3 : e[3]? = some (.v (prD (dir, z))))
    (hf : T[f]? = some (.lst ys)) (hc : T[c]? = some (.lst (r.1.map PB.cutD))) (hp : T[p]? = some (.lst (r.2.map .str))) (hpf : p ≠ f) (hE : Ents f T ys rs) (hl : r.1.length ≤ 6) (hy : ys.length ≤ 50000)
    (hP : ∀ U ys', Kx f T U → U[f]? = some (.lst ys') → Ents f U ys' (rs ++ [(r.1 ++ [(s, k, dir)], r.2)]) → P .nx e U) :
    okS (exprS (mMeth isL fAppend (mVar 4) (mCons (mOpA fLst (mCons (mOp2 fAdd (mVar 5) (mOpA fLst (mCons (mOpA fTup (mCons (mVar 9) (mCons (retM (.str k)) (mCons (mOp2 fIx (mVar 3) (retM (.int 0))) mNil)))) mNil))) (mCons (mVar 6) mNil))) mNil))) e T P := by
  refine okS_expr ?_
  have hlt := (List.getElem?_eq_some_iff.mp hf).1
  simp only [okM_meth, okM_opA, okM_op2, okM_cons, okM_var, okM_ret, okM_nil]
  refine ⟨_, h4, isL_ref hf, _, h5, _, h9, _, h3, ?_⟩
  rw [show fIx (prD (dir, z)) (.int 0) T = some (.str dir, T) from rfl, okF_some, fTup_ok (by simp), okF_some, fLst_ok (by simp), okF_some]
  have a1 := Keep.app T (.lst [D.tup [.str s, .str k, .str dir]])
  rw [fAdd_refs (a1 _ _ hc) get_new (by simp; omega), okF_some]
  have a2 := a1.trans (Keep.app (T ++ [O.lst [D.tup [.str s, .str k, .str dir]]]) (.lst (r.1.map PB.cutD ++ [D.tup [.str s, .str k, .str dir]])))
  refine ⟨_, h6, ?_⟩
  rw [fLst_ok (by simp), okF_some]
  have a3 := a2.trans (Keep.app _ (O.lst [D.ref (T ++ [O.lst [D.tup [.str s, .str k, .str dir]]]).length, .ref p]))
  rw [fAppend_ref (a3 _ _ hf) (by have := line200k; omega), okF_some]
  have kx := kx_append (y := D.ref ((T ++ [O.lst [D.tup [.str s, .str k, .str dir]]]) ++ [O.lst (r.1.map PB.cutD ++ [D.tup [.str s, .str k, .str dir]])]).length) (ys := ys) (Keep.kx (n := f) a3)
  refine hP _ _ kx (st_at (a3 _ _ hf)) ((hE.kx kx).snoc ⟨_, T.length + 1, p, rfl, by simp; omega, by omega, hpf, ?_, ?_, ?_⟩)
  · rw [List.getElem?_set_ne (by simp; omega), get_new]
    simp
  · rw [List.getElem?_set_ne (by omega)]
    have e1 : ((T ++ [O.lst [D.tup [.str s, .str k, .str dir]]]) ++ [.lst (r.1.map PB.cutD ++ [D.tup [.str s, .str k, .str dir]])])[T.length + 1]? = some (.lst (r.1.map PB.cutD ++ [D.tup [.str s, .str k, .str dir]])) := by
      have := get_new (S := T ++ [O.lst [D.tup [.str s, .str k, .str dir]]]) (o := .lst (r.1.map PB.cutD ++ [D.tup [.str s, .str k, .str dir]]))
      simpa using this
    rw [get_app e1]
    simp [PB.cutD]
  · exact kx.get _ _ hpf hp
end K26

set_option Elab.async false
set_option linter.all false
set_option maxRecDepth 100000
set_option maxHeartbeats 1000000
namespace K26
open PySem PySem.Spec PyProof.Rows L2 DD PB
/-- one row's turn in the law's reckoning -/
theorem row_turn {T : So} {sn f c p z : Nat} {d1 d2 : D} {s7 s8 s9 s10 : Sv} {ys : List D} {rs : List Rw} {r : Rw} {l : List (Str × Nat)} {dir : Str} {P : Fl → Sl → So → Prop} (hs : T[sn]? = some (.lst (l.map prD))) (hsf : sn ≠ f) (hf : T[f]? = some (.lst ys)) (hE : Ents f T ys rs)
    (hc : T[c]? = some (.lst (r.1.map PB.cutD))) (hp : T[p]? = some (.lst (r.2.map .str))) (hcf : c ≠ f) (hpf : p ≠ f) (hl : l.length ≤ 4) (h1 : r.1.length ≤ 6) (h2 : r.2.length ≤ 6) (hrs : rs.length ≤ 20000)
    (hP : ∀ U ys' s7 s9, Kx f T U → U[f]? = some (.lst ys') → Ents f U ys' (rs ++ stepU dir l r) → P .nx [.v (.ref sn), .v d1, .v d2, .v (prD (dir, z)), .v (.ref f), .v (.ref c), .v (.ref p), s7, s8, s9, s10] U) :
    okS b_ldue_2 [.v (.ref sn), .v d1, .v d2, .v (prD (dir, z)), .v (.ref f), .v (.ref c), .v (.ref p), s7, s8, s9, s10] T P := by
  have hlt := (List.getElem?_eq_some_iff.mp hf).1
  have ly := hE.1
  unfold b_ldue_2
  refine okS_seq (okS_expr ?_)
  simp only [okM_meth, okM_opA, okM_cons, okM_var, okM_nil]
  refine ⟨_, rfl, isL_ref hf, _, rfl, _, rfl, ?_⟩
  rw [fLst_ok (by simp), okF_some]
  have a1 := Keep.app T (.lst [D.ref c, D.ref p])
  rw [fAppend_ref (a1 _ _ hf) (by have := line200k; omega), okF_some]
  have k1 := kx_append (y := D.ref T.length) (ys := ys) (Keep.kx (n := f) a1)
  have f1 := st_at (o' := .lst (ys ++ [D.ref T.length])) (a1 _ _ hf)
  have E1 : Ents f ((T ++ [O.lst [D.ref c, D.ref p]]).set f (.lst (ys ++ [D.ref T.length]))) (ys ++ [D.ref T.length]) (rs ++ [(r.1, r.2)]) := (hE.kx k1).snoc ⟨_, c, p, rfl, by omega, hcf, hpf, by rw [List.getElem?_set_ne (by omega), get_new], k1.get _ _ hcf hc, k1.get _ _ hpf hp⟩
  generalize hT1 : (T ++ [O.lst [D.ref c, D.ref p]]).set f (.lst (ys ++ [D.ref T.length])) = T1 at k1 f1 E1 ⊢
  simp only [nxt_nx]
  have hc1 := k1.get _ _ hcf hc
  have hp1 := k1.get _ _ hpf hp
  have lt1 := (List.getElem?_eq_some_iff.mp f1).1
  refine okS_seq (okS_expr ?_)
  simp only [okM_meth, okM_opA, okM_op2, okM_cons, okM_var, okM_ret, okM_nil]
  refine ⟨_, rfl, isL_ref f1, _, rfl, _, rfl, _, rfl, ?_⟩
  rw [show fIx (prD (dir, z)) (.int 0) T1 = some (.str dir, T1) from rfl, okF_some, fLst_ok (by simp), okF_some]
  have b1 := Keep.app T1 (.lst [D.str dir])
  rw [fAdd_refs (b1 _ _ hp1) get_new (by simp; omega), okF_some, fLst_ok (by simp), okF_some]
  have b2 := b1.trans (Keep.app (T1 ++ [O.lst [D.str dir]]) (.lst (r.2.map .str ++ [D.str dir])))
  have b3 := b2.trans (Keep.app _ (O.lst [D.ref c, D.ref (T1 ++ [O.lst [D.str dir]]).length]))
  rw [fAppend_ref (b3 _ _ f1) (by have := line200k; simp; omega), okF_some]
  have k2 := kx_append (y := D.ref ((T1 ++ [O.lst [D.str dir]]) ++ [O.lst (r.2.map .str ++ [D.str dir])]).length) (ys := ys ++ [D.ref T.length]) (Keep.kx (n := f) b3)
  have f2 := st_at (o' := .lst ((ys ++ [D.ref T.length]) ++ [D.ref ((T1 ++ [O.lst [D.str dir]]) ++ [O.lst (r.2.map .str ++ [D.str dir])]).length])) (b3 _ _ f1)
  have E2 := (E1.kx k2).snoc (y := D.ref ((T1 ++ [O.lst [D.str dir]]) ++ [O.lst (r.2.map .str ++ [D.str dir])]).length) (r := (r.1, r.2 ++ [dir])) ⟨_, c, T1.length + 1, rfl, by simp; omega, hcf, by omega, by rw [List.getElem?_set_ne (by simp; omega), get_new]; simp, k2.get _ _ hcf hc1, by
    rw [List.getElem?_set_ne (by omega)]
    have e1 : ((T1 ++ [O.lst [D.str dir]]) ++ [O.lst (r.2.map .str ++ [D.str dir])])[T1.length + 1]? = some (.lst (r.2.map .str ++ [D.str dir])) := by
      have := get_new (S := T1 ++ [O.lst [D.str dir]]) (o := .lst (r.2.map .str ++ [D.str dir]))
      simpa using this
    rw [get_app e1]
    simp⟩
  generalize hT2 : (((T1 ++ [O.lst [D.str dir]]) ++ [O.lst (r.2.map .str ++ [D.str dir])]) ++ [O.lst [D.ref c, D.ref (T1 ++ [O.lst [D.str dir]]).length]]).set f (.lst ((ys ++ [D.ref T.length]) ++ [D.ref ((T1 ++ [O.lst [D.str dir]]) ++ [O.lst (r.2.map .str ++ [D.str dir])]).length])) = T2 at k2 f2 E2 ⊢
  generalize hy2 : (ys ++ [D.ref T.length]) ++ [D.ref ((T1 ++ [O.lst [D.str dir]]) ++ [O.lst (r.2.map .str ++ [D.str dir])]).length] = ys2 at f2 E2 ⊢
  simp only [nxt_nx]
  have kT2 := k1.trans k2
  have hc2 := kT2.get _ _ hcf hc
  have hp2 := kT2.get _ _ hpf hp
  have hs2 := kT2.get _ _ hsf hs
  refine okS_seq (okS_asg ?_)
  refine okM_mapA PB.cutD (fun c => .str c.1) (okM_var.mpr ⟨_, rfl, false, r.1, seqOf_ref hc2, by omega, fun c T hc hk => ⟨_, rfl, ?_⟩, fun T3 k3 hT3 => ?_⟩)
  · simp only [okM_op2, okM_var, okM_ret]
    refine ⟨_, rfl, ?_⟩
    rw [show fIx (PB.cutD c) (.int 0) T = some (.str c.1, T) from rfl, okF_some]
    exact ⟨Keep.refl _, rfl⟩
  have e3 : r.1.map (fun c => D.str c.1) = (r.1.map (·.1)).map .str := by rw [List.map_map]; rfl
  rw [e3] at hT3
  simp only [nxt_nx, List.set]
  refine okS_ref ?_
  refine okM_filterA prD (fun p => .str p.1) (fun p => !decide (p.1 ∈ r.1.map (·.1))) (okM_var.mpr ⟨_, rfl, false, l, seqOf_ref (k3 _ _ hs2), by omega, fun p T hpl hk => ⟨_, rfl, ?_⟩, fun T4 k4 hT4 => ?_⟩)
  · simp only [okM_tst, okM_op2, okM_var, okM_ret]
    refine ⟨_, rfl, ?_⟩
    rw [show fIx (prD p) (.int 0) T = some (.str p.1, T) from rfl, okF_some]
    refine ⟨_, rfl, ?_⟩
    rw [fInF_strs (hk _ _ hT3), okF_some, if_pos rfl]
    refine ⟨_, rfl, Keep.refl _, rfl, fun _ => ⟨_, rfl, ?_⟩⟩
    rw [show fIx (prD p) (.int 0) T = some (.str p.1, T) from rfl, okF_some]
    exact ⟨Keep.refl _, rfl⟩
  have e4 : ((l.filter fun p => !decide (p.1 ∈ r.1.map (·.1))).map fun p => D.str p.1) = (freeN r.1 l).map .str := by unfold freeN; rw [List.map_map]; rfl
  rw [e4] at hT4
  have k34 := k3.trans k4
  have fl := freeN_len r.1 l
  have lf : f ≠ T3.length := by have := (List.getElem?_eq_some_iff.mp (k3 _ _ f2)).1; omega
  let part : List Str → List Rw := fun ss => ss.flatMap fun s => (["blocks", "turns"] : List Str).map fun k => (r.1 ++ [(s, k, dir)], r.2)
  have partlen : ∀ ss : List Str, (part ss).length = 2 * ss.length := fun ss => by
    induction ss with
    | nil => rfl
    | cons x xs ih => show (List.flatMap _ (x :: xs)).length = _; rw [List.flatMap_cons, List.length_append]; have : (List.flatMap (fun s => (["blocks", "turns"] : List Str).map fun k => (r.1 ++ [(s, k, dir)], r.2)) xs).length = 2 * xs.length := ih; rw [this]; simp; omega
  refine ⟨T3.length, _, rfl, hT4, fun i e2 U => ∃ ys' s9, e2 = [.v (.ref sn), .v d1, .v d2, .v (prD (dir, z)), .v (.ref f), .v (.ref c), .v (.ref p), .v (.ref T2.length), s8, s9, s10] ∧ Kx f T4 U ∧ U[f]? = some (.lst ys') ∧ Ents f U ys' ((rs ++ [(r.1, r.2)]) ++ [(r.1, r.2 ++ [dir])] ++ part ((freeN r.1 l).take i)), ⟨ys2, s9, rfl, Kx.refl _ _, k34 _ _ f2, by simpa [part] using E2.kx (Keep.kx k34)⟩, ?_, ?_, ?_⟩
  · rintro i e2 U ⟨ys', s9, _, kU, _, _⟩
    exact kU.get _ _ (Ne.symm lf) hT4
  · rintro i e2 U x hx ⟨ys', s9, rfl, kU, hU, EU⟩
    rw [List.getElem?_map] at hx
    obtain ⟨s, hs', rfl⟩ := Option.map_eq_some_iff.mp hx
    refine ⟨_, rfl, ?_⟩
    have kTU := kT2.trans ((Keep.kx k34).trans kU)
    have ly' := EU.1
    have lp := partlen ((freeN r.1 l).take i)
    simp only [List.length_append, List.length_cons, List.length_nil, lp, List.length_take] at ly'
    unfold b_ldue_1
    refine okS_seq (app_cut (f := f) (c := c) (p := p) (s := s) (k := "blocks") (dir := dir) (z := z) rfl rfl rfl rfl rfl hU (kTU.get _ _ hcf hc) (kTU.get _ _ hpf hp) hpf EU h1 (by omega) fun V ys1 kV hV EV => ?_)
    simp only [nxt_nx]
    have kTV := kTU.trans kV
    have ly1 := EV.1
    simp only [List.length_append, List.length_cons, List.length_nil, lp, List.length_take] at ly1
    refine app_cut (f := f) (c := c) (p := p) (s := s) (k := "turns") (dir := dir) (z := z) rfl rfl rfl rfl rfl hV (kTV.get _ _ hcf hc) (kTV.get _ _ hpf hp) hpf EV h1 (by omega) fun W ys2' kW hW EW => ?_
    refine ⟨ys2', _, rfl, (kU.trans kV).trans kW, hW, ?_⟩
    have et : (freeN r.1 l).take (i + 1) = (freeN r.1 l).take i ++ [s] := by rw [List.take_add_one, hs']; rfl
    have ep : part ((freeN r.1 l).take (i + 1)) = part ((freeN r.1 l).take i) ++ [(r.1 ++ [(s, ("blocks" : Str), dir)], r.2), (r.1 ++ [(s, ("turns" : Str), dir)], r.2)] := by rw [et]; show List.flatMap _ _ = _; rw [List.flatMap_append]; rfl
    rw [ep]
    simpa using EW
  · rintro e2 U ⟨ys', s9, rfl, kU, hU, EU⟩
    rw [List.length_map, List.take_of_length_le (Nat.le_refl _)] at EU
    refine hP U ys' _ _ (kT2.trans ((Keep.kx k34).trans kU)) hU ?_
    unfold stepU
    simpa [part] using EU
end K26

set_option Elab.async false
set_option linter.all false
set_option maxRecDepth 100000
set_option maxHeartbeats 1000000
namespace K26
open PySem PySem.Spec PyProof.Rows L2 DD PB
theorem flatMap_eq {α β : Type} {f g : α → List β} : ∀ {l : List α}, (∀ a ∈ l, f a = g a) → l.flatMap f = l.flatMap g
  | [], _ => rfl
  | a :: l, h => by rw [List.flatMap_cons, List.flatMap_cons, h a (List.mem_cons_self ..), flatMap_eq fun b hb => h b (List.mem_cons_of_mem _ hb)]
theorem perm_unique {α : Type} {R : α → α → Prop} (as : ∀ a b, R a b → ¬ R b a) : ∀ {l1 l2 : List α}, l1.Perm l2 → l1.Pairwise R → l2.Pairwise R → l1 = l2
  | [], l2, p, _, _ => by rw [List.nil_perm.mp p]
  | a :: l1, [], p, _, _ => by have := p.length_eq; simp at this
  | a :: l1, b :: l2, p, h1, h2 => by
    obtain ⟨x1, y1⟩ := List.pairwise_cons.mp h1
    obtain ⟨x2, y2⟩ := List.pairwise_cons.mp h2
    have e : a = b := by
      rcases List.mem_cons.mp (p.mem_iff.mp (List.mem_cons_self ..)) with z | z
      · exact z
      · rcases List.mem_cons.mp (p.mem_iff.mpr (List.mem_cons_self ..)) with w | w
        · exact w.symm
        · exact absurd (x1 b w) (as _ _ (x2 a z))
    subst e
    rw [perm_unique as p.cons_inv y1 y2]
theorem sortC_eq {cs cs' : List PB.Cut} (p : cs.Perm cs') (nd : (cs.map (·.1)).Nodup) : sortC cs = sortC cs' := by
  refine perm_unique (R := fun a b => LtS a.1 b.1) (fun a b h1 h2 => List.lt_irrefl _ (ltS_trans h1 h2)) ((sortC_perm cs).trans (p.trans (sortC_perm cs').symm)) (sortC_lt nd) (sortC_lt ((p.map _).nodup nd))
def norm (r : Rw) : Rw := (sortC r.1, r.2)
theorem freeN_perm {cs cs' : List PB.Cut} (p : cs.Perm cs') (l : List (Str × Nat)) : freeN cs l = freeN cs' l := by
  unfold freeN
  congr 1
  apply List.filter_congr
  intro x _
  have : x.1 ∈ cs.map (·.1) ↔ x.1 ∈ cs'.map (·.1) := (p.map _).mem_iff
  by_cases h : x.1 ∈ cs.map (·.1)
  · rw [decide_eq_true h, decide_eq_true (this.mp h)]
  · rw [decide_eq_false h, decide_eq_false (fun z => h (this.mpr z))]
theorem fresh_nodup {cs : List PB.Cut} {l : List (Str × Nat)} {s k d : Str} (nd : (cs.map (·.1)).Nodup) (hs : s ∈ freeN cs l) : ((cs ++ [(s, k, d)]).map (·.1)).Nodup := by
  unfold freeN at hs
  obtain ⟨p, hp, rfl⟩ := List.mem_map.mp hs
  have fresh : p.1 ∉ cs.map (·.1) := by simpa using (List.mem_filter.mp hp).2
  rw [List.map_append]
  exact List.nodup_append.mpr ⟨nd, by simp, fun a ha b hb => by
    have : b = p.1 := by simpa using hb
    rw [this]; exact fun z => fresh (z ▸ ha)⟩
theorem step_norm {d : Str} {l : List (Str × Nat)} {r : Rw} (nd : (r.1.map (·.1)).Nodup) : stepW d l (norm r) = (stepU d l r).map norm := by
  unfold stepW stepU moreC
  have hp := sortC_perm r.1
  have e0 : sortC (sortC r.1) = sortC r.1 := sortC_eq hp ((hp.map _).symm.nodup nd)
  rw [List.map_append]
  congr 1
  show (((freeN (sortC r.1) l).flatMap fun s => (["blocks", "turns"] : List Str).map fun k => (s, k, d)).map fun c => (sortC (sortC r.1 ++ [c]), r.2)) = _
  rw [freeN_perm hp l, List.map_flatMap, List.map_flatMap]
  apply flatMap_eq
  intro s hs
  rw [List.map_map, List.map_map]
  apply List.map_congr_left
  intro k _
  show (sortC (sortC r.1 ++ [(s, k, d)]), r.2) = norm (r.1 ++ [(s, k, d)], r.2)
  unfold norm
  have pp : (sortC r.1 ++ [(s, k, d)]).Perm (r.1 ++ [(s, k, d)]) := hp.append_right _
  have n1 := fresh_nodup (k := k) (d := d) nd hs
  rw [sortC_eq pp ((pp.map _).symm.nodup n1)]
theorem step_nd {d : Str} {l : List (Str × Nat)} {r r' : Rw} (nd : (r.1.map (·.1)).Nodup) (h : r' ∈ stepU d l r) : (r'.1.map (·.1)).Nodup := by
  unfold stepU at h
  rcases List.mem_append.mp h with h | h
  · simp only [List.mem_cons, List.not_mem_nil, or_false] at h
    rcases h with rfl | rfl <;> exact nd
  · obtain ⟨s, hs, hk⟩ := List.mem_flatMap.mp h
    obtain ⟨k, _, rfl⟩ := List.mem_map.mp hk
    exact fresh_nodup nd hs
def rowsU (l : List (Str × Nat)) : List Str → List Rw → List Rw
  | [], rs => rs
  | d :: ds, rs => rowsU l ds (rs.flatMap (stepU d l))
theorem rowsU_app (l : List (Str × Nat)) : ∀ (ds es : List Str) (rs : List Rw), rowsU l (ds ++ es) rs = rowsU l es (rowsU l ds rs)
  | [], _, _ => rfl
  | d :: ds, es, rs => rowsU_app l ds es _
theorem rowsU_norm (l : List (Str × Nat)) : ∀ (ds : List Str) (rs : List Rw), (∀ r ∈ rs, (r.1.map (·.1)).Nodup) → (rowsU l ds rs).map norm = rowsW l ds (rs.map norm)
  | [], rs, _ => rfl
  | d :: ds, rs, h => by
    show (rowsU l ds (rs.flatMap (stepU d l))).map norm = rowsW l ds ((rs.map norm).flatMap (stepW d l))
    rw [rowsU_norm l ds _ fun x hx => by
      obtain ⟨y, hy, hxy⟩ := List.mem_flatMap.mp hx
      exact step_nd (h y hy) hxy]
    congr 1
    rw [List.map_flatMap, List.flatMap_map]
    apply flatMap_eq
    intro r hr
    exact (step_norm (h r hr)).symm
theorem allU (ds : List Str) (l : List (Str × Nat)) : (rowsU l ds [([], [])]).map norm = allRows ds l := by
  rw [rowsU_norm l ds _ fun r hr => by
    have : r = ([], []) := by simpa using hr
    subst this
    exact List.nodup_nil]
  have : norm ([], []) = ([], []) := by unfold norm sortC; simp
  show rowsW l ds [norm ([], [])] = _
  rw [this]
  rfl
theorem stepU_len (d : Str) (l : List (Str × Nat)) (r : Rw) : (stepU d l r).length ≤ 2 + 2 * l.length := by
  unfold stepU
  have : ∀ ss : List Str, (ss.flatMap fun s => (["blocks", "turns"] : List Str).map fun k => (r.1 ++ [(s, k, d)], r.2)).length = 2 * ss.length := fun ss => by
    induction ss with
    | nil => rfl
    | cons x xs ih => rw [List.flatMap_cons, List.length_append, ih]; simp; omega
  rw [List.length_append, this]
  have := freeN_len r.1 l
  simp only [List.length_cons, List.length_nil]
  omega
theorem flatU_len (d : Str) (l : List (Str × Nat)) : ∀ rs : List Rw, (rs.flatMap (stepU d l)).length ≤ rs.length * (2 + 2 * l.length)
  | [] => by simp
  | r :: rs => by
    rw [List.flatMap_cons, List.length_append, List.length_cons, Nat.add_mul]
    have := stepU_len d l r
    have := flatU_len d l rs
    omega
theorem rowsU_len (l : List (Str × Nat)) (hl : l.length ≤ 4) : ∀ (ds : List Str) (rs : List Rw), (rowsU l ds rs).length ≤ rs.length * 10 ^ ds.length
  | [], rs => by simp [rowsU]
  | d :: ds, rs => by
    have h1 := rowsU_len l hl ds (rs.flatMap (stepU d l))
    have h2 := flatU_len d l rs
    have h3 : rs.length * (2 + 2 * l.length) ≤ rs.length * 10 := Nat.mul_le_mul_left _ (by omega)
    show (rowsU l ds (rs.flatMap (stepU d l))).length ≤ rs.length * 10 ^ (ds.length + 1)
    have h4 : (rs.flatMap (stepU d l)).length * 10 ^ ds.length ≤ (rs.length * 10) * 10 ^ ds.length := Nat.mul_le_mul_right _ (Nat.le_trans h2 h3)
    have h5 : (rs.length * 10) * 10 ^ ds.length = rs.length * 10 ^ (ds.length + 1) := by rw [Nat.pow_succ]; ac_rfl
    omega
theorem stepU_few {d : Str} {l : List (Str × Nat)} {r r' : Rw} (h : r' ∈ stepU d l r) : r'.1.length ≤ r.1.length + 1 ∧ r'.2.length ≤ r.2.length + 1 := by
  unfold stepU at h
  rcases List.mem_append.mp h with h | h
  · simp only [List.mem_cons, List.not_mem_nil, or_false] at h
    rcases h with rfl | rfl <;> simp
  · obtain ⟨s, _, hk⟩ := List.mem_flatMap.mp h
    obtain ⟨k, _, rfl⟩ := List.mem_map.mp hk
    simp
theorem rowsU_few (l : List (Str × Nat)) : ∀ (ds : List Str) (rs : List Rw) (k : Nat), (∀ r ∈ rs, r.1.length ≤ k ∧ r.2.length ≤ k) → ∀ r ∈ rowsU l ds rs, r.1.length ≤ k + ds.length ∧ r.2.length ≤ k + ds.length
  | [], rs, k, h, r, hr => h r hr
  | d :: ds, rs, k, h, r, hr => by
    have := rowsU_few l ds (rs.flatMap (stepU d l)) (k + 1) (fun x hx => by
      obtain ⟨y, hy, hxy⟩ := List.mem_flatMap.mp hx
      have := stepU_few hxy
      have := h y hy
      omega) r hr
    simp only [List.length_cons]
    omega
end K26

set_option Elab.async false
set_option linter.all false
set_option maxRecDepth 100000
set_option maxHeartbeats 1000000
namespace K26
open PySem PySem.Spec PyProof.Rows L2 DD PB
theorem tup2 {i j n : Nat} {x y : D} {T : So} {e : Sl} (h : T[n]? = some (.lst [x, y])) : tupT 2 (consT (nmT i) (consT (nmT j) nilT)) (.ref n) T e = some ((e.set i (.v x)).set j (.v y)) := by
  unfold tupT
  rw [seqOf_ref h]
  rfl
theorem zip_fst {α β : Type} : ∀ {ys : List α} {rs : List β}, ys.length = rs.length → (ys.zip rs).map (·.1) = ys
  | [], [], _ => rfl
  | y :: ys, r :: rs, h => by simp [zip_fst (ys := ys) (rs := rs) (by simpa using h)]
theorem zip_snd {α β : Type} : ∀ {ys : List α} {rs : List β}, ys.length = rs.length → (ys.zip rs).map (·.2) = rs
  | [], [], _ => rfl
  | y :: ys, r :: rs, h => by simp [zip_snd (ys := ys) (rs := rs) (by simpa using h)]
theorem sp_ldue {sn gn : Nat} {l dl : List (Str × Nat)} {S : So} {P : D → So → Prop} (hs : S[sn]? = some (.lst (l.map prD))) (hg : S[gn]? = some (.lst (dl.map prD))) (hl : l.length ≤ 4) (hdl : dl.length ≤ 3)
    (hP : ∀ T j, Keep S T → S.length ≤ j → T[j]? = some (.lst ((sortR (allRows (dl.map (·.1)) l)).map rowDD)) → P (.ref j) T) : okC (phi_ldue [.ref sn, .ref gn] S) P := by
  have ls := (List.getElem?_eq_some_iff.mp hs).1
  have lg := (List.getElem?_eq_some_iff.mp hg).1
  have few : ∀ i, ∀ r ∈ rowsU l ((dl.map (·.1)).take i) [([], [])], r.1.length ≤ 6 ∧ r.2.length ≤ 6 := fun i r hr => by
    have := rowsU_few l ((dl.map (·.1)).take i) [([], [])] 0 (fun x hx => by simp at hx; subst hx; simp) r hr
    have : ((dl.map (·.1)).take i).length ≤ 3 := by simp; omega
    omega
  have many : ∀ i, (rowsU l ((dl.map (·.1)).take i) [([], [])]).length ≤ 1000 := fun i => by
    have h1 := rowsU_len l hl ((dl.map (·.1)).take i) [([], [])]
    have h2 : ((dl.map (·.1)).take i).length ≤ 3 := by simp; omega
    have h3 : (10 : Nat) ^ ((dl.map (·.1)).take i).length ≤ 10 ^ 3 := Nat.pow_le_pow_right (by decide) h2
    simp only [List.length_cons, List.length_nil] at h1
    have h4 : (10 : Nat) ^ 3 = 1000 := by decide
    omega
  unfold phi_ldue
  refine okC_fn rfl ?_
  unfold m_ldue
  simp only [startE, List.map, List.length, List.replicate, List.cons_append, List.nil_append]
  refine okS_seq (okS_asg ?_)
  simp only [okM_opA, okM_cons, okM_nil]
  rw [fLst_ok (by simp), okF_some, fLst_ok (by simp), okF_some, fLst_ok (by simp), okF_some, fLst_ok (by simp), okF_some]
  have c1 := Keep.app S (.lst [])
  have c2 := c1.trans (Keep.app (S ++ [O.lst []]) (.lst []))
  have c3 := c2.trans (Keep.app _ (O.lst [D.ref S.length, D.ref (S ++ [O.lst []]).length]))
  have c4 := c3.trans (Keep.app _ (O.lst [D.ref ((S ++ [O.lst []]) ++ [O.lst []]).length]))
  have E0 : Ents (S.length + 4) ((((S ++ [O.lst []]) ++ [O.lst []]) ++ [O.lst [D.ref S.length, D.ref (S ++ [O.lst []]).length]]) ++ [O.lst [D.ref ((S ++ [O.lst []]) ++ [O.lst []]).length]]) [D.ref ((S ++ [O.lst []]) ++ [O.lst []]).length] [([], [])] := by
    refine ⟨rfl, fun i y r a b => ?_⟩
    cases i with
    | succ i => simp at a
    | zero =>
      simp at a b
      subst a b
      refine ⟨S.length + 2, S.length, S.length + 1, by simp, by omega, by omega, by omega, ?_, ?_, ?_⟩ <;> simp [List.getElem?_append]
  have f0 := get_new (S := ((S ++ [O.lst []]) ++ [O.lst []]) ++ [O.lst [D.ref S.length, D.ref (S ++ [O.lst []]).length]]) (o := .lst [D.ref ((S ++ [O.lst []]) ++ [O.lst []]).length])
  have len0 : ((((S ++ [O.lst []]) ++ [O.lst []]) ++ [O.lst [D.ref S.length, D.ref (S ++ [O.lst []]).length]]) ++ [O.lst [D.ref ((S ++ [O.lst []]) ++ [O.lst []]).length]]).length = S.length + 4 := by simp
  generalize hT0 : (((S ++ [O.lst []]) ++ [O.lst []]) ++ [O.lst [D.ref S.length, D.ref (S ++ [O.lst []]).length]]) ++ [O.lst [D.ref ((S ++ [O.lst []]) ++ [O.lst []]).length]] = T0 at c4 E0 f0 len0 ⊢
  simp only [nxt_nx, List.set]
  refine okS_seq (okS_ref (okM_var.mpr ⟨_, rfl, gn, _, rfl, c4 _ _ hg, fun i e2 T => ∃ fd s3 s4 s5 s6 s7 s8 s9 s10 ys, e2 = [.v (.ref sn), .v (.ref gn), .v (.ref fd), s3, s4, s5, s6, s7, s8, s9, s10] ∧ Keep S T ∧ T[fd]? = some (.lst ys) ∧ ∃ g, Ents g T ys (rowsU l ((dl.map (·.1)).take i) [([], [])]),
    ⟨_, .no, .no, .no, .no, .no, .no, .no, .no, _, rfl, c4, f0, _, E0⟩, ?_, ?_, ?_⟩))
  · rintro i e2 T ⟨fd, s3, s4, s5, s6, s7, s8, s9, s10, ys, _, kT, _⟩
    exact kT _ _ hg
  · rintro i e2 T x hx ⟨fd, s3, s4, s5, s6, s7, s8, s9, s10, ys, rfl, kT, hfd, g, EG⟩
    rw [List.getElem?_map] at hx
    obtain ⟨⟨dir, z⟩, hp, rfl⟩ := Option.map_eq_some_iff.mp hx
    refine ⟨_, rfl, ?_⟩
    unfold b_ldue_3
    simp only [List.set]
    refine okS_seq (okS_asg ?_)
    simp only [okM_opA, okM_nil]
    rw [fLst_ok (by simp), okF_some]
    simp only [nxt_nx, List.set]
    have lfd := (List.getElem?_eq_some_iff.mp hfd).1
    have k1 : Keep T (T ++ [O.lst []]) := Keep.app _ _
    have ET : Ents T.length (T ++ [O.lst []]) ys (rowsU l ((dl.map (·.1)).take i) [([], [])]) := (EG.other (Nat.le_refl _)).kx (Keep.kx k1)
    have hm := many i
    refine okS_seq (okS_ref (okM_var.mpr ⟨_, rfl, fd, ys, rfl, k1 _ _ hfd, fun j e3 U => ∃ s5 s6 s7 s8 s9 s10 zs, e3 = [.v (.ref sn), .v (.ref gn), .v (.ref fd), .v (prD (dir, z)), .v (.ref T.length), s5, s6, s7, s8, s9, s10] ∧ Kx T.length (T ++ [O.lst []]) U ∧ U[T.length]? = some (.lst zs) ∧
      Ents T.length U zs (((rowsU l ((dl.map (·.1)).take i) [([], [])]).take j).flatMap (stepU dir l)), ⟨_, _, _, _, _, _, [], rfl, Kx.refl _ _, get_new, rfl, fun i y r a => by simp at a⟩, ?_, ?_, ?_⟩))
    · rintro j e3 U ⟨s5, s6, s7, s8, s9, s10, zs, _, kU, _⟩
      exact kU.get _ _ (by omega) (k1 _ _ hfd)
    · rintro j e3 U y hy ⟨s5, s6, s7, s8, s9, s10, zs, rfl, kU, hU, EU⟩
      have hj : j < ys.length := (List.getElem?_eq_some_iff.mp hy).1
      have hj2 : j < (rowsU l ((dl.map (·.1)).take i) [([], [])]).length := by rw [← ET.1]; exact hj
      have hr := List.getElem?_eq_getElem hj2
      generalize hrr : (rowsU l ((dl.map (·.1)).take i) [([], [])])[j] = r at hr
      have hmem : r ∈ rowsU l ((dl.map (·.1)).take i) [([], [])] := List.mem_of_getElem? hr
      obtain ⟨e, c, p, rfl, n1, n2, n3, q1, q2, q3⟩ := (ET.2 j y r hy hr).kx kU
      refine ⟨_, tup2 q1, ?_⟩
      simp only [List.set]
      have f6 := few i r hmem
      have fl := flatU_len dir l ((rowsU l ((dl.map (·.1)).take i) [([], [])]).take j)
      have bound : (((rowsU l ((dl.map (·.1)).take i) [([], [])]).take j).flatMap (stepU dir l)).length ≤ 20000 := by
        have tl : ((rowsU l ((dl.map (·.1)).take i) [([], [])]).take j).length ≤ 1000 := by rw [List.length_take]; omega
        have m2 : ((rowsU l ((dl.map (·.1)).take i) [([], [])]).take j).length * (2 + 2 * l.length) ≤ 1000 * 10 := Nat.mul_le_mul tl (by omega)
        omega
      refine row_turn (f := T.length) (c := c) (p := p) (kU.get _ _ (by have := kT.len; omega) (k1 _ _ (kT _ _ hs))) (by have := kT.len; omega) hU EU q2 q3 n2 n3 hl f6.1 f6.2 bound fun V zs' s7' s9' kV hV EV => ?_
      refine ⟨_, _, _, _, _, _, zs', rfl, kU.trans kV, hV, ?_⟩
      rw [List.take_add_one, hr, List.flatMap_append]
      simpa using EV
    · rintro e3 U ⟨s5, s6, s7, s8, s9, s10, zs, rfl, kU, hU, EU⟩
      simp only [nxt_nx]
      refine okS_asg (okM_var.mpr ⟨_, rfl, ?_⟩)
      have kSU : Keep S U := fun n o q => kU.get n o (by have := (List.getElem?_eq_some_iff.mp q).1; have := kT.len; omega) (k1 _ _ (kT _ _ q))
      refine ⟨_, _, _, _, _, _, _, _, _, zs, rfl, kSU, hU, T.length, ?_⟩
      rw [ET.1, List.take_of_length_le (Nat.le_refl _)] at EU
      rw [List.take_add_one, List.getElem?_map, hp]
      show Ents _ _ _ (rowsU l ((dl.map (·.1)).take i ++ [dir]) [([], [])])
      rw [rowsU_app]
      exact EU
  · rintro e2 T ⟨fd, s3, s4, s5, s6, s7, s8, s9, s10, ys, rfl, kT, hfd, g, EG⟩
    simp only [nxt_nx]
    rw [List.length_map] at EG
    have el : (dl.map (·.1)).take dl.length = dl.map (·.1) := by rw [List.take_of_length_le (by simp)]
    rw [el] at EG
    have m3 := many 3
    have el3 : (dl.map (·.1)).take 3 = dl.map (·.1) := List.take_of_length_le (by simp; omega)
    rw [el3] at m3
    have f3 := few 3
    rw [el3] at f3
    generalize hrs : rowsU l (dl.map (·.1)) [([], [])] = rs at EG m3 f3
    have all : rs.map norm = allRows (dl.map (·.1)) l := by rw [← hrs]; exact allU _ _
    have lz := EG.1
    refine okS_ret ?_
    simp only [okM_opA, okM_cons, okM_nil]
    refine okM_mapA (α := D × Rw) (·.1) (fun q => rowDD (norm q.2)) (okM_var.mpr ⟨_, rfl, false, ys.zip rs, by rw [zip_fst lz]; exact seqOf_ref hfd, by rw [List.length_zip]; omega, fun q U hq kU => ⟨_, rfl, ?_⟩, fun U kU hU => ?_⟩)
    · obtain ⟨i, hi⟩ := List.mem_iff_getElem?.mp hq
      obtain ⟨a1, a2⟩ := List.getElem?_zip_eq_some.mp hi
      obtain ⟨y, r⟩ := q
      obtain ⟨e, c, p, hy, n1, n2, n3, q1, q2, q3⟩ := EG.2 i y r a1 a2
      have hy' : y = .ref e := hy
      subst hy'
      have f6 := f3 r (List.mem_of_getElem? a2)
      simp only [okM_opA, okM_op2, okM_cons, okM_var, okM_ret, okM_nil]
      refine ⟨_, rfl, ?_⟩
      rw [fIx_ref (kU _ _ q1) (show atI [D.ref c, D.ref p] 0 = some (.ref c) from rfl), okF_some]
      rw [fSorted_of PB.cutD cutP (kU _ _ q2) (pys_cuts _) (sortOk_cuts _), okF_some]
      rw [fTuple_seq (seqOf_ref get_new), okF_some]
      have kA : Keep U (U ++ [O.lst ((r.1.mergeSort (PySem.W.dataLe false cutP)).map PB.cutD)]) := Keep.app _ _
      refine ⟨_, rfl, ?_⟩
      rw [fIx_ref (kA _ _ (kU _ _ q1)) (show atI [D.ref c, D.ref p] 1 = some (.ref p) from rfl), okF_some]
      rw [fTuple_seq (seqOf_ref (kA _ _ (kU _ _ q3))), okF_some, fTup_ok (by simp), okF_some]
      exact ⟨kA, rfl⟩
    · have e1 : ((ys.zip rs).map fun q => rowDD (norm q.2)) = (allRows (dl.map (·.1)) l).map rowDD := by
        rw [← all, List.map_map]
        have : ((ys.zip rs).map fun q => rowDD (norm q.2)) = ((ys.zip rs).map (·.2)).map (rowDD ∘ norm) := by rw [List.map_map]; rfl
        rw [this, zip_snd lz]
      rw [e1] at hU
      rw [fSorted_of rowDD rowP hU (pys_rows _) (sortOk_rows _), okF_some]
      exact hP _ _ ((kT.trans kU).trans (Keep.app _ _)) (kT.trans kU).len get_new
end K26

set_option Elab.async false
set_option linter.all false
set_option maxRecDepth 100000
set_option maxHeartbeats 1000000
namespace K26
open PySem PySem.Spec PyProof.Rows L2 DD PB
theorem std : Std tb := ⟨fun p hp c hc => by
  have all : ∀ t ∈ base6, ∀ c ∈ ["int", "bool", "str", "list", "tuple"], tb.kit (.inl t) (.inl c) = some (decide (t = c) || (decide (t = "bool") && decide (c = "int"))) := by decide +kernel
  have m : tyP p ∈ base6 := by
    cases p <;> first | (simp [tyP, base6]; done) | (exact absurd rfl (hp _))
  exact all _ m c hc⟩
instance okTb : Ok tb := ⟨std⟩
instance ogTb : OkG tb := ⟨by decide +kernel, by decide +kernel, by decide +kernel, by decide +kernel, by decide +kernel⟩
/-! ### _law_same of like data -/
abbrev SameOk (k : Nat) (d : D) : Prop := ∀ S, okC (phi_lsame k [d, d] S) fun y T => y = .bl true ∧ T = S
theorem same_head {k : Nat} {d : D} {p : PyData} {S : So} {P : D → So → Prop} (hpy : Py S d p) (h0 : fIs false d .non S = some (.bl false, S)) (hb : tyP p ≠ "bool") (hs : tyP p ≠ "str") (hi : tyP p ≠ "int") (hl : tyP p ≠ "list")
    (h : okS (seqS (ifS (mOr (mNot (mTst (mOpA (fIsiA tb) (mCons (mVar 0) (mCons (retM (.ty "tuple")) mNil))))) (mTst (mOp2 fNe (mOpA fLen (mCons (mVar 0) mNil)) (mOpA fLen (mCons (mVar 1) mNil))))) (retS (retM (.bl false))) nxS) (seqS (forS (mRng1 (mCons (mOpA fLen (mCons (mVar 1) mNil)) mNil)) (nmT 2) (b_lsame_1 (phi_lsame k))) (retS (retM (.bl true))))) [.v d, .v d, .no] S (endP P)) : okC (phi_lsame (k + 1) [d, d] S) P := by
  unfold phi_lsame
  refine okC_fn rfl ?_
  unfold m_lsame
  simp only [startE, List.map, List.length, List.replicate, List.cons_append, List.nil_append]
  refine okS_seq (okS_ifF ?_)
  simp only [okM_tst, okM_op2, okM_var, okM_ret]
  refine ⟨_, rfl, ?_⟩
  rw [h0, okF_some]
  refine ⟨_, rfl, rfl, okS_nx ?_⟩
  simp only [nxt_nx]
  refine okS_seq (okS_ifF ?_)
  simp only [okM_tst, okM_opA, okM_cons, okM_var, okM_ret, okM_nil]
  refine ⟨_, rfl, ?_⟩
  rw [isi_ty std hpy (by decide), okF_some]
  refine ⟨_, rfl, by simp [hb], okS_nx ?_⟩
  simp only [nxt_nx]
  refine okS_seq (okS_ifF ?_)
  simp only [okM_tst, okM_opA, okM_cons, okM_var, okM_ret, okM_nil]
  refine ⟨_, rfl, ?_⟩
  rw [isi_ty std hpy (by decide), okF_some]
  refine ⟨_, rfl, by simp [hs], okS_nx ?_⟩
  simp only [nxt_nx]
  refine okS_seq (okS_ifF ?_)
  simp only [okM_tst, okM_opA, okM_cons, okM_var, okM_ret, okM_nil]
  refine ⟨_, rfl, ?_⟩
  rw [isi_ty std hpy (by decide), okF_some]
  refine ⟨_, rfl, by simp [hb, hi], okS_nx ?_⟩
  simp only [nxt_nx]
  refine okS_seq (okS_ifF ?_)
  simp only [okM_tst, okM_opA, okM_cons, okM_var, okM_ret, okM_nil]
  refine ⟨_, rfl, ?_⟩
  rw [isi_ty std hpy (by decide), okF_some]
  refine ⟨_, rfl, by simp [hl], ?_⟩
  obtain ⟨f, e, T, h1, h2⟩ := h
  unfold seqS at h1
  split at h1
  · rename_i e1 S1 q
    exact ⟨_, _, _, q, by
      simp only [nxt_nx]
      exact ⟨f, e, T, h1, h2⟩⟩
  · rename_i q
    refine ⟨_, _, _, h1, ?_⟩
    cases f with
    | nx => exact absurd h1 (q e T)
    | _ => exact h2
theorem same_tup {k : Nat} {xs : List D} {p : PyData} (hpy : ∀ S, Py S (.tup xs) p) (ht : tyP p = "tuple") (hl : xs.length ≤ 1000) (ih : ∀ x ∈ xs, SameOk k x) : SameOk (k + 1) (.tup xs) := fun S => by
  refine same_head (hpy S) rfl (by rw [ht]; decide) (by rw [ht]; decide) (by rw [ht]; decide) (by rw [ht]; decide) ?_
  have fl : fLen [.tup xs] S = some (.int xs.length, S) := fLen_seq (b := true) rfl
  refine okS_seq (okS_ifF ?_)
  simp only [okM_or, okM_not, okM_tst, okM_opA, okM_op2, okM_cons, okM_var, okM_ret, okM_nil]
  refine ⟨_, rfl, ?_⟩
  rw [isi_ty std (hpy S) (by decide), okF_some]
  refine ⟨_, rfl, ?_⟩
  rw [ht]
  simp only [decide_true, Bool.true_or, Bool.not_true, Bool.false_eq_true, if_false]
  refine ⟨_, rfl, ?_⟩
  rw [fl, okF_some]
  refine ⟨_, rfl, ?_⟩
  rw [fl, okF_some, fNe_int, okF_some]
  refine ⟨_, rfl, by simp, okS_nx ?_⟩
  simp only [nxt_nx]
  refine okS_seq (okS_rng ?_)
  simp only [okM_opA, okM_cons, okM_var, okM_nil]
  refine ⟨_, rfl, ?_⟩
  rw [fl, okF_some]
  refine ⟨xs.length, rfl, by omega, fun i e2 T => T = S ∧ ∃ s, e2 = [.v (.tup xs), .v (.tup xs), s], ⟨rfl, _, rfl⟩, ?_, ?_⟩
  · rintro i e2 T hi ⟨rfl, s, rfl⟩
    refine ⟨_, rfl, ?_⟩
    obtain ⟨x, q, g⟩ := atI_ok (xs := xs) (i := (i : Int)) (by omega) (by omega)
    have fx : fIx (.tup xs) (.int (i : Nat)) T = some (x, T) := by
      unfold fIx
      dsimp only [seqOf]
      rw [q]
      rfl
    unfold b_lsame_1
    refine okS_ifF ?_
    simp only [okM_not, okM_tst, okM_call, okM_op2, okM_cons, okM_var, okM_nil]
    refine ⟨_, rfl, _, rfl, ?_⟩
    rw [fx, okF_some]
    refine ⟨_, rfl, _, rfl, ?_⟩
    rw [fx, okF_some]
    have hx : x ∈ xs := List.mem_of_getElem? g
    refine (ih x hx T).imp fun y U q => ?_
    obtain ⟨rfl, rfl⟩ := q
    exact ⟨_, rfl, rfl, okS_nx ⟨rfl, _, rfl⟩⟩
  · rintro e2 T ⟨rfl, s, rfl⟩
    refine okS_ret ?_
    simp only [okM_ret]
    exact ⟨rfl, rfl⟩
theorem same_str {k : Nat} (z : Str) : SameOk (k + 1) (.str z) := fun S => by
  have hpy : Py S (.str z) (.str z) := Py.str z
  unfold phi_lsame
  refine okC_fn rfl ?_
  unfold m_lsame
  simp only [startE, List.map, List.length, List.replicate, List.cons_append, List.nil_append]
  refine okS_seq (okS_ifF ?_)
  simp only [okM_tst, okM_op2, okM_var, okM_ret]
  refine ⟨_, rfl, ?_⟩
  rw [show fIs false (.str z) .non S = some (.bl false, S) from rfl, okF_some]
  refine ⟨_, rfl, rfl, okS_nx ?_⟩
  simp only [nxt_nx]
  refine okS_seq (okS_ifF ?_)
  simp only [okM_tst, okM_opA, okM_cons, okM_var, okM_ret, okM_nil]
  refine ⟨_, rfl, ?_⟩
  rw [isi_ty std hpy (by decide), okF_some]
  refine ⟨_, rfl, by simp [tyP], okS_nx ?_⟩
  simp only [nxt_nx]
  refine okS_seq (okS_ifT ?_)
  simp only [okM_tst, okM_opA, okM_cons, okM_var, okM_ret, okM_nil]
  refine ⟨_, rfl, ?_⟩
  rw [isi_ty std hpy (by decide), okF_some]
  refine ⟨_, rfl, by simp [tyP], okS_ret ?_⟩
  simp only [okM_andV, okM_opA, okM_op2, okM_cons, okM_var, okM_ret, okM_nil]
  refine ⟨_, rfl, ?_⟩
  rw [isi_ty std hpy (by decide), okF_some]
  refine ⟨_, rfl, ?_⟩
  rw [if_pos (by simp [tyP])]
  refine ⟨_, rfl, _, rfl, ?_⟩
  rw [show fEq (.str z) (.str z) S = some (.bl (decide (z = z)), S) from rfl, okF_some]
  exact ⟨by simp, rfl⟩
theorem same_true {k : Nat} : SameOk (k + 1) (.bl true) := fun S => by
  have hpy : Py S (.bl true) (.bool true) := ⟨9, Nat.le_refl _, by unfold toPy; rfl⟩
  unfold phi_lsame
  refine okC_fn rfl ?_
  unfold m_lsame
  simp only [startE, List.map, List.length, List.replicate, List.cons_append, List.nil_append]
  refine okS_seq (okS_ifF ?_)
  simp only [okM_tst, okM_op2, okM_var, okM_ret]
  refine ⟨_, rfl, ?_⟩
  rw [show fIs false (.bl true) .non S = some (.bl false, S) from rfl, okF_some]
  refine ⟨_, rfl, rfl, okS_nx ?_⟩
  simp only [nxt_nx]
  refine okS_seq (okS_ifT ?_)
  simp only [okM_tst, okM_opA, okM_cons, okM_var, okM_ret, okM_nil]
  refine ⟨_, rfl, ?_⟩
  rw [isi_ty std hpy (by decide), okF_some]
  refine ⟨_, rfl, by simp [tyP], okS_ret ?_⟩
  simp only [okM_andV, okM_opA, okM_op2, okM_cons, okM_var, okM_ret, okM_nil]
  refine ⟨_, rfl, ?_⟩
  rw [isi_ty std hpy (by decide), okF_some]
  refine ⟨_, rfl, ?_⟩
  rw [if_pos (by simp [tyP])]
  refine ⟨_, rfl, _, rfl, ?_⟩
  have e : fEq (.bl true) (.bl true) S = some (.bl true, S) := by
    unfold fEq
    dsimp only
    unfold eqD
    have : py (.bl true) S = some (.bool true) := by unfold py toPy; rfl
    rw [this]
    dsimp only
    rw [if_pos ⟨by decide, by decide⟩]
    rfl
  rw [e, okF_some]
  exact ⟨rfl, rfl⟩
theorem same_row (r : Rw) (h1 : r.1.length ≤ 6) (h2 : r.2.length ≤ 6) : SameOk 6 (rowDD r) := by
  refine same_tup (p := rowP r) (fun S => ⟨9, Nat.le_refl _, py_row r⟩) rfl (by simp) fun x hx => ?_
  simp only [List.mem_cons, List.not_mem_nil, or_false] at hx
  rcases hx with rfl | rfl
  · refine same_tup (fun S => Py.cuts r.1) rfl (by rw [List.length_map]; omega) fun x hx => ?_
    obtain ⟨c, hc, rfl⟩ := List.mem_map.mp hx
    refine same_tup (fun S => Py.cut c) rfl (by simp) fun x hx => ?_
    simp only [List.mem_cons, List.not_mem_nil, or_false] at hx
    rcases hx with rfl | rfl | rfl <;> exact same_str _
  · refine same_tup (fun S => Py.strs r.2) rfl (by rw [List.length_map]; omega) fun x hx => ?_
    obtain ⟨c, hc, rfl⟩ := List.mem_map.mp hx
    exact same_str _
end K26

set_option Elab.async false
set_option linter.all false
set_option maxRecDepth 100000
set_option maxHeartbeats 1000000
namespace K26
open PySem PySem.Spec PyProof.Rows L2 DD PB
/-! ### fits -/
def kvsOf (l : List (Str × Nat)) : Kd := l.map fun p => (.inr p.1, .int (p.2 : Nat))
theorem pairs_of (S : So) : ∀ l : List (Str × Nat), pairsOf S (l.map PB.prD) = some (kvsOf l)
  | [] => rfl
  | p :: l => by
    show (match pairOf S (PB.prD p), pairsOf S (l.map PB.prD) with | some kv, some kvs => some (kv :: kvs) | _, _ => none) = _
    rw [pairs_of S l]
    rfl
theorem put_has (kvs : Kd) (k : Key) (v : D) : (valD (putKD kvs k v) k).isSome = true ∧ ∀ k', (valD kvs k').isSome = true → (valD (putKD kvs k v) k').isSome = true := by
  unfold putKD valD
  simp only [Option.isSome_map, List.find?_isSome, decide_eq_true_eq]
  split
  · rename_i h
    obtain ⟨kv, h1, h2⟩ := List.any_eq_true.mp h
    have h2 : kv.1 = k := of_decide_eq_true h2
    refine ⟨⟨(kv.1, v), List.mem_map.mpr ⟨kv, h1, if_pos h2⟩, h2⟩, fun k' ⟨x, hx, hk⟩ => ?_⟩
    by_cases e : x.1 = k
    · exact ⟨(x.1, v), List.mem_map.mpr ⟨x, hx, if_pos e⟩, hk⟩
    · exact ⟨x, List.mem_map.mpr ⟨x, hx, if_neg e⟩, hk⟩
  · exact ⟨⟨(k, v), by simp, rfl⟩, fun k' ⟨x, hx, hk⟩ => ⟨x, List.mem_append_left _ hx, hk⟩⟩
theorem merge_has : ∀ (more acc : Kd) (k : Key), ((valD acc k).isSome = true ∨ ∃ kv ∈ more, kv.1 = k) → (valD (mergeD acc more) k).isSome = true
  | [], acc, k, h => by
    rcases h with h | ⟨kv, h, _⟩
    · exact h
    · cases h
  | kv :: more, acc, k, h => by
    show (valD (mergeD (putKD acc kv.1 kv.2) more) k).isSome = true
    refine merge_has more _ k ?_
    rcases h with h | ⟨x, h, hk⟩
    · exact .inl ((put_has acc kv.1 kv.2).2 k h)
    · rcases List.mem_cons.mp h with rfl | h
      · exact .inl (hk ▸ (put_has acc x.1 x.2).1)
      · exact .inr ⟨x, h, hk⟩
theorem din_ok {n : Nat} {l : List (Str × Nat)} {s : Str} {S : So} (h : S[n]? = some (.dct (mergeD [] (kvsOf l)))) (hs : s ∈ l.map (·.1)) : fDin false (.str s) (.ref n) S = some (.bl true, S) := by
  have g : getK (.ref n) S = some (mergeD [] (kvsOf l)) := by unfold getK; dsimp only; rw [h]
  unfold fDin
  rw [g]
  dsimp only [DD.keyOf]
  obtain ⟨p, hp, rfl⟩ := List.mem_map.mp hs
  rw [merge_has (kvsOf l) [] (.inr p.1) (.inr ⟨_, List.mem_map.mpr ⟨p, hp, rfl⟩, rfl⟩)]
  rfl
theorem tup3 {a b c : D} {i j k : Nat} {T : So} {e : Sl} : tupT 3 (consT (nmT i) (consT (nmT j) (consT (nmT k) nilT))) (.tup [a, b, c]) T e = some (((e.set i (.v a)).set j (.v b)).set k (.v c)) := rfl
theorem fits_row {ds : List Str} {l : List (Str × Nat)} : ∀ (dirs : List Str) (rs : List Rw), (∀ r ∈ rs, ∀ c ∈ r.1, c.1 ∈ l.map (·.1)) → ∀ r ∈ rowsW l dirs rs, ∀ c ∈ r.1, c.1 ∈ l.map (·.1)
  | [], rs, h, r, hr => h r hr
  | d :: dirs, rs, h, r, hr => by
    refine fits_row (ds := ds) dirs (rs.flatMap (stepW d l)) (fun x hx => ?_) r hr
    obtain ⟨y, hy, hxy⟩ := List.mem_flatMap.mp hx
    unfold stepW at hxy
    rcases List.mem_append.mp hxy with z | z
    · simp only [List.mem_cons, List.not_mem_nil, or_false] at z
      rcases z with rfl | rfl
      · exact h y hy
      · exact h y hy
    · obtain ⟨c, hc, rfl⟩ := List.mem_map.mp z
      unfold moreC freeN at hc
      obtain ⟨s, hs, hck⟩ := List.mem_flatMap.mp hc
      obtain ⟨k, hk, rfl⟩ := List.mem_map.mp hck
      obtain ⟨p, hp, rfl⟩ := List.mem_map.mp hs
      intro c hc
      rcases List.mem_append.mp ((sortC_perm _).mem_iff.mp hc) with w | w
      · exact h y hy c w
      · have : c = (p.1, k, d) := by simpa using w
        subst this
        exact List.mem_map.mpr ⟨p, (List.mem_filter.mp hp).1, rfl⟩
theorem sp_fits {n gn : Nat} {d : D} {b : Bool} {l dl : List (Str × Nat)} {r : Rw} {S : So} {P : D → So → Prop} (hn : S[n]? = some (dealO r.1 r.2)) (hd : seqOf d S = some (b, l.map PB.prD)) (hg : S[gn]? = some (gridO dl)) (h1 : ∀ c ∈ r.1, c.1 ∈ l.map (·.1) ∧ c.2.2 ∈ dl.map (·.1)) (h2 : ∀ p ∈ r.2, p ∈ dl.map (·.1)) (l1 : r.1.length ≤ 6) (l2 : r.2.length ≤ 6)
    (hP : ∀ T, Keep S T → P (.bl true) T) : okC (phi_fits [.ref n, d, .ref gn] S) P := by
  show okC (PB.phi_fits tb [.ref n, d, .ref gn] S) P
  unfold PB.phi_fits
  refine okC_fn rfl ?_
  unfold PB.m_fits
  simp only [startE, List.map, List.length, List.replicate, List.cons_append, List.nil_append]
  refine okS_seq (okS_asg ?_)
  simp only [okM_opA, okM_cons, okM_var, okM_nil]
  refine ⟨_, rfl, ?_⟩
  have f1 : fDict [d] S = some (.ref S.length, S ++ [.dct (mergeD [] (kvsOf l))]) := by
    unfold fDict
    dsimp only
    rw [hd]
    dsimp only
    rw [pairs_of]
    rfl
  rw [f1, okF_some]
  have k1 := Keep.app S (.dct (mergeD [] (kvsOf l)))
  have n1 := get_new (S := S) (o := .dct (mergeD [] (kvsOf l)))
  generalize hT1 : S ++ [O.dct (mergeD [] (kvsOf l))] = T1 at k1 n1 ⊢
  simp only [nxt_nx, List.set]
  refine okS_seq (okS_asg ?_)
  simp only [okM_opA, okM_op1, okM_cons, okM_var, okM_nil]
  refine ⟨_, rfl, ?_⟩
  rw [fFld_ok (k1 _ _ hg) ogTb.g_d (d := .tup (dl.map PB.prD)) rfl, okF_some]
  have f2 : fDict [.tup (dl.map PB.prD)] T1 = some (.ref T1.length, T1 ++ [.dct (mergeD [] (kvsOf dl))]) := by
    unfold fDict
    dsimp only [seqOf]
    rw [pairs_of]
    rfl
  rw [f2, okF_some]
  have k2 := Keep.app T1 (.dct (mergeD [] (kvsOf dl)))
  have n2 := get_new (S := T1) (o := .dct (mergeD [] (kvsOf dl)))
  have n1' := k2 _ _ n1
  have k12 := k1.trans k2
  generalize hT2 : T1 ++ [O.dct (mergeD [] (kvsOf dl))] = T2 at k2 n2 n1' k12 ⊢
  simp only [nxt_nx, List.set]
  refine okS_seq (okS_ifF ?_)
  simp only [okM_not, okM_tst, okM_opA, okM_cons, okM_nil]
  refine okM_mapA PB.cutD (fun _ => .bl true) ?_
  simp only [okM_op1, okM_var]
  refine ⟨_, rfl, ?_⟩
  rw [fFld_ok (k12 _ _ hn) ogTb.d_c (d := .tup (r.1.map PB.cutD)) rfl, okF_some]
  refine ⟨true, r.1, rfl, by omega, fun c T hc hk => ⟨_, tup3, ?_⟩, fun T3 k3 hT3 => ?_⟩
  · simp only [okM_andV, okM_op2, okM_var]
    refine ⟨_, rfl, _, rfl, ?_⟩
    rw [din_ok (hk _ _ n1') (h1 c hc).1, okF_some]
    refine ⟨_, rfl, ?_⟩
    rw [if_pos rfl]
    refine ⟨_, rfl, _, rfl, ?_⟩
    rw [din_ok (hk _ _ n2) (h1 c hc).2, okF_some]
    exact ⟨Keep.refl _, rfl⟩
  have e1 : r.1.map (fun _ => D.bl true) = List.replicate r.1.length (.bl true) := List.eq_replicate_iff.mpr ⟨by rw [List.length_map], fun b hb => by obtain ⟨_, _, rfl⟩ := List.mem_map.mp hb; rfl⟩
  rw [e1] at hT3
  rw [all_true hT3, okF_some]
  refine ⟨_, rfl, rfl, okS_nx ?_⟩
  simp only [nxt_nx]
  refine okS_ret ?_
  simp only [okM_opA, okM_cons, okM_nil]
  refine okM_mapA D.str (fun _ => .bl true) ?_
  simp only [okM_op1, okM_var]
  refine ⟨_, rfl, ?_⟩
  rw [fFld_ok (k3 _ _ (k12 _ _ hn)) ogTb.d_p (d := .tup (r.2.map .str)) rfl, okF_some]
  refine ⟨true, r.2, rfl, by omega, fun p T hp hk => ⟨_, rfl, ?_⟩, fun T4 k4 hT4 => ?_⟩
  · simp only [okM_op2, okM_var]
    refine ⟨_, rfl, _, rfl, ?_⟩
    rw [din_ok (hk _ _ (k3 _ _ n2)) (h2 p hp), okF_some]
    exact ⟨Keep.refl _, rfl⟩
  have e2 : r.2.map (fun _ => D.bl true) = List.replicate r.2.length (.bl true) := List.eq_replicate_iff.mpr ⟨by rw [List.length_map], fun b hb => by obtain ⟨_, _, rfl⟩ := List.mem_map.mp hb; rfl⟩
  rw [e2] at hT4
  rw [all_true hT4, okF_some]
  exact hP T4 ((k12.trans k3).trans k4)
end K26

set_option Elab.async false
set_option linter.all false
set_option maxRecDepth 100000
set_option maxHeartbeats 1000000
namespace K26
open PySem PySem.Spec PyProof.Rows L2 DD PB
/-! ### like data are equal -/
theorem sign_lt {c : Nat} (h : signP c = true) : c < 128 := by
  have e1 : ("z" : Str).cps.toList = [122] := by decide +kernel
  have e2 : ("9" : Str).cps.toList = [57] := by decide +kernel
  unfold signP btw at h
  rw [e1, e2] at h
  rcases Bool.or_eq_true_iff.mp h with z | z
  · have := (Bool.and_eq_true_iff.mp z).2
    simp [qLe, List.cons_lt_cons_iff] at this
    omega
  · have := (Bool.and_eq_true_iff.mp z).2
    simp [qLe, List.cons_lt_cons_iff] at this
    omega
theorem word_lay {z : Str} (h : wordZ z = true) : PyData.strOk z = true := by
  have h2 := (wordZ_iff.mp h).2.2
  unfold PyData.strOk
  rw [← Array.all_toList, List.all_eq_true]
  intro c hc
  exact decide_eq_true (by have := sign_lt (h2 c hc); omega)
theorem kind_lay : ∀ k ∈ (["blocks", "turns"] : List Str), PyData.strOk k = true := by decide +kernel
theorem lay_strs : ∀ {ws : List Str}, (∀ w ∈ ws, wordZ w = true) → PyData.canLayAll0 (ws.map .str) = true
  | [], _ => by simp [PyData.canLayAll0]
  | w :: ws, h => by
    have ih := lay_strs (ws := ws) fun x hx => h x (List.mem_cons_of_mem _ hx)
    simp only [List.map_cons, PyData.canLayAll0, PyData.canLay0, word_lay (h w (List.mem_cons_self ..)), ih, Bool.and_true]
theorem lay_cut {c : PB.Cut} (h : GoodCut c) : PyData.canLay0 (cutP c) = true := by
  unfold cutP
  simp only [PyData.canLay0, PyData.canLayAll0, word_lay h.side, kind_lay _ h.kind, word_lay h.dir, Bool.and_true]
theorem lay_cuts : ∀ {cs : List PB.Cut}, (∀ c ∈ cs, GoodCut c) → PyData.canLayAll0 (cs.map cutP) = true
  | [], _ => by simp [PyData.canLayAll0]
  | c :: cs, h => by
    have ih := lay_cuts (cs := cs) fun x hx => h x (List.mem_cons_of_mem _ hx)
    simp only [List.map_cons, PyData.canLayAll0, lay_cut (h c (List.mem_cons_self ..)), ih, Bool.and_true]
theorem lay_row {r : Rw} (h : GoodDeal r.1 r.2) : PyData.canLay0 (rowP r) = true := by
  unfold rowP
  simp only [PyData.canLay0, PyData.canLayAll0, lay_cuts h.cut, lay_strs h.words, Bool.and_true]
theorem lay_rows : ∀ {rs : List Rw}, (∀ r ∈ rs, GoodDeal r.1 r.2) → PyData.canLayAll0 (rs.map rowP) = true
  | [], _ => by simp [PyData.canLayAll0]
  | r :: rs, h => by
    have ih := lay_rows (rs := rs) fun x hx => h x (List.mem_cons_of_mem _ hx)
    simp only [List.map_cons, PyData.canLayAll0, lay_row (h r (List.mem_cons_self ..)), ih, Bool.and_true]
theorem fEq_py {d : D} {p : PyData} {S : So} (hs : ∀ z, d ≠ .str z) (h : py d S = some p) (hl : PyData.canLay0 p = true) (hd : p.depth ≤ 64) : fEq d d S = some (.bl true, S) := by
  have sh : SeqAt.shaped p = true := by unfold SeqAt.shaped; rw [hl, decide_eq_true hd]; rfl
  have e : PyData.eqv p p = true := PySem.SeqAt.eqv_refl _ hl
  have m : eqD id d d S = some (.bl true, S) := by
    unfold eqD
    rw [h]
    dsimp only
    rw [if_pos ⟨sh, sh⟩, e]
    rfl
  cases d with
  | str z => exact absurd rfl (hs z)
  | _ => exact m
theorem fNe_rows {a j : Nat} {rs : List Rw} {S : So} (hg : ∀ r ∈ rs, GoodDeal r.1 r.2) (h1 : S[a]? = some (.lst (rs.map rowDD))) (h2 : S[j]? = some (.lst (rs.map rowDD))) : fNe (.ref a) (.ref j) S = some (.bl false, S) := by
  have hl : PyData.canLay0 (.list (rs.map rowP)) = true := by simp only [PyData.canLay0]; exact lay_rows hg
  have hd : (PyData.list (rs.map rowP)).depth ≤ 64 := by
    have := depth_all (ps := rs.map rowP) (k := 60) fun p hp => by
      obtain ⟨r, _, rfl⟩ := List.mem_map.mp hp
      exact depth_row r
    simp only [PyData.depth]
    omega
  have sh : SeqAt.shaped (.list (rs.map rowP)) = true := by unfold SeqAt.shaped; rw [hl, decide_eq_true hd]; rfl
  unfold fNe
  dsimp only
  unfold eqD
  rw [DD.py_list h1 (pys_rows rs), DD.py_list h2 (pys_rows rs)]
  dsimp only
  rw [if_pos ⟨sh, sh⟩, PySem.SeqAt.eqv_refl _ hl]
  rfl
/-! ### dealings -/
theorem deal_ty {m : Nat} {cs : List PB.Cut} {ps : List Str} {S : So} (h : S[m]? = some (dealO cs ps)) : tyOf tb (.ref m) S = some (.inr "Dealing") := by
  unfold tyOf
  dsimp only
  rw [h]
  rfl
theorem kit_deal : tb.kit (.inr "Dealing") (.inr "Dealing") = some true := by decide +kernel
theorem nf_deal : nfL askc.nfs "Dealing" (.inr "Dealing") = true := by decide +kernel
theorem isi_deal {m : Nat} {cs : List PB.Cut} {ps : List Str} {S : So} (h : S[m]? = some (dealO cs ps)) : fIsiA tb [.ref m, .glo "Dealing"] S = some (.bl true, S) := by
  have main : fIsi tb [.ref m, .glo "Dealing"] S = some (.bl true, S) := by
    unfold fIsi
    dsimp only [clsN]
    rw [deal_ty h]
    dsimp only
    rw [kit_deal]
    rfl
  unfold fIsiA
  dsimp only
  rw [h]
  exact main
theorem isi_tup {ys : List D} {S : So} : fIsiA tb [.tup ys, .ty "tuple"] S = some (.bl true, S) := by
  have k : tb.kit (.inl "tuple") (.inl "tuple") = some true := by decide +kernel
  show fIsi tb [.tup ys, .ty "tuple"] S = _
  unfold fIsi
  have t : tyOf tb (.tup ys) S = some (.inl "tuple") := rfl
  dsimp only [clsN]
  rw [t]
  dsimp only
  rw [k]
  rfl
theorem sp_deal_eq {a m : Nat} {r : Rw} {S : So} {P : D → So → Prop} (hg : GoodDeal r.1 r.2) (h1 : S[a]? = some (dealO r.1 r.2)) (h2 : S[m]? = some (dealO r.1 r.2)) (hP : P (.bl true) S) : okC (phi_Dealing_eq [.ref a, .ref m] S) P := by
  show okC (PB.phi_Dealing_eq tb [.ref a, .ref m] S) P
  unfold PB.phi_Dealing_eq
  refine okC_fn rfl ?_
  unfold PB.m_Dealing_eq
  simp only [startE, List.map, List.length, List.replicate, List.cons_append, List.nil_append]
  have e1 : fEq (.tup (r.1.map PB.cutD)) (.tup (r.1.map PB.cutD)) S = some (.bl true, S) := fEq_py (p := .tuple (r.1.map cutP)) (fun z h => by cases h) (by unfold py toPy; rw [pys_cuts]; rfl) (by simp only [PyData.canLay0]; exact lay_cuts hg.cut) (by
    have := depth_all (ps := r.1.map cutP) (k := 1) fun p hp => by
      obtain ⟨c, _, rfl⟩ := List.mem_map.mp hp
      exact depth_cut1 c
    simp only [PyData.depth]
    omega)
  have e2 : fEq (.tup (r.2.map .str)) (.tup (r.2.map .str)) S = some (.bl true, S) := fEq_py (p := .tuple (r.2.map .str)) (fun z h => by cases h) (by unfold py toPy; rw [pys_strs]; rfl) (by simp only [PyData.canLay0]; exact lay_strs hg.words) (by
    have := depth_all (ps := r.2.map .str) (k := 1) fun p hp => by
      obtain ⟨c, _, rfl⟩ := List.mem_map.mp hp
      simp [PyData.depth]
    simp only [PyData.depth]
    omega)
  refine okS_ret ?_
  simp only [okM_andV, okM_opA, okM_op2, okM_op1, okM_cons, okM_var, okM_ret, okM_nil]
  refine ⟨_, rfl, ?_⟩
  rw [isi_deal h2, okF_some]
  refine ⟨_, rfl, ?_⟩
  rw [if_pos rfl]
  refine ⟨_, rfl, ?_⟩
  rw [fFld_ok h1 ogTb.d_c (d := .tup (r.1.map PB.cutD)) rfl, okF_some]
  refine ⟨_, rfl, ?_⟩
  rw [fFld_ok h2 ogTb.d_c (d := .tup (r.1.map PB.cutD)) rfl, okF_some, e1, okF_some]
  refine ⟨_, rfl, ?_⟩
  rw [if_pos rfl]
  refine ⟨_, rfl, ?_⟩
  rw [fFld_ok h1 ogTb.d_p (d := .tup (r.2.map .str)) rfl, okF_some]
  refine ⟨_, rfl, ?_⟩
  rw [fFld_ok h2 ogTb.d_p (d := .tup (r.2.map .str)) rfl, okF_some, e2, okF_some]
  exact hP
theorem own_eq {a m : Nat} {r : Rw} {f' : F2} {S : So} {P : D → So → Prop} (hg : GoodDeal r.1 r.2) (h1 : S[a]? = some (dealO r.1 r.2)) (h2 : S[m]? = some (dealO r.1 r.2)) (hP : P (.bl true) S) : okF (altF (fOwn tb "Dealing" phi_Dealing_eq (nfL askc.nfs "Dealing") id) f' (.ref a) (.ref m) S) P := by
  obtain ⟨y, T, q, rfl, rfl⟩ := sp_deal_eq (P := fun y T => y = .bl true ∧ T = S) hg h1 h2 ⟨rfl, rfl⟩
  have e : fOwn tb "Dealing" phi_Dealing_eq (nfL askc.nfs "Dealing") id (.ref a) (.ref m) T = some (.bl true, T) := by
    unfold fOwn
    dsimp only
    rw [h1]
    dsimp only [dealO]
    rw [if_pos rfl, deal_ty h2]
    dsimp only
    rw [if_pos nf_deal, q]
    rfl
  refine ⟨_, _, ?_, hP⟩
  unfold altF
  rw [e]
end K26

set_option Elab.async false
set_option linter.all false
set_option maxRecDepth 100000
set_option maxHeartbeats 1000000
namespace K26
open PySem PySem.Spec PyProof.Rows L2 DD PB
/-- what is asked of a row of dealings that is looked at -/
structure RowsOk (l dl : List (Str × Nat)) (rows : List Rw) : Prop where
  good : ∀ r ∈ rows, GoodDeal r.1 r.2
  sides : ∀ r ∈ rows, ∀ c ∈ r.1, c.1 ∈ l.map (·.1) ∧ c.2.2 ∈ dl.map (·.1)
  dirs : ∀ r ∈ rows, ∀ p ∈ r.2, p ∈ dl.map (·.1)
  some : 1 ≤ rows.length
  few : rows.length ≤ 1000
theorem fIx_tup {ys : List D} {i : Nat} {y : D} {S : So} (h : ys[i]? = some y) : fIx (.tup ys) (.int (i : Nat)) S = some (y, S) := by
  have hi := (List.getElem?_eq_some_iff.mp h).1
  obtain ⟨x, q, g⟩ := atI_ok (xs := ys) (i := (i : Int)) (by omega) (by omega)
  rw [Int.toNat_natCast, h] at g
  cases g
  unfold fIx
  dsimp only [seqOf]
  rw [q]
  rfl
theorem fIx_lst {ys : List D} {j i : Nat} {y : D} {S : So} (hj : S[j]? = some (.lst ys)) (h : ys[i]? = some y) : fIx (.ref j) (.int (i : Nat)) S = some (y, S) := by
  have hi := (List.getElem?_eq_some_iff.mp h).1
  obtain ⟨x, q, g⟩ := atI_ok (xs := ys) (i := (i : Int)) (by omega) (by omega)
  rw [Int.toNat_natCast, h] at g
  cases g
  exact fIx_ref hj q
theorem sp_lshown {ns : List Int} {n j sn gn : Nat} {ys : List D} {l dl : List (Str × Nat)} {rows : List Rw} {S : So} {P : D → So → Prop} (hL : ns.length ≤ 1000) (hS : St ns.length n S) (hr : RowsOk l dl rows) (hly : ys.length = rows.length)
    (hy : ∀ (i : Nat) (r : Rw) (y : D), rows[i]? = some r → ys[i]? = some y → ∃ m, y = .ref m ∧ m ≠ n ∧ S[m]? = some (dealO r.1 r.2)) (hj : S[j]? = some (.lst (rows.map rowDD))) (hjn : j ≠ n) (hs : S[sn]? = some (.lst (l.map PB.prD))) (hsn : sn ≠ n) (hg : S[gn]? = some (gridO dl)) (hgn : gn ≠ n)
    (hP : ∀ T, St ns.length n T → Kx n S T → P (.bl true) T) : okC (phi_lshown [.rol (ns.map .int), .ref n, .tup ys, .ref j, .ref sn, .ref gn] S) P := by
  have few := hr.few
  have nlt := hS.lt
  unfold phi_lshown
  refine okC_fn rfl ?_
  unfold m_lshown
  simp only [startE, List.map, List.length, List.replicate, List.cons_append, List.nil_append]
  refine okS_seq (okS_ifF ?_)
  simp only [okM_or, okM_not, okM_tst, okM_opA, okM_op2, okM_cons, okM_var, okM_ret, okM_nil]
  refine ⟨_, rfl, ?_⟩
  rw [isi_tup, okF_some]
  refine ⟨_, rfl, ?_⟩
  simp only [Bool.not_true, Bool.false_eq_true, if_false]
  refine ⟨_, rfl, ?_⟩
  rw [fLen_seq (show seqOf (.tup ys) S = some (true, ys) from rfl), okF_some]
  refine ⟨_, rfl, ?_⟩
  rw [fLen_ref hj, okF_some, fNe_int, okF_some, List.length_map, hly]
  refine ⟨_, rfl, by simp, okS_nx ?_⟩
  simp only [nxt_nx]
  refine okS_seq (okS_each (okM_var.mpr ⟨_, rfl, ?_⟩))
  obtain ⟨it, i1, i2⟩ := seqI_row (e := [Sv.v (.rol (ns.map .int)), .v (.ref n), .v (.tup ys), .v (.ref j), .v (.ref sn), .v (.ref gn), .no, .no, .no]) (show seqOf (.tup ys) S = some (true, ys) from rfl)
  refine ⟨it, ys, i1, i2, fun i e2 T => T = S ∧ ∃ s, e2 = [.v (.rol (ns.map .int)), .v (.ref n), .v (.tup ys), .v (.ref j), .v (.ref sn), .v (.ref gn), s, .no, .no], ⟨rfl, _, rfl⟩, ?_, ?_⟩
  · rintro i e2 T x hk hx ⟨rfl, s, rfl⟩
    refine ⟨_, rfl, ?_⟩
    have hi := (List.getElem?_eq_some_iff.mp hx).1
    obtain ⟨m, rfl, hmn, hm⟩ := hy i _ x (List.getElem?_eq_getElem (by omega)) hx
    unfold b_lshown_1
    refine okS_ifF ?_
    simp only [okM_not, okM_tst, okM_opA, okM_cons, okM_var, okM_ret, okM_nil]
    refine ⟨_, rfl, ?_⟩
    rw [isi_deal hm, okF_some]
    exact ⟨_, rfl, rfl, okS_nx ⟨Keep.refl _, rfl, _, rfl⟩⟩
  · rintro e2 T hk ⟨rfl, s, rfl⟩
    simp only [nxt_nx]
    refine okS_seq (okS_ifF ?_)
    simp only [okM_tst, okM_op2]
    refine okM_mapA (α := D × Rw) (·.1) (fun q => rowDD q.2) (okM_var.mpr ⟨_, rfl, true, ys.zip rows, by rw [zip_fst hly]; rfl, by rw [List.length_zip]; omega, fun q U hq kU => ⟨_, rfl, ?_⟩, fun U kU hU => ?_⟩)
    · obtain ⟨i, hi⟩ := List.mem_iff_getElem?.mp hq
      obtain ⟨a1, a2⟩ := List.getElem?_zip_eq_some.mp hi
      obtain ⟨y, r⟩ := q
      obtain ⟨m, hy', hmn, hm⟩ := hy i r y a2 a1
      subst hy'
      simp only [okM_opA, okM_op1, okM_cons, okM_var, okM_nil]
      refine ⟨_, rfl, ?_⟩
      rw [fFld_ok (kU _ _ hm) ogTb.d_c (d := .tup (r.1.map PB.cutD)) rfl, okF_some]
      refine ⟨_, rfl, ?_⟩
      rw [fFld_ok (kU _ _ hm) ogTb.d_p (d := .tup (r.2.map .str)) rfl, okF_some, fTup_ok (by simp), okF_some]
      exact ⟨Keep.refl _, rfl⟩
    · have e1 : ((ys.zip rows).map fun q => rowDD q.2) = rows.map rowDD := by
        have : ((ys.zip rows).map fun q => rowDD q.2) = ((ys.zip rows).map (·.2)).map rowDD := by rw [List.map_map]; rfl
        rw [this, zip_snd hly]
      rw [e1] at hU
      refine okM_var.mpr ⟨_, rfl, ?_⟩
      rw [fNe_rows hr.good hU (kU _ _ hj), okF_some]
      refine ⟨_, rfl, rfl, okS_nx ?_⟩
      simp only [nxt_nx]
      refine okS_seq (okS_rng ?_)
      simp only [okM_cons, okM_ret, okM_nil]
      refine ⟨5, rfl, by decide, fun i e2 V => ∃ s6 s7 s8, e2 = [.v (.rol (ns.map .int)), .v (.ref n), .v (.tup ys), .v (.ref j), .v (.ref sn), .v (.ref gn), s6, s7, s8] ∧ St ns.length n V ∧ Kx n T V, ⟨_, _, _, rfl, hS.keep kU, Keep.kx kU⟩, ?_, ?_⟩
      · rintro i e2 V hi ⟨s6, s7, s8, rfl, hV, kV⟩
        refine ⟨_, rfl, ?_⟩
        unfold b_lshown_2
        simp only [List.set]
        refine okS_seq (okS_asg ?_)
        simp only [okM_call, okM_opA, okM_cons, okM_var, okM_nil]
        refine ⟨_, rfl, _, rfl, _, rfl, ?_⟩
        rw [fLen_ref (kV.get _ _ hjn hj), okF_some, List.length_map]
        have h1 := hr.some
        refine sp_ldraw hL hV (by omega) (by omega) fun a W a0 a1 hW smW => ?_
        simp only [nxt_nx, List.set]
        obtain ⟨k, rfl⟩ : ∃ k : Nat, a = (k : Int) := ⟨a.toNat, by omega⟩
        have kl : k < rows.length := by omega
        have hrk := List.getElem?_eq_getElem kl
        generalize rows[k] = r at hrk
        have kl2 : k < ys.length := by omega
        have hyk := List.getElem?_eq_getElem kl2
        generalize ys[k] = y at hyk
        obtain ⟨m, rfl, hmn, hm⟩ := hy k r y hrk hyk
        have hmem : r ∈ rows := List.mem_of_getElem? hrk
        have gd := hr.good r hmem
        have kW : Kx n T W := kV.trans smW.kx
        have hmW := kW.get _ _ hmn hm
        have hjW := kW.get _ _ hjn hj
        have rk : (rows.map rowDD)[k]? = some (rowDD r) := by rw [List.getElem?_map, hrk]; rfl
        refine okS_seq (okS_ifF ?_)
        simp only [okM_not, okM_tst, okM_call, okM_opA, okM_op1, okM_op2, okM_cons, okM_var, okM_nil]
        refine ⟨_, rfl, _, rfl, ?_⟩
        rw [fIx_tup hyk, okF_some, fFld_ok hmW ogTb.d_c (d := .tup (r.1.map PB.cutD)) rfl, okF_some]
        refine ⟨_, rfl, _, rfl, ?_⟩
        rw [fIx_tup hyk, okF_some, fFld_ok hmW ogTb.d_p (d := .tup (r.2.map .str)) rfl, okF_some, fTup_ok (by simp), okF_some]
        refine ⟨_, rfl, _, rfl, ?_⟩
        rw [fIx_lst hjW rk, okF_some]
        refine (same_row r gd.few.1 gd.few.2 W).imp fun q X hq => ?_
        obtain ⟨rfl, rfl⟩ := hq
        refine ⟨_, rfl, rfl, okS_nx ?_⟩
        simp only [nxt_nx]
        refine okS_ifF ?_
        simp only [okM_or, okM_not, okM_tst, okM_call, okM_opA, okM_op1, okM_op2, okM_cons, okM_var, okM_ret, okM_nil]
        refine ⟨_, rfl, _, rfl, ?_⟩
        rw [fIx_tup hyk, okF_some]
        refine ⟨_, rfl, _, rfl, ?_⟩
        refine sp_fits hmW (b := false) (seqOf_ref (kW.get _ _ hsn hs)) (kW.get _ _ hgn hg) (hr.sides r hmem) (hr.dirs r hmem) gd.few.1 gd.few.2 fun X kX => ?_
        refine (same_true (k := 5) X).imp fun q Y hq => ?_
        obtain ⟨rfl, rfl⟩ := hq
        refine ⟨_, rfl, ?_⟩
        simp only [Bool.not_true, Bool.false_eq_true, if_false]
        refine ⟨_, rfl, _, rfl, ?_⟩
        rw [fIx_tup hyk, okF_some]
        refine ⟨_, rfl, _, rfl, ?_⟩
        rw [fIx_lst (kX _ _ hjW) rk, okF_some]
        rw [show fIx (rowDD r) (.int 0) Y = some (.tup (r.1.map PB.cutD), Y) from rfl, okF_some]
        refine ⟨_, rfl, _, rfl, ?_⟩
        rw [fIx_lst (kX _ _ hjW) rk, okF_some]
        rw [show fIx (rowDD r) (.int 1) Y = some (.tup (r.2.map .str), Y) from rfl, okF_some]
        refine sp_dealing gd fun Z kZ hZ => ?_
        refine own_eq gd (kZ _ _ (kX _ _ hmW)) hZ ?_
        refine (same_true (k := 5) Z).imp fun q Z2 hq => ?_
        obtain ⟨rfl, rfl⟩ := hq
        refine ⟨_, rfl, rfl, okS_nx ?_⟩
        exact ⟨_, _, _, rfl, (hW.keep kX).keep kZ, kW.trans ((Keep.kx kX).trans (Keep.kx kZ))⟩
      · rintro e2 V ⟨s6, s7, s8, rfl, hV, kV⟩
        simp only [nxt_nx]
        refine okS_ret ?_
        simp only [okM_ret]
        exact hP V hV kV
end K26

set_option Elab.async false
set_option linter.all false
set_option maxRecDepth 100000
set_option maxHeartbeats 1000000
namespace K26
open PySem PySem.Spec PyProof.Rows L2 DD PB
theorem rowsW_pos (l : List (Str × Nat)) : ∀ (ds : List Str) (rs : List Rw), 1 ≤ rs.length → 1 ≤ (rowsW l ds rs).length
  | [], rs, h => h
  | d :: ds, rs, h => by
    refine rowsW_pos l ds _ ?_
    obtain ⟨r, rs', rfl⟩ : ∃ r rs', rs = r :: rs' := by
      cases rs with
      | nil => simp at h
      | cons r rs' => exact ⟨r, rs', rfl⟩
    rw [List.flatMap_cons, List.length_append]
    unfold stepW
    simp
    omega
theorem rows_ok {l dl : List (Str × Nat)} (hw : ∀ p ∈ l, wordZ p.1 = true) (hl : l.length ≤ 4) (hd : ascP (dl.map (·.1)) = true) (hdw : ∀ p ∈ dl, wordZ p.1 = true) (h3 : dl.length ≤ 3) : RowsOk l dl (sortR (allRows (dl.map (·.1)) l)) := by
  have g := rows_good hw hd (fun d hd => by
    obtain ⟨p, hp, rfl⟩ := List.mem_map.mp hd
    exact hdw p hp) (by rw [List.length_map]; exact h3)
  have mem : ∀ r, r ∈ sortR (allRows (dl.map (·.1)) l) → r ∈ allRows (dl.map (·.1)) l := fun r hr => List.mem_mergeSort.mp hr
  have len : (sortR (allRows (dl.map (·.1)) l)).length = (allRows (dl.map (·.1)) l).length := by unfold sortR; rw [List.length_mergeSort]
  refine ⟨fun r hr => (g r (mem r hr)).2, fun r hr c hc => ⟨?_, ((g r (mem r hr)).1.cut c hc).2.2⟩, fun r hr p hp => (g r (mem r hr)).1.sub p hp, ?_, ?_⟩
  · exact fits_row (ds := []) (l := l) (dl.map (·.1)) [([], [])] (fun x hx => by
      have : x = ([], []) := by simpa using hx
      subst this
      exact fun c hc => (nomatch hc)) r (show r ∈ rowsW l (dl.map (·.1)) [([], [])] from mem r hr) c hc
  · rw [len]
    exact rowsW_pos l _ _ (by simp)
  · rw [len]
    have h1 := rowsW_len l hl (dl.map (·.1)) [([], [])]
    have h2 : (dl.map (·.1)).length ≤ 3 := by rw [List.length_map]; exact h3
    have h4 : (10 : Nat) ^ (dl.map (·.1)).length ≤ 10 ^ 3 := Nat.pow_le_pow_right (by decide) h2
    have h5 : (10 : Nat) ^ 3 = 1000 := by decide
    simp only [List.length_cons, List.length_nil] at h1
    show (rowsW l (dl.map (·.1)) [([], [])]).length ≤ 1000
    omega
theorem deal_ne {L n m : Nat} {cs : List PB.Cut} {ps : List Str} {T : So} (h : T[m]? = some (dealO cs ps)) (hS : St L n T) : m ≠ n := fun e => by
  obtain ⟨a, b, c, d, h1, _⟩ := hS
  rw [e, h1] at h
  cases h
theorem lst_pairs_lay : ∀ {l : List (Str × Nat)}, (∀ p ∈ l, wordZ p.1 = true) → PyData.canLayAll0 (l.map pairP) = true
  | [], _ => by simp [PyData.canLayAll0]
  | p :: l, h => by
    have ih := lst_pairs_lay (l := l) fun q hq => h q (List.mem_cons_of_mem _ hq)
    simp only [List.map_cons, PyData.canLayAll0, pairP, PyData.canLay0, word_lay (h p (List.mem_cons_self ..)), ih, Bool.and_true]
theorem fNe_pairs {a j : Nat} {l : List (Str × Nat)} {S : So} (hw : ∀ p ∈ l, wordZ p.1 = true) (h1 : S[a]? = some (.lst (l.map PB.prD))) (h2 : S[j]? = some (.lst (l.map PB.prD))) : fNe (.ref a) (.ref j) S = some (.bl false, S) := by
  have hl : PyData.canLay0 (.list (l.map pairP)) = true := by simp only [PyData.canLay0]; exact lst_pairs_lay hw
  have hd : (PyData.list (l.map pairP)).depth ≤ 64 := by
    have := depth_all (ps := l.map pairP) (k := 1) fun p hp => by
      obtain ⟨r, _, rfl⟩ := List.mem_map.mp hp
      unfold pairP
      simp [PyData.depth, PyData.depthAll]
    simp only [PyData.depth]
    omega
  have sh : SeqAt.shaped (.list (l.map pairP)) = true := by unfold SeqAt.shaped; rw [hl, decide_eq_true hd]; rfl
  unfold fNe
  dsimp only
  unfold eqD
  rw [DD.py_list h1 (pys_pairs l), DD.py_list h2 (pys_pairs l)]
  dsimp only
  rw [if_pos ⟨sh, sh⟩, PySem.SeqAt.eqv_refl _ hl]
  rfl
/-- a look at the dealings of these sides and this grid -/
theorem sp_look {ns : List Int} {n j sn g2 : Nat} {l dl : List (Str × Nat)} {S : So} {P : D → So → Prop} (hL : ns.length ≤ 1000) (hS : St ns.length n S) (hw : ∀ p ∈ l, wordZ p.1 = true) (hl : l.length ≤ 4) (hd : ascP (dl.map (·.1)) = true) (hdw : ∀ p ∈ dl, wordZ p.1 = true) (h3 : dl.length ≤ 3)
    (ys : List D) (hly : ys.length = (sortR (allRows (dl.map (·.1)) l)).length) (hy : ∀ (i : Nat) (r : Rw) (y : D), (sortR (allRows (dl.map (·.1)) l))[i]? = some r → ys[i]? = some y → ∃ m, y = .ref m ∧ S[m]? = some (dealO r.1 r.2))
    (hj : S[j]? = some (.lst ((sortR (allRows (dl.map (·.1)) l)).map rowDD))) (hjn : j ≠ n) (hs : S[sn]? = some (.lst (l.map PB.prD))) (hsn : sn ≠ n) (hg : S[g2]? = some (gridO dl)) (hgn : g2 ≠ n)
    (hP : ∀ T, St ns.length n T → Kx n S T → P (.bl true) T) : okC (phi_lshown [.rol (ns.map .int), .ref n, .tup ys, .ref j, .ref sn, .ref g2] S) P :=
  sp_lshown hL hS (rows_ok hw hl hd hdw h3) hly (fun i r y a c => by
    obtain ⟨m, h1, h2⟩ := hy i r y a c
    exact ⟨m, h1, deal_ne h2 hS, h2⟩) hj hjn hs hsn hg hgn hP
end K26

set_option Elab.async false
set_option linter.all false
set_option maxRecDepth 100000
set_option maxHeartbeats 2000000
namespace K26
open PySem PySem.Spec PyProof.Rows L2 DD PB
theorem slTo {ma mh : MM D} {e : Sl} {S : So} {P : D → So → Prop} (h : okM ma e S fun a S1 => okM mh e S1 fun k S2 => ∃ (n : Nat) (xs : List D) (i : Int), a = .ref n ∧ k = .int i ∧ S2[n]? = some (.lst xs) ∧ P (.ref S2.length) (S2 ++ [.lst (DD.cutD xs none (some i))])) :
    okM (mSl ma mNoPart (mPart mh)) e S P := by
  unfold mSl mNoPart mPart
  simp only [okM_bind, okM_ret]
  refine h.imp fun a S1 q => ?_
  refine q.imp fun k S2 q => ?_
  obtain ⟨n, xs, i, rfl, rfl, hx, hP⟩ := q
  refine ⟨_, _, rfl, _, _, ?_, hP⟩
  unfold liftF DD.fSl seqOf
  dsimp only
  rw [hx]
theorem slFrom {ma ml : MM D} {e : Sl} {S : So} {P : D → So → Prop} (h : okM ma e S fun a S1 => okM ml e S1 fun k S2 => ∃ (n : Nat) (xs : List D) (i : Int), a = .ref n ∧ k = .int i ∧ S2[n]? = some (.lst xs) ∧ P (.ref S2.length) (S2 ++ [.lst (DD.cutD xs (some i) none)])) :
    okM (mSl ma (mPart ml) mNoPart) e S P := by
  unfold mSl mNoPart mPart
  simp only [okM_bind, okM_ret]
  refine h.imp fun a S1 q => ?_
  refine q.imp fun k S2 q => ?_
  obtain ⟨n, xs, i, rfl, rfl, hx, hP⟩ := q
  refine ⟨_, _, rfl, _, _, ?_, hP⟩
  unfold liftF DD.fSl seqOf
  dsimp only
  rw [hx]
theorem cut4 (l : List (Str × Nat)) : DD.cutD (l.map PB.prD) none (some 4) = (l.take 4).map PB.prD := by
  unfold DD.cutD
  rw [HT.sIx_none, show (4 : Int) = ((4 : Nat) : Int) from rfl, HT.sIx_nat, List.drop_zero, Nat.sub_zero, List.map_take, List.length_map]
  by_cases h : 4 ≤ l.length
  · rw [Nat.min_eq_left h]
  · rw [Nat.min_eq_right (by omega), List.take_of_length_le (by simp), List.take_of_length_le (by simp; omega)]
theorem cut1 (l : List (Str × Nat)) : DD.cutD (l.map PB.prD) (some 1) none = (l.drop 1).map PB.prD := by
  unfold DD.cutD
  rw [HT.sIx_none, show (1 : Int) = ((1 : Nat) : Int) from rfl, HT.sIx_nat, List.map_drop, List.length_map]
  by_cases h : 1 ≤ l.length
  · rw [Nat.min_eq_left h, List.take_of_length_le (by simp)]
  · have : l = [] := List.length_eq_zero_iff.mp (by omega)
    subst this
    rfl
theorem fList_ref {n : Nat} {xs : List D} {S : So} (h : S[n]? = some (.lst xs)) : fList [.ref n] S = some (.ref S.length, S ++ [.lst xs]) := by
  unfold fList
  dsimp only
  rw [seqOf_ref h]
theorem law_rest {ns : List Int} {n gr sn : Nat} {d2 : D} {s5 s6 s7 : Sv} {l dl : List (Str × Nat)} {S : So} {P : D → So → Prop} (hL : ns.length ≤ 1000) (hS : St ns.length n S) (hg : S[gr]? = some (.lst (dl.map PB.prD))) (hgn : gr ≠ n) (hs : S[sn]? = some (.lst (l.map PB.prD))) (hsn : sn ≠ n)
    (hz : Sized 4 8 dl) (h1 : 1 ≤ dl.length) (h3 : dl.length ≤ 3) (hw : ∀ p ∈ l, wordZ p.1 = true) (hl : l.length ≤ 4) (hP : ∀ T, P (.bl true) T) :
    okS (seqS (asgS (mCall phi_ldue (mCons (mVar 4) (mCons (mVar 3) mNil))) (nmT 8)) (seqS (asgS (mOpA fList (mCons (mVar 4) mNil)) (nmT 9)) (seqS (ifS (mOr (mNot (mTst (mCall phi_lshown (mCons (mVar 0) (mCons (mVar 1) (mCons (mCall phi_dealings (mCons (mVar 9) (mCons (mCall (makeF "Grid" phi_Grid_init) (mCons (mVar 3) mNil)) mNil))) (mCons (mVar 8) (mCons (mVar 4) (mCons (mCall (makeF "Grid" phi_Grid_init) (mCons (mVar 3) mNil)) mNil))))))))) (mTst (mOp2 fNe (mVar 9) (mVar 4)))) (retS (retM (.bl false))) nxS) (seqS (exprS (mMeth isL fAppend (mVar 9) (mCons (mOpA fTup (mCons (retM (.str "zz")) (mCons (retM (.int 2)) mNil))) mNil))) (seqS (asgS (mCall phi_lgrid (mCons (mVar 0) (mCons (mVar 1) (mCons (retM (.int 4)) (mCons (retM (.int 1)) mNil))))) (nmT 10)) (seqS (asgS (mSl (mVar 4) (mPart (retM (.int 1))) mNoPart) (nmT 11)) (seqS (ifS (mNot (mTst (mCall phi_lshown (mCons (mVar 0) (mCons (mVar 1) (mCons (mCall phi_dealings (mCons (mVar 11) (mCons (mCall (makeF "Grid" phi_Grid_init) (mCons (mVar 10) mNil)) mNil))) (mCons (mCall phi_ldue (mCons (mVar 11) (mCons (mVar 10) mNil))) (mCons (mVar 11) (mCons (mCall (makeF "Grid" phi_Grid_init) (mCons (mVar 10) mNil)) mNil))))))))) (retS (retM (.bl false))) nxS) (retS (mCall phi_lshown (mCons (mVar 0) (mCons (mVar 1) (mCons (mCall phi_dealings (mCons (mOpA fTuple (mCons (mVar 4) mNil)) (mCons (mCall (makeF "Grid" phi_Grid_init) (mCons (mVar 3) mNil)) mNil))) (mCons (mVar 8) (mCons (mVar 4) (mCons (mCall (makeF "Grid" phi_Grid_init) (mCons (mVar 3) mNil)) mNil)))))))))))))))
      [.v (.rol (ns.map .int)), .v (.ref n), .v d2, .v (.ref gr), .v (.ref sn), s5, s6, s7, .no, .no, .no, .no] S (endP P) := by
  have nlt := hS.lt
  have dw : ∀ p ∈ dl, wordZ p.1 = true := hz.word
  refine okS_seq (okS_asg ?_)
  simp only [okM_call, okM_cons, okM_var, okM_nil]
  refine ⟨_, rfl, _, rfl, ?_⟩
  refine sp_ldue hs hg hl h3 fun T1 j k1 jl hj => ?_
  simp only [nxt_nx, List.set]
  have hjn : j ≠ n := by omega
  refine okS_seq (okS_asg ?_)
  simp only [okM_opA, okM_cons, okM_var, okM_nil]
  refine ⟨_, rfl, ?_⟩
  rw [fList_ref (k1 _ _ hs), okF_some]
  simp only [nxt_nx, List.set]
  have k2 : Keep S (T1 ++ [O.lst (l.map PB.prD)]) := k1.trans (Keep.app _ _)
  have hpa : (T1 ++ [O.lst (l.map PB.prD)])[T1.length]? = some (.lst (l.map PB.prD)) := get_new
  have pan : T1.length ≠ n := by have := k1.len; omega
  have hj2 := (Keep.app T1 (.lst (l.map PB.prD))) _ _ hj
  generalize hpl : T1.length = pa at hpa pan ⊢
  have pas : sn ≠ pa := by have := (List.getElem?_eq_some_iff.mp (k1 _ _ hs)).1; omega
  have pag : gr ≠ pa := by have := (List.getElem?_eq_some_iff.mp (k1 _ _ hg)).1; omega
  have paj : j ≠ pa := by have := (List.getElem?_eq_some_iff.mp hj).1; omega
  generalize hT2 : T1 ++ [O.lst (l.map PB.prD)] = T2 at k2 hpa hj2 ⊢
  refine okS_seq (okS_ifF ?_)
  simp only [okM_or, okM_not, okM_tst, okM_call, okM_op2, okM_cons, okM_var, okM_nil]
  refine ⟨_, rfl, _, rfl, _, rfl, _, rfl, ?_⟩
  refine sp_grid (py_pairsL (k2 _ _ hg)) (.inl rfl) hz h1 h3 fun T3 k3 hg3 => ?_
  refine sp_dealings (seqOf_ref (k3 _ _ hpa)) hg3 hl h3 (fun r hr => (rows_good hw hz.asc (fun x hx => by obtain ⟨p, hp, rfl⟩ := List.mem_map.mp hx; exact dw p hp) (by rw [List.length_map]; exact h3) r hr).2) fun T4 ys k4 hly hy => ?_
  refine ⟨_, rfl, _, rfl, _, rfl, ?_⟩
  have k24 := k3.trans k4
  refine sp_grid (py_pairsL ((k2.trans k24) _ _ hg)) (.inl rfl) hz h1 h3 fun T5 k5 hg5 => ?_
  have k25 := k24.trans k5
  have k05 := k2.trans k25
  refine sp_look hL (hS.keep k05) hw hl hz.asc dw h3 ys hly (fun i r y a c => by
    obtain ⟨m, q1, q2⟩ := hy i r y a c
    exact ⟨m, q1, k5 _ _ q2⟩) (k25 _ _ hj2) hjn (k05 _ _ hs) hsn hg5 (by have := (k2.trans k24).len; omega) fun T6 hS6 kx6 => ?_
  refine ⟨_, rfl, ?_⟩
  simp only [Bool.not_true, Bool.false_eq_true, if_false]
  have hpa6 := kx6.get _ _ pan (k25 _ _ hpa)
  have hs6 := kx6.get _ _ hsn (k05 _ _ hs)
  have hg6 := kx6.get _ _ hgn (k05 _ _ hg)
  have hj6 := kx6.get _ _ hjn (k25 _ _ hj2)
  refine ⟨_, rfl, _, rfl, ?_⟩
  rw [fNe_pairs hw hpa6 hs6, okF_some]
  refine ⟨_, rfl, rfl, okS_nx ?_⟩
  simp only [nxt_nx]
  refine okS_seq (okS_expr ?_)
  simp only [okM_meth, okM_opA, okM_cons, okM_var, okM_ret, okM_nil]
  refine ⟨_, rfl, isL_ref hpa6, ?_⟩
  rw [fTup_ok (by simp), okF_some, fAppend_ref hpa6 (by rw [List.length_map]; have := line200; omega), okF_some]
  simp only [nxt_nx]
  have hS7 := hS6.set_ne (f := pa) (o := .lst (l.map PB.prD ++ [.tup [.str "zz", .int 2]])) pan
  have hs7 : (T6.set pa (.lst (l.map PB.prD ++ [.tup [.str "zz", .int 2]])))[sn]? = some (.lst (l.map PB.prD)) := by rw [List.getElem?_set_ne (Ne.symm pas)]; exact hs6
  have hg7 : (T6.set pa (.lst (l.map PB.prD ++ [.tup [.str "zz", .int 2]])))[gr]? = some (.lst (dl.map PB.prD)) := by rw [List.getElem?_set_ne (Ne.symm pag)]; exact hg6
  have hj7 : (T6.set pa (.lst (l.map PB.prD ++ [.tup [.str "zz", .int 2]])))[j]? = some (.lst ((sortR (allRows (dl.map (·.1)) l)).map rowDD)) := by rw [List.getElem?_set_ne (Ne.symm paj)]; exact hj6
  generalize T6.set pa (.lst (l.map PB.prD ++ [.tup [.str "zz", .int 2]])) = T7 at hS7 hs7 hg7 hj7 ⊢
  refine okS_seq (okS_asg ?_)
  simp only [okM_call, okM_cons, okM_var, okM_ret, okM_nil]
  refine ⟨_, rfl, _, rfl, ?_⟩
  have lg : ∀ (P : D → So → Prop), (∀ (ol : List (Str × Nat)) T o, 1 ≤ ol.length → ol.length ≤ 1 → Sized 4 4 ol → T[o]? = some (.lst (ol.map PB.prD)) → T7.length ≤ o → St ns.length n T → Kx n T7 T → P (.ref o) T) → okC (phi_lgrid [.rol (ns.map .int), .ref n, .int 4, .int 1] T7) P := fun P h => sp_lgrid (cells := 4) (ways := 1) hL hS7 (by decide) (by decide) h
  refine lg _ fun ol T8 o o1 o2 oz ho oT hS8 kx8 => ?_
  simp only [nxt_nx, List.set]
  have n7 := hS7.lt
  have hon : o ≠ n := by omega
  have hs8 := kx8.get _ _ hsn hs7
  have hg8 := kx8.get _ _ hgn hg7
  have hj8 := kx8.get _ _ hjn hj7
  have oz8 : Sized 4 8 ol := ⟨oz.asc, oz.word, oz.size, Nat.le_trans oz.prod (by decide)⟩
  refine okS_seq (okS_asg ?_)
  refine slFrom ?_
  simp only [okM_var, okM_ret]
  refine ⟨_, rfl, sn, _, _, rfl, rfl, hs8, ?_⟩
  rw [cut1]
  simp only [nxt_nx, List.set]
  have k9 := Keep.app T8 (.lst ((l.drop 1).map PB.prD))
  have hn9 : (T8 ++ [O.lst ((l.drop 1).map PB.prD)])[T8.length]? = some (.lst ((l.drop 1).map PB.prD)) := get_new
  have n8 := hS8.lt
  have nen : T8.length ≠ n := by omega
  generalize T8.length = ne at hn9 nen ⊢
  generalize T8 ++ [O.lst ((l.drop 1).map PB.prD)] = T9 at k9 hn9 ⊢
  have hS9 := hS8.keep k9
  have hw1 : ∀ p ∈ l.drop 1, wordZ p.1 = true := fun p hp => hw p (List.mem_of_mem_drop hp)
  have hl1 : (l.drop 1).length ≤ 4 := by rw [List.length_drop]; omega
  refine okS_seq (okS_ifF ?_)
  simp only [okM_not, okM_tst, okM_call, okM_cons, okM_var, okM_nil]
  refine ⟨_, rfl, _, rfl, _, rfl, _, rfl, ?_⟩
  refine sp_grid (py_pairsL (k9 _ _ ho)) (.inl rfl) oz8 o1 (by omega) fun A1 a1 hA1 => ?_
  refine sp_dealings (seqOf_ref (a1 _ _ hn9)) hA1 hl1 (by omega) (fun r hr => (rows_good hw1 oz8.asc (fun x hx => by obtain ⟨p, hp, rfl⟩ := List.mem_map.mp hx; exact oz8.word p hp) (by rw [List.length_map]; omega) r hr).2) fun A2 ys2 a2 hly2 hy2 => ?_
  have a12 := a1.trans a2
  refine ⟨_, rfl, _, rfl, ?_⟩
  refine sp_ldue (a12 _ _ hn9) ((k9.trans a12) _ _ ho) hl1 (by omega) fun A3 j2 a3 j2l hj2' => ?_
  have a13 := a12.trans a3
  refine ⟨_, rfl, _, rfl, ?_⟩
  refine sp_grid (py_pairsL ((k9.trans a13) _ _ ho)) (.inl rfl) oz8 o1 (by omega) fun A4 a4 hA4 => ?_
  have a14 := a13.trans a4
  have n9 := hS9.lt
  refine sp_look hL (hS9.keep a14) hw1 hl1 oz8.asc oz8.word (by omega) ys2 hly2 (fun i r y a c => by
    obtain ⟨m, q1, q2⟩ := hy2 i r y a c
    exact ⟨m, q1, a4 _ _ (a3 _ _ q2)⟩) (a4 _ _ hj2') (by have := a12.len; omega) (a14 _ _ hn9) nen hA4 (by have := a13.len; omega) fun B hSB kxB => ?_
  refine ⟨_, rfl, rfl, okS_nx ?_⟩
  simp only [nxt_nx]
  have hsB := kxB.get _ _ hsn ((k9.trans a14) _ _ hs8)
  have hgB := kxB.get _ _ hgn ((k9.trans a14) _ _ hg8)
  have hjB := kxB.get _ _ hjn ((k9.trans a14) _ _ hj8)
  refine okS_ret ?_
  simp only [okM_call, okM_opA, okM_cons, okM_var, okM_nil]
  refine ⟨_, rfl, _, rfl, _, rfl, ?_⟩
  rw [fTuple_seq (seqOf_ref hsB), okF_some]
  refine ⟨_, rfl, ?_⟩
  refine sp_grid (py_pairsL hgB) (.inl rfl) hz h1 h3 fun C1 c1 hC1 => ?_
  refine sp_dealings (b := true) rfl hC1 hl h3 (fun r hr => (rows_good hw hz.asc (fun x hx => by obtain ⟨p, hp, rfl⟩ := List.mem_map.mp hx; exact dw p hp) (by rw [List.length_map]; exact h3) r hr).2) fun C2 ys3 c2 hly3 hy3 => ?_
  have c12 := c1.trans c2
  refine ⟨_, rfl, _, rfl, _, rfl, ?_⟩
  refine sp_grid (py_pairsL (c12 _ _ hgB)) (.inl rfl) hz h1 h3 fun C3 c3 hC3 => ?_
  have c13 := c12.trans c3
  have nB := hSB.lt
  exact sp_look hL (hSB.keep c13) hw hl hz.asc dw h3 ys3 hly3 (fun i r y a c => by
    obtain ⟨m, q1, q2⟩ := hy3 i r y a c
    exact ⟨m, q1, c3 _ _ q2⟩) (c13 _ _ hjB) hjn (c13 _ _ hsB) hsn hC3 (by have := c12.len; omega) fun E _ _ => hP E
end K26

set_option Elab.async false
set_option linter.all false
set_option maxRecDepth 100000
set_option maxHeartbeats 2000000
namespace K26
open PySem PySem.Spec PyProof.Rows L2 DD PB
theorem law_true (ns : List Int) (hn : ns.length ≤ 63) : ∃ S', phi_law [.rol (ns.map .int)] [] = some (.ok (.bl true), S') := by
  have hL : ns.length ≤ 1000 := by omega
  have key : okC (phi_law [.rol (ns.map .int)] []) fun d _ => d = .bl true := by
    unfold phi_law
    refine okC_fn rfl ?_
    unfold m_law
    simp only [startE, List.map, List.length, List.replicate, List.cons_append, List.nil_append]
    refine okS_seq (okS_asg ?_)
    simp only [okM_call, okM_cons, okM_var, okM_nil]
    refine ⟨_, rfl, ?_⟩
    refine sp_lstate hL fun S1 l1 _ hS1 => ?_
    have l1 : S1.length = 1 := l1
    have hS1 : PB.St ns.length 0 S1 := hS1
    show nxt _ _ _ [.v (.rol (ns.map .int)), .v (.ref 0), .no, .no, .no, .no, .no, .no, .no, .no, .no, .no] _
    simp only [nxt_nx]
    refine okS_seq (okS_asg ?_)
    simp only [okM_op2, okM_call, okM_cons, okM_var, okM_ret, okM_nil]
    refine ⟨_, rfl, _, rfl, ?_⟩
    refine sp_ldraw hL hS1 (by decide) (by decide) fun r S2 r0 r1 hS2 sm2 => ?_
    rw [fAdd_int, okF_some]
    simp only [nxt_nx, List.set]
    obtain ⟨w, hw⟩ : ∃ w : Nat, 1 + r = (w : Int) := ⟨(1 + r).toNat, by omega⟩
    rw [hw]
    refine okS_seq (okS_asg ?_)
    simp only [okM_call, okM_cons, okM_var, okM_ret, okM_nil]
    refine ⟨_, rfl, _, rfl, _, rfl, ?_⟩
    have lg : ∀ (P : D → So → Prop), (∀ (dl : List (Str × Nat)) T o, 1 ≤ dl.length → dl.length ≤ w → Sized 4 8 dl → T[o]? = some (.lst (dl.map PB.prD)) → S2.length ≤ o → PB.St ns.length 0 T → Kx 0 S2 T → P (.ref o) T) → okC (phi_lgrid [.rol (ns.map .int), .ref 0, .int 8, .int (w : Nat)] S2) P := fun P h => sp_lgrid (cells := 8) (ways := w) hL hS2 (by omega) (by decide) h
    refine lg _ fun dl S3 gr g1 g2 gz hg grl hS3 kx3 => ?_
    have l2 : S2.length = 1 := by rw [sm2.len, l1]
    have grn : gr ≠ 0 := by omega
    simp only [nxt_nx, List.set]
    refine okS_seq (okS_asg ?_)
    refine slTo ?_
    simp only [okM_call, okM_op2, okM_cons, okM_var, okM_ret, okM_nil]
    refine ⟨_, rfl, _, rfl, _, rfl, ?_⟩
    rw [fSub_int, okF_some]
    refine ⟨_, rfl, _, rfl, ?_⟩
    refine sp_ldraw hL hS3 (by decide) (by decide) fun r2 S4 r20 r21 hS4 sm4 => ?_
    rw [fAdd_int, okF_some]
    obtain ⟨m, hm⟩ : ∃ m : Nat, 5 - (w : Int) + r2 = (m : Int) := ⟨(5 - (w : Int) + r2).toNat, by omega⟩
    rw [hm]
    have ls : ∀ (P : D → So → Prop), (∀ (l : List (Str × Nat)) T o, l.length ≤ m → Sized 6 200 l → T[o]? = some (.lst (l.map PB.prD)) → S4.length ≤ o → PB.St ns.length 0 T → Kx 0 S4 T → P (.ref o) T) → okC (phi_lsides [.rol (ns.map .int), .ref 0, .int (m : Nat), .int 200] S4) P := fun P h => sp_lsides (cells := 200) (ways := m) hL hS4 (by omega) (by decide) h
    refine ls _ fun l0 S5 so lm lz hso sol hS5 kx5 => ?_
    refine ⟨so, _, 4, rfl, rfl, hso, ?_⟩
    rw [cut4]
    simp only [nxt_nx, List.set]
    have k6 := Keep.app S5 (.lst ((l0.take 4).map PB.prD))
    have hs6 : (S5 ++ [O.lst ((l0.take 4).map PB.prD)])[S5.length]? = some (.lst ((l0.take 4).map PB.prD)) := get_new
    have n5 := hS5.lt
    have snn : S5.length ≠ 0 := by omega
    generalize S5.length = sn at hs6 snn ⊢
    have hg6 := k6 _ _ (kx5.get _ _ grn (sm4.kx.get _ _ grn hg))
    have hS6 := hS5.keep k6
    generalize S5 ++ [O.lst ((l0.take 4).map PB.prD)] = S6 at hs6 hg6 hS6 ⊢
    have lw : ∀ p ∈ l0.take 4, wordZ p.1 = true := fun p hp => lz.word p (List.mem_of_mem_take hp)
    have ll : (l0.take 4).length ≤ 4 := by rw [List.length_take]; omega
    generalize l0.take 4 = l at hs6 lw ll
    refine okS_seq (okS_if ?_)
    simp only [okM_tst, okM_op2, okM_call, okM_cons, okM_var, okM_ret, okM_nil]
    refine ⟨_, rfl, _, rfl, ?_⟩
    refine sp_ldraw hL hS6 (by decide) (by decide) fun r3 S7 r30 r31 hS7 sm7 => ?_
    rw [fEq_int, okF_some]
    refine ⟨_, rfl, ?_⟩
    have hs7 := sm7.kx.get _ _ snn hs6
    have hg7 := sm7.kx.get _ _ grn hg6
    split
    · refine okS_seq (okS_asg ?_)
      simp only [okM_opA, okM_cons, okM_nil]
      refine okM_mapA PB.prD (fun p => .str p.1) (okM_var.mpr ⟨_, rfl, false, dl, seqOf_ref hg7, by omega, fun p T hp hk => ⟨_, rfl, ?_⟩, fun T1 k1 hT1 => ?_⟩)
      · simp only [okM_op2, okM_var, okM_ret]
        refine ⟨_, rfl, ?_⟩
        rw [show fIx (PB.prD p) (.int 0) T = some (.str p.1, T) from rfl, okF_some]
        exact ⟨Keep.refl _, rfl⟩
      have e1 : dl.map (fun p => D.str p.1) = (dl.map (·.1)).map .str := by rw [List.map_map]; rfl
      rw [e1] at hT1
      rw [fSorted_strs hT1, okF_some]
      simp only [nxt_nx, List.set]
      have k2 := k1.trans (Keep.app T1 (.lst ((sortW (dl.map (·.1))).map .str)))
      have hn2 : (T1 ++ [O.lst ((sortW (dl.map (·.1))).map .str)])[T1.length]? = some (.lst ((sortW (dl.map (·.1))).map .str)) := get_new
      have nw : ∀ x ∈ sortW (dl.map (·.1)), wordZ x = true := fun x hx => by
        obtain ⟨p, hp, rfl⟩ := List.mem_map.mp ((sortW_perm _).mem_iff.mp hx)
        exact gz.word p hp
      generalize T1 ++ [O.lst ((sortW (dl.map (·.1))).map .str)] = T2 at k2 hn2 ⊢
      generalize T1.length = na at hn2 ⊢
      generalize sortW (dl.map (·.1)) = named at hn2 nw
      have hs8 := k2 _ _ hs7
      have hg8 := k2 _ _ hg7
      have hS8 := hS7.keep k2
      refine okS_asg ?_
      refine okM_rngQ (s := min named.length l.length) (f := fun k => PB.prD (named.getD k Str.empty, (l.getD k (Str.empty, 0)).2)) ?_ (by omega) ?_ ?_
      · simp only [okM_opA, okM_cons, okM_var, okM_nil]
        refine ⟨_, rfl, ?_⟩
        rw [fLen_ref hn2, okF_some]
        refine ⟨_, rfl, ?_⟩
        rw [fLen_ref hs8, okF_some, List.length_map, List.length_map]
        have mn : fMin2 [.int (named.length : Nat), .int (l.length : Nat)] T2 = some (.int ((min named.length l.length : Nat) : Int), T2) := by
          unfold fMin2
          dsimp only
          congr 3
          split <;> omega
        rw [mn, okF_some]
        exact ⟨rfl, rfl⟩
      · intro k U hk kU
        refine ⟨_, rfl, ?_⟩
        have q1 : k < named.length := by omega
        have q2 : k < l.length := by omega
        have g1' : (named.map D.str)[k]? = some (.str (named.getD k Str.empty)) := by rw [List.getElem?_map, List.getElem?_eq_getElem q1, List.getD_eq_getElem?_getD, List.getElem?_eq_getElem q1]; rfl
        have g2' : (l.map PB.prD)[k]? = some (PB.prD (l.getD k (Str.empty, 0))) := by rw [List.getElem?_map, List.getElem?_eq_getElem q2, List.getD_eq_getElem?_getD, List.getElem?_eq_getElem q2]; rfl
        simp only [okM_opA, okM_op2, okM_cons, okM_var, okM_ret, okM_nil]
        refine ⟨_, rfl, _, rfl, ?_⟩
        rw [fIx_lst (kU _ _ hn2) g1', okF_some]
        refine ⟨_, rfl, _, rfl, ?_⟩
        rw [fIx_lst (kU _ _ hs8) g2', okF_some]
        rw [show fIx (PB.prD (l.getD k (Str.empty, 0))) (.int 1) U = some (.int ((l.getD k (Str.empty, 0)).2 : Nat), U) from rfl, okF_some, fTup_ok (by simp), okF_some]
        exact ⟨rfl, rfl⟩
      · intro U kU hU
        simp only [nxt_nx, List.set]
        have e2 : (List.range (min named.length l.length)).map (fun k => PB.prD (named.getD k Str.empty, (l.getD k (Str.empty, 0)).2)) = ((List.range (min named.length l.length)).map fun k => (named.getD k Str.empty, (l.getD k (Str.empty, 0)).2)).map PB.prD := by rw [List.map_map]; rfl
        rw [e2] at hU
        have n8 := hS8.lt
        refine law_rest hL (hS8.keep kU) (kU _ _ hg8) grn hU (by omega) gz g1 (by omega) (fun p hp => ?_) (by rw [List.length_map, List.length_range]; omega) fun _ => rfl
        obtain ⟨k, hk, rfl⟩ := List.mem_map.mp hp
        have hk := List.mem_range.mp hk
        have q1 : k < named.length := by omega
        show wordZ (named.getD k Str.empty) = true
        rw [List.getD_eq_getElem?_getD, List.getElem?_eq_getElem q1]
        exact nw _ (List.getElem_mem q1)
    · refine okS_nx ?_
      simp only [nxt_nx]
      exact law_rest hL hS7 hg7 grn hs7 snn gz g1 (by omega) lw ll fun _ => rfl
  obtain ⟨d, S', h1, rfl⟩ := key
  exact ⟨S', h1⟩
end K26

set_option Elab.async false
set_option linter.all false
set_option maxRecDepth 100000
set_option maxHeartbeats 0
namespace K26
open PySem PySem.Spec PyProof.Rows L2 DD
def dn (x : Str) (i : Nat) : He.DefD := ⟨(x, none), x, x, defArgs (top i), defBody (top i), defScope (top i), [], []⟩
def dm (x m qual : Str) (i j : Nat) : He.DefD := ⟨(x, some m), m, qual, defArgs (DD.inClass (top i) j), defBody (DD.inClass (top i) j), defScope (DD.inClass (top i) j), [], []⟩
def fns : List He.DefD := [dn "is_integer" 3, dn "is_integer_within" 4, dn "is_row" 5, dn "is_word" 6, dn "are_ascending" 7, dn "is_row_of_words" 8, dn "are_sizes" 9, dn "product_of" 10, dn "combined" 11, dn "as_tuples" 12, dn "_is_sized_word" 13, dn "places" 19, dn "fits" 28, dn "dealings" 29, dn "_with_direction" 30, dn "_are_cuts" 31, dn "_is_cut" 32, dn "_meet" 33, dn "_law_draw" 35, dn "_law_state" 36, dn "_law_same" 38, dn "_law_word" 39, dn "_law_words" 40, dn "_law_grid" 41, dn "_law_sides" 43, dn "_law_due" 44, dn "_law_shown" 45, dn "law" 46, dm "InvalidGrid" "__init__" "InvalidGrid.__init__" 16 0, dm "InvalidDealing" "__init__" "InvalidDealing.__init__" 17 0, dm "Grid" "__init__" "Grid.__init__" 26 0, dm "Grid" "__eq__" "Grid.__eq__" 26 3, dm "Dealing" "__init__" "Dealing.__init__" 27 0, dm "Dealing" "__eq__" "Dealing.__eq__" 27 1]
abbrev R : PySem.W.OpenRow := PySem.W.OpenLaw.row PySem.Challenge.rw_dealtarrays_k26_all_dealings
abbrev hk : PySem.W.Hook := hookC 6 askc.ok fns
def ob (s : PySem.W.SharedT) : DD.Seen := seenCG 6 askc.ok fns (HandSHeadRun.getT s)
theorem ob_eq (s : PySem.W.SharedT) : ob s = hk.obs s.abs := seenCG_eq (HandSHeadRun.getT_eq s)
def loose : List Str := "DealError" :: "Grid" :: "Dealing" :: "InvalidGrid" :: "InvalidDealing" :: "is_integer" :: "is_integer_within" :: "is_row" :: "is_word" :: "are_ascending" :: "is_row_of_words" :: "are_sizes" :: "product_of" :: "combined" :: "as_tuples" :: "_is_sized_word" :: "places" :: "fits" :: "dealings" :: "_with_direction" :: "_are_cuts" :: "_is_cut" :: "_meet" :: "_law_draw" :: "_law_state" :: "_law_same" :: "_law_word" :: "_law_words" :: "_law_grid" :: "_law_sides" :: "_law_due" :: "_law_shown" :: "LONGEST_WORD" :: "MOST_MACHINES" :: "MOST_ALONG" :: "MOST_DIRECTIONS" :: "TURNS" :: "BLOCKS" :: "_wall" :: "_law_pick" :: "_law_machines" :: []
theorem run (w : World) : HandSHeadRun.RunEq R (PySem.W.view R.prog [46]) hk ob 9000 loose w := by
  intro os
  kernel_rfl
end K26

set_option Elab.async false
set_option linter.all false
set_option maxRecDepth 100000
set_option maxHeartbeats 0
namespace K26
open PySem PySem.Spec PyProof.Rows L2 DD
section
variable {P : Program} {w : World} {K : PySem.W.Frag} {mg : Str → Option Value} {base : Heap}
theorem x_InvalidGrid (c : ToldC askc.ok fns K) (hm : mg "InvalidGrid" = some (.ref (He.ga K "InvalidGrid"))) : XiN P w K mg base "InvalidGrid" ["directions"] := by
  obtain ⟨fd, FD⟩ := c.def_ 28 (d := dm "InvalidGrid" "__init__" "InvalidGrid.__init__" 16 0) rfl
  have k : ClsK K "InvalidGrid" ["directions"] := Ask.cls (AskC.q_ok c.ok) (p := ("InvalidGrid", ["directions"])) (List.mem_of_getElem? (i := 0) rfl)
  exact xin1 (st := (DD.inClass (top 16) 0)) FD k hm ⟨rfl, rfl, rfl, by decide +kernel, rfl, by decide +kernel, by decide +kernel⟩ rfl (.inl rfl) (.inl rfl) rfl rfl (fun _ _ _ _ _ _ _ _ => rfl) (fun _ _ _ _ _ _ _ _ => rfl)
theorem x_InvalidDealing (c : ToldC askc.ok fns K) (hm : mg "InvalidDealing" = some (.ref (He.ga K "InvalidDealing"))) : XiN P w K mg base "InvalidDealing" ["cuts", "parts"] := by
  obtain ⟨fd, FD⟩ := c.def_ 29 (d := dm "InvalidDealing" "__init__" "InvalidDealing.__init__" 17 0) rfl
  have k : ClsK K "InvalidDealing" ["cuts", "parts"] := Ask.cls (AskC.q_ok c.ok) (p := ("InvalidDealing", ["cuts", "parts"])) (List.mem_of_getElem? (i := 1) rfl)
  exact xin2 (st := (DD.inClass (top 17) 0)) FD k hm ⟨rfl, rfl, rfl, by decide +kernel, rfl, by decide +kernel, by decide +kernel⟩ rfl (.inl rfl) (.inl rfl) (.inl rfl) rfl rfl rfl rfl (fun _ _ _ _ _ _ _ _ _ => rfl) (fun _ _ _ _ _ _ _ _ _ => rfl)
theorem fnn0 {x : Str} {st : Stmt} {fd : FuncData} {ps : List Str} (FD : FunD K x x (defArgs st) (defBody st) (defScope st) [] [] (He.ga K x) fd) (hm : mg x = some (.ref (He.ga K x)))
    (hb : ∀ (kV doc pm : Value) (an : Option Addr) (cdv ct : Value) (us : List Value), us.length = ps.length → bindArgs (PySem.W.fnOf x x (defArgs st) (defBody st) (defScope st) .none kV doc pm an cdv ct) ⟨us, []⟩ = pure (ps.zip us)) : FnN P w K mg base 0 x ps (fun _ _ => none) := by
  have F := He5.fun_of FD
  exact ⟨_, fd, ⟨fun _ _ _ z => (by cases z), fun A outer s H args us vs Q E _ _ _ _ _ h => by obtain ⟨_, _, _, _, _, _, _, z, _⟩ := h; cases z⟩, hm, F.kp, FD.bindsN hb⟩
theorem closed : askc.closed = true := by decide +kernel
theorem globs_in : ∀ x ∈ globs, x ∈ askc.q.glos := by decide +kernel
theorem all {h : Heap} {fa : Addr} (KX : K.In h) (G : h.Ns mainGlobals mg) (hfa : mg "law" = some (.ref fa)) (c : ToldC askc.ok fns K) : ∃ fd : FuncData, (∀ (s : Shared) (u : Value), BindsTo s fd ⟨[u], []⟩ [("script", u)]) ∧ ∀ base : Heap, K.In base → base.Ns mainGlobals mg → FnG P w K mg base 8 fa fd ["script"] phi_law := by
  have gl : ∀ (x : Str), x ∈ askc.q.glos → mg x = some (.ref (He.ga K x)) := fun x e => Ask.glo (AskC.q_ok c.ok) KX G e
  have z : Z mg := fun i x e => Ask.fre (AskC.q_ok c.ok) KX G (List.mem_of_getElem? e)
  have gs : Gs mg := fun i x e => ⟨_, gl x (globs_in x (List.mem_of_getElem? e))⟩
  have gi : Gi mg := fun i x v e => He.int_ok KX G (AskC.fa_ok c.ok (f := .int x v) (List.mem_append_right _ (List.mem_append_left _ (List.mem_map.mpr ⟨(x, v), List.mem_of_getElem? e, rfl⟩))))
  have gt : Gt mg := fun i x v e => He.str_ok KX G (AskC.fa_ok c.ok (f := .str x v) (List.mem_append_right _ (List.mem_append_right _ (List.mem_map.mpr ⟨(x, v), List.mem_of_getElem? e, rfl⟩))))
  have hF : Facts (GK K mg) tb := AskC.facts c.ok closed KX G
  have hN : Named (GK K mg) tb := AskC.named c.ok closed KX G
  have hC : Catch (GK K mg) (catL askc.exms) := AskC.catch c.ok closed KX G
  have hNF : ∀ x, NotF (GK K mg) x (nfL askc.nfs x) := AskC.notF c.ok closed KX G
  have mem : ∀ {x : Str}, askc.q.glos.contains x = true → mg x = some (.ref (He.ga K x)) := fun e => gl _ (by simpa using e)
  obtain ⟨fd_is_integer, D_is_integer⟩ := c.def_ 0 (d := dn "is_integer" 3) rfl
  have m_is_integer : mg "is_integer" = some (.ref (He.ga K "is_integer")) := mem (by decide +kernel)
  obtain ⟨fd_is_integer_within, D_is_integer_within⟩ := c.def_ 1 (d := dn "is_integer_within" 4) rfl
  have m_is_integer_within : mg "is_integer_within" = some (.ref (He.ga K "is_integer_within")) := mem (by decide +kernel)
  obtain ⟨fd_is_row, D_is_row⟩ := c.def_ 2 (d := dn "is_row" 5) rfl
  have m_is_row : mg "is_row" = some (.ref (He.ga K "is_row")) := mem (by decide +kernel)
  obtain ⟨fd_is_word, D_is_word⟩ := c.def_ 3 (d := dn "is_word" 6) rfl
  have m_is_word : mg "is_word" = some (.ref (He.ga K "is_word")) := mem (by decide +kernel)
  obtain ⟨fd_are_ascending, D_are_ascending⟩ := c.def_ 4 (d := dn "are_ascending" 7) rfl
  have m_are_ascending : mg "are_ascending" = some (.ref (He.ga K "are_ascending")) := mem (by decide +kernel)
  obtain ⟨fd_is_row_of_words, D_is_row_of_words⟩ := c.def_ 5 (d := dn "is_row_of_words" 8) rfl
  have m_is_row_of_words : mg "is_row_of_words" = some (.ref (He.ga K "is_row_of_words")) := mem (by decide +kernel)
  obtain ⟨fd_are_sizes, D_are_sizes⟩ := c.def_ 6 (d := dn "are_sizes" 9) rfl
  have m_are_sizes : mg "are_sizes" = some (.ref (He.ga K "are_sizes")) := mem (by decide +kernel)
  obtain ⟨fd_product_of, D_product_of⟩ := c.def_ 7 (d := dn "product_of" 10) rfl
  have m_product_of : mg "product_of" = some (.ref (He.ga K "product_of")) := mem (by decide +kernel)
  obtain ⟨fd_combined, D_combined⟩ := c.def_ 8 (d := dn "combined" 11) rfl
  have m_combined : mg "combined" = some (.ref (He.ga K "combined")) := mem (by decide +kernel)
  obtain ⟨fd_as_tuples, D_as_tuples⟩ := c.def_ 9 (d := dn "as_tuples" 12) rfl
  have m_as_tuples : mg "as_tuples" = some (.ref (He.ga K "as_tuples")) := mem (by decide +kernel)
  obtain ⟨fd_is_sized_word, D_is_sized_word⟩ := c.def_ 10 (d := dn "_is_sized_word" 13) rfl
  have m_is_sized_word : mg "_is_sized_word" = some (.ref (He.ga K "_is_sized_word")) := mem (by decide +kernel)
  obtain ⟨fd_places, D_places⟩ := c.def_ 11 (d := dn "places" 19) rfl
  have m_places : mg "places" = some (.ref (He.ga K "places")) := mem (by decide +kernel)
  obtain ⟨fd_fits, D_fits⟩ := c.def_ 12 (d := dn "fits" 28) rfl
  have m_fits : mg "fits" = some (.ref (He.ga K "fits")) := mem (by decide +kernel)
  obtain ⟨fd_dealings, D_dealings⟩ := c.def_ 13 (d := dn "dealings" 29) rfl
  have m_dealings : mg "dealings" = some (.ref (He.ga K "dealings")) := mem (by decide +kernel)
  obtain ⟨fd_with_direction, D_with_direction⟩ := c.def_ 14 (d := dn "_with_direction" 30) rfl
  have m_with_direction : mg "_with_direction" = some (.ref (He.ga K "_with_direction")) := mem (by decide +kernel)
  obtain ⟨fd_are_cuts, D_are_cuts⟩ := c.def_ 15 (d := dn "_are_cuts" 31) rfl
  have m_are_cuts : mg "_are_cuts" = some (.ref (He.ga K "_are_cuts")) := mem (by decide +kernel)
  obtain ⟨fd_is_cut, D_is_cut⟩ := c.def_ 16 (d := dn "_is_cut" 32) rfl
  have m_is_cut : mg "_is_cut" = some (.ref (He.ga K "_is_cut")) := mem (by decide +kernel)
  obtain ⟨fd_meet, D_meet⟩ := c.def_ 17 (d := dn "_meet" 33) rfl
  have m_meet : mg "_meet" = some (.ref (He.ga K "_meet")) := mem (by decide +kernel)
  obtain ⟨fd_ldraw, D_ldraw⟩ := c.def_ 18 (d := dn "_law_draw" 35) rfl
  have m_ldraw : mg "_law_draw" = some (.ref (He.ga K "_law_draw")) := mem (by decide +kernel)
  obtain ⟨fd_lstate, D_lstate⟩ := c.def_ 19 (d := dn "_law_state" 36) rfl
  have m_lstate : mg "_law_state" = some (.ref (He.ga K "_law_state")) := mem (by decide +kernel)
  obtain ⟨fd_lsame, D_lsame⟩ := c.def_ 20 (d := dn "_law_same" 38) rfl
  have m_lsame : mg "_law_same" = some (.ref (He.ga K "_law_same")) := mem (by decide +kernel)
  obtain ⟨fd_lword, D_lword⟩ := c.def_ 21 (d := dn "_law_word" 39) rfl
  have m_lword : mg "_law_word" = some (.ref (He.ga K "_law_word")) := mem (by decide +kernel)
  obtain ⟨fd_lwords, D_lwords⟩ := c.def_ 22 (d := dn "_law_words" 40) rfl
  have m_lwords : mg "_law_words" = some (.ref (He.ga K "_law_words")) := mem (by decide +kernel)
  obtain ⟨fd_lgrid, D_lgrid⟩ := c.def_ 23 (d := dn "_law_grid" 41) rfl
  have m_lgrid : mg "_law_grid" = some (.ref (He.ga K "_law_grid")) := mem (by decide +kernel)
  obtain ⟨fd_lsides, D_lsides⟩ := c.def_ 24 (d := dn "_law_sides" 43) rfl
  have m_lsides : mg "_law_sides" = some (.ref (He.ga K "_law_sides")) := mem (by decide +kernel)
  obtain ⟨fd_ldue, D_ldue⟩ := c.def_ 25 (d := dn "_law_due" 44) rfl
  have m_ldue : mg "_law_due" = some (.ref (He.ga K "_law_due")) := mem (by decide +kernel)
  obtain ⟨fd_lshown, D_lshown⟩ := c.def_ 26 (d := dn "_law_shown" 45) rfl
  have m_lshown : mg "_law_shown" = some (.ref (He.ga K "_law_shown")) := mem (by decide +kernel)
  obtain ⟨fd_law, D_law⟩ := c.def_ 27 (d := dn "law" 46) rfl
  have m_law : mg "law" = some (.ref (He.ga K "law")) := mem (by decide +kernel)
  have m_Grid : mg "Grid" = some (.ref (He.ga K "Grid")) := mem (by decide +kernel)
  obtain ⟨fd_Grid_init, D_Grid_init⟩ := c.def_ 30 (d := dm "Grid" "__init__" "Grid.__init__" 26 0) rfl
  obtain ⟨fd_Grid_eq, D_Grid_eq⟩ := c.def_ 31 (d := dm "Grid" "__eq__" "Grid.__eq__" 26 3) rfl
  have m_Dealing : mg "Dealing" = some (.ref (He.ga K "Dealing")) := mem (by decide +kernel)
  obtain ⟨fd_Dealing_init, D_Dealing_init⟩ := c.def_ 32 (d := dm "Dealing" "__init__" "Dealing.__init__" 27 0) rfl
  obtain ⟨fd_Dealing_eq, D_Dealing_eq⟩ := c.def_ 33 (d := dm "Dealing" "__eq__" "Dealing.__eq__" 27 1) rfl
  have e := hfa.symm.trans m_law
  cases e
  refine ⟨fd_law, fun s u => binds_eq D_law (fun _ _ _ _ _ _ => rfl) s, fun base KB GB => ?_⟩
  have X_InvalidGrid : XiN P w K mg base "InvalidGrid" _ := x_InvalidGrid c (mem (by decide +kernel))
  have X_InvalidDealing : XiN P w K mg base "InvalidDealing" _ := x_InvalidDealing c (mem (by decide +kernel))
  have f_is_integer := d_is_integer (P := P) (w := w) (base := base) hF hN hC hNF z gs gi gt  D_is_integer m_is_integer
  have f_is_integer_within := d_is_integer_within (P := P) (w := w) (base := base) hF hN hC hNF z gs gi gt f_is_integer D_is_integer_within m_is_integer_within
  have f_is_row := d_is_row (P := P) (w := w) (base := base) hF hN hC hNF z gs gi gt  D_is_row m_is_row
  have f_is_word := d_is_word (P := P) (w := w) (base := base) hF hN hC hNF z gs gi gt  D_is_word m_is_word
  have f_are_ascending := d_are_ascending (P := P) (w := w) (base := base) hF hN hC hNF z gs gi gt  D_are_ascending m_are_ascending
  have f_is_row_of_words := d_is_row_of_words (P := P) (w := w) (base := base) hF hN hC hNF z gs gi gt f_is_row f_is_word f_are_ascending D_is_row_of_words m_is_row_of_words
  have f_is_sized_word := d_is_sized_word (P := P) (w := w) (base := base) hF hN hC hNF z gs gi gt f_is_row f_is_word f_is_integer_within D_is_sized_word m_is_sized_word
  have f_product_of := d_product_of (P := P) (w := w) (base := base) hF hN hC hNF z gs gi gt  D_product_of m_product_of
  have f_are_sizes := d_are_sizes (P := P) (w := w) (base := base) hF hN hC hNF z gs gi gt f_is_row f_is_sized_word f_are_ascending f_product_of D_are_sizes m_are_sizes
  have f_combined := d_combined (P := P) (w := w) (base := base) hF hN hC hNF z gs gi gt  D_combined m_combined
  have f_as_tuples := d_as_tuples (P := P) (w := w) (base := base) hF hN hC hNF z gs gi gt f_is_row D_as_tuples m_as_tuples
  have f_places := d_places (P := P) (w := w) (base := base) hF hN hC hNF z gs gi gt f_combined D_places m_places
  obtain ⟨a_Grid_init, b_Grid_init⟩ := d_Grid_init (P := P) (w := w) (base := base) hF hN hC hNF z gs gi gt f_are_sizes X_InvalidGrid f_as_tuples f_places D_Grid_init
  have K_Grid : MkN P w K mg base _ "Grid" _ phi_Grid_init := ⟨⟨_, _, _, He.mkr_ok (AskC.fa_ok c.ok (f := .mkr "Grid") (List.mem_append_left _ (by simp))), a_Grid_init, m_Grid, b_Grid_init⟩⟩
  obtain ⟨a_Grid_eq, b_Grid_eq⟩ := d_Grid_eq (P := P) (w := w) (base := base) hF hN hC hNF z gs gi gt  D_Grid_eq
  have f_is_cut := d_is_cut (P := P) (w := w) (base := base) hF hN hC hNF z gs gi gt f_is_row f_is_word D_is_cut m_is_cut
  have f_are_cuts := d_are_cuts (P := P) (w := w) (base := base) hF hN hC hNF z gs gi gt f_is_row f_is_cut f_are_ascending D_are_cuts m_are_cuts
  have f_meet := d_meet (P := P) (w := w) (base := base) hF hN hC hNF z gs gi gt  D_meet m_meet
  obtain ⟨a_Dealing_init, b_Dealing_init⟩ := d_Dealing_init (P := P) (w := w) (base := base) hF hN hC hNF z gs gi gt f_are_cuts f_is_row_of_words f_meet X_InvalidDealing f_as_tuples D_Dealing_init
  have K_Dealing : MkN P w K mg base _ "Dealing" _ phi_Dealing_init := ⟨⟨_, _, _, He.mkr_ok (AskC.fa_ok c.ok (f := .mkr "Dealing") (List.mem_append_left _ (by simp))), a_Dealing_init, m_Dealing, b_Dealing_init⟩⟩
  obtain ⟨a_Dealing_eq, b_Dealing_eq⟩ := d_Dealing_eq (P := P) (w := w) (base := base) hF hN hC hNF z gs gi gt  D_Dealing_eq
  have Q_Dealing : EqN P w K mg base _ "Dealing" _ phi_Dealing_eq := ⟨⟨_, _, _, AskC.eq_ok c.ok (x := "Dealing") (by decide +kernel), a_Dealing_eq, m_Dealing, b_Dealing_eq⟩⟩
  have f_fits := d_fits (P := P) (w := w) (base := base) hF hN hC hNF z gs gi gt  D_fits m_fits
  have f_with_direction := d_with_direction (P := P) (w := w) (base := base) hF hN hC hNF z gs gi gt  D_with_direction m_with_direction
  have W_dealings := e_dealings (P := P) (w := w) (base := base) hF hN hC hNF z gs gi gt f_with_direction K_Dealing D_dealings m_dealings
  have f_dealings := d_dealings (P := P) (w := w) (base := base) hF hN hC hNF z gs gi gt f_with_direction K_Dealing D_dealings m_dealings
  have f_ldraw := d_ldraw (P := P) (w := w) (base := base) hF hN hC hNF z gs gi gt  D_ldraw m_ldraw
  have f_lstate := d_lstate (P := P) (w := w) (base := base) hF hN hC hNF z gs gi gt  D_lstate m_lstate
  have r0_lsame : FnN P w K mg base 0 "_law_same" _ (phi_lsame 0) := fnn0 (st := s_lsame) D_lsame m_lsame (ps := ["actual", "due"]) (fun _ _ _ _ _ _ us hl => match us, hl with | [_, _], _ => rfl)
  have r1_lsame : FnN P w K mg base 1 "_law_same" _ (phi_lsame 1) := d_lsame (P := P) (w := w) (base := base) hF hN hC hNF z gs gi gt  0 (Nat.zero_le _) r0_lsame D_lsame m_lsame
  have r2_lsame : FnN P w K mg base 2 "_law_same" _ (phi_lsame 2) := d_lsame (P := P) (w := w) (base := base) hF hN hC hNF z gs gi gt  1 (Nat.zero_le _) r1_lsame D_lsame m_lsame
  have r3_lsame : FnN P w K mg base 3 "_law_same" _ (phi_lsame 3) := d_lsame (P := P) (w := w) (base := base) hF hN hC hNF z gs gi gt  2 (Nat.zero_le _) r2_lsame D_lsame m_lsame
  have r4_lsame : FnN P w K mg base 4 "_law_same" _ (phi_lsame 4) := d_lsame (P := P) (w := w) (base := base) hF hN hC hNF z gs gi gt  3 (Nat.zero_le _) r3_lsame D_lsame m_lsame
  have r5_lsame : FnN P w K mg base 5 "_law_same" _ (phi_lsame 5) := d_lsame (P := P) (w := w) (base := base) hF hN hC hNF z gs gi gt  4 (Nat.zero_le _) r4_lsame D_lsame m_lsame
  have r6_lsame : FnN P w K mg base 6 "_law_same" _ (phi_lsame 6) := d_lsame (P := P) (w := w) (base := base) hF hN hC hNF z gs gi gt  5 (Nat.zero_le _) r5_lsame D_lsame m_lsame
  have f_lsame := r6_lsame
  have f_lword := d_lword (P := P) (w := w) (base := base) hF hN hC hNF z gs gi gt f_ldraw D_lword m_lword
  have f_lwords := d_lwords (P := P) (w := w) (base := base) hF hN hC hNF z gs gi gt f_lword f_ldraw D_lwords m_lwords
  have f_lgrid := d_lgrid (P := P) (w := w) (base := base) hF hN hC hNF z gs gi gt f_ldraw f_lwords D_lgrid m_lgrid
  have f_lsides := d_lsides (P := P) (w := w) (base := base) hF hN hC hNF z gs gi gt f_ldraw f_lwords D_lsides m_lsides
  have f_ldue := d_ldue (P := P) (w := w) (base := base) hF hN hC hNF z gs gi gt  D_ldue m_ldue
  have f_lshown := d_lshown (P := P) (w := w) (base := base) hF hN hC hNF z gs gi gt f_ldraw f_lsame f_fits Q_Dealing K_Dealing D_lshown m_lshown
  exact d_law (P := P) (w := w) (base := base) hF hN hC hNF z gs gi gt f_lstate f_ldraw f_lgrid f_lsides f_ldue K_Grid f_dealings f_lshown W_dealings D_law m_law
end
end K26
open PySem PySem.W PySem.Calls PyProof.Rows
theorem PySem.Challenge.cw_dealtarrays_k26_all_dealings_holds : PySem.Challenge.rw_dealtarrays_k26_all_dealings.Holds := by
  w_on; o_law
  refine HandSHeadRun.head_any (r := OpenLaw.row PySem.Challenge.rw_dealtarrays_k26_all_dealings) (q := view (OpenLaw.row PySem.Challenge.rw_dealtarrays_k26_all_dealings).prog [46]) (H := K26.hk) (ob := K26.ob) (M := 9000) (loose := K26.loose) (d := HandSHeadRun.topDef (OpenLaw.row PySem.Challenge.rw_dealtarrays_k26_all_dealings).prog 46) (kwd := []) K26.ob_eq
    (by kernel_rfl) (fun s => by kernel_rfl) K26.run (by kernel_rfl) (by kernel_rfl) (by kernel_rfl) (by rfl) (by first | assumption | decide +kernel) (by decide +kernel) ⟨rfl, rfl, rfl, rfl, rfl, by decide +kernel⟩ ?hw ?hc
  case hw => w_witness2
  case hc =>
    refine DD.walk_D (l := PySem.Challenge.rw_dealtarrays_k26_all_dealings) (n := 63) (k := 8) (x := "script") rfl (by decide) (by kernel_rfl) ⟨rfl, by decide, by decide⟩ ?F
    intro w mg fa h Y G hmg0
    obtain ⟨K, KX, c⟩ := Y
    have hmg : mg ("law" : PySem.Str) = some (.ref fa) := by
      have e : (HandSHeadRun.topDef (OpenLaw.row PySem.Challenge.rw_dealtarrays_k26_all_dealings).prog 46).name = ("law" : PySem.Str) := by kernel_rfl
      rw [← e]
      exact hmg0
    obtain ⟨fd, hb, hF⟩ := K26.all (P := (PySem.Challenge.rw_dealtarrays_k26_all_dealings).prog) (w := w) KX G hmg c
    exact ⟨K, fd, K26.phi_law, KX, hb, fun ns hn _ => K26.law_true ns hn, hF⟩

