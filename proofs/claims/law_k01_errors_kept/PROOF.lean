import PyProof.Rows.All
import HandS.ForMost
import HandS.Wide
import HandS.EndBits
import HandS.Exc
import HandS.ExcOwn
import HandS.ExcInit
import HandS.ExcField
import HandS.ExcIs
import HandS.TryMany
import HandS.WordsExc
import HandS.OwnEq
import HandS.RaiseMore
import HandS.IsInst
import HandS.Walk
import HandS.Zip
import HandS.TupAny
import HandS.TupMul
import HandS.Style
import HandS.Text
import HandS.CallSlots
import KE.KExcIs
import HandS.Head0
import HandS.Head1
import HandS.Head2
import HandS.HeadEnd
import HandS.HeadHook1
import HandS.HeadHook2
import HandS.Words
import HandS.Defaults
import HandS.Deep
import HandS.HeadNt
import PySem.Challenge.RW_dealtarrays_k01_errors_kept
set_option Elab.async false
set_option linter.all false
set_option maxRecDepth 100000
namespace DD
open PySem PySem.Spec PyProof.Rows L2

/-- plain data; objects that change stand in a store and are named by their place there -/
inductive D where
  | non | bl (b : Bool) | int (i : Int) | str (x : Str) | tup (xs : List D) | rol (xs : List D) | ref (n : Nat) | glo (x : Str) | ty (n : String)
/-- an object of the store -/
inductive O where
  | lst (xs : List D) | ins (c : Str) (fs : List (Str × D)) | dct (kvs : List (Key × D)) | exi (c : Str) (fs : List (Str × D))
abbrev So := List O
/-- a slot: without a value, with one, with the caught error -/
inductive Sv where
  | no | v (d : D) | exn (c : Str) (fs : List (Str × D))
abbrev Sl := List Sv

/-- the written part and the module's names -/
structure G where
  K : PySem.W.Frag
  mg : Str → Option Value

/-- a list that nobody changes -/
def SqF (K : PySem.W.Frag) (H : Hp) (a : Addr) (xs : List V) : Prop :=
  (∃ o, H a = some (.frz o (.lst xs))) ∨
    ∃ (o : Obj) (its : Array Value) (n : Nat), K.lookup a = some o ∧ o.cls = .type "list" ∧ o.dict = none ∧ o.data = .seq its n ∧ its.size ≤ sizeLine ∧ Vals xs its.toList
theorem SqF.seq {K : PySem.W.Frag} {H : Hp} {a : Addr} {xs : List V} (h : SqF K H a xs) : SqL K H a xs := by
  rcases h with h | h
  · exact .inl (.inr h)
  · exact .inr h

/-- a tuple: tracked, or one of the written part -/
def SqU (K : PySem.W.Frag) (H : Hp) (a : Addr) (xs : List V) : Prop :=
  H a = some (.tup xs) ∨ ∃ (o : Obj) (its : Array Value) (n : Nat), K.lookup a = some o ∧ o.cls = .type "tuple" ∧ o.data = .seq its n ∧ its.size ≤ sizeLine ∧ Vals xs its.toList
theorem SqU.t {K : PySem.W.Frag} {H : Hp} {a : Addr} {xs : List V} (h : SqU K H a xs) : SqT K H a xs := h.elim (fun h => .inl (.inl h)) .inr
mutual
inductive R (g : G) (ι : List Addr) (H : Hp) : D → V → Prop
  | non : R g ι H .non .non
  | bl (b : Bool) : R g ι H (.bl b) (.bl b)
  | int (i : Int) : R g ι H (.int i) (.int i)
  | str (x : Str) : R g ι H (.str x) (.str x)
  | tup {a : Addr} {vs : List V} {xs : List D} : SqU g.K H a vs → Rs g ι H xs vs → R g ι H (.tup xs) (.ref a)
  | rol {a : Addr} {vs : List V} {xs : List D} : SqF g.K H a vs → Rs g ι H xs vs → R g ι H (.rol xs) (.ref a)
  | ref {n : Nat} {a : Addr} : ι[n]? = some a → R g ι H (.ref n) (.ref a)
  | glo {x : Str} {u : Value} {v : V} : g.mg x = some u → RelV v u → R g ι H (.glo x) v
  | ty (n : String) : R g ι H (.ty n) (.ty n)
inductive Rs (g : G) (ι : List Addr) (H : Hp) : List D → List V → Prop
  | nil : Rs g ι H [] []
  | cons {d : D} {v : V} {ds : List D} {vs : List V} : R g ι H d v → Rs g ι H ds vs → Rs g ι H (d :: ds) (v :: vs)
end

/-- what stays: tuples, locked things, the dicts of errors -/
structure Ex (H H' : Hp) : Prop where
  tup : ∀ b xs, H b = some (.tup xs) → H' b = some (.tup xs)
  frz : ∀ b o u, H b = some (.frz o u) → H' b = some (.frz o u)
  xd : ∀ b fs, H b = some (.xd fs) → H' b = some (.xd fs)
  exd : ∀ b fs, H b = some (L2.exd b fs) → H' b = some (L2.exd b fs)
theorem Ex.refl (H : Hp) : Ex H H := ⟨fun _ _ h => h, fun _ _ _ h => h, fun _ _ h => h, fun _ _ h => h⟩
theorem Ex.trans {H H1 H2 : Hp} (a : Ex H H1) (b : Ex H1 H2) : Ex H H2 := ⟨fun c x h => b.tup c x (a.tup c x h), fun c o x h => b.frz c o x (a.frz c o x h), fun c x h => b.xd c x (a.xd c x h), fun c x h => b.exd c x (a.exd c x h)⟩
theorem Ex.new {H : Hp} {p : Addr} {o : HO} (h : H p = none) : Ex H (upd H p o) :=
  ⟨fun b x e => by rw [upd_ne (ne_of_none e h)]; exact e, fun b u x e => by rw [upd_ne (ne_of_none e h)]; exact e, fun b x e => by rw [upd_ne (ne_of_none e h)]; exact e, fun b x e => by rw [upd_ne (ne_of_none e h)]; exact e⟩
theorem exd_case {b : Addr} {xs : List (Str × V)} {q : HO} (z : q = L2.exd b xs) : ∃ φ, q = .ext φ := ⟨_, z⟩
theorem Ex.wr {H : Hp} {p : Addr} {o q : HO} (h : H p = some q) (h1 : ∀ xs, q ≠ .tup xs) (h2 : ∀ o u, q ≠ .frz o u) (h3 : ∀ xs, q ≠ .xd xs) (h4 : ∀ b xs, q ≠ L2.exd b xs := by intro b xs z; obtain ⟨φ, z⟩ := exd_case z; cases z) : Ex H (upd H p o) :=
  ⟨fun b x e => by rw [upd_ne (ne_of e h (fun z => h1 _ z.symm))]; exact e, fun b u x e => by rw [upd_ne (ne_of e h (fun z => h2 _ _ z.symm))]; exact e, fun b x e => by rw [upd_ne (ne_of e h (fun z => h3 _ z.symm))]; exact e, fun b x e => by rw [upd_ne (ne_of e h (fun z => h4 _ _ z.symm))]; exact e⟩

abbrev Pre (ι ι' : List Addr) : Prop := ∀ (n : Nat) (a : Addr), ι[n]? = some a → ι'[n]? = some a
theorem Pre.refl (ι : List Addr) : Pre ι ι := fun _ _ h => h
theorem Pre.trans {ι ι1 ι2 : List Addr} (a : Pre ι ι1) (b : Pre ι1 ι2) : Pre ι ι2 := fun n x h => b n x (a n x h)
theorem Pre.app (ι l : List Addr) : Pre ι (ι ++ l) := fun n a h => by
  rw [List.getElem?_append_left (List.getElem?_eq_some_iff.mp h).1]; exact h

theorem sqT_ex {K : PySem.W.Frag} {H H' : Hp} {a : Addr} {xs : List V} (e : Ex H H') (h : SqT K H a xs) : SqT K H' a xs := by
  rcases h with (h | ⟨o, h⟩) | h
  · exact .inl (.inl (e.tup _ _ h))
  · exact .inl (.inr ⟨o, e.frz _ _ _ h⟩)
  · exact .inr h
theorem sqU_ex {K : PySem.W.Frag} {H H' : Hp} {a : Addr} {xs : List V} (e : Ex H H') (h : SqU K H a xs) : SqU K H' a xs := h.elim (fun h => .inl (e.tup _ _ h)) .inr
theorem sqF_ex {K : PySem.W.Frag} {H H' : Hp} {a : Addr} {xs : List V} (e : Ex H H') (h : SqF K H a xs) : SqF K H' a xs := by
  rcases h with ⟨o, h⟩ | h
  · exact .inl ⟨o, e.frz _ _ _ h⟩
  · exact .inr h

section
variable {g : G} {ι ι' : List Addr} {H H' : Hp}
mutual
theorem R.mono (p : Pre ι ι') (e : Ex H H') : ∀ (d : D) (v : V), R g ι H d v → R g ι' H' d v
  | .non, _, h => by cases h; exact .non
  | .bl _, _, h => by cases h; exact .bl _
  | .int _, _, h => by cases h; exact .int _
  | .str _, _, h => by cases h; exact .str _
  | .tup xs, _, h => by
    cases h with
    | tup h1 h2 => exact .tup (sqU_ex e h1) (Rs.mono p e xs _ h2)
  | .rol xs, _, h => by
    cases h with
    | rol h1 h2 => exact .rol (sqF_ex e h1) (Rs.mono p e xs _ h2)
  | .ref _, _, h => by
    cases h with
    | ref h1 => exact .ref (p _ _ h1)
  | .glo _, _, h => by
    cases h with
    | glo h1 h2 => exact .glo h1 h2
  | .ty _, _, h => by cases h; exact .ty _
theorem Rs.mono (p : Pre ι ι') (e : Ex H H') : ∀ (ds : List D) (vs : List V), Rs g ι H ds vs → Rs g ι' H' ds vs
  | [], _, h => by cases h; exact .nil
  | d :: ds, _, h => by
    cases h with
    | cons h1 h2 => exact .cons (R.mono p e d _ h1) (Rs.mono p e ds _ h2)
end
theorem Rs.length : ∀ {ds : List D} {vs : List V}, Rs g ι H ds vs → ds.length = vs.length
  | [], _, h => by cases h; rfl
  | _ :: _, _, h => by
    cases h with
    | cons _ h2 => simp [Rs.length h2]
theorem Rs.get : ∀ {ds : List D} {vs : List V} {i : Nat} {d : D}, Rs g ι H ds vs → ds[i]? = some d → ∃ v, vs[i]? = some v ∧ R g ι H d v
  | [], _, _, _, _, e => by simp at e
  | _ :: _, _, 0, _, h, e => by
    cases h with
    | cons h1 _ => simp at e; subst e; exact ⟨_, rfl, h1⟩
  | _ :: _, _, i + 1, d, h, e => by
    cases h with
    | cons _ h2 =>
      obtain ⟨v, h3, h4⟩ := Rs.get (i := i) (d := d) h2 (by simpa using e)
      exact ⟨v, by simpa using h3, h4⟩
theorem Rs.getV : ∀ {ds : List D} {vs : List V} {i : Nat} {v : V}, Rs g ι H ds vs → vs[i]? = some v → ∃ d, ds[i]? = some d ∧ R g ι H d v
  | _, [], _, _, _, e => by simp at e
  | _, _ :: _, 0, _, h, e => by
    cases h with
    | cons h1 _ => simp at e; subst e; exact ⟨_, rfl, h1⟩
  | _, _ :: _, i + 1, v, h, e => by
    cases h with
    | cons _ h2 =>
      obtain ⟨d, h3, h4⟩ := Rs.getV (i := i) (v := v) h2 (by simpa using e)
      exact ⟨d, by simpa using h3, h4⟩
theorem Rs.append : ∀ {ds es : List D} {vs us : List V}, Rs g ι H ds vs → Rs g ι H es us → Rs g ι H (ds ++ es) (vs ++ us)
  | [], _, _, _, h, k => by cases h; exact k
  | _ :: _, _, _, _, h, k => by
    cases h with
    | cons h1 h2 => exact .cons h1 (Rs.append h2 k)
theorem Rs.take : ∀ {ds : List D} {vs : List V} (n : Nat), Rs g ι H ds vs → Rs g ι H (ds.take n) (vs.take n)
  | _, _, 0, _ => .nil
  | [], _, _ + 1, h => by cases h; exact .nil
  | _ :: _, _, n + 1, h => by
    cases h with
    | cons h1 h2 => exact .cons h1 (Rs.take n h2)
theorem Rs.drop : ∀ {ds : List D} {vs : List V} (n : Nat), Rs g ι H ds vs → Rs g ι H (ds.drop n) (vs.drop n)
  | _, _, 0, h => h
  | [], _, _ + 1, h => by cases h; exact .nil
  | _ :: _, _, n + 1, h => by
    cases h with
    | cons _ h2 => exact Rs.drop n h2
theorem Rs.set {d : D} {v : V} (r : R g ι H d v) : ∀ {ds : List D} {vs : List V} (i : Nat), Rs g ι H ds vs → Rs g ι H (ds.set i d) (vs.set i v)
  | [], _, _, h => by cases h; exact .nil
  | _ :: _, _, 0, h => by
    cases h with
    | cons _ h2 => exact .cons r h2
  | _ :: _, _, i + 1, h => by
    cases h with
    | cons h1 h2 => exact .cons h1 (Rs.set r i h2)
end

/-- named fields -/
inductive Fs (g : G) (ι : List Addr) (H : Hp) : List (Str × D) → List (Str × V) → Prop
  | nil : Fs g ι H [] []
  | cons {f : Str} {d : D} {v : V} {fs : List (Str × D)} {gs : List (Str × V)} : R g ι H d v → Fs g ι H fs gs → Fs g ι H ((f, d) :: fs) ((f, v) :: gs)
theorem Fs.mono {g : G} {ι ι' : List Addr} {H H' : Hp} (p : Pre ι ι') (e : Ex H H') : ∀ {fs : List (Str × D)} {gs : List (Str × V)}, Fs g ι H fs gs → Fs g ι' H' fs gs
  | _, _, .nil => .nil
  | _, _, .cons r t => .cons (R.mono p e _ _ r) (Fs.mono p e t)
theorem Fs.look {g : G} {ι : List Addr} {H : Hp} {f : Str} : ∀ {fs : List (Str × D)} {gs : List (Str × V)} {d : D}, Fs g ι H fs gs → fs.lookup f = some d → ∃ v, gs.lookup f = some v ∧ R g ι H d v
  | _, _, _, .nil, e => by simp at e
  | _, _, d, .cons (f := k) r t, e => by
    cases q : (f == k) with
    | true => simp only [List.lookup, q] at e ⊢; cases e; exact ⟨_, rfl, r⟩
    | false => simp only [List.lookup, q] at e ⊢; exact Fs.look t e
theorem Fs.look_none {g : G} {ι : List Addr} {H : Hp} {f : Str} : ∀ {fs : List (Str × D)} {gs : List (Str × V)}, Fs g ι H fs gs → fs.lookup f = none → gs.lookup f = none
  | _, _, .nil, _ => rfl
  | _, _, .cons (f := k) r t, e => by
    cases q : (f == k) with
    | true => simp only [List.lookup, q] at e; cases e
    | false => simp only [List.lookup, q] at e ⊢; exact Fs.look_none t e
theorem Fs.length {g : G} {ι : List Addr} {H : Hp} : ∀ {fs : List (Str × D)} {gs : List (Str × V)}, Fs g ι H fs gs → fs.length = gs.length
  | _, _, .nil => rfl
  | _, _, .cons _ t => by simp [Fs.length t]
def putD (f : Str) (v : D) : List (Str × D) → List (Str × D)
  | [] => [(f, v)]
  | (k, x) :: r => if k = f then (k, v) :: r else (k, x) :: putD f v r
theorem Fs.put {g : G} {ι : List Addr} {H : Hp} {f : Str} {d : D} {v : V} (r : R g ι H d v) : ∀ {fs : List (Str × D)} {gs : List (Str × V)}, Fs g ι H fs gs → Fs g ι H (putD f d fs) (putF f v gs)
  | _, _, .nil => .cons r .nil
  | _, _, .cons (f := k) q t => by
    unfold putD putF
    by_cases h : k = f
    · rw [if_pos h, if_pos h]; exact .cons r t
    · rw [if_neg h, if_neg h]; exact .cons q (Fs.put r t)

def OR (g : G) (ι : List Addr) (H : Hp) : O → Addr → Prop
  | .lst xs, a => ∃ vs, H a = some (.lst vs) ∧ Rs g ι H xs vs
  | .ins c fs, a => ∃ C dx gs, H a = some (.ins C dx gs) ∧ g.mg c = some (.ref C) ∧ Fs g ι H fs gs
  | .exi c fs, a => ∃ C d gs, H a = some (exo a C (some d)) ∧ H d = some (L2.exd d gs) ∧ g.mg c = some (.ref C) ∧ Fs g ι H fs gs
  | .dct kvs, a => ∃ vs, H a = some (.dK vs) ∧ kvs.map (·.1) = vs.map (·.1) ∧ Rs g ι H (kvs.map (·.2)) (vs.map (·.2))
theorem OR.move {g : G} {ι ι' : List Addr} {H H' : Hp} {o : O} {a : Addr} (p : Pre ι ι') (e : Ex H H') (k : H' a = H a) (h : OR g ι H o a) : OR g ι' H' o a := by
  cases o with
  | lst xs => obtain ⟨vs, h1, h2⟩ := h; exact ⟨vs, k.trans h1, Rs.mono p e _ _ h2⟩
  | ins c fs => obtain ⟨C, dx, gs, h1, h2, h3⟩ := h; exact ⟨C, dx, gs, k.trans h1, h2, h3.mono p e⟩
  | dct kvs => obtain ⟨vs, h1, h2, h3⟩ := h; exact ⟨vs, k.trans h1, h2, Rs.mono p e _ _ h3⟩
  | exi c fs => obtain ⟨C, d, gs, h1, h2, h3, h4⟩ := h; exact ⟨C, d, gs, k.trans h1, e.exd _ _ h2, h3, h4.mono p e⟩
theorem exo_case {e C : Addr} {d : Option Addr} {q : HO} (z : exo e C d = q) : ∃ φ, q = .ext φ := ⟨_, z.symm⟩
theorem or_some {g : G} {ι : List Addr} {H : Hp} {o : O} {a : Addr} (h : OR g ι H o a) : ∃ q, H a = some q ∧ (∀ xs, q ≠ .tup xs) ∧ (∀ o u, q ≠ .frz o u) ∧ ∀ xs, q ≠ .xd xs := by
  cases o with
  | lst xs => obtain ⟨vs, h1, h2⟩ := h; exact ⟨_, h1, fun _ z => (by cases z), fun _ _ z => (by cases z), fun _ z => (by cases z)⟩
  | ins c fs => obtain ⟨C, dx, gs, h1, h2, h3⟩ := h; exact ⟨_, h1, fun _ z => (by cases z), fun _ _ z => (by cases z), fun _ z => (by cases z)⟩
  | dct kvs => obtain ⟨vs, h1, h2, h3⟩ := h; exact ⟨_, h1, fun _ z => (by cases z), fun _ _ z => (by cases z), fun _ z => (by cases z)⟩
  | exi c fs =>
    obtain ⟨C, d, gs, h1, h2, h3, h4⟩ := h
    exact ⟨_, h1, fun _ z => (by obtain ⟨φ, z⟩ := exo_case z; cases z), fun _ _ z => (by obtain ⟨φ, z⟩ := exo_case z; cases z), fun _ z => (by obtain ⟨φ, z⟩ := exo_case z; cases z)⟩

structure Sim (g : G) (ι : List Addr) (S : So) (H : Hp) : Prop where
  len : ι.length = S.length
  nd : ι.Nodup
  obj : ∀ (n : Nat) (a : Addr) (o : O), ι[n]? = some a → S[n]? = some o → OR g ι H o a
section
variable {g : G} {ι : List Addr} {S : So} {H H' : Hp}
theorem Sim.get (s : Sim g ι S H) {n : Nat} {o : O} (e : S[n]? = some o) : ∃ a, ι[n]? = some a ∧ OR g ι H o a := by
  have h1 : n < ι.length := by rw [s.len]; exact (List.getElem?_eq_some_iff.mp e).1
  exact ⟨ι[n], List.getElem?_eq_getElem h1, s.obj n _ o (List.getElem?_eq_getElem h1) e⟩
theorem Sim.at (s : Sim g ι S H) {n : Nat} {a : Addr} (e : ι[n]? = some a) : ∃ o, S[n]? = some o ∧ OR g ι H o a := by
  have h1 : n < S.length := by rw [← s.len]; exact (List.getElem?_eq_some_iff.mp e).1
  exact ⟨S[n], List.getElem?_eq_getElem h1, s.obj n a _ e (List.getElem?_eq_getElem h1)⟩
/-- the heap grew or changed elsewhere -/
theorem Sim.keep (s : Sim g ι S H) (e : Ex H H') (k : ∀ (n : Nat) (a : Addr), ι[n]? = some a → H' a = H a) : Sim g ι S H' :=
  ⟨s.len, s.nd, fun n a o h1 h2 => (s.obj n a o h1 h2).move (Pre.refl ι) e (k n a h1)⟩
theorem Sim.fresh (s : Sim g ι S H) {p : Addr} (h : H p = none) {n : Nat} {a : Addr} (e : ι[n]? = some a) : a ≠ p := by
  obtain ⟨o, _, h2⟩ := s.at e
  obtain ⟨q, hq, _⟩ := or_some h2
  exact ne_of_none hq h
theorem Sim.tup (s : Sim g ι S H) {p : Addr} {o : HO} (h : H p = none) : Sim g ι S (upd H p o) :=
  s.keep (Ex.new h) fun n a e => upd_ne (s.fresh h e)
/-- a new object -/
theorem Sim.new (s : Sim g ι S H) (e : Ex H H') (k : ∀ (n : Nat) (a : Addr), ι[n]? = some a → H' a = H a) {p : Addr} {o : O} (h : H p = none) (ho : OR g (ι ++ [p]) H' o p) : Sim g (ι ++ [p]) (S ++ [o]) H' := by
  have nm : p ∉ ι := fun hm => by
    obtain ⟨n, hn⟩ := List.mem_iff_getElem?.mp hm
    exact s.fresh h hn rfl
  refine ⟨by simp [s.len], List.nodup_append.mpr ⟨s.nd, by simp, fun a ha b hb z => nm (by simp at hb; rw [← hb, ← z]; exact ha)⟩, fun n a o' h1 h2 => ?_⟩
  by_cases hn : n < ι.length
  · rw [List.getElem?_append_left hn] at h1
    rw [List.getElem?_append_left (by rw [← s.len]; exact hn)] at h2
    exact (s.obj n a o' h1 h2).move (Pre.app ι [p]) e (k n a h1)
  · have hn' : ι.length ≤ n := Nat.le_of_not_lt hn
    rw [List.getElem?_append_right hn'] at h1
    rw [List.getElem?_append_right (by rw [← s.len]; exact hn'), ← s.len] at h2
    have z : n - ι.length = 0 := by
      have := (List.getElem?_eq_some_iff.mp h1).1
      simp at this
      omega
    rw [z] at h1 h2
    cases h1
    cases h2
    exact ho
theorem Sim.newAt (s : Sim g ι S H) {p : Addr} : (ι ++ [p])[S.length]? = some p := by
  rw [← s.len, List.getElem?_append_right (Nat.le_refl _)]
  simp
/-- an object is changed -/
theorem Sim.wr (s : Sim g ι S H) {n : Nat} {a : Addr} {o' : O} {q : HO} (e : ι[n]? = some a) (ho : OR g ι (upd H a q) o' a) (ex : Ex H (upd H a q)) : Sim g ι (S.set n o') (upd H a q) ∧ Ex H (upd H a q) := by
  obtain ⟨o, h1, h2⟩ := s.at e
  obtain ⟨z, hz, z1, z2, z3⟩ := or_some h2
  refine ⟨⟨by simp [s.len], s.nd, fun m b u e1 e2 => ?_⟩, ex⟩
  by_cases hm : m = n
  · subst hm
    rw [e] at e1
    cases e1
    have hl : m < S.length := (List.getElem?_eq_some_iff.mp h1).1
    rw [List.getElem?_set_self hl] at e2
    cases e2
    exact ho
  · rw [List.getElem?_set_ne (Ne.symm hm)] at e2
    have hb : b ≠ a := fun x => by
      subst x
      have l1 := (List.getElem?_eq_some_iff.mp e1)
      have l2 := (List.getElem?_eq_some_iff.mp e)
      obtain ⟨i1, j1⟩ := l1
      obtain ⟨i2, j2⟩ := l2
      exact hm ((List.getElem_inj s.nd).mp (j1.trans j2.symm))
    exact (s.obj m b u e1 e2).move (Pre.refl ι) ex (upd_ne hb)
end

/-- the caught error: its address, its class, its dict -/
structure Xa where
  a : Addr
  cls : Value
  d : Option Addr
/-- the slots -/
def Er1 (g : G) (xa : Xa) (ι : List Addr) (H : Hp) (y : Sv) (v : Option V) : Prop :=
  match y with
  | .no => True
  | .v d => ∃ x, v = some x ∧ R g ι H d x
  | .exn c fs => v = some (.ref xa.a) ∧ (∃ C, xa.cls = .ref C ∧ g.mg c = some (.ref C)) ∧ ∃ dd gs, xa.d = some dd ∧ H dd = some (.xd gs) ∧ Fs g ι H fs gs
def Er (g : G) (xa : Xa) (ι : List Addr) (H : Hp) (e : Sl) (σ : L2.St) : Prop := e.length = σ.length ∧ ∀ (i : Nat) (y : Sv) (z : Option V), e[i]? = some y → σ[i]? = some z → Er1 g xa ι H y z
section
variable {g : G} {xa : Xa} {ι ι' : List Addr} {H H' : Hp} {e : Sl} {σ : L2.St}
theorem Er.mono (p : Pre ι ι') (x : Ex H H') (h : Er g xa ι H e σ) : Er g xa ι' H' e σ := ⟨h.1, fun i y z e1 e2 => by
  have q := h.2 i y z e1 e2
  cases y with
  | no => trivial
  | v d => obtain ⟨v, h1, h2⟩ := q; exact ⟨v, h1, R.mono p x _ _ h2⟩
  | exn c fs => obtain ⟨h1, h2, dd, gs, h3, h4, h5⟩ := q; exact ⟨h1, h2, dd, gs, h3, x.xd _ _ h4, h5.mono p x⟩⟩
theorem Er.get (h : Er g xa ι H e σ) {i : Nat} {d : D} (q : e[i]? = some (.v d)) : ∃ v, σ[i]? = some (some v) ∧ R g ι H d v := by
  have hl : i < σ.length := by rw [← h.1]; exact (List.getElem?_eq_some_iff.mp q).1
  obtain ⟨v, h1, h2⟩ := h.2 i _ σ[i] q (List.getElem?_eq_getElem hl)
  exact ⟨v, by rw [List.getElem?_eq_getElem hl, h1], h2⟩
theorem Er.set (h : Er g xa ι H e σ) {i : Nat} {d : D} {v : V} (r : R g ι H d v) : Er g xa ι H (e.set i (.v d)) (σ.set i (some v)) := by
  refine ⟨by simp [h.1], fun j y z e1 e2 => ?_⟩
  by_cases hj : j = i
  · subst hj
    have hl : j < e.length := by have := (List.getElem?_eq_some_iff.mp e1).1; simpa using this
    rw [List.getElem?_set_self hl] at e1
    rw [List.getElem?_set_self (by rw [← h.1]; exact hl)] at e2
    cases e1; cases e2
    exact ⟨v, rfl, r⟩
  · rw [List.getElem?_set_ne (Ne.symm hj)] at e1
    rw [List.getElem?_set_ne (Ne.symm hj)] at e2
    exact h.2 j y z e1 e2
theorem Er.clear (h : Er g xa ι H e σ) {i : Nat} {z : Option V} : Er g xa ι H (e.set i .no) (σ.set i z) := by
  refine ⟨by simp [h.1], fun j y u e1 e2 => ?_⟩
  by_cases hj : j = i
  · subst hj
    have hl : j < e.length := by have := (List.getElem?_eq_some_iff.mp e1).1; simpa using this
    rw [List.getElem?_set_self hl] at e1
    cases e1
    trivial
  · rw [List.getElem?_set_ne (Ne.symm hj)] at e1
    rw [List.getElem?_set_ne (Ne.symm hj)] at e2
    exact h.2 j y u e1 e2
end
end DD

set_option Elab.async false
set_option linter.all false
set_option maxRecDepth 100000
namespace DD
open PySem PySem.Spec PyProof.Rows L2

/-- a result: a value, or an error of the class c with its fields -/
inductive Re (α : Type) where
  | ok (a : α) | ex (c : Str) (fs : List (Str × D))
abbrev MM (α : Type) := Sl → So → Option (Re α × So)
def bindM {α β : Type} (m : MM α) (k : α → MM β) : MM β := fun e S => match m e S with
  | some (.ok a, S1) => k a e S1
  | some (.ex c fs, S1) => some (.ex c fs, S1)
  | none => none
def retM {α : Type} (a : α) : MM α := fun _ S => some (.ok a, S)
theorem bindM_some {α β : Type} {m : MM α} {k : α → MM β} {e : Sl} {S S' : So} {r : Re β} (h : bindM m k e S = some (r, S')) :
    (∃ a S1, m e S = some (.ok a, S1) ∧ k a e S1 = some (r, S')) ∨ ∃ c fs, m e S = some (.ex c fs, S') ∧ r = .ex c fs := by
  unfold bindM at h
  split at h
  · rename_i a S1 q; exact .inl ⟨a, S1, q, h⟩
  · rename_i c fs S1 q; cases h; exact .inr ⟨c, fs, q, rfl⟩
  · cases h
inductive Fl where
  | nx | rt (d : D) | bk | ct | ex (c : Str) (fs : List (Str × D))
abbrev MS := Sl → So → Option (Fl × Sl × So)
def bindS {α : Type} (m : MM α) (k : α → MS) : MS := fun e S => match m e S with
  | some (.ok a, S1) => k a e S1
  | some (.ex c fs, S1) => some (.ex c fs, e, S1)
  | none => none
theorem bindS_some {α : Type} {m : MM α} {k : α → MS} {e e' : Sl} {S S' : So} {f : Fl} (h : bindS m k e S = some (f, e', S')) :
    (∃ a S1, m e S = some (.ok a, S1) ∧ k a e S1 = some (f, e', S')) ∨ ∃ c fs, m e S = some (.ex c fs, S') ∧ f = .ex c fs ∧ e' = e := by
  unfold bindS at h
  split at h
  · rename_i a S1 q; exact .inl ⟨a, S1, q, h⟩
  · rename_i c fs S1 q; cases h; exact .inr ⟨c, fs, q, rfl, rfl⟩
  · cases h
def seqS (m k : MS) : MS := fun e S => match m e S with
  | some (.nx, e1, S1) => k e1 S1
  | o => o

section
variable (g : G) (xa : Xa) (W : WX)
def FinX (σ : L2.St) (ι : List Addr) (H : Hp) (c : Str) (fs : List (Str × D)) (S' : So) : Prop :=
  ∀ (ι' : List Addr) (H' : Hp) (C dd : Addr) (gs : List (Str × V)), Pre ι ι' → Ex H H' → Sim g ι' S' H' → g.mg c = some (.ref C) → H' dd = some (.xd gs) → Fs g ι' H' fs gs → W (.ref C) (some dd) σ H'
abbrev Rel (α γ : Type) := List Addr → Hp → α → γ → Prop
def FinG {α γ : Type} (ρ : Rel α γ) (σ : L2.St) (Q : γ → Hp → Prop) (ι : List Addr) (H : Hp) (r : Re α) (S' : So) : Prop := match r with
  | .ok a => ∀ (ι' : List Addr) (H' : Hp) (v : γ), Pre ι ι' → Ex H H' → Sim g ι' S' H' → ρ ι' H' a v → Q v H'
  | .ex c fs => FinX g W σ ι H c fs S'
/-- a reading by a run m -/
def tG {α γ : Type} (ρ : Rel α γ) (m : MM α) (σ : L2.St) (H : Hp) (Q : γ → Hp → Prop) : Prop :=
  ∃ (ι : List Addr) (S : So) (e : Sl) (r : Re α) (S' : So), Sim g ι S H ∧ Er g xa ι H e σ ∧ m e S = some (r, S') ∧ FinG g W ρ σ Q ι H r S'
abbrev ρD : Rel D V := fun ι H d v => R g ι H d v
abbrev ρA : Rel (List D) (List V) := fun ι H d v => Rs g ι H d v
abbrev ρB : Rel Bool Bool := fun _ _ a b => a = b
abbrev ρO : Rel (Option Int) (Option Int) := fun _ _ a b => a = b
abbrev tE (m : MM D) : TE := fun σ H Q => tG g xa W (ρD g) m σ H Q
abbrev tT (m : MM Bool) : TT := fun σ H Q => tG g xa W ρB m σ H Q
abbrev tA (m : MM (List D)) : TA := fun σ H Q => tG g xa W (ρA g) m σ H Q
abbrev tO (m : MM (Option Int)) : TO := fun σ H Q => tG g xa W ρO m σ H Q
def FinS (Dd : Ends) (ι : List Addr) (H : Hp) (f : Fl) (e' : Sl) (S' : So) : Prop :=
  ∀ (ι' : List Addr) (H' : Hp), Pre ι ι' → Ex H H' → Sim g ι' S' H' → match f with
  | .nx => ∀ σ', Er g xa ι' H' e' σ' → Dd.nx σ' H'
  | .bk => ∀ σ', Er g xa ι' H' e' σ' → Dd.bk σ' H'
  | .ct => ∀ σ', Er g xa ι' H' e' σ' → Dd.ct σ' H'
  | .rt d => ∀ v, R g ι' H' d v → Dd.rt v H'
  | .ex c fs => ∀ σ' C dd gs, Er g xa ι' H' e' σ' → g.mg c = some (.ref C) → H' dd = some (.xd gs) → Fs g ι' H' fs gs → W (.ref C) (some dd) σ' H'
def tS (m : MS) : TS := fun Dd σ H =>
  ∃ (ι : List Addr) (S : So) (e : Sl) (f : Fl) (e' : Sl) (S' : So), Sim g ι S H ∧ Er g xa ι H e σ ∧ m e S = some (f, e', S') ∧ FinS g xa W Dd ι H f e' S'
end

section
variable {g : G} {xa : Xa} {W : WX} {ι ι1 : List Addr} {H H1 : Hp} {σ : L2.St} {S S' : So} {e : Sl}
theorem FinX.mono {c : Str} {fs : List (Str × D)} (p : Pre ι ι1) (x : Ex H H1) (h : FinX g W σ ι H c fs S') : FinX g W σ ι1 H1 c fs S' :=
  fun ι' H' C dd gs p' x' => h ι' H' C dd gs (p.trans p') (x.trans x')
theorem FinG.mono {α γ : Type} {ρ : Rel α γ} {Q : γ → Hp → Prop} {r : Re α} (p : Pre ι ι1) (x : Ex H H1) (h : FinG g W ρ σ Q ι H r S') : FinG g W ρ σ Q ι1 H1 r S' := by
  cases r with
  | ok a => exact fun ι' H' v p' x' => h ι' H' v (p.trans p') (x.trans x')
  | ex c fs => exact FinX.mono p x h
theorem FinS.mono {Dd : Ends} {f : Fl} {e' : Sl} (p : Pre ι ι1) (x : Ex H H1) (h : FinS g xa W Dd ι H f e' S') : FinS g xa W Dd ι1 H1 f e' S' :=
  fun ι' H' p' x' => h ι' H' (p.trans p') (x.trans x')
/-- a run's first part -/
theorem stepG {α β γ δ : Type} {ρ : Rel α γ} {ρ' : Rel β δ} {m : MM α} {k : α → MM β} {r : Re β} {Q : δ → Hp → Prop} {P : γ → Hp → Prop}
    (hs : Sim g ι S H) (he : Er g xa ι H e σ) (hm : bindM m k e S = some (r, S')) (hf : FinG g W ρ' σ Q ι H r S')
    (hk : ∀ (a : α) (S1 : So) (ι1 : List Addr) (H1 : Hp) (v : γ), k a e S1 = some (r, S') → Pre ι ι1 → Ex H H1 → Sim g ι1 S1 H1 → Er g xa ι1 H1 e σ → ρ ι1 H1 a v → FinG g W ρ' σ Q ι1 H1 r S' → P v H1) :
    tG g xa W ρ m σ H P := by
  rcases bindM_some hm with ⟨a, S1, h1, h2⟩ | ⟨c, fs, h1, rfl⟩
  · exact ⟨ι, S, e, .ok a, S1, hs, he, h1, fun ι' H' v p x s r' => hk a S1 ι' H' v h2 p x s (he.mono p x) r' (hf.mono p x)⟩
  · exact ⟨ι, S, e, .ex c fs, S', hs, he, h1, hf⟩
theorem stepS {α γ : Type} {ρ : Rel α γ} {m : MM α} {k : α → MS} {f : Fl} {e' : Sl} {Dd : Ends} {P : γ → Hp → Prop}
    (hs : Sim g ι S H) (he : Er g xa ι H e σ) (hm : bindS m k e S = some (f, e', S')) (hf : FinS g xa W Dd ι H f e' S')
    (hk : ∀ (a : α) (S1 : So) (ι1 : List Addr) (H1 : Hp) (v : γ), k a e S1 = some (f, e', S') → Pre ι ι1 → Ex H H1 → Sim g ι1 S1 H1 → Er g xa ι1 H1 e σ → ρ ι1 H1 a v → FinS g xa W Dd ι1 H1 f e' S' → P v H1) :
    tG g xa W ρ m σ H P := by
  rcases bindS_some hm with ⟨a, S1, h1, h2⟩ | ⟨c, fs, h1, rfl, rfl⟩
  · exact ⟨ι, S, e, .ok a, S1, hs, he, h1, fun ι' H' v p x s r' => hk a S1 ι' H' v h2 p x s (he.mono p x) r' (hf.mono p x)⟩
  · exact ⟨ι, S, e', .ex c fs, S', hs, he, h1, fun ι' H' C dd gs p x s h3 h4 h5 => hf ι' H' p x s σ C dd gs (he.mono p x) h3 h4 h5⟩
end

section
variable {X : Cx}
theorem _root_.L2.PE.viaM {e : Expr} {t t' : TE} (h : PE X e t) (i : ∀ σ H Q, t' σ H Q → t σ H Q) : PE X e t' := ⟨fun pins s σ H Q I q => h.run pins s σ H Q I (i σ H Q q)⟩
theorem _root_.L2.PT.viaM {e : Expr} {t t' : TT} (h : PT X e t) (i : ∀ σ H Q, t' σ H Q → t σ H Q) : PT X e t' := ⟨fun pins s σ H Q I q => h.run pins s σ H Q I (i σ H Q q)⟩
theorem _root_.L2.PW.viaM {e : Expr} {t t' : TT} (h : PW X e t) (i : ∀ σ H Q, t' σ H Q → t σ H Q) : PW X e t' := ⟨fun wh pins s σ H Q I q => h.run wh pins s σ H Q I (i σ H Q q)⟩
theorem _root_.L2.PA.viaM {e : List Expr} {t t' : TA} (h : PA X e t) (i : ∀ σ H Q, t' σ H Q → t σ H Q) : PA X e t' := ⟨fun p pins s σ H Q I q => h.run p pins s σ H Q I (i σ H Q q)⟩
theorem _root_.L2.PO.viaM {e : Option Expr} {t t' : TO} (h : PO X e t) (i : ∀ σ H Q, t' σ H Q → t σ H Q) : PO X e t' := ⟨fun pins s σ H Q I q => h.run pins s σ H Q I (i σ H Q q)⟩
theorem _root_.L2.PS.viaM {e : Stmt} {t t' : TS} (h : PS X e t) (i : ∀ D σ H, t' D σ H → t D σ H) : PS X e t' := ⟨fun pins s σ H D I q => h.run pins s σ H D I (i D σ H q)⟩
theorem _root_.L2.PSs.viaM {e : List Stmt} {t t' : TS} (h : PSs X e t) (i : ∀ D σ H, t' D σ H → t D σ H) : PSs X e t' := ⟨fun pins s σ H D I q => h.run pins s σ H D I (i D σ H q)⟩
theorem _root_.L2.PI.viaM {tg e : Expr} {t t' : TI} (h : PI X tg e t) (i : ∀ σ H Q, t' σ H Q → t σ H Q) : PI X tg e t' := ⟨fun pins s σ H Q I q => h.run pins s σ H Q I (i σ H Q q)⟩
theorem _root_.L2.PI.orM {tg e : Expr} {t t' : TI} (h : PI X tg e t) (h' : PI X tg e t') : PI X tg e (fun σ H Q => t σ H Q ∨ t' σ H Q) := ⟨fun pins s σ H Q I q => q.elim (h.run pins s σ H Q I) (h'.run pins s σ H Q I)⟩
end

/-! ### names, constants -/
section
variable {X : Cx} {g : G} {xa : Xa} {W : WX} {pos : Pos}
def mVar (i : Nat) : MM D := fun e S => match e[i]? with
  | some (.v d) => some (.ok d, S)
  | _ => none
theorem mVar_some {i : Nat} {e : Sl} {S S' : So} {r : Re D} (h : mVar i e S = some (r, S')) : ∃ d, e[i]? = some (.v d) ∧ r = .ok d ∧ S' = S := by
  unfold mVar at h
  split at h
  · rename_i d q; cases h; exact ⟨d, q, rfl, rfl⟩
  · cases h
theorem em_var (i : Nat) {x : Str} (hN : X.N[i]? = some x := by rfl) (hv : Vis X.env.scope x := by first | exact Or.inl rfl | exact Or.inr (Or.inl rfl) | exact Or.inr (Or.inr rfl)) (hd : (x == ("__debug__" : Str)) = false := by decide)
    (hcd : (x == ("__classdict__" : Str)) = false := by decide) : PE X (.Name x pos) (tE g xa W (mVar i)) := by
  refine (pe_var (i := i) hN hv hd hcd).viaM fun σ H Q h => ?_
  obtain ⟨ι, S, e, r, S', hs, he, hm, hf⟩ := h
  obtain ⟨d, h1, rfl, rfl⟩ := mVar_some hm
  obtain ⟨v, h2, h3⟩ := he.get h1
  exact ⟨v, h2, hf ι H v (Pre.refl ι) (Ex.refl H) hs h3⟩
theorem em_const {e : Expr} {d : D} {v : V} (h : PE X e (tC v)) (r : ∀ ι H, R g ι H d v) : PE X e (tE g xa W (retM d)) := by
  refine h.viaM fun σ H Q h => ?_
  obtain ⟨ι, S, e, r', S', hs, he, hm, hf⟩ := h
  cases hm
  exact hf ι H v (Pre.refl ι) (Ex.refl H) hs (r ι H)
theorem em_int {i : Int} {j : Nat} : PE X (.Constant (.int i) j pos) (tE g xa W (retM (.int i))) := em_const pe_int fun _ _ => .int i
theorem em_bl {b : Bool} {j : Nat} : PE X (.Constant (.bool b) j pos) (tE g xa W (retM (.bl b))) := em_const pe_bl fun _ _ => .bl b
theorem em_non {j : Nat} : PE X (.Constant .none j pos) (tE g xa W (retM .non)) := em_const pe_non fun _ _ => .non
theorem em_str {x : Str} {j : Nat} : PE X (.Constant (.str x) j pos) (tE g xa W (retM (.str x))) := em_const pe_str fun _ _ => .str x
/-- a module's own def or class as a value -/
theorem em_glob {x : Str} {u : Value} {v : V} (hg : Gl X x) (hm : X.mg x = some u) (hm2 : g.mg x = some u) (r : RelV v u) (hd : (x == ("__debug__" : Str)) = false := by decide) : PE X (.Name x pos) (tE g xa W (retM (.glo x))) :=
  em_const (pe_glob hg hm r hd) fun _ _ => .glo hm2 r
/-- a module's plain constant -/
theorem em_gint {x : Str} {i : Int} {t : Tok} (hg : Gl X x) (hm : X.mg x = some (.int i t)) (hd : (x == ("__debug__" : Str)) = false := by decide) : PE X (.Name x pos) (tE g xa W (retM (.int i))) :=
  em_const (pe_glob (v := .int i) hg hm ⟨t, rfl⟩ hd) fun _ _ => .int i
theorem em_gstr {x y : Str} {t : Tok} (hg : Gl X x) (hm : X.mg x = some (.str y t)) (hd : (x == ("__debug__" : Str)) = false := by decide) : PE X (.Name x pos) (tE g xa W (retM (.str y))) :=
  em_const (pe_glob (v := .str y) hg hm ⟨t, rfl⟩ hd) fun _ _ => .str y

/-! ### argument lists -/
def mNil : MM (List D) := retM []
def mCons (m : MM D) (k : MM (List D)) : MM (List D) := bindM m fun d => bindM k fun ds => retM (d :: ds)
theorem am_nil : PA X [] (tA g xa W mNil) := pa_nil.viaM fun σ H Q h => by
  obtain ⟨ι, S, e, r, S', hs, he, hm, hf⟩ := h
  cases hm
  exact hf ι H [] (Pre.refl ι) (Ex.refl H) hs .nil
theorem am_cons {e : Expr} {es : List Expr} {m : MM D} {k : MM (List D)} (h : PE X e (tE g xa W m)) (hr : PA X es (tA g xa W k)) (hs : starEach (e :: es) X.env = (false, eval e X.env) :: starEach es X.env := by rfl) : PA X (e :: es) (tA g xa W (mCons m k)) := by
  refine (pa_cons h hr hs).viaM fun σ H Q h => ?_
  obtain ⟨ι, S, e, r, S', hs, he, hm, hf⟩ := h
  refine stepG hs he hm hf fun d S1 ι1 H1 v h1 p1 x1 s1 e1 r1 f1 => ?_
  refine stepG s1 e1 h1 f1 fun ds S2 ι2 H2 vs h2 p2 x2 s2 e2 r2 f2 => ?_
  cases h2
  exact f2 ι2 H2 (v :: vs) (Pre.refl ι2) (Ex.refl H2) s2 (.cons (R.mono p2 x2 _ _ r1) r2)

/-! ### operators by values -/
/-- a reading of values -/
def Does {α γ : Type} (g : G) (ρ : Rel α γ) (ι : List Addr) (H : Hp) (a : α) (S' : So) (Q : γ → Hp → Prop) : Prop :=
  ∀ (ι' : List Addr) (H' : Hp) (v : γ), Pre ι ι' → Ex H H' → Sim g ι' S' H' → ρ ι' H' a v → Q v H'
theorem Does.here {α γ : Type} {g : G} {ρ : Rel α γ} {ι : List Addr} {H : Hp} {a : α} {S : So} {Q : γ → Hp → Prop} {v : γ} (h : Does g ρ ι H a S Q) (s : Sim g ι S H) (r : ρ ι H a v) : Q v H := h ι H v (Pre.refl ι) (Ex.refl H) s r
abbrev F1 := D → So → Option (D × So)
abbrev F2 := D → D → So → Option (D × So)
abbrev FA := List D → So → Option (D × So)
def Op2 (g : G) (r : R2) (f : F2) : Prop := ∀ (ι : List Addr) (S S' : So) (H : Hp) (a b d : D) (x y : V) (Q : VK), Sim g ι S H → R g ι H a x → R g ι H b y → f a b S = some (d, S') → Does g (ρD g) ι H d S' Q → r x y H Q
def Op1 (g : G) (r : V → Hp → VK → Prop) (f : F1) : Prop := ∀ (ι : List Addr) (S S' : So) (H : Hp) (a d : D) (x : V) (Q : VK), Sim g ι S H → R g ι H a x → f a S = some (d, S') → Does g (ρD g) ι H d S' Q → r x H Q
def OpA (g : G) (r : List V → Hp → VK → Prop) (f : FA) : Prop := ∀ (ι : List Addr) (S S' : So) (H : Hp) (a : List D) (d : D) (x : List V) (Q : VK), Sim g ι S H → Rs g ι H a x → f a S = some (d, S') → Does g (ρD g) ι H d S' Q → r x H Q
def liftF {α : Type} (o : So → Option (α × So)) : MM α := fun _ S => match o S with
  | some (d, S1) => some (.ok d, S1)
  | none => none
theorem liftF_some {α : Type} {o : So → Option (α × So)} {e : Sl} {S S' : So} {r : Re α} (h : liftF o e S = some (r, S')) : ∃ d, o S = some (d, S') ∧ r = .ok d := by
  unfold liftF at h
  split at h
  · rename_i d S1 q; cases h; exact ⟨d, q, rfl⟩
  · cases h
def mOp2 (f : F2) (ma mb : MM D) : MM D := bindM ma fun a => bindM mb fun b => liftF (f a b)
def mOp1 (f : F1) (ma : MM D) : MM D := bindM ma fun a => liftF (f a)
def mOpA (f : FA) (ma : MM (List D)) : MM D := bindM ma fun a => liftF (f a)
theorem op2_step {r : R2} {f : F2} (hf : Op2 g r f) {ma mb : MM D} {σ : L2.St} {H : Hp} {Q : VK} (h : tE g xa W (mOp2 f ma mb) σ H Q) : tOp r (tE g xa W ma) (tE g xa W mb) σ H Q := by
  obtain ⟨ι, S, e, r, S', hs, he, hm, hf'⟩ := h
  refine stepG hs he hm hf' fun a S1 ι1 H1 v h1 p1 x1 s1 e1 r1 f1 => ?_
  refine stepG s1 e1 h1 f1 fun b S2 ι2 H2 u h2 p2 x2 s2 e2 r2 f2 => ?_
  obtain ⟨d, h3, rfl⟩ := liftF_some h2
  exact hf ι2 S2 S' H2 a b d v u Q s2 (R.mono p2 x2 _ _ r1) r2 h3 f2
theorem opA_step {r : List V → Hp → VK → Prop} {f : FA} (hf : OpA g r f) {ma : MM (List D)} {σ : L2.St} {H : Hp} {Q : VK} (h : tE g xa W (mOpA f ma) σ H Q) : tA g xa W ma σ H fun vs H1 => r vs H1 Q := by
  obtain ⟨ι, S, e, r, S', hs, he, hm, hf'⟩ := h
  refine stepG hs he hm hf' fun a S1 ι1 H1 v h1 p1 x1 s1 e1 r1 f1 => ?_
  obtain ⟨d, h3, rfl⟩ := liftF_some h1
  exact hf ι1 S1 S' H1 a d v Q s1 r1 h3 f1
theorem op1_step {r : V → Hp → VK → Prop} {f : F1} (hf : Op1 g r f) {ma : MM D} {σ : L2.St} {H : Hp} {Q : VK} (h : tE g xa W (mOp1 f ma) σ H Q) : tE g xa W ma σ H fun vs H1 => r vs H1 Q := by
  obtain ⟨ι, S, e, r, S', hs, he, hm, hf'⟩ := h
  refine stepG hs he hm hf' fun a S1 ι1 H1 v h1 p1 x1 s1 e1 r1 f1 => ?_
  obtain ⟨d, h3, rfl⟩ := liftF_some h1
  exact hf ι1 S1 S' H1 a d v Q s1 r1 h3 f1
theorem em_op {a b : Expr} {op : Operator} {r : R2} {f : F2} {ma mb : MM D} (ho : OpR X (binaryOp op) r) (hf : Op2 g r f) (ha : PE X a (tE g xa W ma)) (hb : PE X b (tE g xa W mb)) : PE X (.BinOp a op b pos) (tE g xa W (mOp2 f ma mb)) :=
  (pe_op ho ha hb).viaM fun _ _ _ h => op2_step hf h
theorem em_un {a : Expr} {op : UnaryOp} {r : V → Hp → VK → Prop} {f : F1} {ma : MM D} (ho : UnR X (unaryOp op) r) (hf : Op1 g r f) (ha : PE X a (tE g xa W ma)) : PE X (.UnaryOp op a pos) (tE g xa W (mOp1 f ma)) :=
  (pe_un ho ha).viaM fun _ _ _ h => op1_step hf h
theorem em_cmp {a b : Expr} {op : CmpOp} {r : R2} {f : F2} {ma mb : MM D} (ho : OpR X (compareOp op) r) (hf : Op2 g r f) (ha : PE X a (tE g xa W ma)) (hb : PE X b (tE g xa W mb)) (hm : behindInMarks op b = false) : PE X (.Compare a [op] [b] pos) (tE g xa W (mOp2 f ma mb)) :=
  (pe_cmpR ho ha hb hm).viaM fun _ _ _ h => op2_step hf h
/-- the bool of a comparison -/
def asB (d : D) : MM Bool := fun _ S => match d with
  | .bl b => some (.ok b, S)
  | _ => none
theorem asB_some {d : D} {e : Sl} {S S' : So} {r : Re Bool} (h : asB d e S = some (r, S')) : ∃ b, d = .bl b ∧ r = .ok b ∧ S' = S := by
  unfold asB at h
  split at h
  · cases h; exact ⟨_, rfl, rfl, rfl⟩
  · cases h
def mTst (m : MM D) : MM Bool := bindM m asB
theorem tst_step {t : TE} {m : MM D} (ht : ∀ σ H Q, tE g xa W m σ H Q → t σ H Q) {σ : L2.St} {H : Hp} {Q : Bool → Hp → Prop} (h : tT g xa W (mTst m) σ H Q) : t σ H fun x H' => ∃ k, x = .bl k ∧ Q k H' := by
  obtain ⟨ι, S, e, r, S', hs, he, hm, hf'⟩ := h
  refine ht _ _ _ (stepG hs he hm hf' fun a S1 ι1 H1 v h1 p1 x1 s1 e1 r1 f1 => ?_)
  obtain ⟨b, rfl, rfl, rfl⟩ := asB_some h1
  cases r1
  exact ⟨b, rfl, f1 ι1 H1 b (Pre.refl _) (Ex.refl _) s1 rfl⟩
theorem tm_cmp {a b : Expr} {op : CmpOp} {r : R2} {f : F2} {ma mb : MM D} (ho : OpR X (compareOp op) r) (hf : Op2 g r f) (ha : PE X a (tE g xa W ma)) (hb : PE X b (tE g xa W mb)) (hm : behindInMarks op b = false) : PT X (.Compare a [op] [b] pos) (tT g xa W (mTst (mOp2 f ma mb))) :=
  (pt_cmpR ho ha hb hm).viaM fun _ _ _ h => tst_step (fun _ _ _ h => op2_step hf h) h
/-- an expression that gives a bool -/
theorem tm_val {e : Expr} {m : MM D} (h : PE X e (tE g xa W m)) (he : ∀ whole, isTrue e X.env whole = (do let v ← whole; standAt e.pos; holding [v] (truthy v)) := by intro _; rfl) : PT X e (tT g xa W (mTst m)) :=
  (pt_val h he).viaM fun _ _ _ h => tst_step (fun _ _ _ h => h) h
def mNot (m : MM Bool) : MM Bool := bindM m fun b => retM (!b)
theorem tm_not {a : Expr} {m : MM Bool} (ha : PT X a (tT g xa W m)) : PT X (.UnaryOp .Not a pos) (tT g xa W (mNot m)) := by
  refine (pt_not ha).viaM fun σ H Q h => ?_
  obtain ⟨ι, S, e, r, S', hs, he, hm, hf'⟩ := h
  refine stepG hs he hm hf' fun a S1 ι1 H1 v h1 p1 x1 s1 e1 r1 f1 => ?_
  cases r1
  cases h1
  exact f1 ι1 H1 _ (Pre.refl _) (Ex.refl _) s1 rfl
def mAnd (m k : MM Bool) : MM Bool := bindM m fun b => if b then k else retM false
def mOr (m k : MM Bool) : MM Bool := bindM m fun b => if b then retM true else k
theorem wm_and1 {a : Expr} {m : MM Bool} (ha : PT X a (tT g xa W m)) : PW X (.BoolOp .And [a] pos) (tT g xa W m) := pw_and1 ha
theorem wm_or1 {a : Expr} {m : MM Bool} (ha : PT X a (tT g xa W m)) : PW X (.BoolOp .Or [a] pos) (tT g xa W m) := pw_or1 ha
theorem wm_and {a b : Expr} {rest : List Expr} {m k : MM Bool} (ha : PT X a (tT g xa W m)) (hb : PW X (.BoolOp .And (b :: rest) pos) (tT g xa W k)) : PW X (.BoolOp .And (a :: b :: rest) pos) (tT g xa W (mAnd m k)) := by
  refine (pw_and ha hb).viaM fun σ H Q h => ?_
  obtain ⟨ι, S, e, r, S', hs, he, hm, hf'⟩ := h
  refine stepG hs he hm hf' fun a S1 ι1 H1 v h1 p1 x1 s1 e1 r1 f1 => ?_
  cases r1
  cases a with
  | true => exact ⟨ι1, S1, e, r, S', s1, e1, h1, f1⟩
  | false => cases h1; exact f1 ι1 H1 _ (Pre.refl _) (Ex.refl _) s1 rfl
theorem wm_or {a b : Expr} {rest : List Expr} {m k : MM Bool} (ha : PT X a (tT g xa W m)) (hb : PW X (.BoolOp .Or (b :: rest) pos) (tT g xa W k)) : PW X (.BoolOp .Or (a :: b :: rest) pos) (tT g xa W (mOr m k)) := by
  refine (pw_or ha hb).viaM fun σ H Q h => ?_
  obtain ⟨ι, S, e, r, S', hs, he, hm, hf'⟩ := h
  refine stepG hs he hm hf' fun a S1 ι1 H1 v h1 p1 x1 s1 e1 r1 f1 => ?_
  cases r1
  cases a with
  | true => cases h1; exact f1 ι1 H1 _ (Pre.refl _) (Ex.refl _) s1 rfl
  | false => exact ⟨ι1, S1, e, r, S', s1, e1, h1, f1⟩
/-- and, or, not as values of bools -/
def mAndV (m k : MM D) : MM D := bindM m fun d => bindM (asB d) fun b => if b then k else retM (.bl false)
def mOrV (m k : MM D) : MM D := bindM m fun d => bindM (asB d) fun b => if b then retM (.bl true) else k
def mNotV (m : MM D) : MM D := bindM m fun d => bindM (asB d) fun b => retM (.bl (!b))
theorem bind_asB {β : Type} {d : D} {k : Bool → MM β} {e : Sl} {S S' : So} {r : Re β} (h : bindM (asB d) k e S = some (r, S')) : ∃ b, d = .bl b ∧ k b e S = some (r, S') := by
  rcases bindM_some h with ⟨b, S1, h1, h2⟩ | ⟨c, fs, h1, _⟩
  · obtain ⟨b', rfl, e1, rfl⟩ := asB_some h1; cases e1; exact ⟨b, rfl, h2⟩
  · obtain ⟨b', _, e1, _⟩ := asB_some h1; cases e1
theorem em_one {op : BoolOp} {a : Expr} {m : MM D} (h : PE X a (tE g xa W m)) : PE X (.BoolOp op [a] pos) (tE g xa W m) := pe_one h
theorem em_and {a b : Expr} {rest : List Expr} {m k : MM D} (ha : PE X a (tE g xa W m)) (hb : PE X (.BoolOp .And (b :: rest) pos) (tE g xa W k)) : PE X (.BoolOp .And (a :: b :: rest) pos) (tE g xa W (mAndV m k)) := by
  refine (pe_and ha hb).viaM fun σ H Q h => ?_
  obtain ⟨ι, S, e, r, S', hs, he, hm, hf'⟩ := h
  refine stepG hs he hm hf' fun a S1 ι1 H1 v h1 p1 x1 s1 e1 r1 f1 => ?_
  obtain ⟨b, rfl, h2⟩ := bind_asB h1
  cases r1
  refine ⟨b, rfl, ?_⟩
  cases b with
  | true => exact ⟨ι1, S1, e, r, S', s1, e1, h2, f1⟩
  | false => cases h2; exact f1 ι1 H1 _ (Pre.refl _) (Ex.refl _) s1 (.bl _)
theorem em_or {a b : Expr} {rest : List Expr} {m k : MM D} (ha : PE X a (tE g xa W m)) (hb : PE X (.BoolOp .Or (b :: rest) pos) (tE g xa W k)) : PE X (.BoolOp .Or (a :: b :: rest) pos) (tE g xa W (mOrV m k)) := by
  refine (pe_or ha hb).viaM fun σ H Q h => ?_
  obtain ⟨ι, S, e, r, S', hs, he, hm, hf'⟩ := h
  refine stepG hs he hm hf' fun a S1 ι1 H1 v h1 p1 x1 s1 e1 r1 f1 => ?_
  obtain ⟨b, rfl, h2⟩ := bind_asB h1
  cases r1
  refine ⟨b, rfl, ?_⟩
  cases b with
  | true => cases h2; exact f1 ι1 H1 _ (Pre.refl _) (Ex.refl _) s1 (.bl _)
  | false => exact ⟨ι1, S1, e, r, S', s1, e1, h2, f1⟩
theorem em_not {a : Expr} {m : MM D} (ha : PE X a (tE g xa W m)) : PE X (.UnaryOp .Not a pos) (tE g xa W (mNotV m)) := by
  refine (pe_not ha).viaM fun σ H Q h => ?_
  obtain ⟨ι, S, e, r, S', hs, he, hm, hf'⟩ := h
  refine stepG hs he hm hf' fun a S1 ι1 H1 v h1 p1 x1 s1 e1 r1 f1 => ?_
  obtain ⟨b, rfl, h2⟩ := bind_asB h1
  cases r1
  cases h2
  exact ⟨b, rfl, f1 ι1 H1 _ (Pre.refl _) (Ex.refl _) s1 (.bl _)⟩
def mIf (t : MM Bool) (m k : MM D) : MM D := bindM t fun b => if b then m else k
theorem em_if {c a b : Expr} {t : MM Bool} {m k : MM D} (hc : PT X c (tT g xa W t)) (ha : PE X a (tE g xa W m)) (hb : PE X b (tE g xa W k)) : PE X (.IfExp c a b pos) (tE g xa W (mIf t m k)) := by
  refine (pe_ifExp hc ha hb).viaM fun σ H Q h => ?_
  obtain ⟨ι, S, e, r, S', hs, he, hm, hf'⟩ := h
  refine stepG hs he hm hf' fun a S1 ι1 H1 v h1 p1 x1 s1 e1 r1 f1 => ?_
  cases r1
  cases a with
  | true => exact ⟨ι1, S1, e, r, S', s1, e1, h1, f1⟩
  | false => exact ⟨ι1, S1, e, r, S', s1, e1, h1, f1⟩
/-- a op b op c -/
def mChain (f f' : F2) (ma mb mc : MM D) : MM D := bindM ma fun a => bindM mb fun b => bindM (liftF (f a b)) fun d => bindM (asB d) fun k => if k then bindM mc fun c => liftF (f' b c) else retM (.bl false)
theorem chain_step {r r' : R2} {f f' : F2} (hf : Op2 g r f) (hf2 : Op2 g r' f') {ma mb mc : MM D} {σ : L2.St} {H : Hp} {Q : VK} (h : tE g xa W (mChain f f' ma mb mc) σ H Q) : tChain r r' (tE g xa W ma) (tE g xa W mb) (tE g xa W mc) σ H Q := by
  obtain ⟨ι, S, e, r, S', hs, he, hm, hf'⟩ := h
  refine stepG hs he hm hf' fun a S1 ι1 H1 v h1 p1 x1 s1 e1 r1 f1 => ?_
  refine stepG s1 e1 h1 f1 fun b S2 ι2 H2 u h2 p2 x2 s2 e2 r2 f2 => ?_
  rcases bindM_some h2 with ⟨d, S3, h3, h4⟩ | ⟨c, fs, h3, _⟩
  · obtain ⟨d', h5, z⟩ := liftF_some h3
    cases z
    refine hf ι2 S2 S3 H2 a b d v u _ s2 (R.mono p2 x2 _ _ r1) r2 h5 fun ι3 H3 w p3 x3 s3 r3 => ?_
    obtain ⟨k, rfl, h6⟩ := bind_asB h4
    cases r3
    refine ⟨k, rfl, ?_⟩
    have f3 := f2.mono p3 x3
    have e3 := e2.mono p3 x3
    cases k with
    | true =>
      rw [if_pos rfl] at h6 ⊢
      refine stepG s3 e3 h6 f3 fun c S4 ι4 H4 z h7 p4 x4 s4 e4 r4 f4 => ?_
      obtain ⟨d', h8, rfl⟩ := liftF_some h7
      exact hf2 ι4 S4 S' H4 b c d' u z Q s4 (R.mono p4 x4 _ _ (R.mono p3 x3 _ _ r2)) r4 h8 f4
    | false =>
      rw [if_neg Bool.false_ne_true] at h6 ⊢
      cases h6
      exact f3 ι3 H3 _ (Pre.refl _) (Ex.refl _) s3 (.bl _)
  · obtain ⟨d, _, z⟩ := liftF_some h3; cases z
theorem em_chain {a b c : Expr} {op op' : CmpOp} {r r' : R2} {f f' : F2} {ma mb mc : MM D} (ho : OpR X (compareOp op) r) (hf : Op2 g r f) (ho' : OpR X (compareOp op') r') (hf' : Op2 g r' f') (ha : PE X a (tE g xa W ma)) (hb : PE X b (tE g xa W mb)) (hc : PE X c (tE g xa W mc))
    (hm : lastMarks [op, op'] [b, c] = false := by with_unfolding_all rfl) : PE X (.Compare a [op, op'] [b, c] pos) (tE g xa W (mChain f f' ma mb mc)) :=
  (pe_chain ho ho' ha hb hc hm).viaM fun _ _ _ h => chain_step hf hf' h
theorem tm_chain {a b c : Expr} {op op' : CmpOp} {r r' : R2} {f f' : F2} {ma mb mc : MM D} (ho : OpR X (compareOp op) r) (hf : Op2 g r f) (ho' : OpR X (compareOp op') r') (hf' : Op2 g r' f') (ha : PE X a (tE g xa W ma)) (hb : PE X b (tE g xa W mb)) (hc : PE X c (tE g xa W mc))
    (hm : lastMarks [op, op'] [b, c] = false := by with_unfolding_all rfl) : PT X (.Compare a [op, op'] [b, c] pos) (tT g xa W (mTst (mChain f f' ma mb mc))) :=
  (pt_chain ho ho' ha hb hc hm).viaM fun _ _ _ h => tst_step (fun _ _ _ h => chain_step hf hf' h) h
end
end DD

set_option Elab.async false
set_option linter.all false
set_option maxRecDepth 100000
namespace DD
open PySem PySem.Spec PyProof.Rows L2

section
variable {X : Cx} {g : G} {xa : Xa} {W : WX} {pos : Pos}
/-! ### statements -/
def nxS : MS := fun e S => some (.nx, e, S)
theorem FinS.nx {Dd : Ends} {ι : List Addr} {H : Hp} {e : Sl} {S : So} {σ : L2.St} (h : FinS g xa W Dd ι H .nx e S) (s : Sim g ι S H) (r : Er g xa ι H e σ) : Dd.nx σ H := h ι H (Pre.refl _) (Ex.refl _) s σ r
theorem sm_nil : PSs X [] (tS g xa W nxS) := pss_nil.viaM fun Dd σ H h => by
  obtain ⟨ι, S, e, f, e', S', hs, he, hm, hf⟩ := h
  cases hm
  exact hf.nx hs he
theorem seq_step {m k : MS} {t : TS} {Dd : Ends} {σ : L2.St} {H : Hp} (ht : ∀ D σ H, tS g xa W m D σ H → t D σ H) (h : tS g xa W (seqS m k) Dd σ H) : t { Dd with nx := tS g xa W k Dd } σ H := by
  obtain ⟨ι, S, e, f, e', S', hs, he, hm, hf⟩ := h
  unfold seqS at hm
  split at hm
  · rename_i e1 S1 q
    exact ht _ _ _ ⟨ι, S, e, .nx, e1, S1, hs, he, q, fun ι' H' p x s σ' r => ⟨ι', S1, e1, f, e', S', s, r, hm, hf.mono p x⟩⟩
  · rename_i q
    refine ht _ _ _ ⟨ι, S, e, f, e', S', hs, he, hm, ?_⟩
    cases f with
    | nx => exact absurd hm (q e' S')
    | rt d => exact fun ι' H' p x s => hf ι' H' p x s
    | bk => exact fun ι' H' p x s => hf ι' H' p x s
    | ct => exact fun ι' H' p x s => hf ι' H' p x s
    | ex c fs => exact fun ι' H' p x s => hf ι' H' p x s
theorem sm_cons {st : Stmt} {rest : List Stmt} {m k : MS} (h1 : PS X st (tS g xa W m)) (h2 : PSs X rest (tS g xa W k)) : PSs X (st :: rest) (tS g xa W (seqS m k)) :=
  (pss_cons h1 h2).viaM fun _ _ _ h => seq_step (t := tS g xa W m) (fun _ _ _ h => h) h
theorem sm_one {st : Stmt} {m : MS} (h1 : PS X st (tS g xa W m)) : PSs X [st] (tS g xa W m) := pss_one h1
def fS (f : Fl) : MS := fun e S => some (f, e, S)
theorem sm_pass : PS X (.Pass pos) (tS g xa W nxS) := ps_pass.viaM fun Dd σ H h => by
  obtain ⟨ι, S, e, f, e', S', hs, he, hm, hf⟩ := h
  cases hm
  exact hf.nx hs he
theorem sm_break : PS X (.Break pos) (tS g xa W (fS .bk)) := ps_break.viaM fun Dd σ H h => by
  obtain ⟨ι, S, e, f, e', S', hs, he, hm, hf⟩ := h
  cases hm
  exact hf ι H (Pre.refl _) (Ex.refl _) hs σ he
theorem sm_continue : PS X (.Continue pos) (tS g xa W (fS .ct)) := ps_continue.viaM fun Dd σ H h => by
  obtain ⟨ι, S, e, f, e', S', hs, he, hm, hf⟩ := h
  cases hm
  exact hf ι H (Pre.refl _) (Ex.refl _) hs σ he
def exprS (m : MM D) : MS := bindS m fun _ => nxS
theorem sm_expr {e : Expr} {m : MM D} (he : PE X e (tE g xa W m)) (hs : swapsWith e none pos.line X.env = pure false := by rfl) : PS X (.Expr e pos) (tS g xa W (exprS m)) := (ps_expr he hs).viaM fun Dd σ H h => by
  obtain ⟨ι, S, e, f, e', S', hs, he, hm, hf⟩ := h
  refine stepS hs he hm hf fun a S1 ι1 H1 v h1 p1 x1 s1 e1 r1 f1 => ?_
  cases h1
  exact f1.nx s1 e1
theorem sm_doc {x j pos'} : PS X (.Expr (.Constant (.str x) j pos) pos') (tS g xa W nxS) := ps_doc.viaM fun Dd σ H h => by
  obtain ⟨ι, S, e, f, e', S', hs, he, hm, hf⟩ := h
  cases hm
  exact hf.nx hs he
def retS (m : MM D) : MS := bindS m fun d => fS (.rt d)
theorem sm_ret {e : Expr} {m : MM D} (he : PE X e (tE g xa W m)) : PS X (.Return (some e) pos) (tS g xa W (retS m)) := (ps_ret he).viaM fun Dd σ H h => by
  obtain ⟨ι, S, e, f, e', S', hs, he, hm, hf⟩ := h
  refine stepS hs he hm hf fun a S1 ι1 H1 v h1 p1 x1 s1 e1 r1 f1 => ?_
  cases h1
  exact f1 ι1 H1 (Pre.refl _) (Ex.refl _) s1 v r1
theorem sm_retN : PS X (.Return none pos) (tS g xa W (fS (.rt .non))) := ps_retN.viaM fun Dd σ H h => by
  obtain ⟨ι, S, e, f, e', S', hs, he, hm, hf⟩ := h
  cases hm
  exact hf ι H (Pre.refl _) (Ex.refl _) hs .non .non
def ifS (t : MM Bool) (m k : MS) : MS := bindS t fun b => if b then m else k
theorem sm_if {c : Expr} {a b : List Stmt} {t : MM Bool} {m k : MS} (hc : PT X c (tT g xa W t)) (ha : PSs X a (tS g xa W m)) (hb : PSs X b (tS g xa W k)) : PS X (.If c a b pos) (tS g xa W (ifS t m k)) := (ps_if hc ha hb).viaM fun Dd σ H h => by
  obtain ⟨ι, S, e, f, e', S', hs, he, hm, hf⟩ := h
  refine stepS hs he hm hf fun a S1 ι1 H1 v h1 p1 x1 s1 e1 r1 f1 => ?_
  cases r1
  cases a with
  | true => exact ⟨ι1, S1, e, f, e', S', s1, e1, h1, f1⟩
  | false => exact ⟨ι1, S1, e, f, e', S', s1, e1, h1, f1⟩

/-! ### targets -/
abbrev Tg := D → Sl → Option Sl
abbrev Tgs := List D → Sl → Option Sl
def tGt (g : G) (xa : Xa) (t : Tg) : TG := fun v σ H Q => ∃ (ι : List Addr) (S : So) (e e' : Sl) (d : D), Sim g ι S H ∧ Er g xa ι H e σ ∧ R g ι H d v ∧ t d e = some e' ∧ ∀ σ', Er g xa ι H e' σ' → Q σ' H
def tGts (g : G) (xa : Xa) (t : Tgs) : TGs := fun v σ H Q => ∃ (ι : List Addr) (S : So) (e e' : Sl) (d : List D), Sim g ι S H ∧ Er g xa ι H e σ ∧ Rs g ι H d v ∧ t d e = some e' ∧ ∀ σ', Er g xa ι H e' σ' → Q σ' H
theorem _root_.L2.PG.viaM {e : Expr} {t t' : TG} (h : PG X e t) (i : ∀ v σ H Q, t' v σ H Q → t v σ H Q) : PG X e t' := ⟨fun pins s σ H v u Q I r q => h.run pins s σ H v u Q I r (i v σ H Q q)⟩
theorem _root_.L2.PGs.viaM {e : List Expr} {t t' : TGs} (h : PGs X e t) (i : ∀ v σ H Q, t' v σ H Q → t v σ H Q) : PGs X e t' := ⟨fun pins s σ H v u Q I r q => h.run pins s σ H v u Q I r (i v σ H Q q)⟩
def nmT (i : Nat) : Tg := fun d e => some (e.set i (.v d))
def nilT : Tgs := fun ds e => match ds with
  | [] => some e
  | _ => none
def consT (t : Tg) (u : Tgs) : Tgs := fun ds e => match ds with
  | d :: r => (t d e).bind (u r)
  | _ => none
def tupT (n : Nat) (t : Tgs) : Tg := fun d e => match d with
  | .tup ds => if ds.length = n then t ds e else none
  | _ => none
theorem gm_name (i : Nat) {x : Str} (hN : X.N.Nodup) (hi : X.N[i]? = some x := by rfl) (hx : Loc X.env.scope x := by first | exact Or.inl rfl | exact Or.inr rfl) (hf : X.fn x = true ∨ X.env.scope.names.lookup x = some .local := by first | exact .inl rfl | exact .inr rfl) : PG X (.Name x pos) (tGt g xa (nmT i)) :=
  (pg_name (i := i) hN hi hx hf).viaM fun v σ H Q h => by
    obtain ⟨ι, S, e, e', d, hs, he, r, ht, q⟩ := h
    cases ht
    exact q _ (he.set r)
theorem gms_nil : PGs X [] (tGts g xa nilT) := pgs_nil.viaM fun v σ H Q h => by
  obtain ⟨ι, S, e, e', d, hs, he, r, ht, q⟩ := h
  cases d with
  | nil => cases ht; cases r; exact ⟨rfl, q _ he⟩
  | cons _ _ => cases ht
theorem gms_cons {e : Expr} {es : List Expr} {t : Tg} {u : Tgs} (h1 : PG X e (tGt g xa t)) (h2 : PGs X es (tGts g xa u))
    (hs : (assignEach (e :: es) X.env).map (·.2) = assign e X.env :: (assignEach es X.env).map (·.2) := by rfl) : PGs X (e :: es) (tGts g xa (consT t u)) := (pgs_cons h1 h2 hs).viaM fun v σ H Q h => by
  obtain ⟨ι, S, e, e', d, hs, he, r, ht, q⟩ := h
  cases d with
  | nil => cases ht
  | cons d ds =>
    cases r with
    | cons r1 r2 =>
      have ht' : (t d e).bind (u ds) = some e' := ht
      cases h3 : t d e with
      | none => rw [h3] at ht'; cases ht'
      | some e1 =>
        rw [h3] at ht'
        exact ⟨_, _, rfl, ι, S, e, e1, d, hs, he, r1, h3, fun σ1 he1 => ⟨ι, S, e1, e', ds, hs, he1, r2, ht', q⟩⟩
theorem gm_tup {es : List Expr} {k n : Nat} {t : Tgs} (hc : X.calm = true) (h : PGs X es (tGts g xa t)) (hK : X.K = g.K := by rfl)
    (hn : (assignEach es X.env).length = n := by rfl) (hst : (assignEach es X.env).findIdx? (·.1) = none := by rfl) : PG X (.Tuple es k pos) (tGt g xa (tupT n t)) := (pg_tup hc h hn hst).viaM fun v σ H Q h => by
  obtain ⟨ι, S, e, e', d, hs, he, r, ht, q⟩ := h
  cases d <;> first | (cases ht; done) | skip
  rename_i ds
  cases r with
  | tup h1 h2 =>
    have ht' : (if ds.length = n then t ds e else none) = some e' := ht
    by_cases hl : ds.length = n
    · rw [if_pos hl] at ht'
      exact ⟨_, _, rfl, by rw [hK]; exact h1.t, by rw [← Rs.length h2]; exact hl, ι, S, e, e', ds, hs, he, h2, ht', q⟩
    · rw [if_neg hl] at ht'; cases ht'
def asgS (m : MM D) (t : Tg) : MS := bindS m fun d e S => match t d e with
  | some e' => some (.nx, e', S)
  | none => none
theorem asg_step {m : MM D} {t : Tg} {te : TE} {Dd : Ends} {σ : L2.St} {H : Hp} (hm : ∀ σ H Q, tE g xa W m σ H Q → te σ H Q) (h : tS g xa W (asgS m t) Dd σ H) : te σ H fun x H1 => tGt g xa t x σ H1 Dd.nx := by
  obtain ⟨ι, S, e, f, e', S', hs, he, hm', hf⟩ := h
  refine hm _ _ _ (stepS hs he hm' hf fun a S1 ι1 H1 v h1 p1 x1 s1 e1 r1 f1 => ?_)
  split at h1
  · rename_i e2 q
    cases h1
    exact ⟨ι1, _, e, e', a, s1, e1, r1, q, fun σ' r => f1 ι1 H1 (Pre.refl _) (Ex.refl _) s1 σ' r⟩
  · cases h1
theorem sm_asg {tg e : Expr} {m : MM D} {t : Tg} (he : PE X e (tE g xa W m)) (hg : PG X tg (tGt g xa t)) (hs : swapsWithSole [tg] e pos.line X.env = pure false := by rfl) (hw : swappedStores [tg] e X.env = pure none := by rfl)
    (h1 : (assignEach [tg] X.env).map (·.2) = [assign tg X.env] := by rfl) : PS X (.Assign [tg] e pos) (tS g xa W (asgS m t)) :=
  (ps_asg he hg hs hw h1).viaM fun _ _ _ h => asg_step (fun _ _ _ h => h) h
theorem sm_set (i : Nat) {x : Str} {e : Expr} {m : MM D} {pos' : Pos} (hN : X.N.Nodup) (he : PE X e (tE g xa W m)) (hi : X.N[i]? = some x := by rfl) (hx : Loc X.env.scope x := by first | exact Or.inl rfl | exact Or.inr rfl) (hs : swapsWith e (some (.Name x pos')) pos.line X.env = pure false := by rfl) (hf : X.fn x = true ∨ X.env.scope.names.lookup x = some .local := by first | exact .inl rfl | exact .inr rfl) :
    PS X (.Assign [.Name x pos'] e pos) (tS g xa W (asgS m (nmT i))) := (ps_set (i := i) hN hi hx he hs hf).viaM fun Dd σ H h => by
  obtain ⟨ι, S, e, f, e', S', hs, he, hm', hf⟩ := h
  refine stepS hs he hm' hf fun a S1 ι1 H1 v h1 p1 x1 s1 e1 r1 f1 => ?_
  cases h1
  exact f1 ι1 H1 (Pre.refl _) (Ex.refl _) s1 _ (e1.set r1)
/-- a, b = x, y -/
def parS (i j : Nat) (m : MM (List D)) : MS := bindS m fun ds e S => match ds with
  | [a, b] => some (.nx, (e.set i (.v a)).set j (.v b), S)
  | _ => none
theorem sm_par (i j : Nat) {x y : Str} {a b : Expr} {m : MM (List D)} {px py pt : Pos} {kt k2 : Nat} {pt2 : Pos} (hc : X.calm = true) (hN : X.N.Nodup) (ha : PA X [a, b] (tA g xa W m)) (hi : X.N[i]? = some x := by rfl) (hj : X.N[j]? = some y := by rfl) (hij : i ≠ j := by decide)
    (hx : X.env.scope.names.lookup x = some .local := by rfl) (hy : X.env.scope.names.lookup y = some .local := by rfl)
    (hw : swappedStores [.Tuple [.Name x px, .Name y py] kt pt] (.Tuple [a, b] k2 pt2) X.env = pure (some [x, y]) := by rfl)
    (hs : swapsWithSole [.Tuple [.Name x px, .Name y py] kt pt] (.Tuple [a, b] k2 pt2) pos.line X.env = pure false := by rfl) :
    PS X (.Assign [.Tuple [.Name x px, .Name y py] kt pt] (.Tuple [a, b] k2 pt2) pos) (tS g xa W (parS i j m)) := (ps_par hc hN hi hj hij hx hy ha hw hs).viaM fun Dd σ H h => by
  obtain ⟨ι, S, e, f, e', S', hs, he, hm', hf⟩ := h
  refine stepS hs he hm' hf fun ds S1 ι1 H1 v h1 p1 x1 s1 e1 r1 f1 => ?_
  split at h1
  · cases h1
    cases r1 with
    | cons q1 r =>
      cases r with
      | cons q2 r =>
        cases r
        exact ⟨_, _, rfl, f1 ι1 H1 (Pre.refl _) (Ex.refl _) s1 _ ((e1.set q1).set q2)⟩
  · cases h1

end
end DD

set_option Elab.async false
set_option linter.all false
set_option maxRecDepth 100000
namespace DD
open PySem PySem.Spec PyProof.Rows L2

/-- what is walked: at most n turns; what stands at turn i (none: it can't be told; some none: the end) -/
structure Itm where
  n : Nat
  get : Nat → So → Option (Option D)
def Wk (g : G) : Rel Itm It := fun ι H it J => ∀ (i : Nat) (ι1 : List Addr) (H1 : Hp) (S1 : So), Pre ι ι1 → Ex H H1 → Sim g ι1 S1 H1 →
  (it.get i S1 = some none → J.stop i H1) ∧ ∀ d, it.get i S1 = some (some d) → J.go i H1 ∧ ∀ v H2, J.yld i H1 v H2 → Ex H1 H2 ∧ Sim g ι1 S1 H2 ∧ R g ι1 H2 d v
abbrev tI (g : G) (xa : Xa) (W : WX) (m : MM Itm) : TI := fun σ H R => tG g xa W (Wk g) m σ H R
def signs (z : Str) : List D := z.cps.toList.map fun c => D.str ⟨#[c]⟩
def itFix (xs : List D) : Itm := ⟨xs.length, fun i _ => some xs[i]?⟩
def itLst (n k : Nat) : Itm := ⟨k, fun i S => match S[n]? with
  | some (.lst ys) => some ys[i]?
  | _ => none⟩
def seqI (d : D) : MM Itm := fun _ S => match d with
  | .tup xs => some (.ok (itFix xs), S)
  | .rol xs => some (.ok (itFix xs), S)
  | .str z => some (.ok (itFix (signs z)), S)
  | .ref n => match S[n]? with
    | some (.lst ys) => some (.ok (itLst n ys.length), S)
    | _ => none
  | _ => none
def mSeq (m : MM D) : MM Itm := bindM m seqI

section
variable {X : Cx} {g : G} {xa : Xa} {W : WX} {pos : Pos} {ι : List Addr} {H : Hp}
theorem wk_list {a : Addr} {xs : List D} {vs : List V} (r : Rs g ι H xs vs) (q : SqF g.K H a vs) : Wk g ι H (itFix xs) (Itl g.K a) := fun i ι1 H1 S1 p x s => by
  have q1 := sqF_ex x q
  have r1 := Rs.mono p x _ _ r
  refine ⟨fun e => ⟨vs, q1.seq, ?_⟩, fun d e => ?_⟩
  · have e' : xs[i]? = none := Option.some.inj e
    rw [← Rs.length r]; exact List.getElem?_eq_none_iff.mp e'
  · have e' : xs[i]? = some d := Option.some.inj e
    obtain ⟨v, h1, h2⟩ := Rs.get r1 e'
    refine ⟨⟨vs, v, q1.seq, h1⟩, fun u H2 y => ?_⟩
    obtain ⟨rfl, y⟩ := y
    have z := y vs q1.seq
    rw [h1] at z; cases z
    exact ⟨Ex.refl _, s, h2⟩
theorem wk_tup {a : Addr} {xs : List D} {vs : List V} (r : Rs g ι H xs vs) (q : SqT g.K H a vs) : Wk g ι H (itFix xs) (Itt g.K a) := fun i ι1 H1 S1 p x s => by
  have q1 := sqT_ex x q
  have r1 := Rs.mono p x _ _ r
  refine ⟨fun e => ⟨vs, q1, ?_⟩, fun d e => ?_⟩
  · have e' : xs[i]? = none := Option.some.inj e
    rw [← Rs.length r]; exact List.getElem?_eq_none_iff.mp e'
  · have e' : xs[i]? = some d := Option.some.inj e
    obtain ⟨v, h1, h2⟩ := Rs.get r1 e'
    refine ⟨⟨vs, v, q1, h1⟩, fun u H2 y => ?_⟩
    obtain ⟨rfl, y⟩ := y
    have z := y vs q1
    rw [h1] at z; cases z
    exact ⟨Ex.refl _, s, h2⟩
/-- a list of the store, as it stands -/
theorem lst_here {n : Nat} {a : Addr} {S : So} {ys : List D} (s : Sim g ι S H) (q : ι[n]? = some a) (h : S[n]? = some (.lst ys)) : ∃ vs, H a = some (.lst vs) ∧ Rs g ι H ys vs := s.obj n a _ q h
theorem wk_ref {a : Addr} {n k : Nat} (q : ι[n]? = some a) : Wk g ι H (itLst n k) (Itl g.K a) := fun i ι1 H1 S1 p x s => by
  have q1 := p _ _ q
  refine ⟨fun e => ?_, fun d e => ?_⟩
  · unfold itLst at e
    dsimp only at e
    split at e
    · rename_i ys h
      obtain ⟨vs, h1, h2⟩ := lst_here s q1 h
      have e' : ys[i]? = none := Option.some.inj e
      exact ⟨vs, SqL.of h1, by rw [← Rs.length h2]; exact List.getElem?_eq_none_iff.mp e'⟩
    · cases e
  · unfold itLst at e
    dsimp only at e
    split at e
    · rename_i ys h
      obtain ⟨vs, h1, h2⟩ := lst_here s q1 h
      have e' : ys[i]? = some d := Option.some.inj e
      obtain ⟨v, h3, h4⟩ := Rs.get h2 e'
      refine ⟨⟨vs, v, SqL.of h1, h3⟩, fun u H2 y => ?_⟩
      obtain ⟨rfl, y⟩ := y
      have z := y vs (SqL.of h1)
      rw [h3] at z; cases z
      exact ⟨Ex.refl _, s, h4⟩
    · cases e
theorem wk_str {z : Str} : Wk g ι H (itFix (signs z)) (Its z) := fun i ι1 H1 S1 p x s => by
  have hl : (signs z).length = z.cps.size := by simp [signs]
  refine ⟨fun e => ?_, fun d e => ?_⟩
  · have e' : (signs z)[i]? = none := Option.some.inj e
    have := List.getElem?_eq_none_iff.mp e'
    show z.cps.size ≤ i
    omega
  · have e' : (signs z)[i]? = some d := Option.some.inj e
    refine ⟨?_, fun u H2 y => ?_⟩
    · have := (List.getElem?_eq_some_iff.mp e').1
      show i < z.cps.size
      omega
    · obtain ⟨rfl, c, e1, rfl⟩ := y
      have : (signs z)[i]? = some (.str ⟨#[c]⟩) := by simp [signs, e1]
      rw [this] at e'; cases e'
      exact ⟨Ex.refl _, s, .str _⟩
theorem im_seq {tg e : Expr} {m : MM D} (he : PE X e (tE g xa W m)) (hK : X.K = g.K := by rfl) : PI X tg e (tI g xa W (mSeq m)) := by
  refine (((pi_list he).orM (pi_tup he)).orM (pi_str he)).viaM fun σ H Rk h => ?_
  obtain ⟨ι, S, ev, r, S', hs, hev, hm, hf⟩ := h
  have key : ∀ {P : V → Hp → Prop}, (∀ d S1 ι1 H1 v, m ev S = some (.ok d, S1) → seqI d ev S1 = some (r, S') → Pre ι ι1 → Ex H H1 → Sim g ι1 S1 H1 → R g ι1 H1 d v → FinG g W (Wk g) σ Rk ι1 H1 r S' → P v H1) → tE g xa W m σ H P := fun hk => by
    rcases bindM_some hm with ⟨d, S1, h1, h2⟩ | ⟨c, fs, h1, rfl⟩
    · exact ⟨ι, S, ev, .ok d, S1, hs, hev, h1, fun ι1 H1 v p x s rv => hk d S1 ι1 H1 v h1 h2 p x s rv (hf.mono p x)⟩
    · exact ⟨ι, S, ev, .ex c fs, S', hs, hev, h1, hf⟩
  rw [hK]
  by_cases hz : ∃ z S1, m ev S = some (.ok (.str z), S1)
  · refine .inr (key fun d S1 ι1 H1 v h1 h2 p x s rv f1 => ?_)
    obtain ⟨z, S2, h3⟩ := hz
    rw [h3] at h1
    cases h1
    cases h2
    cases rv
    exact ⟨z, rfl, f1 ι1 H1 _ (Pre.refl _) (Ex.refl _) s wk_str⟩
  · by_cases ht : ∃ xs S1, m ev S = some (.ok (.tup xs), S1)
    · refine .inl (.inr (key fun d S1 ι1 H1 v h1 h2 p x s rv f1 => ?_))
      obtain ⟨z, S2, h3⟩ := ht
      rw [h3] at h1
      cases h1
      cases h2
      cases rv with
      | tup q1 q2 => exact ⟨_, rfl, ⟨_, q1.t⟩, f1 ι1 H1 _ (Pre.refl _) (Ex.refl _) s (wk_tup q2 q1.t)⟩
    · refine .inl (.inl (key fun d S1 ι1 H1 v h1 h2 p x s rv f1 => ?_))
      cases d with
      | str z => exact absurd ⟨z, S1, h1⟩ hz
      | tup xs => exact absurd ⟨xs, S1, h1⟩ ht
      | rol xs =>
        cases h2
        cases rv with
        | rol q1 q2 => exact ⟨_, rfl, ⟨_, q1.seq⟩, f1 ι1 H1 _ (Pre.refl _) (Ex.refl _) s (wk_list q2 q1)⟩
      | ref n =>
        unfold seqI at h2
        dsimp only at h2
        split at h2
        · rename_i ys q
          cases h2
          cases rv with
          | ref q1 =>
            obtain ⟨vs, h4, h5⟩ := lst_here s q1 q
            exact ⟨_, rfl, ⟨vs, SqL.of h4⟩, f1 ι1 H1 _ (Pre.refl _) (Ex.refl _) s (wk_ref q1)⟩
        · cases h2
      | _ => cases h2
def itRng (lo : Int) (n : Nat) : Itm := ⟨n, fun i _ => some (if i < n then some (D.int (lo + (i : Int))) else none)⟩
theorem wk_rng {lo : Int} {n : Nat} : Wk g ι H (itRng lo n) (Itr lo n) := fun i ι1 H1 S1 p x s => by
  refine ⟨fun e => ?_, fun d e => ?_⟩
  · have e' : (if i < n then some (D.int (lo + (i : Int))) else none) = none := Option.some.inj e
    show n ≤ i
    by_cases h : i < n
    · rw [if_pos h] at e'; cases e'
    · omega
  · have e' : (if i < n then some (D.int (lo + (i : Int))) else none) = some d := Option.some.inj e
    by_cases h : i < n
    · rw [if_pos h] at e'
      cases e'
      refine ⟨h, fun u H2 y => ?_⟩
      obtain ⟨rfl, rfl⟩ := y
      exact ⟨Ex.refl _, s, .int _⟩
    · rw [if_neg h] at e'; cases e'
def rng1 (ds : List D) : MM Itm := fun _ S => match ds with
  | [.int j] => if -(2 ^ 62) ≤ j ∧ j < 2 ^ 62 then some (.ok (itRng 0 j.toNat), S) else none
  | _ => none
def rng2 (ds : List D) : MM Itm := fun _ S => match ds with
  | [.int i, .int j] => if (-(2 ^ 62) ≤ i ∧ i < 2 ^ 62) ∧ -(2 ^ 62) ≤ j ∧ j < 2 ^ 62 then some (.ok (itRng i (j - i).toNat), S) else none
  | _ => none
def mRng1 (m : MM (List D)) : MM Itm := bindM m rng1
def mRng2 (m : MM (List D)) : MM Itm := bindM m rng2
theorem im_range1 {tg a : Expr} {m : MM (List D)} {p : Pos} (hm : X.mg "range" = none) (ha : PA X [a] (tA g xa W m)) (hg : Gl X "range" := by rfl) (hs : starEach [a] X.env = [(false, eval a X.env)] := by rfl) : PI X tg (.Call (.Name "range" p) [a] [] pos) (tI g xa W (mRng1 m)) :=
  (pi_range1 hg hm ha hs).viaM fun σ H Rk h => by
    obtain ⟨ι, S, ev, r, S', hs, hev, hm, hf⟩ := h
    refine stepG hs hev hm hf fun ds S1 ι1 H1 vs h1 p1 x1 s1 e1 r1 f1 => ?_
    unfold rng1 at h1
    split at h1
    · rename_i j
      split at h1
      · rename_i hb
        cases h1
        cases r1 with
        | cons q1 q2 =>
          cases q2
          cases q1
          exact ⟨j, rfl, hb.1, hb.2, f1 ι1 H1 _ (Pre.refl _) (Ex.refl _) s1 wk_rng⟩
      · cases h1
    · cases h1
theorem im_range2 {tg a b : Expr} {m : MM (List D)} {p : Pos} (hm : X.mg "range" = none) (ha : PA X [a, b] (tA g xa W m)) (hg : Gl X "range" := by rfl) (hs : starEach [a, b] X.env = [(false, eval a X.env), (false, eval b X.env)] := by rfl) (hs2 : starEach [b] X.env = [(false, eval b X.env)] := by rfl) : PI X tg (.Call (.Name "range" p) [a, b] [] pos) (tI g xa W (mRng2 m)) :=
  (pi_range2 hg hm ha hs hs2).viaM fun σ H Rk h => by
    obtain ⟨ι, S, ev, r, S', hs, hev, hm, hf⟩ := h
    refine stepG hs hev hm hf fun ds S1 ι1 H1 vs h1 p1 x1 s1 e1 r1 f1 => ?_
    unfold rng2 at h1
    split at h1
    · rename_i i j
      split at h1
      · rename_i hb
        cases h1
        cases r1 with
        | cons q1 q2 =>
          cases q2 with
          | cons q2 q3 =>
            cases q3
            cases q1
            cases q2
            exact ⟨i, j, rfl, ⟨hb.1.1, hb.1.2, hb.2.1, hb.2.2⟩, f1 ι1 H1 _ (Pre.refl _) (Ex.refl _) s1 wk_rng⟩
      · cases h1
    · cases h1

/-! ### zip -/
/-- the items of a sequence (true: of a tuple) -/
def seqOf (d : D) (S : So) : Option (Bool × List D) := match d with
  | .tup xs => some (true, xs)
  | .rol xs => some (false, xs)
  | .ref n => match S[n]? with
    | some (.lst xs) => some (false, xs)
    | _ => none
  | _ => none
theorem seqOf_R {d : D} {S : So} {b : Bool} {xs : List D} {v : V} (h : seqOf d S = some (b, xs)) (s : Sim g ι S H) (r : R g ι H d v) : ∃ a vs, v = .ref a ∧ Rs g ι H xs vs ∧ (b = true → SqU g.K H a vs) ∧ (b = false → SqL g.K H a vs) := by
  cases r with
  | tup h1 h2 => cases h; exact ⟨_, _, rfl, h2, fun _ => h1, nofun⟩
  | rol h1 h2 => cases h; exact ⟨_, _, rfl, h2, nofun, fun _ => h1.seq⟩
  | ref h1 =>
    unfold seqOf at h
    dsimp only at h
    split at h
    · rename_i ys q
      cases h
      obtain ⟨vs, h4, h5⟩ := lst_here s h1 q
      exact ⟨_, vs, rfl, h5, nofun, fun _ => SqL.of h4⟩
    · cases h
  | _ => cases h
def pairAt (a b : D) : Nat → So → Option (Option D) := fun i S => match seqOf a S, seqOf b S with
  | some (k, xs), some (k', ys) => if k = k' then some (match xs[i]?, ys[i]? with
    | some x, some y => some (.tup [x, y])
    | _, _ => none) else none
  | _, _ => none
def zipI (ds : List D) : MM Itm := fun _ S => match ds with
  | [a, b] => match seqOf a S, seqOf b S with
    | some (k, xs), some (k', ys) => if k = k' then some (.ok ⟨min xs.length ys.length, pairAt a b⟩, S) else none
    | _, _ => none
  | _ => none
def mZip (m : MM (List D)) : MM Itm := bindM m zipI
theorem wk_zip {a b : D} {p q : Addr} {k : Bool} (ra : R g ι H a (.ref p)) (rb : R g ι H b (.ref q)) (hk : ∀ ι1 H1 S1 k1 k2 xs ys, Pre ι ι1 → Ex H H1 → Sim g ι1 S1 H1 → seqOf a S1 = some (k1, xs) → seqOf b S1 = some (k2, ys) → k1 = k2 → k1 = k) :
    Wk g ι H ⟨0, pairAt a b⟩ (if k = true then RZ.ItzT g.K p q else Itz g.K p q) := fun i ι1 H1 S1 pr x s => by
  have ra1 := R.mono pr x _ _ ra
  have rb1 := R.mono pr x _ _ rb
  have main : ∀ z, pairAt a b i S1 = some z → ∃ xs ys vs us, z = (match xs[i]?, ys[i]? with | some x, some y => some (D.tup [x, y]) | _, _ => none) ∧ Rs g ι1 H1 xs vs ∧ Rs g ι1 H1 ys us ∧
      ((k = true ∧ SqT g.K H1 p vs ∧ SqT g.K H1 q us) ∨ (k = false ∧ SqL g.K H1 p vs ∧ SqL g.K H1 q us)) := fun z hz => by
    unfold pairAt at hz
    split at hz
    · rename_i k1 xs k2 ys e1 e2
      split at hz
      · rename_i ek
        have kk := hk ι1 H1 S1 k1 k2 xs ys pr x s e1 e2 ek
        obtain ⟨a1, vs, z1, r1, t1, l1⟩ := seqOf_R e1 s ra1
        obtain ⟨b1, us, z2, r2, t2, l2⟩ := seqOf_R e2 s rb1
        cases z1; cases z2
        refine ⟨xs, ys, vs, us, (Option.some.inj hz).symm, r1, r2, ?_⟩
        subst ek
        cases k1 with
        | true => exact .inl ⟨kk.symm, (t1 rfl).t, (t2 rfl).t⟩
        | false => exact .inr ⟨kk.symm, l1 rfl, l2 rfl⟩
      · cases hz
    · cases hz
  refine ⟨fun e => ?_, fun d e => ?_⟩
  · obtain ⟨xs, ys, vs, us, hz, r1, r2, hq⟩ := main _ e
    have hl : vs.length ≤ i ∨ us.length ≤ i := by
      cases e1 : xs[i]? with
      | none => exact .inl (by rw [← Rs.length r1]; exact List.getElem?_eq_none_iff.mp e1)
      | some a' => cases e2 : ys[i]? with
        | none => exact .inr (by rw [← Rs.length r2]; exact List.getElem?_eq_none_iff.mp e2)
        | some b' => rw [e1, e2] at hz; cases hz
    rcases hq with ⟨rfl, h1, h2⟩ | ⟨rfl, h1, h2⟩
    · exact ⟨vs, us, h1, h2, hl⟩
    · exact ⟨vs, us, h1, h2, hl⟩
  · obtain ⟨xs, ys, vs, us, hz, r1, r2, hq⟩ := main _ e
    cases e1 : xs[i]? with
    | none => rw [e1] at hz; cases hz
    | some a' => cases e2 : ys[i]? with
      | none => rw [e1, e2] at hz; cases hz
      | some b' =>
        rw [e1, e2] at hz
        cases hz
        obtain ⟨v1, g1, q1⟩ := Rs.get r1 e1
        obtain ⟨v2, g2, q2⟩ := Rs.get r2 e2
        have fin : ∀ T, H1 T = none → Ex H1 (upd H1 T (.tup [v1, v2])) ∧ Sim g ι1 S1 (upd H1 T (.tup [v1, v2])) ∧ R g ι1 (upd H1 T (.tup [v1, v2])) (.tup [a', b']) (.ref T) := fun T nT => by
          have x2 : Ex H1 (upd H1 T (.tup [v1, v2])) := Ex.new nT
          exact ⟨x2, s.tup nT, .tup (.inl upd_same) (.cons (R.mono (Pre.refl _) x2 _ _ q1) (.cons (R.mono (Pre.refl _) x2 _ _ q2) .nil))⟩
        rcases hq with ⟨rfl, h1, h2⟩ | ⟨rfl, h1, h2⟩
        · refine ⟨⟨vs, us, v1, v2, h1, h2, g1, g2⟩, fun v H2 y => ?_⟩
          obtain ⟨T, x', y', rfl, nT, rfl, f1, f2⟩ := y
          have z1 := f1 vs h1
          have z2 := f2 us h2
          rw [g1] at z1; rw [g2] at z2; cases z1; cases z2
          exact fin T nT
        · refine ⟨⟨vs, us, v1, v2, h1, h2, g1, g2⟩, fun v H2 y => ?_⟩
          obtain ⟨T, x', y', rfl, nT, rfl, f1, f2⟩ := y
          have z1 := f1 vs h1
          have z2 := f2 us h2
          rw [g1] at z1; rw [g2] at z2; cases z1; cases z2
          exact fin T nT
end
end DD

set_option Elab.async false
set_option linter.all false
set_option maxRecDepth 100000
namespace DD
open PySem PySem.Spec PyProof.Rows L2
section
variable {X : Cx} {g : G} {xa : Xa} {W : WX} {pos : Pos} {ι : List Addr} {H : Hp}
def isTup : D → Bool
  | .tup _ => true
  | _ => false
theorem seqOf_kind {d : D} {S : So} {k : Bool} {xs : List D} (h : seqOf d S = some (k, xs)) : k = isTup d := by
  cases d with
  | tup _ => cases h; rfl
  | rol _ => cases h; rfl
  | ref n =>
    unfold seqOf at h
    dsimp only at h
    split at h
    · cases h; rfl
    · cases h
  | _ => cases h
theorem im_zip {a b : Expr} {m : MM (List D)} {p tpos : Pos} {elts : List Expr} {kk : Nat} (hm : X.mg "zip" = none) (ha : PA X [a, b] (tA g xa W m)) (hg : Gl X "zip" := by rfl) (hK : X.K = g.K := by rfl)
    (hs : starEach [a, b] X.env = (false, eval a X.env) :: starEach [b] X.env := by rfl) (hpl : (backTo pos (starEach [b] X.env)).any (·.1) = false := by rfl) :
    PI X (.Tuple elts kk tpos) (.Call (.Name "zip" p) [a, b] [] pos) (tI g xa W (mZip m)) :=
  (RZ.pi_zipA hg hm ha hs hpl).viaM fun σ H Rk h => by
    obtain ⟨ι, S, ev, r, S', hs, hev, hm, hf⟩ := h
    refine stepG hs hev hm hf fun ds S1 ι1 H1 vs h1 p1 x1 s1 e1 r1 f1 => ?_
    unfold zipI at h1
    split at h1
    · rename_i a' b'
      split at h1
      · rename_i k xs k' ys q1 q2
        split at h1
        · rename_i ek
          cases h1
          subst ek
          cases r1 with
          | cons ra r =>
            cases r with
            | cons rb r =>
              cases r
              obtain ⟨pa, us, z1, rs1, t1, l1⟩ := seqOf_R q1 s1 ra
              obtain ⟨pb, ws, z2, rs2, t2, l2⟩ := seqOf_R q2 s1 rb
              subst z1 z2
              have wk := wk_zip (k := k) ra rb fun ι2 H2 S2 k1 k2 xs2 ys2 _ _ _ e1 e2 ek => by rw [seqOf_kind e1, seqOf_kind q1]
              have wk' : Wk g ι1 H1 ⟨min xs.length ys.length, pairAt a' b'⟩ (if k = true then RZ.ItzT g.K pa pb else Itz g.K pa pb) := wk
              have fin := f1 ι1 H1 _ (Pre.refl _) (Ex.refl _) s1 wk'
              rw [hK]
              cases k with
              | true => exact ⟨pa, pb, us, ws, rfl, .inr ⟨(t1 rfl).t, (t2 rfl).t, fin⟩⟩
              | false => exact ⟨pa, pb, us, ws, rfl, .inl ⟨l1 rfl, l2 rfl, fin⟩⟩
        · cases h1
      · cases h1
    · cases h1

/-! ### for -/
def loopI (get : Nat → So → Option (Option D)) (t : Tg) (b : MS) : Nat → Nat → MS
  | 0, i, e, S => match get i S with
    | some none => some (.nx, e, S)
    | _ => none
  | k + 1, i, e, S => match get i S with
    | some none => some (.nx, e, S)
    | some (some x) => match t x e with
      | none => none
      | some e1 => match b e1 S with
        | some (.nx, e2, S2) => loopI get t b k (i + 1) e2 S2
        | some (.ct, e2, S2) => loopI get t b k (i + 1) e2 S2
        | some (.bk, e2, S2) => some (.nx, e2, S2)
        | o => o
    | none => none
def forS (m : MM Itm) (t : Tg) (b : MS) : MS := bindS m fun it => loopI it.get t b it.n 0
theorem turn_end {b : MS} {next : MS} {Dd : Ends} {ι : List Addr} {S : So} {H : Hp} {e1 e' : Sl} {f : Fl} {S' : So} {σ : L2.St} {Nx : L2.St → Hp → Prop}
    (hs : Sim g ι S H) (he : Er g xa ι H e1 σ)
    (hm : (match b e1 S with
      | some (.nx, e2, S2) => next e2 S2
      | some (.ct, e2, S2) => next e2 S2
      | some (.bk, e2, S2) => some (.nx, e2, S2)
      | o => o) = some (f, e', S')) (hf : FinS g xa W Dd ι H f e' S')
    (hn : ∀ ι2 H2 e2 S2 σ2, Pre ι ι2 → Ex H H2 → Sim g ι2 S2 H2 → Er g xa ι2 H2 e2 σ2 → next e2 S2 = some (f, e', S') → FinS g xa W Dd ι2 H2 f e' S' → Nx σ2 H2) :
    tS g xa W b { Dd with nx := Nx, ct := Nx, bk := Dd.nx } σ H := by
  split at hm
  · rename_i e2 S2 q
    exact ⟨ι, S, e1, _, e2, S2, hs, he, q, fun ι' H' p x s σ' r => hn ι' H' e2 S2 σ' p x s r hm (hf.mono p x)⟩
  · rename_i e2 S2 q
    exact ⟨ι, S, e1, _, e2, S2, hs, he, q, fun ι' H' p x s σ' r => hn ι' H' e2 S2 σ' p x s r hm (hf.mono p x)⟩
  · rename_i q
    cases hm
    exact ⟨ι, S, e1, _, _, _, hs, he, q, fun ι' H' p x s σ' r => hf ι' H' p x s σ' r⟩
  · rename_i o q1 q2 q3
    refine ⟨ι, S, e1, f, e', S', hs, he, hm, ?_⟩
    cases f with
    | nx => exact absurd hm (q1 _ _)
    | ct => exact absurd hm (q2 _ _)
    | bk => exact absurd hm (q3 _ _)
    | rt d => exact fun ι' H' p x s => hf ι' H' p x s
    | ex c fs => exact fun ι' H' p x s => hf ι' H' p x s
theorem sm_for {tg iter : Expr} {body : List Stmt} {m : MM Itm} {t : Tg} {b : MS} (hp : PassesOwn (model X.prog X.w) X.A X.env X.xe) (hc : X.calm = true) (hi : PI X tg iter (tI g xa W m)) (hg : PG X tg (tGt g xa t)) (hb : PSs X body (tS g xa W b))
    (hs : ∀ x, foldedSetIterable iter X.env x = pure x := by intro _; rfl) : PS X (.For tg iter body [] pos) (tS g xa W (forS m t b)) := (ps_for hp hc hi hg hb hs).viaM fun Dd σ H h => by
  obtain ⟨ι, S, e, f, e', S', hs, he, hm, hf⟩ := h
  refine stepS hs he hm hf fun it S1 ι1 H1 J h1 p1 x1 s1 e1 wk f1 => ?_
  refine ⟨fun i m σ2 H2 => ∃ ι2 S2 e2, Pre ι1 ι2 ∧ Ex H1 H2 ∧ Sim g ι2 S2 H2 ∧ Er g xa ι2 H2 e2 σ2 ∧ loopI it.get t b m i e2 S2 = some (f, e', S'), ⟨it.n, ι1, S1, e, Pre.refl _, Ex.refl _, s1, e1, h1⟩, ?_⟩
  rintro i m σ2 H2 ⟨ι2, S2, e2, p2, x2, s2, r2, q⟩
  have w := wk i ι2 H2 S2 p2 x2 s2
  have stop : it.get i S2 = some none → (J.stop i H2 ∧ Dd.nx σ2 H2) := fun z => by
    refine ⟨w.1 z, ?_⟩
    have q' : some (Fl.nx, e2, S2) = some (f, e', S') := by
      cases m with
      | zero => unfold loopI at q; rw [z] at q; exact q
      | succ k => unfold loopI at q; rw [z] at q; exact q
    cases q'
    exact (f1.mono p2 x2).nx s2 r2
  cases hget : it.get i S2 with
  | none =>
    cases m with
    | zero => unfold loopI at q; rw [hget] at q; cases q
    | succ k => unfold loopI at q; rw [hget] at q; cases q
  | some o => cases o with
    | none => exact .inl (stop hget)
    | some d =>
      cases m with
      | zero => unfold loopI at q; rw [hget] at q; cases q
      | succ k =>
        unfold loopI at q
        rw [hget] at q
        dsimp only at q
        obtain ⟨w1, w2⟩ := w.2 d hget
        refine .inr ⟨w1, fun σ3 H3 => ∃ ι3 S3 e3, Pre ι1 ι3 ∧ Ex H1 H3 ∧ Sim g ι3 S3 H3 ∧ Er g xa ι3 H3 e3 σ3 ∧ loopI it.get t b k (i + 1) e3 S3 = some (f, e', S'), fun σ3 H3 n3 => ⟨k, Nat.lt_succ_self k, n3⟩, fun v H3 y => ?_⟩
        obtain ⟨x3, s3, r3⟩ := w2 v H3 y
        split at q
        · cases q
        · rename_i e3 ht
          refine ⟨ι2, S2, e2, e3, d, s3, r2.mono (Pre.refl _) x3, r3, ht, fun σ4 r4 => ?_⟩
          refine turn_end (next := loopI it.get t b k (i + 1)) s3 r4 q (f1.mono p2 (x2.trans x3)) ?_
          intro ι5 H5 e5 S5 σ5 p5 x5 s5 r5 q5 _
          exact ⟨ι5, S5, e5, p2.trans p5, (x2.trans x3).trans x5, s5, r5, q5⟩

/-! ### comprehensions -/
abbrev WF : WX := fun _ _ _ _ => False
def tGc (g : G) (xa : Xa) (own : List Nat) (t : Tg) : TG := fun v σ H Q => ∃ (ι : List Addr) (S : So) (e e' : Sl) (d : D), Sim g ι S H ∧ Er g xa ι H e σ ∧ R g ι H d v ∧ t d e = some e' ∧ ∀ σ', Er g xa ι H e' σ' → wipe σ' own = wipe σ own → Q σ' H
def tGcs (g : G) (xa : Xa) (own : List Nat) (t : Tgs) : TGs := fun v σ H Q => ∃ (ι : List Addr) (S : So) (e e' : Sl) (d : List D), Sim g ι S H ∧ Er g xa ι H e σ ∧ Rs g ι H d v ∧ t d e = some e' ∧ ∀ σ', Er g xa ι H e' σ' → wipe σ' own = wipe σ own → Q σ' H
theorem wipe_set {σ : L2.St} {i : Nat} {z : Option V} : ∀ {own : List Nat}, i ∈ own → wipe (σ.set i z) own = wipe σ own := by
  have comm : ∀ (own : List Nat), wipe (σ.set i z) own = (wipe σ own).set i z ∨ wipe (σ.set i z) own = wipe σ own := by
    intro own
    induction own with
    | nil => exact .inl rfl
    | cons v vs ih =>
      unfold wipe
      rcases ih with h | h
      · by_cases hv : v = i
        · subst hv
          rw [h]
          exact .inr (by rw [List.set_set])
        · rw [h]
          exact .inl (by rw [List.set_comm _ _ hv])
      · exact .inr (by rw [h])
  intro own
  induction own with
  | nil => intro h; cases h
  | cons v vs ih =>
    intro h
    unfold wipe
    rcases List.mem_cons.mp h with e | e
    · subst e
      rcases comm vs with q | q
      · rw [q, List.set_set]
      · rw [q]
    · rw [ih e]
theorem gc_name (i : Nat) {own : List Nat} {x : Str} (hN : X.N.Nodup) (hi : X.N[i]? = some x := by rfl) (ho : i ∈ own := by decide) (hx : Loc X.env.scope x := by first | exact Or.inl rfl | exact Or.inr rfl) (hf : X.fn x = true ∨ X.env.scope.names.lookup x = some .local := by first | exact .inr rfl | exact .inl rfl) : PG X (.Name x pos) (tGc g xa own (nmT i)) :=
  (pg_name (i := i) hN hi hx hf).viaM fun v σ H Q h => by
    obtain ⟨ι, S, e, e', d, hs, he, r, ht, q⟩ := h
    cases ht
    exact q _ (he.set r) (wipe_set ho)
theorem gcs_nil {own : List Nat} : PGs X [] (tGcs g xa own nilT) := pgs_nil.viaM fun v σ H Q h => by
  obtain ⟨ι, S, e, e', d, hs, he, r, ht, q⟩ := h
  cases d with
  | nil => cases ht; cases r; exact ⟨rfl, q _ he rfl⟩
  | cons _ _ => cases ht
theorem gcs_cons {own : List Nat} {e : Expr} {es : List Expr} {t : Tg} {u : Tgs} (h1 : PG X e (tGc g xa own t)) (h2 : PGs X es (tGcs g xa own u))
    (hs : (assignEach (e :: es) X.env).map (·.2) = assign e X.env :: (assignEach es X.env).map (·.2) := by rfl) : PGs X (e :: es) (tGcs g xa own (consT t u)) := (pgs_cons h1 h2 hs).viaM fun v σ H Q h => by
  obtain ⟨ι, S, e, e', d, hs, he, r, ht, q⟩ := h
  cases d with
  | nil => cases ht
  | cons d ds =>
    cases r with
    | cons r1 r2 =>
      have ht' : (t d e).bind (u ds) = some e' := ht
      cases h3 : t d e with
      | none => rw [h3] at ht'; cases ht'
      | some e1 =>
        rw [h3] at ht'
        exact ⟨_, _, rfl, ι, S, e, e1, d, hs, he, r1, h3, fun σ1 he1 w1 => ⟨ι, S, e1, e', ds, hs, he1, r2, ht', fun σ2 r w2 => q σ2 r (w2.trans w1)⟩⟩
theorem gc_tup {own : List Nat} {es : List Expr} {k n : Nat} {t : Tgs} (hc : X.calm = true) (h : PGs X es (tGcs g xa own t)) (hK : X.K = g.K := by rfl)
    (hn : (assignEach es X.env).length = n := by rfl) (hst : (assignEach es X.env).findIdx? (·.1) = none := by rfl) : PG X (.Tuple es k pos) (tGc g xa own (tupT n t)) := (pg_tup hc h hn hst).viaM fun v σ H Q h => by
  obtain ⟨ι, S, e, e', d, hs, he, r, ht, q⟩ := h
  cases d <;> first | (cases ht; done) | skip
  rename_i ds
  cases r with
  | tup h1 h2 =>
    have ht' : (if ds.length = n then t ds e else none) = some e' := ht
    by_cases hl : ds.length = n
    · rw [if_pos hl] at ht'
      exact ⟨_, _, rfl, by rw [hK]; exact h1.t, by rw [← Rs.length h2]; exact hl, ι, S, e, e', ds, hs, he, h2, ht', q⟩
    · rw [if_neg hl] at ht'; cases ht'
def wipeE (e : Sl) : List Nat → Sl
  | [] => e
  | v :: vs => (wipeE e vs).set v .no
theorem Er.wipe {e : Sl} {σ : L2.St} (h : Er g xa ι H e σ) : ∀ own, Er g xa ι H (wipeE e own) (L2.wipe σ own)
  | [] => h
  | _ :: vs => (Er.wipe h vs).clear
/-- the list that is made stands at n0 -/
def compI (get : Nat → So → Option (Option D)) (t : Tg) (tt : MM Bool) (te : MM D) (n0 : Nat) (e : Sl) : Nat → Nat → So → Option So
  | 0, i, S => match get i S with
    | some none => some S
    | _ => none
  | k + 1, i, S => match get i S with
    | some none => some S
    | some (some x) => match t x e with
      | none => none
      | some e1 => match tt e1 S with
        | some (.ok true, S2) => match te e1 S2 with
          | some (.ok d, S3) => match S3[n0]? with
            | some (.lst acc) => if acc.length < sizeLine then compI get t tt te n0 e k (i + 1) (S3.set n0 (.lst (acc ++ [d]))) else none
            | _ => none
          | _ => none
        | some (.ok false, S2) => compI get t tt te n0 e k (i + 1) S2
        | _ => none
    | none => none
def compM (own : List Nat) (m : MM Itm) (t : Tg) (tt : MM Bool) (te : MM D) : MM D := bindM m fun it e S =>
  match compI it.get t tt te S.length (wipeE e own) it.n 0 (S ++ [.lst []]) with
  | some S' => some (.ok (.ref S.length), S')
  | none => none
def yesM : MM Bool := retM true
theorem comp_step {m : MM Itm} {own : List Nat} {t : Tg} {tt : MM Bool} {te : MM D} {σ : L2.St} {H : Hp} {Q : VK} (h : tE g xa W (compM own m t tt te) σ H Q) :
    tLc (tI g xa W m) (tGc g xa own t) (tT g xa WF tt) (tE g xa WF te) own σ H Q := by
  obtain ⟨ι, S, e, r, S', hs, he, hm, hf⟩ := h
  refine stepG hs he hm hf fun it S1 ι1 H1 J h1 p1 x1 s1 e1 wk f1 => ?_
  intro Da nD
  split at h1
  case h_2 => cases h1
  rename_i S9 hc
  cases h1
  have xD : Ex H1 (upd H1 Da (.lst [])) := Ex.new nD
  have sD : Sim g (ι1 ++ [Da]) (S1 ++ [.lst []]) (upd H1 Da (.lst [])) := s1.new xD (fun n a q => upd_ne (s1.fresh nD q)) nD ⟨[], upd_same, .nil⟩
  have atD : (ι1 ++ [Da])[S1.length]? = some Da := s1.newAt
  refine ⟨fun i m H2 => ∃ ι2 S2, Pre (ι1 ++ [Da]) ι2 ∧ Ex H1 H2 ∧ Sim g ι2 S2 H2 ∧ compI it.get t tt te S1.length (wipeE e own) m i S2 = some S', ⟨it.n, ι1 ++ [Da], S1 ++ [.lst []], Pre.refl _, xD, sD, hc⟩, ?_⟩
  rintro i m H2 ⟨ι2, S2, p2, x2, s2, q⟩
  have p12 : Pre ι1 ι2 := (Pre.app ι1 [Da]).trans p2
  have w := wk i ι2 H2 S2 p12 x2 s2
  have stop : it.get i S2 = some none → (J.stop i H2 ∧ Q (.ref Da) H2) := fun z => by
    refine ⟨w.1 z, ?_⟩
    have q' : some S2 = some S' := by
      cases m with
      | zero => unfold compI at q; rw [z] at q; exact q
      | succ k => unfold compI at q; rw [z] at q; exact q
    cases q'
    exact f1 ι2 H2 (.ref Da) p12 x2 s2 (.ref (p2 _ _ atD))
  cases hget : it.get i S2 with
  | none =>
    cases m with
    | zero => unfold compI at q; rw [hget] at q; cases q
    | succ k => unfold compI at q; rw [hget] at q; cases q
  | some o => cases o with
    | none => exact .inl (stop hget)
    | some d =>
      cases m with
      | zero => unfold compI at q; rw [hget] at q; cases q
      | succ k =>
        unfold compI at q
        rw [hget] at q
        dsimp only at q
        obtain ⟨w1, w2⟩ := w.2 d hget
        refine .inr ⟨w1, fun H3 => ∃ ι3 S3, Pre (ι1 ++ [Da]) ι3 ∧ Ex H1 H3 ∧ Sim g ι3 S3 H3 ∧ compI it.get t tt te S1.length (wipeE e own) k (i + 1) S3 = some S', fun H3 n3 => ⟨k, Nat.lt_succ_self k, n3⟩, fun v H3 y => ?_⟩
        obtain ⟨x3, s3, r3⟩ := w2 v H3 y
        have x13 := x2.trans x3
        split at q
        · cases q
        · rename_i e3 ht
          refine ⟨ι2, S2, wipeE e own, e3, d, s3, ((e1.mono p12 x13).wipe own), r3, ht, fun σ4 r4 w4 => ⟨?_, ?_⟩⟩
          · have idem : ∀ (own : List Nat) (τ : L2.St), L2.wipe (L2.wipe τ own) own = L2.wipe τ own := by
              intro own τ
              have sub : ∀ (l : List Nat), (∀ v ∈ l, v ∈ own) → L2.wipe (L2.wipe τ l) own = L2.wipe τ own := by
                intro l
                induction l with
                | nil => intro _; rfl
                | cons v vs ih =>
                  intro hv
                  show L2.wipe ((L2.wipe τ vs).set v none) own = _
                  rw [wipe_set (hv v (List.mem_cons_self ..)), ih fun u hu => hv u (List.mem_cons_of_mem _ hu)]
              exact sub own fun _ h => h
            rw [w4, idem]
          · split at q
            · rename_i S5 q5
              refine ⟨ι2, S2, e3, .ok true, S5, s3, r4, q5, fun ι6 H6 b p6 x6 s6 eb => ?_⟩
              cases eb
              rw [if_pos rfl]
              split at q
              · rename_i d7 S7 q7
                refine ⟨ι6, S5, e3, .ok d7, S7, s6, r4.mono p6 x6, q7, fun ι8 H8 u p8 x8 s8 r8 => ?_⟩
                split at q
                · rename_i acc q9
                  split at q
                  · rename_i hl
                    have a8 : ι8[S1.length]? = some Da := p8 _ _ (p6 _ _ (p2 _ _ atD))
                    obtain ⟨vs, h9, r9⟩ := s8.obj _ _ _ a8 q9
                    refine ⟨vs, h9, by rw [← Rs.length r9]; exact hl, ?_⟩
                    have xw : Ex H8 (upd H8 Da (.lst (vs ++ [u]))) := Ex.wr h9 (fun _ z => by cases z) (fun _ _ z => by cases z) fun _ z => by cases z
                    obtain ⟨sw, _⟩ := s8.wr (o' := .lst (acc ++ [d7])) (q := .lst (vs ++ [u])) a8 ⟨_, upd_same, (Rs.mono (Pre.refl _) xw _ _ r9).append (.cons (R.mono (Pre.refl _) xw _ _ r8) .nil)⟩ xw
                    exact ⟨ι8, _, ((p2.trans p6).trans p8), ((x13.trans x6).trans x8).trans xw, sw, q⟩
                  · cases q
                · cases q
              · cases q
            · rename_i S5 q5
              refine ⟨ι2, S2, e3, .ok false, S5, s3, r4, q5, fun ι6 H6 b p6 x6 s6 eb => ?_⟩
              cases eb
              rw [if_neg Bool.false_ne_true]
              exact ⟨ι6, S5, p2.trans p6, x13.trans x6, s6, q⟩
            · cases q
theorem sm_yes : PTs X [] (tT g xa WF yesM) := ⟨fun pins s σ H Q I h => pts_nil.run pins s σ H Q I (by
  obtain ⟨ι, S, e, r, S', hs, he, hm, hf⟩ := h
  cases hm
  exact hf ι H true (Pre.refl _) (Ex.refl _) hs rfl)⟩
theorem sm_one_if {c : Expr} {t : MM Bool} (h : PT X c (tT g xa WF t)) : PTs X [c] (tT g xa WF t) := pts_one h
theorem em_lc {elt tg iter : Expr} {ifs : List Expr} {scope : Scope} {m : MM Itm} {t : Tg} {tt : MM Bool} {te : MM D} (own : List (Str × Nat)) (hc : X.calm = true) (hN : X.N.Nodup) (hi : PI X tg iter (tI g xa W m)) (ok : BlkOk X.N X.env.scope scope own)
    (hg : ∀ (s : Shared) (H : Hp) (C : Addr) (cl : List (Str × Addr)) (fp : List Addr), PG (X.blk s H scope (compEnvC scope cl C X.env) fp) tg (tGc g xa (own.map (·.2)) t)) (ht : ∀ (s : Shared) (H : Hp) (C : Addr) (cl : List (Str × Addr)) (fp : List Addr), PTs (X.blk s H scope (compEnvC scope cl C X.env) fp) ifs (tT g xa WF tt))
    (he : ∀ (s : Shared) (H : Hp) (C : Addr) (cl : List (Str × Addr)) (fp : List Addr), PE (X.blk s H scope (compEnvC scope cl C X.env) fp) elt (tE g xa WF te)) (hs : ∀ x, foldedSetIterable iter X.env x = pure x := by intro _; rfl) :
    PE X (.ListComp elt [⟨tg, iter, ifs, 0⟩] scope pos) (tE g xa W (compM (own.map (·.2)) m t tt te)) :=
  (pe_lc hc hN hi ok hg ht he hs).viaM fun _ _ _ h => comp_step h
theorem sm_setLc (i : Nat) {y : Str} {py spos : Pos} {elt tg iter : Expr} {ifs : List Expr} {scope : Scope} {m : MM Itm} {t : Tg} {tt : MM Bool} {te : MM D} (own : List (Str × Nat)) (hc : X.calm = true) (hN : X.N.Nodup) (hy : X.N[i]? = some y) (hyl : X.env.scope.names.lookup y = some .local)
    (hsw : swapsWith (.ListComp elt [⟨tg, iter, ifs, 0⟩] scope pos) (some (.Name y py)) spos.line X.env = pure true) (hi : PI X tg iter (tI g xa W m)) (ok : BlkOk X.N X.env.scope scope own)
    (hg : ∀ (s : Shared) (H : Hp) (C : Addr) (cl : List (Str × Addr)) (fp : List Addr), PG (X.blk s H scope (compEnvC scope cl C X.env) fp) tg (tGc g xa (own.map (·.2)) t)) (ht : ∀ (s : Shared) (H : Hp) (C : Addr) (cl : List (Str × Addr)) (fp : List Addr), PTs (X.blk s H scope (compEnvC scope cl C X.env) fp) ifs (tT g xa WF tt))
    (he : ∀ (s : Shared) (H : Hp) (C : Addr) (cl : List (Str × Addr)) (fp : List Addr), PE (X.blk s H scope (compEnvC scope cl C X.env) fp) elt (tE g xa WF te)) (hs : ∀ x, foldedSetIterable iter X.env x = pure x := by intro _; rfl) :
    PS X (.Assign [.Name y py] (.ListComp elt [⟨tg, iter, ifs, 0⟩] scope pos) spos) (tS g xa W (asgS (compM (own.map (·.2)) m t tt te) (nmT i))) :=
  (ps_setLc (i := i) hc hN hy hyl hsw hi ok hg ht he hs).viaM fun Dd σ H h => by
    obtain ⟨ι, S, e, f, e', S', hs, he, hm, hf⟩ := h
    refine comp_step (stepS hs he hm hf fun a S1 ι1 H1 v h1 p1 x1 s1 e1 r1 f1 => ?_)
    cases h1
    exact f1 ι1 H1 (Pre.refl _) (Ex.refl _) s1 _ (e1.set r1)
end
end DD

set_option Elab.async false
set_option linter.all false
set_option maxRecDepth 100000
namespace DD
open PySem PySem.Spec PyProof.Rows L2

section
variable {X : Cx} {g : G} {xa : Xa} {W : WX} {pos : Pos} {ι : List Addr} {H : Hp}
theorem Op2.or {r r' : R2} {f : F2} (p : D → D → So → Bool) (h : ∀ ι S S' H a b d x y Q, p a b S = true → Sim g ι S H → R g ι H a x → R g ι H b y → f a b S = some (d, S') → Does g (ρD g) ι H d S' Q → r x y H Q)
    (h' : ∀ ι S S' H a b d x y Q, p a b S = false → Sim g ι S H → R g ι H a x → R g ι H b y → f a b S = some (d, S') → Does g (ρD g) ι H d S' Q → r' x y H Q) : Op2 g (fun x y H Q => r x y H Q ∨ r' x y H Q) f := fun ι S S' H a b d x y Q s ra rb hf hd => by
  cases q : p a b S with
  | true => exact .inl (h ι S S' H a b d x y Q q s ra rb hf hd)
  | false => exact .inr (h' ι S S' H a b d x y Q q s ra rb hf hd)
/-- a new object -/
theorem Does.new {S : So} {o : O} {ho : HO} {Q : VK} {p : Addr} (h : Does g (ρD g) ι H (.ref S.length) (S ++ [o]) Q) (s : Sim g ι S H) (np : H p = none) (r : OR g (ι ++ [p]) (upd H p ho) o p) : Q (.ref p) (upd H p ho) :=
  h (ι ++ [p]) _ _ (Pre.app ι [p]) (Ex.new np) (s.new (Ex.new np) (fun n a q => upd_ne (s.fresh np q)) np r) (.ref s.newAt)
theorem Does.lst {S : So} {xs : List D} {vs : List V} {Q : VK} {p : Addr} (h : Does g (ρD g) ι H (.ref S.length) (S ++ [.lst xs]) Q) (s : Sim g ι S H) (np : H p = none) (r : Rs g ι H xs vs) : Q (.ref p) (upd H p (.lst vs)) :=
  h.new s np ⟨vs, upd_same, Rs.mono (Pre.app ι [p]) (Ex.new np) _ _ r⟩
theorem Does.tup {S : So} {xs : List D} {vs : List V} {Q : VK} {p : Addr} (h : Does g (ρD g) ι H (.tup xs) S Q) (s : Sim g ι S H) (np : H p = none) (r : Rs g ι H xs vs) : Q (.ref p) (upd H p (.tup vs)) :=
  h ι _ _ (Pre.refl _) (Ex.new np) (s.tup np) (.tup (.inl upd_same) (Rs.mono (Pre.refl _) (Ex.new np) _ _ r))

/-! ### + -/
def fAdd : F2 := fun a b S => match a, b with
  | .int i, .int j => some (.int (i + j), S)
  | .str x, .str y => if x.length + y.length ≤ sizeLine then some (.str (x ++ y), S) else none
  | .tup xs, .tup ys => if xs.length + ys.length ≤ sizeLine then some (.tup (xs ++ ys), S) else none
  | .ref n, .ref m => match S[n]?, S[m]? with
    | some (.lst xs), some (.lst ys) => if xs.length + ys.length ≤ sizeLine then some (.ref S.length, S ++ [.lst (xs ++ ys)]) else none
    | _, _ => none
  | _, _ => none
def rAddM (K : PySem.W.Frag) : R2 := fun x y H Q => (rI0 (fun i j => .int (i + j)) x y H Q ∨ (∃ i j, x = .str i ∧ y = .str j ∧ i.length + j.length ≤ sizeLine ∧ Q (.str (i ++ j)) H)) ∨ rCatA K x y H Q ∨ rCat x y H Q
theorem op_addM (hK : X.K = g.K) : OpR X (binaryOp .Add) (rAddM g.K) := by
  rw [← hK]
  exact ((op_add.or op_add_str).or (op_catA.or op_cat))
theorem f_add : Op2 g (rAddM g.K) fAdd := fun ι S S' H a b d x y Q s ra rb hf hd => by
  unfold fAdd at hf
  split at hf
  · cases hf; cases ra; cases rb
    exact .inl (.inl ⟨_, _, rfl, rfl, hd.here s (.int _)⟩)
  · split at hf
    · rename_i hl
      cases hf; cases ra; cases rb
      exact .inl (.inr ⟨_, _, rfl, rfl, hl, hd.here s (.str _)⟩)
    · cases hf
  · rename_i xs ys
    split at hf
    · rename_i hl
      cases hf
      cases ra with
      | tup h1 h2 =>
        cases rb with
        | tup h3 h4 =>
          refine .inr (.inl ⟨_, _, _, _, rfl, rfl, h1.t, h3.t, by rw [← Rs.length h2, ← Rs.length h4]; exact hl, fun e => ?_, fun _ e => ?_, fun _ _ p np => hd.tup s np (h2.append h4)⟩)
          · subst e
            cases h2
            exact hd.here s (.tup h3 h4)
          · subst e
            cases h4
            exact hd.here s (.tup h1 (by rw [List.append_nil]; exact h2))
    · cases hf
  · split at hf
    · rename_i xs ys q1 q2
      split at hf
      · rename_i hl
        cases hf
        cases ra with
        | ref h1 =>
          cases rb with
          | ref h2 =>
            obtain ⟨vs, e1, r1⟩ := lst_here s h1 q1
            obtain ⟨us, e2, r2⟩ := lst_here s h2 q2
            exact .inr (.inr ⟨_, _, _, _, rfl, rfl, e1, e2, by rw [← Rs.length r1, ← Rs.length r2]; exact hl, fun p np => hd.lst s np (r1.append r2)⟩)
      · cases hf
    · cases hf
  · cases hf
theorem em_add {a b : Expr} {ma mb : MM D} (ha : PE X a (tE g xa W ma)) (hb : PE X b (tE g xa W mb)) (hK : X.K = g.K := by rfl) : PE X (.BinOp a .Add b pos) (tE g xa W (mOp2 fAdd ma mb)) := em_op (op_addM hK) f_add ha hb

/-! ### ints -/
theorem f_int0 {k : Int → Int → V} {f : Int → Int → D} (hk : ∀ i j ι H, R g ι H (f i j) (k i j)) : Op2 g (rI0 k) (fun a b S => match a, b with
    | .int i, .int j => some (f i j, S)
    | _, _ => none) := fun ι S S' H a b d x y Q s ra rb hf hd => by
  dsimp only at hf
  split at hf
  · cases hf; cases ra; cases rb
    exact ⟨_, _, rfl, rfl, hd.here s (hk _ _ _ _)⟩
  · cases hf
def fSub : F2 := fun a b S => match a, b with
    | .int i, .int j => some (.int (i - j), S)
    | _, _ => none
theorem em_sub {a b : Expr} {ma mb : MM D} (ha : PE X a (tE g xa W ma)) (hb : PE X b (tE g xa W mb)) : PE X (.BinOp a .Sub b pos) (tE g xa W (mOp2 fSub ma mb)) := em_op op_sub (f_int0 (f := fun i j => .int (i - j)) fun _ _ _ _ => .int _) ha hb
instance {i j : Int} : Decidable (CMulW i j) := inferInstanceAs (Decidable (_ < _))
instance {i j : Int} : Decidable (CDivW i j) := inferInstanceAs (Decidable (_ ∧ _))
instance {i j : Int} : Decidable (CPow i j) := inferInstanceAs (Decidable (_ ∧ _ ∧ _))
theorem f_intC {C : Int → Int → Prop} [∀ i j, Decidable (C i j)] {k : Int → Int → Int} : Op2 g (rI C fun i j => .int (k i j)) (fun a b S => match a, b with
    | .int i, .int j => if C i j then some (.int (k i j), S) else none
    | _, _ => none) := fun ι S S' H a b d x y Q s ra rb hf hd => by
  dsimp only at hf
  split at hf
  · split at hf
    · rename_i hc
      cases hf; cases ra; cases rb
      exact ⟨_, _, rfl, rfl, hc, hd.here s (.int _)⟩
    · cases hf
  · cases hf
instance {i j : Int} : Decidable (CMul i j) := inferInstanceAs (Decidable (_ ∨ _))
def fMul : F2 := fun a b S => match a, b with
    | .int i, .int j => if CMul i j ∨ CMulW i j then some (.int (i * j), S) else none
    | _, _ => none
def fDiv : F2 := fun a b S => match a, b with
    | .int i, .int j => if CDivW i j then some (.int (i / j), S) else none
    | _, _ => none
def fMod : F2 := fun a b S => match a, b with
    | .int i, .int j => if 0 < j then some (.int (i % j), S) else none
    | _, _ => none
def fPow : F2 := fun a b S => match a, b with
    | .int i, .int j => if CPow i j then some (.int (i ^ j.toNat), S) else none
    | _, _ => none
theorem f_mul : Op2 g (fun x y H Q => rI CMul (fun i j => .int (i * j)) x y H Q ∨ rI CMulW (fun i j => .int (i * j)) x y H Q) fMul := fun ι S S' H a b d x y Q s ra rb hf hd => by
  unfold fMul at hf
  split at hf
  · split at hf
    · rename_i hc
      cases hf; cases ra; cases rb
      rcases hc with hc | hc
      · exact .inl ⟨_, _, rfl, rfl, hc, hd.here s (.int _)⟩
      · exact .inr ⟨_, _, rfl, rfl, hc, hd.here s (.int _)⟩
    · cases hf
  · cases hf
theorem em_mul {a b : Expr} {ma mb : MM D} (ha : PE X a (tE g xa W ma)) (hb : PE X b (tE g xa W mb)) : PE X (.BinOp a .Mult b pos) (tE g xa W (mOp2 fMul ma mb)) := em_op (op_mul.or op_mulW) f_mul ha hb
theorem em_div {a b : Expr} {ma mb : MM D} (ha : PE X a (tE g xa W ma)) (hb : PE X b (tE g xa W mb)) : PE X (.BinOp a .FloorDiv b pos) (tE g xa W (mOp2 fDiv ma mb)) := em_op op_fdivW (f_intC (C := CDivW) (k := fun i j => i / j)) ha hb
theorem em_mod {a b : Expr} {ma mb : MM D} (ha : PE X a (tE g xa W ma)) (hb : PE X b (tE g xa W mb)) : PE X (.BinOp a .Mod b pos) (tE g xa W (mOp2 fMod ma mb)) := em_op op_mod (f_intC (C := fun _ j => 0 < j) (k := fun i j => i % j)) ha hb
theorem em_pow {a b : Expr} {ma mb : MM D} (ha : PE X a (tE g xa W ma)) (hb : PE X b (tE g xa W mb)) : PE X (.BinOp a .Pow b pos) (tE g xa W (mOp2 fPow ma mb)) := em_op op_pow (f_intC (C := CPow) (k := fun i j => i ^ j.toNat)) ha hb
def fNeg : F1 := fun a S => match a with
  | .int i => some (.int (-i), S)
  | _ => none
theorem em_neg {a : Expr} {ma : MM D} (ha : PE X a (tE g xa W ma)) : PE X (.UnaryOp .USub a pos) (tE g xa W (mOp1 fNeg ma)) := em_un un_neg (fun ι S S' H a d x Q s ra hf hd => by
  unfold fNeg at hf
  split at hf
  · cases hf; cases ra
    exact ⟨_, rfl, hd.here s (.int _)⟩
  · cases hf) ha

/-! ### order -/
def fOrd (p : Int → Int → Bool) (q : List Nat → List Nat → Bool) : F2 := fun a b S => match a, b with
  | .int i, .int j => some (.bl (p i j), S)
  | .str x, .str y => some (.bl (q x.cps.toList y.cps.toList), S)
  | _, _ => none
def rOrd (p : Int → Int → Bool) (q : List Nat → List Nat → Bool) : R2 := fun x y H Q => rI0 (fun i j => .bl (p i j)) x y H Q ∨ ∃ i j, x = .str i ∧ y = .str j ∧ Q (.bl (q i.cps.toList j.cps.toList)) H
theorem f_ord {p : Int → Int → Bool} {q : List Nat → List Nat → Bool} : Op2 g (rOrd p q) (fOrd p q) := fun ι S S' H a b d x y Q s ra rb hf hd => by
  unfold fOrd at hf
  split at hf
  · cases hf; cases ra; cases rb
    exact .inl ⟨_, _, rfl, rfl, hd.here s (.bl _)⟩
  · cases hf; cases ra; cases rb
    exact .inr ⟨_, _, rfl, rfl, hd.here s (.bl _)⟩
  · cases hf
abbrev pLt : Int → Int → Bool := fun i j => decide (i < j)
abbrev pLe : Int → Int → Bool := fun i j => decide (i ≤ j)
abbrev pGt : Int → Int → Bool := fun i j => decide (j < i)
abbrev pGe : Int → Int → Bool := fun i j => decide (j ≤ i)
abbrev qLt : List Nat → List Nat → Bool := fun i j => decide (i < j)
abbrev qLe : List Nat → List Nat → Bool := fun i j => !decide (j < i)
abbrev qGt : List Nat → List Nat → Bool := fun i j => decide (j < i)
abbrev qGe : List Nat → List Nat → Bool := fun i j => !decide (i < j)
theorem op_ltM : OpR X (compareOp .Lt) (rOrd pLt qLt) := op_lt.or op_lt_str
theorem op_leM : OpR X (compareOp .LtE) (rOrd pLe qLe) := op_le.or op_le_str
theorem op_gtM : OpR X (compareOp .Gt) (rOrd pGt qGt) := op_gt.or op_gt_str
theorem op_geM : OpR X (compareOp .GtE) (rOrd pGe qGe) := op_ge.or op_ge_str

/-! ### data -/
mutual
def toPy (S : So) : Nat → D → Option PyData
  | _, .non => some .none
  | _, .bl b => some (.bool b)
  | _, .int i => some (.int i)
  | _, .str x => some (.str x)
  | n, .tup xs => (toPys S n xs).map .tuple
  | n, .rol xs => (toPys S n xs).map .list
  | 0, .ref _ => none
  | n + 1, .ref m => match S[m]? with
    | some (.lst xs) => (toPys S n xs).map .list
    | _ => none
  | _, .glo _ => none
  | _, .ty _ => none
termination_by n d => (n, sizeOf d)
def toPys (S : So) : Nat → List D → Option (List PyData)
  | _, [] => some []
  | n, d :: ds => match toPy S n d, toPys S n ds with
    | some p, some ps => some (p :: ps)
    | _, _ => none
termination_by n ds => (n, sizeOf ds)
end

section
variable {g : G} {ι : List Addr} {H : Hp} {S : So}
mutual
theorem toPy_R (s : Sim g ι S H) : ∀ (n : Nat) (d : D) (v : V) (p : PyData), toPy S n d = some p → R g ι H d v → Dp g.K H v p
  | n, .non, v, p, h, r => by unfold toPy at h; cases h; cases r; exact .non
  | n, .bl b, v, p, h, r => by unfold toPy at h; cases h; cases r; exact .bl b
  | n, .int i, v, p, h, r => by unfold toPy at h; cases h; cases r; exact .int i
  | n, .str x, v, p, h, r => by unfold toPy at h; cases h; cases r; exact .str x
  | n, .tup xs, v, p, h, r => by
    unfold toPy at h
    cases q : toPys S n xs with
    | none => rw [q] at h; cases h
    | some ps =>
      rw [q] at h
      cases h
      cases r with
      | tup h1 h2 => exact .tup h1.t (toPys_R s n xs _ ps q h2)
  | n, .rol xs, v, p, h, r => by
    unfold toPy at h
    cases q : toPys S n xs with
    | none => rw [q] at h; cases h
    | some ps =>
      rw [q] at h
      cases h
      cases r with
      | rol h1 h2 => exact .lst h1.seq (toPys_R s n xs _ ps q h2)
  | 0, .ref m, v, p, h, r => by unfold toPy at h; cases h
  | n + 1, .ref m, v, p, h, r => by
    unfold toPy at h
    split at h
    · rename_i xs e
      cases q : toPys S n xs with
      | none => rw [q] at h; cases h
      | some ps =>
        rw [q] at h
        cases h
        cases r with
        | ref h1 =>
          obtain ⟨vs, h2, h3⟩ := lst_here s h1 e
          exact .lst (SqL.of h2) (toPys_R s n xs _ ps q h3)
    · cases h
  | n, .glo x, v, p, h, r => by unfold toPy at h; cases h
  | n, .ty x, v, p, h, r => by unfold toPy at h; cases h
termination_by n d => (n, sizeOf d)
theorem toPys_R (s : Sim g ι S H) : ∀ (n : Nat) (ds : List D) (vs : List V) (ps : List PyData), toPys S n ds = some ps → Rs g ι H ds vs → DpAll g.K H vs ps
  | n, [], vs, ps, h, r => by unfold toPys at h; cases h; cases r; exact .nil
  | n, d :: ds, vs, ps, h, r => by
    unfold toPys at h
    split at h
    · rename_i p ps' e1 e2
      cases h
      cases r with
      | cons r1 r2 => exact .cons (toPy_R s n d _ p e1 r1) (toPys_R s n ds _ ps' e2 r2)
    · cases h
termination_by n ds => (n, sizeOf ds)
end
end
section
variable {X : Cx} {g : G} {xa : Xa} {W : WX} {pos : Pos} {ι : List Addr} {H : Hp}
/-- data, nested lists at most nine deep -/
abbrev py (d : D) (S : So) : Option PyData := toPy S 9 d
def rEqM (K : PySem.W.Frag) : R2 := fun x y H Q => rEq x y H Q ∨ rEqD K x y H Q
def rNeM (K : PySem.W.Frag) : R2 := fun x y H Q => rNe x y H Q ∨ rNeD K x y H Q
def eqD (k : Bool → Bool) : F2 := fun a b S => match py a S, py b S with
  | some p, some q => if SeqAt.shaped p = true ∧ SeqAt.shaped q = true then some (.bl (k (PyData.eqv p q)), S) else none
  | _, _ => none
def fEq : F2 := fun a b S => match a, b with
  | .str x, .str y => some (.bl (decide (x = y)), S)
  | a, b => eqD id a b S
def fNe : F2 := fun a b S => match a, b with
  | .str x, .str y => some (.bl (!decide (x = y)), S)
  | a, b => eqD (!·) a b S
theorem f_eq : Op2 g (rEqM g.K) fEq := fun ι S S' H a b d x y Q s ra rb hf hd => by
  unfold fEq at hf
  split at hf
  · cases hf; cases ra; cases rb
    refine .inl ⟨rfl, ?_⟩
    have e : ∀ u v : Str, decide (V.str u = V.str v) = decide (u = v) := fun u v => by simp
    rw [e]
    exact hd.here s (.bl _)
  · unfold eqD at hf
    split at hf
    · rename_i p q e1 e2
      split at hf
      · rename_i hc
        cases hf
        exact .inr ⟨p, q, toPy_R s 9 a x p e1 ra, toPy_R s 9 b y q e2 rb, hc.1, hc.2, hd.here s (.bl _)⟩
      · cases hf
    · cases hf
theorem f_ne : Op2 g (rNeM g.K) fNe := fun ι S S' H a b d x y Q s ra rb hf hd => by
  unfold fNe at hf
  split at hf
  · cases hf; cases ra; cases rb
    refine .inl ⟨rfl, ?_⟩
    have e : ∀ u v : Str, decide (V.str u = V.str v) = decide (u = v) := fun u v => by simp
    rw [e]
    exact hd.here s (.bl _)
  · unfold eqD at hf
    split at hf
    · rename_i p q e1 e2
      split at hf
      · rename_i hc
        cases hf
        exact .inr ⟨p, q, toPy_R s 9 a x p e1 ra, toPy_R s 9 b y q e2 rb, hc.1, hc.2, hd.here s (.bl _)⟩
      · cases hf
    · cases hf
theorem op_eqM (hK : X.K = g.K) (hu : X.A.units + 64 < cLine) : OpR X (compareOp .Eq) (rEqM g.K) := by rw [← hK]; exact op_eq.or (op_eqD hu)
theorem op_neM (hK : X.K = g.K) (hu : X.A.units + 64 < cLine) : OpR X (compareOp .NotEq) (rNeM g.K) := by rw [← hK]; exact op_ne.or (op_neD hu)
/-- is, is not of None and of bools -/
def fIs (neg : Bool) : F2 := fun a b S => match a, b with
  | .bl i, .bl j => some (.bl (neg ^^ decide (i = j)), S)
  | .non, .non => some (.bl (neg ^^ true), S)
  | .bl _, .non => some (.bl (neg ^^ false), S)
  | .int _, .non => some (.bl (neg ^^ false), S)
  | .str _, .non => some (.bl (neg ^^ false), S)
  | .tup _, .non => some (.bl (neg ^^ false), S)
  | .ref _, .non => some (.bl (neg ^^ false), S)
  | _, _ => none
def rIsM : R2 := fun x y H Q => rIsB x y H Q ∨ (y = .non ∧ Q (.bl (decide (x = .non))) H)
def rIsNotM : R2 := fun x y H Q => rNotB x y H Q ∨ (y = .non ∧ Q (.bl (!decide (x = .non))) H)
theorem op_isM : OpR X (compareOp .Is) rIsM := op_isBl.or op_isN
theorem op_isNotM : OpR X (compareOp .IsNot) rIsNotM := op_notBl.or op_notN
theorem f_is : Op2 g rIsM (fIs false) := fun ι S S' H a b d x y Q s ra rb hf hd => by
  unfold fIs at hf
  split at hf <;> first | (cases hf; done) | skip
  · cases hf; cases ra; cases rb
    exact .inl ⟨_, _, rfl, rfl, hd.here s (by rw [Bool.false_xor]; exact .bl _)⟩
  all_goals (cases hf; cases rb; cases ra; exact .inr ⟨rfl, hd.here s (.bl _)⟩)
theorem f_isNot : Op2 g rIsNotM (fIs true) := fun ι S S' H a b d x y Q s ra rb hf hd => by
  unfold fIs at hf
  split at hf <;> first | (cases hf; done) | skip
  · cases hf; cases ra; cases rb
    exact .inl ⟨_, _, rfl, rfl, hd.here s (by rw [Bool.true_xor]; exact .bl _)⟩
  all_goals (cases hf; cases rb; cases ra; exact .inr ⟨rfl, hd.here s (.bl _)⟩)

/-! ### displays, items, slices -/
def fTup : FA := fun ds S => if ds.length ≤ sizeLine then some (.tup ds, S) else none
def fLst : FA := fun ds S => if ds.length ≤ sizeLine then some (.ref S.length, S ++ [.lst ds]) else none
theorem em_tup {es : List Expr} {m : MM (List D)} {x1 : Nat} (h : PA X es (tA g xa W m)) : PE X (.Tuple es x1 pos) (tE g xa W (mOpA fTup m)) := (pe_tup h).viaM fun σ H Q h => by
  refine opA_step (r := fun xs H1 Q => xs.length ≤ sizeLine ∧ ∀ p, H1 p = none → Q (.ref p) (upd H1 p (.tup xs))) (fun ι S S' H a d x Q s r hf hd => ?_) h
  unfold fTup at hf
  split at hf
  · rename_i hl
    cases hf
    exact ⟨by rw [← Rs.length r]; exact hl, fun p np => hd.tup s np r⟩
  · cases hf
theorem em_lst {es : List Expr} {m : MM (List D)} (h : PA X es (tA g xa W m)) : PE X (.List es pos) (tE g xa W (mOpA fLst m)) := (pe_lst h).viaM fun σ H Q h => by
  refine opA_step (r := fun xs H1 Q => xs.length ≤ sizeLine ∧ ∀ p, H1 p = none → Q (.ref p) (upd H1 p (.lst xs))) (fun ι S S' H a d x Q s r hf hd => ?_) h
  unfold fLst at hf
  split at hf
  · rename_i hl
    cases hf
    exact ⟨by rw [← Rs.length r]; exact hl, fun p np => hd.lst s np r⟩
  · cases hf
def fIx : F2 := fun a b S => match a, b with
  | .str z, .int i => if z.length ≤ sizeLine then (atI z.cps.toList i).map fun c => (.str ⟨#[c]⟩, S) else none
  | a, .int i => match seqOf a S with
    | some (_, xs) => (atI xs i).map fun d => (d, S)
    | none => none
  | _, _ => none
theorem atI_R {xs : List D} {vs : List V} {i : Int} {d : D} (r : Rs g ι H xs vs) (h : atI xs i = some d) : ∃ v, atI vs i = some v ∧ R g ι H d v := by
  unfold atI at h ⊢
  rw [← Rs.length r]
  cases e : ixN xs.length i with
  | none => rw [e] at h; cases h
  | some j =>
    rw [e] at h
    obtain ⟨v, h1, h2⟩ := Rs.get r h
    exact ⟨v, h1, h2⟩
theorem f_ix : Op2 g (rIx g.K) fIx := fun ι S S' H a b d x y Q s ra rb hf hd => by
  unfold fIx at hf
  split at hf
  · rename_i z i
    split at hf
    · rename_i hl
      cases e : atI z.cps.toList i with
      | none => rw [e] at hf; cases hf
      | some c =>
        rw [e] at hf
        cases hf; cases ra; cases rb
        exact .inr (.inr ⟨_, _, c, rfl, rfl, hl, e, hd.here s (.str _)⟩)
    · cases hf
  · rename_i i _
    split at hf
    · rename_i k xs e
      cases e2 : atI xs i with
      | none => rw [e2] at hf; cases hf
      | some c =>
        rw [e2] at hf
        cases hf
        obtain ⟨p, vs, rfl, r, t1, l1⟩ := seqOf_R e s ra
        obtain ⟨v, h1, h2⟩ := atI_R r e2
        cases rb
        cases k with
        | true => exact .inr (.inl ⟨_, _, _, _, rfl, rfl, (t1 rfl).t, h1, hd.here s h2⟩)
        | false => exact .inl ⟨_, _, _, _, rfl, rfl, l1 rfl, h1, hd.here s h2⟩
    · cases hf
  · cases hf
theorem ix_seqM (hK : X.K = g.K) : IxR X (rIx g.K) := by rw [← hK]; exact ix_seq
theorem em_ix {a b : Expr} {ma mb : MM D} (ha : PE X a (tE g xa W ma)) (hb : PE X b (tE g xa W mb)) (hK : X.K = g.K := by rfl) (hs : PlainIx b := by exact fun _ _ => rfl) : PE X (.Subscript a b pos) (tE g xa W (mOp2 fIx ma mb)) :=
  (pe_ix (ix_seqM hK) ha hb hs).viaM fun _ _ _ h => op2_step f_ix h
/-- a slice's part -/
def mNoPart : MM (Option Int) := retM none
def mPart (m : MM D) : MM (Option Int) := bindM m fun d _ S => match d with
  | .int i => some (.ok (some i), S)
  | _ => none
theorem om_none : PO X none (tO g xa W mNoPart) := po_none.viaM fun σ H Q h => by
  obtain ⟨ι, S, e, r, S', hs, he, hm, hf⟩ := h
  cases hm
  exact hf ι H none (Pre.refl _) (Ex.refl _) hs rfl
theorem om_some {e : Expr} {m : MM D} (h : PE X e (tE g xa W m)) : PO X (some e) (tO g xa W (mPart m)) := (po_some h).viaM fun σ H Q h => by
  obtain ⟨ι, S, e, r, S', hs, he, hm, hf⟩ := h
  refine stepG hs he hm hf fun d S1 ι1 H1 v h1 p1 x1 s1 e1 r1 f1 => ?_
  split at h1
  · cases h1; cases r1
    exact ⟨_, rfl, f1 ι1 H1 _ (Pre.refl _) (Ex.refl _) s1 rfl⟩
  · cases h1
def cutD (xs : List D) (lo hi : Option Int) : List D := (xs.drop (HT.sIx xs.length 0 lo)).take (HT.sIx xs.length xs.length hi - HT.sIx xs.length 0 lo)
theorem cutD_R {xs : List D} {vs : List V} {lo hi : Option Int} (r : Rs g ι H xs vs) : Rs g ι H (cutD xs lo hi) (cutV vs lo hi) := by
  unfold cutD cutV
  rw [← Rs.length r]
  exact (r.drop _).take _
def fSl (a : D) (lo hi : Option Int) (S : So) : Option (D × So) := match a with
  | .str z => if z.length ≤ sizeLine then some (.str (cutS z lo hi), S) else none
  | .tup xs => some (.tup (cutD xs lo hi), S)
  | a => match seqOf a S with
    | some (_, xs) => some (.ref S.length, S ++ [.lst (cutD xs lo hi)])
    | none => none
def mSl (ma : MM D) (ml mh : MM (Option Int)) : MM D := bindM ma fun a => bindM ml fun l => bindM mh fun h => liftF (fSl a l h)
def rSlM (K : PySem.W.Frag) : V → Option Int → Option Int → Hp → VK → Prop := fun x lo hi H Q => rSlA K x lo hi H Q ∨ rSlL K x lo hi H Q ∨ rSlS x lo hi H Q
theorem sl_M (hK : X.K = g.K) : SlR X (rSlM g.K) := by rw [← hK]; exact sl_tupA.or (sl_list.or sl_str)
theorem cut_whole {xs : List V} {lo hi : Option Int} (h : HT.sIx xs.length 0 lo = 0 ∧ HT.sIx xs.length xs.length hi = xs.length) : cutV xs lo hi = xs := by
  unfold cutV
  rw [h.1, h.2]
  simp
theorem cutD_whole {xs : List D} {lo hi : Option Int} (h : HT.sIx xs.length 0 lo = 0 ∧ HT.sIx xs.length xs.length hi = xs.length) : cutD xs lo hi = xs := by
  unfold cutD
  rw [h.1, h.2]
  simp
theorem f_sl {a d : D} {lo hi : Option Int} {S S' : So} {x : V} {Q : VK} (s : Sim g ι S H) (ra : R g ι H a x) (hf : fSl a lo hi S = some (d, S')) (hd : Does g (ρD g) ι H d S' Q) : rSlM g.K x lo hi H Q := by
  unfold fSl at hf
  split at hf
  · split at hf
    · rename_i hl
      cases hf; cases ra
      exact .inr (.inr ⟨_, rfl, hl, hd.here s (.str _)⟩)
    · cases hf
  · rename_i xs
    cases hf
    cases ra with
    | tup h1 h2 =>
      refine .inl ⟨_, _, rfl, h1.t, fun w => ?_, fun _ p np => hd.tup s np (cutD_R h2)⟩
      rw [← Rs.length h2] at w
      exact hd.here s (by rw [cutD_whole w]; exact .tup h1 h2)
  · rename_i hn1 hn2
    split at hf
    · rename_i k xs e
      cases hf
      obtain ⟨p, vs, rfl, r, t1, l1⟩ := seqOf_R e s ra
      have hk : k = false := by
        have := seqOf_kind e
        cases a with
        | tup ys => exact absurd rfl (hn2 ys)
        | _ => exact this
      exact .inr (.inl ⟨_, _, rfl, l1 hk, fun q nq => hd.lst s nq (cutD_R r)⟩)
    · cases hf
theorem em_slice {a : Expr} {lo hi : Option Expr} {p2 : Pos} {ma : MM D} {ml mh : MM (Option Int)} (ha : PE X a (tE g xa W ma)) (hl : PO X lo (tO g xa W ml)) (hh : PO X hi (tO g xa W mh)) (hK : X.K = g.K := by rfl) :
    PE X (.Subscript a (.Slice lo hi none p2) pos) (tE g xa W (mSl ma ml mh)) := (pe_slice (sl_M hK) ha hl hh).viaM fun σ H Q h => by
  obtain ⟨ι, S, e, r, S', hs, he, hm, hf⟩ := h
  refine stepG hs he hm hf fun d S1 ι1 H1 v h1 p1 x1 s1 e1 r1 f1 => ?_
  refine stepG s1 e1 h1 f1 fun l S2 ι2 H2 v2 h2 p2 x2 s2 e2 r2 f2 => ?_
  refine stepG s2 e2 h2 f2 fun u S3 ι3 H3 v3 h3 p3 x3 s3 e3 r3 f3 => ?_
  obtain ⟨d', h4, rfl⟩ := liftF_some h3
  cases r2
  cases r3
  exact f_sl s3 (R.mono p3 x3 _ _ (R.mono p2 x2 _ _ r1)) h4 f3

/-! ### builtins -/
theorem em_callB {x : Str} {p : Pos} {a : Expr} {es : List Expr} {id : String} {r : List V → Hp → VK → Prop} {f : FA} {m : MM (List D)} (hc : CallR X (.builtin id) r) (hf : OpA g r f) (hm : X.mg x = none) (ha : PA X (a :: es) (tA g xa W m)) (hv : bootBuiltins x = some (.builtin id) := by decide +kernel) (hg : Gl X x := by rfl) (hn : x ≠ "__name__" := by decide) (hdb : (x == ("__debug__" : Str)) = false := by decide)
    (he : starEach (a :: es) X.env = (false, eval a X.env) :: starEach es X.env := by rfl) (hpl : (backTo pos (starEach es X.env)).any (·.1) = false := by rfl) : PE X (.Call (.Name x p) (a :: es) [] pos) (tE g xa W (mOpA f m)) :=
  (pe_callB hc hg hm hv ha hn hdb he hpl).viaM fun _ _ _ h => opA_step hf h
theorem em_callTy {x : Str} {p : Pos} {a : Expr} {es : List Expr} {T : String} {r : List V → Hp → VK → Prop} {f : FA} {m : MM (List D)} (hc : CallR X (.type T) r) (hf : OpA g r f) (hm : X.mg x = none) (ha : PA X (a :: es) (tA g xa W m)) (hv : bootBuiltins x = some (.type T) := by decide +kernel) (hg : Gl X x := by rfl) (hn : x ≠ "__name__" := by decide) (hdb : (x == ("__debug__" : Str)) = false := by decide)
    (he : starEach (a :: es) X.env = (false, eval a X.env) :: starEach es X.env := by rfl) (hpl : (backTo pos (starEach es X.env)).any (·.1) = false := by rfl) : PE X (.Call (.Name x p) (a :: es) [] pos) (tE g xa W (mOpA f m)) :=
  (pe_callTy hc hg hm hv ha hn hdb he hpl).viaM fun _ _ _ h => opA_step hf h
def fAbs : FA := fun ds S => match ds with
  | [.int i] => some (.int (if i < 0 then -i else i), S)
  | _ => none
theorem f_abs : OpA g (fun xs H Q => ∃ i, xs = [.int i] ∧ Q (.int (if i < 0 then -i else i)) H) fAbs := fun ι S S' H a d x Q s r hf hd => by
  unfold fAbs at hf
  split at hf
  · cases hf
    cases r with
    | cons r1 r2 => cases r2; cases r1; exact ⟨_, rfl, hd.here s (.int _)⟩
  · cases hf
def fInt : FA := fun ds S => match ds with
  | [.int i] => some (.int i, S)
  | [.bl b] => some (.int (if b then 1 else 0), S)
  | _ => none
theorem f_int : OpA g (fun xs H Q => (∃ i, xs = [.int i] ∧ Q (.int i) H) ∨ ∃ k, xs = [.bl k] ∧ Q (.int (if k then 1 else 0)) H) fInt := fun ι S S' H a d x Q s r hf hd => by
  unfold fInt at hf
  split at hf
  · cases hf
    cases r with
    | cons r1 r2 => cases r2; cases r1; exact .inl ⟨_, rfl, hd.here s (.int _)⟩
  · cases hf
    cases r with
    | cons r1 r2 => cases r2; cases r1; exact .inr ⟨_, rfl, hd.here s (.int _)⟩
  · cases hf
def fLen : FA := fun ds S => match ds with
  | [.str x] => if x.length ≤ sizeLine then some (.int x.length, S) else none
  | [a] => match seqOf a S with
    | some (_, xs) => some (.int xs.length, S)
    | none => none
  | _ => none
theorem f_len : OpA g (fun xs H Q => ∃ x n, xs = [x] ∧ LenV g.K x H n ∧ Q (.int n) H) fLen := fun ι S S' H a d x Q s r hf hd => by
  unfold fLen at hf
  split at hf
  · split at hf
    · rename_i hl
      cases hf
      cases r with
      | cons r1 r2 => cases r2; cases r1; exact ⟨_, _, rfl, ⟨hl, rfl⟩, hd.here s (.int _)⟩
    · cases hf
  · split at hf
    · rename_i k xs e
      cases hf
      cases r with
      | cons r1 r2 =>
        cases r2
        obtain ⟨p, vs, rfl, r, t1, l1⟩ := seqOf_R e s r1
        refine ⟨_, xs.length, rfl, ?_, hd.here s (.int _)⟩
        cases k with
        | true => exact .inr ⟨vs, (t1 rfl).t, Rs.length r⟩
        | false => exact .inl ⟨vs, l1 rfl, Rs.length r⟩
    · cases hf
  · cases hf
theorem call_lenM (hK : X.K = g.K) : CallR X (.builtin "len") (fun xs H Q => ∃ x n, xs = [x] ∧ LenV g.K x H n ∧ Q (.int n) H) := by rw [← hK]; exact call_len
def fList : FA := fun ds S => match ds with
  | [a] => match seqOf a S with
    | some (_, xs) => some (.ref S.length, S ++ [.lst xs])
    | none => none
  | _ => none
theorem f_list : OpA g (fun xs H Q => ∃ p ys, xs = [.ref p] ∧ (SqL g.K H p ys ∨ SqT g.K H p ys) ∧ ∀ l, H l = none → Q (.ref l) (upd H l (.lst ys))) fList := fun ι S S' H a d x Q s r hf hd => by
  unfold fList at hf
  split at hf
  · split at hf
    · rename_i k xs e
      cases hf
      cases r with
      | cons r1 r2 =>
        cases r2
        obtain ⟨p, vs, rfl, r, t1, l1⟩ := seqOf_R e s r1
        refine ⟨_, vs, rfl, ?_, fun l nl => hd.lst s nl r⟩
        cases k with
        | true => exact .inr (t1 rfl).t
        | false => exact .inl (l1 rfl)
    · cases hf
  · cases hf
theorem call_listM (hK : X.K = g.K) : CallR X (.type "list") (fun xs H Q => ∃ p ys, xs = [.ref p] ∧ (SqL g.K H p ys ∨ SqT g.K H p ys) ∧ ∀ l, H l = none → Q (.ref l) (upd H l (.lst ys))) := by rw [← hK]; exact call_list_of
def fTuple : FA := fun ds S => match ds with
  | [a] => match seqOf a S with
    | some (_, xs) => some (.tup xs, S)
    | none => none
  | _ => none
theorem f_tuple : OpA g (fun xs H Q => ∃ p ys, xs = [.ref p] ∧ ((SqL g.K H p ys ∧ ∀ l, H l = none → Q (.ref l) (upd H l (.tup ys))) ∨ (SqT g.K H p ys ∧ Q (.ref p) H))) fTuple := fun ι S S' H a d x Q s r hf hd => by
  unfold fTuple at hf
  split at hf
  · split at hf
    · rename_i k xs e
      cases hf
      cases r with
      | cons r1 r2 =>
        cases r2
        obtain ⟨p, vs, rfl, r, t1, l1⟩ := seqOf_R e s r1
        refine ⟨_, vs, rfl, ?_⟩
        cases k with
        | true => exact .inr ⟨(t1 rfl).t, hd.here s (.tup (t1 rfl) r)⟩
        | false => exact .inl ⟨l1 rfl, fun l nl => hd.tup s nl r⟩
    · cases hf
  · cases hf
theorem call_tupleM (hK : X.K = g.K) : CallR X (.type "tuple") (fun xs H Q => ∃ p ys, xs = [.ref p] ∧ ((SqL g.K H p ys ∧ ∀ l, H l = none → Q (.ref l) (upd H l (.tup ys))) ∨ (SqT g.K H p ys ∧ Q (.ref p) H))) := by rw [← hK]; exact call_tuple_of
def fStr : FA := fun ds S => match ds with
  | [.int i] => if i.natAbs.log2 < 1920 then some (.str (toString i), S) else none
  | _ => none
theorem f_str : OpA g (fun xs H Q => ∃ i : Int, xs = [.int i] ∧ i.natAbs.log2 < 1920 ∧ Q (.str (toString i)) H) fStr := fun ι S S' H a d x Q s r hf hd => by
  unfold fStr at hf
  split at hf
  · split at hf
    · rename_i hl
      cases hf
      cases r with
      | cons r1 r2 => cases r2; cases r1; exact ⟨_, rfl, hl, hd.here s (.str _)⟩
    · cases hf
  · cases hf

/-! ### methods of built-in types -/
abbrev FM := D → List D → So → Option (D × So)
def OpM (g : G) (r : V → List V → Hp → VK → Prop) (f : FM) : Prop := ∀ (ι : List Addr) (S S' : So) (H : Hp) (a : D) (b : List D) (d : D) (x : V) (y : List V) (Q : VK), Sim g ι S H → R g ι H a x → Rs g ι H b y → f a b S = some (d, S') → Does g (ρD g) ι H d S' Q → r x y H Q
def mMeth (ty : D → So → Bool) (f : FM) (mo : MM D) (ma : MM (List D)) : MM D := bindM mo fun a e S => if ty a S = true then bindM ma (fun ds => liftF (f a ds)) e S else none
theorem em_bm {o a : Expr} {es : List Expr} {name : Str} {T id : String} {apos : Pos} {mo : MM D} {ma : MM (List D)} {ty : D → So → Bool} {f : FM} {r : V → List V → Hp → VK → Prop} (pa : PlainAttrs T) (slot : Slot T name id) (hty : typeOf (.builtin id) = pure (.type "method_descriptor")) (hm : MtR X id r)
    (hT : ∀ (ι : List Addr) (S : So) (H : Hp) (a : D) (x : V), Sim g ι S H → R g ι H a x → ty a S = true → tyV X.K T x H) (hf : OpM g r f) (ho : PE X o (tE g xa W mo)) (ha : PA X (a :: es) (tA g xa W ma))
    (hbase : attributeBase o name X.env (eval o X.env) = eval o X.env := by rfl)
    (hfew : ((backTo pos (starEach (a :: es) X.env)).all (fun x => !x.1) && (backToKw pos (keywordEach [] X.env)).all (fun x => x.1.isSome)
      && decide ((a :: es).length + ([] : List Keyword).length + (if ([] : List Keyword).isEmpty then 0 else 1) < 30)) = true := by rfl)
    (hline : (apos.endLine == pos.line) = true := by rfl) (hs : starEach (a :: es) X.env = (false, eval a X.env) :: starEach es X.env := by rfl) (hplain : (backTo pos (starEach es X.env)).any (·.1) = false := by rfl) :
    PE X (.Call (.Attribute o name apos) (a :: es) [] pos) (tE g xa W (mMeth ty f mo ma)) :=
  (pe_bm pa slot hty hm ho ha hbase hfew hline hs hplain).viaM fun σ H Q h => by
    obtain ⟨ι, S, e, r, S', hs, he, hm, hf'⟩ := h
    refine stepG hs he hm hf' fun d S1 ι1 H1 v h1 p1 x1 s1 e1 r1 f1 => ?_
    split at h1
    · rename_i hty
      refine ⟨hT ι1 S1 H1 d v s1 r1 hty, ?_⟩
      refine stepG s1 e1 h1 f1 fun ds S2 ι2 H2 vs h2 p2 x2 s2 e2 r2 f2 => ?_
      obtain ⟨d', h3, rfl⟩ := liftF_some h2
      exact hf ι2 S2 S' H2 d ds d' v vs Q s2 (R.mono p2 x2 _ _ r1) r2 h3 f2
    · cases h1
def isL (a : D) (S : So) : Bool := match a with
  | .ref n => match S[n]? with
    | some (.lst _) => true
    | _ => false
  | _ => false
theorem isL_ty {K : PySem.W.Frag} {a : D} {S : So} {x : V} (s : Sim g ι S H) (r : R g ι H a x) (h : isL a S = true) : tyV K "list" x H := by
  unfold isL at h
  split at h
  · split at h
    · rename_i xs e
      cases r with
      | ref q =>
        obtain ⟨vs, h1, _⟩ := lst_here s q e
        exact .inl ⟨rfl, vs, SqL.of h1⟩
    · cases h
  · cases h
def isS (a : D) (_ : So) : Bool := match a with
  | .str _ => true
  | _ => false
theorem isS_ty {K : PySem.W.Frag} {a : D} {S : So} {x : V} (r : R g ι H a x) (h : isS a S = true) : tyV K "str" x H := by
  unfold isS at h
  split at h
  · cases r; rfl
  · cases h
def fAppend : FM := fun a ds S => match a, ds with
  | .ref n, [y] => match S[n]? with
    | some (.lst xs) => if xs.length < sizeLine then some (.non, S.set n (.lst (xs ++ [y]))) else none
    | _ => none
  | _, _ => none
/-- a list of the store is rewritten -/
theorem Does.wr {S : So} {n : Nat} {a : Addr} {xs : List D} {vs ws : List V} {d : D} {v : V} {Q : VK} (h : Does g (ρD g) ι H d (S.set n (.lst xs)) Q) (s : Sim g ι S H) (q : ι[n]? = some a) (e : H a = some (.lst ws)) (r : Rs g ι H xs vs) (rd : R g ι H d v) : Q v (upd H a (.lst vs)) := by
  have xw : Ex H (upd H a (.lst vs)) := Ex.wr e (fun _ z => by cases z) (fun _ _ z => by cases z) fun _ z => by cases z
  obtain ⟨sw, _⟩ := s.wr (o' := .lst xs) (q := .lst vs) q ⟨vs, upd_same, Rs.mono (Pre.refl _) xw _ _ r⟩ xw
  exact h ι _ v (Pre.refl _) xw sw (R.mono (Pre.refl _) xw _ _ rd)
theorem f_append : OpM g rAppend fAppend := fun ι S S' H a b d x y Q s ra rb hf hd => by
  unfold fAppend at hf
  split at hf
  · rename_i n y'
    split at hf
    · rename_i xs e
      split at hf
      · rename_i hl
        cases hf
        cases ra with
        | ref q =>
          cases rb with
          | cons r1 r2 =>
            cases r2
            obtain ⟨vs, h1, h2⟩ := lst_here s q e
            exact ⟨_, vs, _, rfl, rfl, h1, by rw [← Rs.length h2]; exact hl, hd.wr s q h1 (h2.append (.cons r1 .nil)) .non⟩
      · cases hf
    · cases hf
  · cases hf
theorem em_append {o a : Expr} {apos : Pos} {mo : MM D} {ma : MM (List D)} (ho : PE X o (tE g xa W mo)) (ha : PA X [a] (tA g xa W ma))
    (hbase : attributeBase o "append" X.env (eval o X.env) = eval o X.env := by rfl)
    (hfew : ((backTo pos (starEach [a] X.env)).all (fun x => !x.1) && (backToKw pos (keywordEach [] X.env)).all (fun x => x.1.isSome)
      && decide ([a].length + ([] : List Keyword).length + (if ([] : List Keyword).isEmpty then 0 else 1) < 30)) = true := by rfl)
    (hline : (apos.endLine == pos.line) = true := by rfl) (hs : starEach [a] X.env = (false, eval a X.env) :: starEach [] X.env := by rfl) (hplain : (backTo pos (starEach [] X.env)).any (·.1) = false := by rfl) :
    PE X (.Call (.Attribute o "append" apos) [a] [] pos) (tE g xa W (mMeth isL fAppend mo ma)) :=
  em_bm PySem.F.plainAttrs_list PySem.F.slot_list_append PySem.F.type_list_append mt_append (fun _ _ _ _ _ s r h => isL_ty s r h) f_append ho ha hbase hfew hline hs hplain
/-- a[i] = v -/
def fSet (a i v : D) (S : So) : Option So := match a, i with
  | .ref n, .int k => match S[n]? with
    | some (.lst xs) => (ixN xs.length k).map fun j => S.set n (.lst (xs.set j v))
    | _ => none
  | _, _ => none
def setS (mv mo mi : MM D) : MS := bindS mv fun v => bindS mo fun o => bindS mi fun i e S => (fSet o i v S).map fun S' => (.nx, e, S')
theorem sm_setix {o i e : Expr} {p' : Pos} {mv mo mi : MM D} (he : PE X e (tE g xa W mv)) (ho : PE X o (tE g xa W mo)) (hi : PE X i (tE g xa W mi))
    (hs : swapsWithSole [.Subscript o i p'] e pos.line X.env = pure false := by rfl) (hw : swappedStores [.Subscript o i p'] e X.env = pure none := by rfl)
    (h1 : (assignEach [.Subscript o i p'] X.env).map (·.2) = [assign (.Subscript o i p') X.env] := by rfl)
    (hA : ∀ v, assign (.Subscript o i p') X.env v = (do
      let ov ← holding [v] (eval o X.env)
      let iv ← holding [v, ov] (eval i X.env)
      standAt p'
      holding [v, ov, iv] (setItem ov iv v)
      release [v, ov, iv] []) := by intro _; rfl) : PS X (.Assign [.Subscript o i p'] e pos) (tS g xa W (setS mv mo mi)) :=
  (ps_asg he (pg_sub ho hi set_list hA) hs hw h1).viaM fun Dd σ H h => by
    obtain ⟨ι, S, e, f, e', S', hs, he, hm, hf⟩ := h
    refine stepS hs he hm hf fun v S1 ι1 H1 vv h1 p1 x1 s1 e1 r1 f1 => ?_
    refine stepS s1 e1 h1 f1 fun o S2 ι2 H2 ov h2 p2 x2 s2 e2 r2 f2 => ?_
    refine stepS s2 e2 h2 f2 fun i S3 ι3 H3 iv h3 p3 x3 s3 e3 r3 f3 => ?_
    cases hq : fSet o i v S3 with
    | none => rw [hq] at h3; cases h3
    | some S4 =>
      rw [hq] at h3
      cases h3
      unfold fSet at hq
      split at hq
      · rename_i n k
        split at hq
        · rename_i xs q
          cases hj : ixN xs.length k with
          | none => rw [hj] at hq; cases hq
          | some j =>
            rw [hj] at hq
            cases hq
            have r2' := R.mono p3 x3 _ _ r2
            have r1' := R.mono p3 x3 _ _ (R.mono p2 x2 _ _ r1)
            cases r2' with
            | ref qa =>
              cases r3
              obtain ⟨vs, h4, h5⟩ := lst_here s3 qa q
              refine ⟨_, vs, k, j, rfl, rfl, h4, by rw [← Rs.length h5]; exact hj, ?_⟩
              have xw : Ex H3 (upd H3 _ (.lst (vs.set j vv))) := Ex.wr h4 (fun _ z => by cases z) (fun _ _ z => by cases z) fun _ z => by cases z
              obtain ⟨sw, _⟩ := s3.wr (o' := .lst (xs.set j v)) (q := .lst (vs.set j vv)) qa ⟨_, upd_same, Rs.mono (Pre.refl _) xw _ _ (h5.set r1' j)⟩ xw
              exact f3 ι3 _ (Pre.refl _) xw sw σ (e3.mono (Pre.refl _) xw)
        · cases hq
      · cases hq
end
end
end DD

set_option Elab.async false
set_option linter.all false
set_option maxRecDepth 100000
namespace DD
open PySem PySem.Spec PyProof.Rows L2

/-! ### defs -/
abbrev FnD := List D → So → Option (Re D × So)
abbrev GK (K : PySem.W.Frag) (mg : Str → Option Value) : G := ⟨K, mg⟩
/-- what a call promises, by a run φ -/
def spM (g : G) (φ : FnD) : Sp := fun vs H Q E => ∃ (ι : List Addr) (S : So) (ds : List D) (r : Re D) (S' : So), Sim g ι S H ∧ Rs g ι H ds vs ∧ φ ds S = some (r, S') ∧ match r with
  | .ok d => Does g (ρD g) ι H d S' Q
  | .ex c fs => ∀ (ι' : List Addr) (H' : Hp) (C dd : Addr) (gs : List (Str × V)), Pre ι ι' → Ex H H' → Sim g ι' S' H' → g.mg c = some (.ref C) → H' dd = some (.xd gs) → Fs g ι' H' fs gs → E (.ref C) (some dd) H'
/-- the def at f runs as φ, where no guard stands -/
structure FnG (P : Program) (w : World) (K : PySem.W.Frag) (mg : Str → Option Value) (base : Heap) (k : Nat) (f : Addr) (fd : FuncData) (ps : List Str) (φ : FnD) : Prop where
  len : ∀ ds S r, φ ds S = some r → ds.length = ps.length
  run : ∀ (A : Around) (outer : List Env) (s : Shared) (H : Hp) (args : Args) (us : List Value) (vs : List V) (Q : VK) (E : XK), Room k A → A.guards = some [] → Env0 P w K mg base A outer s H →
    BindsTo s fd args (ps.zip us) → Vals vs us → spM (GK K mg) φ vs H Q E → codeAny (model P w) A (.call (.ref f) args) (CR (L2.CX P w) outer P w H s Q E) s
theorem FnG.mono {P : Program} {w : World} {K : PySem.W.Frag} {mg : Str → Option Value} {base : Heap} {j k : Nat} {f : Addr} {fd : FuncData} {ps : List Str} {φ : FnD} (F : FnG P w K mg base j f fd ps φ) (h : j ≤ k) : FnG P w K mg base k f fd ps φ :=
  ⟨F.len, fun A outer s H args us vs Q E hr => F.run A outer s H args us vs Q E (hr.mono h)⟩
def startE (n : Nat) (ds : List D) : Sl := ds.map Sv.v ++ List.replicate (n - ds.length) Sv.no
/-- a def of np parameters and n names in all, by its body's run -/
def fnM (np n : Nat) (m : MS) : FnD := fun ds S => if ds.length = np then match m (startE n ds) S with
  | some (.nx, _, S') => some (.ok .non, S')
  | some (.rt d, _, S') => some (.ok d, S')
  | some (.ex c fs, _, S') => some (.ex c fs, S')
  | _ => none else none
section
variable {P : Program} {w : World} {K : PySem.W.Frag} {mg : Str → Option Value} {base : Heap}
theorem er_start {g : G} {xa : Xa} {ι : List Addr} {H : Hp} {ds : List D} {vs : List V} (N : List Str) (r : Rs g ι H ds vs) : Er g xa ι H (startE N.length ds) (L2.start N vs) := by
  have hl := Rs.length r
  refine ⟨by simp [startE, L2.start, hl], fun i y z e1 e2 => ?_⟩
  by_cases hi : i < ds.length
  · unfold startE at e1
    rw [List.getElem?_append_left (by simpa using hi), List.getElem?_map, List.getElem?_eq_getElem hi] at e1
    cases e1
    obtain ⟨v, h1, h2⟩ := Rs.get r (List.getElem?_eq_getElem hi)
    unfold L2.start at e2
    rw [List.getElem?_append_left (by simpa [← hl] using hi), List.getElem?_map, h1] at e2
    cases e2
    exact ⟨v, rfl, h2⟩
  · unfold startE at e1
    rw [List.getElem?_append_right (by simpa using Nat.le_of_not_lt hi), List.getElem?_replicate] at e1
    split at e1
    · cases e1; trivial
    · cases e1
abbrev xa0 : Xa := ⟨0, .none, none⟩
theorem fng_of {x qual : Str} {st : Stmt} {f : Addr} {fd : FuncData} {N ps : List Str} {k : Nat} {m : MS} (F : Fun K x qual st f fd) (Sc : FnScope N ps (defScope st))
    (hb : ∀ (cdv : Value) (A : Around) (outer : List Env) (s : Shared) (H : Hp) (E : XK), Room k (A.deeper (envOfC qual (defScope st) s.heap.objs.size f cdv)) → A.guards = some [] →
      PSs (cxOf (L2.CX P w) P w K mg base N qual (defScope st) f cdv A outer s H E) (defBody st) (tS (GK K mg) xa0 (fun cls d _ H => E cls d H) m)) :
    FnG P w K mg base (k + 1) f fd ps (fnM ps.length N.length m) := by
  obtain ⟨oc, od, kV, doc, pm, an, cdv, ct, osl, rfl, lk, hcd⟩ := F.ex
  have lenOf : ∀ (ds : List D) (S : So) (r : Re D × So), fnM ps.length N.length m ds S = some r → ds.length = ps.length := fun ds S r h => by
    unfold fnM at h
    split at h
    · assumption
    · cases h
  refine ⟨lenOf, fun A outer s H args us vs Q E hr hG e0 hbnd rv hsp => ?_⟩
  obtain ⟨ι, S, ds, r, S', hs, rs, hφ, hf⟩ := hsp
  have hl : vs.length = ps.length := by rw [← Rs.length rs]; exact lenOf _ _ _ hφ
  have inK : K.In s.heap := e0.mod.kin.keeps fun b o q => (e0.bs b o q).1
  have noLim : s.heap.NoLimit := e0.mod.nolimit.keeps fun b o q => (e0.bs b o q).1
  have kinds : ∀ y ∈ ps.zip us, (defScope st).names.lookup y.1 = some .local ∨ ((defScope st).names.lookup y.1 = some .cell ∧ ((cellsFrom (s.heap.objs.size + 1) (defScope st).names []).lookup y.1).isSome = true) := by
    rintro ⟨n, v⟩ hy
    rcases Sc.par n (List.of_mem_zip hy).1 with q | q
    · exact .inl q
    · exact .inr ⟨q, PySem.W.cellsFrom_some _ _ _ (.inl q)⟩
  refine codeAny_call_function hr.depth (inK _ _ lk) rfl Sc.co Sc.gen rfl (PySem.W.codeRec_of inK hcd) (hbnd _ _ _ _ ?_)
  refine wpAny_newFunctionEnv_cells Sc.kind kinds fun env he s1 x => ?_
  subst he
  refine ⟨noLim.keeps x.toInCall.keep, codeAny_func ?_⟩
  have I := inv_start (CX := L2.CX P w) (qual := qual) (f := f) (cd := cdv) (E := E) Sc hr.hd e0 hl rv x
  unfold fnM at hφ
  rw [if_pos (by rw [Rs.length rs, hl])] at hφ
  have main : tS (GK K mg) xa0 (fun cls d _ H => E cls d H) m { nx := fun _ H' => Q .non H', rt := Q } (L2.start N vs) H := by
    split at hφ
    · rename_i e1 S1 q
      cases hφ
      exact ⟨ι, S, _, _, e1, _, hs, er_start N rs, q, fun ι' H' p x s σ' _ => hf ι' H' .non p x s .non⟩
    · rename_i d e1 S1 q
      cases hφ
      exact ⟨ι, S, _, _, e1, _, hs, er_start N rs, q, fun ι' H' p x s v rv => hf ι' H' v p x s rv⟩
    · rename_i c fs e1 S1 q
      cases hφ
      exact ⟨ι, S, _, _, e1, _, hs, er_start N rs, q, fun ι' H' p x s σ' C dd gs _ h1 h2 h3 => hf ι' H' C dd gs p x s h1 h2 h3⟩
    · cases hφ
  refine wpAny_mono ((hb cdv A outer s H E (hr.deeper _) hG).run [] s1 (L2.start N vs) H _ I main) (fun fl s' hq => ?_) fun e s' hq => hq
  cases fl with
  | ret u =>
    obtain ⟨v, σ', H', J, q1, q2⟩ := hq
    exact ⟨v, H', J.os, J.bare, J.base, J.hok, q1, q2⟩
  | next =>
    obtain ⟨σ', H', J, q2⟩ := hq
    exact ⟨.non, H', J.os, J.bare, J.base, J.hok, rfl, q2⟩
  | brk =>
    obtain ⟨σ', H', _, q2⟩ := hq
    exact False.elim q2
  | cont =>
    obtain ⟨σ', H', _, q2⟩ := hq
    exact False.elim q2
end
theorem passM {X : Cx} {E : XK} {W : WX} {σ : L2.St} {pins : List (Addr × Obj)} {H : Hp} {s s' : Shared} {e : Value} (tk : Takes X W) (I : Inv X pins σ H s) (hE : ∀ cls d H', E cls d H' → W cls d σ H') (c : L2.CX X.prog X.w X.stack H s E e s') : X.xe e s' := tk e s' (XE.of_call I hE c)

section
variable {X : Cx} {W : WX} {pos : Pos} {k : Nat} {f : Addr} {fd : FuncData} {ps : List Str} {φ : FnD} {xa : Xa}
abbrev gX (X : Cx) : G := ⟨X.K, X.mg⟩
/-- the callee runs -/
theorem run_fng {pins : List (Addr × Obj)} {σ : L2.St} {H : Hp} {s : Shared} {Q : VK} {us : List Value} {vs : List V} (F : FnG X.prog X.w X.K X.mg X.base k f fd ps φ) (hr : Room k X.A) (hG : X.A.guards = some []) (hb : Binds X.K fd ps []) (tk : Takes X W)
    (I : Inv X pins σ H s) (r : Vals vs us) (h : spM (gX X) φ vs H Q (fun cls d H' => W cls d σ H')) : wpAny (model X.prog X.w) X.A (call (.ref f) us) (EP X pins σ Q) X.xe s := by
  have hl : us.length = ps.length := by
    obtain ⟨ι, S, ds, r', S', hs, rs, hφ, hf⟩ := id h
    rw [← r.length, ← Rs.length rs]
    exact F.len _ _ _ hφ
  have b := hb s us I.kIn (by rw [List.append_nil]; exact hl)
  rw [List.append_nil] at b
  refine wpAny_call (codeAny_mono (F.run X.A X.stack s H ⟨us, []⟩ us vs Q _ hr hG I.env0 b r h) fun r s' hq => ?_)
  cases r with
  | error e => exact passM tk I (fun _ _ _ z => z) hq
  | ok fl => cases fl <;> first | exact I.after hq | exact False.elim hq
def mCall (φ : FnD) (m : MM (List D)) : MM D := bindM m fun ds _ S => φ ds S
theorem call_step {m : MM (List D)} {σ : L2.St} {H : Hp} {Q : VK} (h : tE (gX X) xa W (mCall φ m) σ H Q) : tA (gX X) xa W m σ H fun vs H1 => spM (gX X) φ vs H1 Q (fun cls d H' => W cls d σ H') := by
  obtain ⟨ι, S, e, r, S', hs, he, hm, hf⟩ := h
  refine stepG hs he hm hf fun ds S1 ι1 H1 vs h1 p1 x1 s1 e1 r1 f1 => ?_
  refine ⟨ι1, S1, ds, r, S', s1, r1, h1, ?_⟩
  cases r with
  | ok d => exact f1
  | ex c fs => exact fun ι' H' C dd gs p x s h1 h2 h3 => f1 ι' H' C dd gs p x s h1 h2 h3
theorem em_call {x : Str} {p : Pos} {e : Expr} {es : List Expr} {m : MM (List D)} (F : FnG X.prog X.w X.K X.mg X.base k f fd ps φ) (hr : Room k X.A) (hG : X.A.guards = some []) (tk : Takes X W) (hm : X.mg x = some (.ref f)) (hk : PySem.W.keepIn X.K (.ref f) = true) (hb : Binds X.K fd ps [])
    (ha : PA X (e :: es) (tA (gX X) xa W m)) (hg : Gl X x := by rfl) (hdb : (x == ("__debug__" : Str)) = false := by decide) (he : starEach (e :: es) X.env = (false, eval e X.env) :: starEach es X.env := by rfl) (hpl : (backTo pos (starEach es X.env)).any (·.1) = false := by rfl) :
    PE X (.Call (.Name x p) (e :: es) [] pos) (tE (gX X) xa W (mCall φ m)) := by
  refine ⟨fun pins s σ H Q I h => wpAny_Call_Name_kw (ld_glob I hg hm ?_ hdb)⟩
  refine PySem.W.callWith_K (h₀ := X.base) I.ok.mod.kin hk (thn (ha.run pos pins s σ H _ I (call_step h)) fun us s1 ⟨vs, H1, I1, r, q⟩ => ⟨I1.kIn, ?_⟩) he hpl
  exact run_fng F hr hG hb tk I1 r q
theorem em_call0 {x : Str} {p : Pos} (F : FnG X.prog X.w X.K X.mg X.base k f fd ps φ) (hr : Room k X.A) (hG : X.A.guards = some []) (tk : Takes X W) (hm : X.mg x = some (.ref f)) (hk : PySem.W.keepIn X.K (.ref f) = true) (hb : Binds X.K fd ps []) (hg : Gl X x := by rfl) (hdb : (x == ("__debug__" : Str)) = false := by decide) :
    PE X (.Call (.Name x p) [] [] pos) (tE (gX X) xa W (mCall φ mNil)) := by
  refine ⟨fun pins s σ H Q I h => wpAny_Call_Name_kw (ld_glob I hg hm ?_ hdb)⟩
  obtain ⟨ι, S, e, r, S', hs, he, hm, hf⟩ := h
  refine PySem.W.callWith_K0 I.kIn hk (run_fng (us := []) (vs := []) F hr hG hb tk I .nil ⟨ι, S, [], r, S', hs, .nil, hm, ?_⟩)
  cases r with
  | ok d => exact hf
  | ex c fs => exact fun ι' H' C dd gs p x s h1 h2 h3 => hf ι' H' C dd gs p x s h1 h2 h3
end
end DD

set_option Elab.async false
set_option linter.all false
set_option maxRecDepth 100000
namespace DD
open PySem PySem.Spec PyProof.Rows L2

abbrev TyN := String ⊕ Str
/-- what is known of the classes -/
structure Tab where
  kit : TyN → TyN → Option Bool
  catches : Str → Str → Option Bool
  attr : Str → Str → Bool
  ins : Str → Bool
  exc : Str → Bool
  xattr : Str → Str → Bool
def ValOf (g : G) (t : TyN) (v : Value) : Prop := match t with
  | .inl n => v = .type n
  | .inr x => ∃ C, g.mg x = some (.ref C) ∧ v = .ref C
/-- what isinstance asks of an instance's class -/
structure InsK (K : PySem.W.Frag) (C : Addr) : Prop where
  cl : Cls K C
  ha : PySem.W.findIn K (.ref C) "__class__" = some (some (.builtin "object.__class__"))
  hn : PySem.W.specialIn K (.builtin "object.__class__") "__get__" = some (some (.builtin "getset_descriptor.__get__"))
  ht : PySem.W.takesIn K (.builtin "object.__class__") = some true
  hm : PySem.W.mroIn K C (.type "object") = some true
structure Facts (g : G) (T : Tab) : Prop where
  kit : ∀ t c b tv cv, T.kit t c = some b → ValOf g t tv → ValOf g c cv → PySem.W.kitOne g.K tv cv = some b
  attr : ∀ c f C, T.attr c f = true → g.mg c = some (.ref C) → Cls g.K C ∧ NoAttr g.K C f
  ins : ∀ c C, T.ins c = true → g.mg c = some (.ref C) → InsK g.K C
  exc : ∀ c C, T.exc c = true → g.mg c = some (.ref C) → ExcC g.K C
  xattr : ∀ c f C, T.xattr c f = true → g.mg c = some (.ref C) → XfC g.K C ∧ PySem.W.findIn g.K (.ref C) f = some none

def tyOf (T : Tab) (d : D) (S : So) : Option TyN := match d with
  | .non => some (.inl "NoneType")
  | .bl _ => some (.inl "bool")
  | .int _ => some (.inl "int")
  | .str _ => some (.inl "str")
  | .tup _ => some (.inl "tuple")
  | .rol _ => some (.inl "list")
  | .ref n => match S[n]? with
    | some (.lst _) => some (.inl "list")
    | some (.dct _) => some (.inl "dict")
    | some (.ins c _) => if T.ins c = true then some (.inr c) else none
    | _ => none
  | _ => none
def clsN (d : D) : Option TyN := match d with
  | .ty n => some (.inl n)
  | .glo x => some (.inr x)
  | _ => none
def kitAll (T : Tab) (t : TyN) : List D → Option Bool
  | [] => some false
  | c :: cs => match clsN c with
    | some n => match T.kit t n, kitAll T t cs with
      | some b, some r => some (b || r)
      | _, _ => none
    | none => none
def fIsi (T : Tab) : FA := fun ds S => match ds with
  | [x, .tup cs] => match tyOf T x S with
    | some t => (kitAll T t cs).map fun b => (.bl b, S)
    | none => none
  | [x, c] => match tyOf T x S, clsN c with
    | some t, some n => (T.kit t n).map fun b => (.bl b, S)
    | _, _ => none
  | _ => none
section
variable {X : Cx} {g : G} {xa : Xa} {W : WX} {pos : Pos} {ι : List Addr} {H : Hp} {T : Tab}
theorem frz_ty {a : Addr} {xs : List V} (q : SqF g.K H a xs) : TyX g.K H (.ref a) (.type "list") := by
  rcases q with ⟨o, q⟩ | ⟨o, its, n, h1, h2, _⟩
  · exact .base (.frz q)
  · exact .kList h1 h2
theorem tup_ty {a : Addr} {xs : List V} (q : SqU g.K H a xs) : TyX g.K H (.ref a) (.type "tuple") := by
  rcases q with q | ⟨o, its, n, h1, h2, _⟩
  · exact .base (.tup q)
  · exact .kTuple h1 h2
theorem tyOf_R (F : Facts g T) {d : D} {S : So} {v : V} {t : TyN} (s : Sim g ι S H) (r : R g ι H d v) (h : tyOf T d S = some t) : ∃ tv, ValOf g t tv ∧ TyX g.K H v tv := by
  unfold tyOf at h
  split at h
  · cases h; cases r; exact ⟨_, rfl, .base .non⟩
  · cases h; cases r; exact ⟨_, rfl, .base (.bl _)⟩
  · cases h; cases r; exact ⟨_, rfl, .base (.int _)⟩
  · cases h; cases r; exact ⟨_, rfl, .base (.str _)⟩
  · cases h
    cases r with
    | tup h1 h2 => exact ⟨_, rfl, tup_ty h1⟩
  · cases h
    cases r with
    | rol h1 h2 => exact ⟨_, rfl, frz_ty h1⟩
  · rename_i n
    cases r with
    | ref q =>
      split at h
      · rename_i xs e
        cases h
        obtain ⟨vs, h1, _⟩ := lst_here s q e
        exact ⟨_, rfl, .base (.lst h1)⟩
      · rename_i kvs e
        cases h
        obtain ⟨vs, h1, _⟩ := s.obj _ _ _ q e
        exact ⟨_, rfl, .base (.dK h1)⟩
      · rename_i c fs e
        split at h
        · rename_i hc
          cases h
          obtain ⟨C, dx, gs, h1, h2, _⟩ := s.obj _ _ _ q e
          have k := F.ins c C hc h2
          exact ⟨.ref C, ⟨C, h2, rfl⟩, .base (.ins h1 k.cl k.ha k.hn k.ht k.hm)⟩
        · cases h
      · cases h
  · cases h
theorem cls_R {d : D} {v : V} {n : TyN} (r : R g ι H d v) (h : clsN d = some n) (hc : ∃ tv, ValOf g n tv) : ∃ cv, ValOf g n cv ∧ ClsV v cv := by
  unfold clsN at h
  split at h
  · cases h; cases r; exact ⟨_, rfl, .ty _⟩
  · cases h
    cases r with
    | glo h1 h2 =>
      obtain ⟨tv, C, h3, _⟩ := hc
      rw [h1] at h3
      cases h3
      cases v with
      | ref a => cases h2; exact ⟨_, ⟨_, h1, rfl⟩, .own _⟩
      | non => cases h2
      | bl _ => cases h2
      | int _ => obtain ⟨_, q⟩ := h2; cases q
      | str _ => obtain ⟨_, q⟩ := h2; cases q
      | byt _ => obtain ⟨_, q⟩ := h2; cases q
      | flt _ => obtain ⟨_, q⟩ := h2; cases q
      | ty _ => cases h2
  · cases h
/-- a class that is named is one -/
def Named (g : G) (T : Tab) : Prop := ∀ t n b, T.kit t n = some b → ∃ cv, ValOf g n cv
theorem kitAll_R (F : Facts g T) (nm : Named g T) {t : TyN} {tv : Value} (ht : ValOf g t tv) : ∀ {cs : List D} {vs : List V} {b : Bool}, Rs g ι H cs vs → kitAll T t cs = some b → ∃ us, Paired ClsV vs us ∧ PySem.W.kitAny g.K tv us = some b
  | [], _, b, r, h => by
    cases r
    cases h
    exact ⟨[], .nil, kitAny_nil⟩
  | c :: cs, _, b, r, h => by
    cases r with
    | cons r1 r2 =>
      unfold kitAll at h
      split at h
      · rename_i n e1
        split at h
        · rename_i b1 b2 e2 e3
          cases h
          obtain ⟨cv, h1, h2⟩ := cls_R r1 e1 (nm t n b1 e2)
          obtain ⟨us, h3, h4⟩ := kitAll_R F nm ht r2 e3
          refine ⟨cv :: us, .cons h2 h3, kitAny_cons (F.kit t n b1 tv cv e2 ht h1) (fun z => ?_) fun z => ?_⟩
          · subst z; rw [Bool.false_or]; exact h4
          · subst z; rfl
        · cases h
      · cases h
theorem f_isi (F : Facts g T) (nm : Named g T) : OpA g (fun xs H Q => rIsi g.K xs H Q ∨ rIsiT g.K xs H Q ∨ rIsiK g.K xs H Q) (fIsi T) := fun ι S S' H a d x Q s r hf hd => by
  unfold fIsi at hf
  split at hf
  · rename_i y cs
    cases r with
    | cons r1 r =>
      cases r with
      | cons r2 r =>
        cases r
        split at hf
        · rename_i t et
          cases hk : kitAll T t cs with
          | none => rw [hk] at hf; cases hf
          | some b =>
            rw [hk] at hf
            cases hf
            obtain ⟨tv, h1, h2⟩ := tyOf_R F s r1 et
            cases r2 with
            | tup q1 q2 =>
              obtain ⟨us, h3, h4⟩ := kitAll_R F nm h1 q2 hk
              rcases q1 with q1 | ⟨o, its, n, k1, k2, k3, _, k4⟩
              · exact .inr (.inl ⟨_, _, _, tv, us, b, rfl, q1, h3, h2, h4, hd.here s (.bl _)⟩)
              · have e : its.toList = us := ClsV.all h3 k4
                obtain ⟨oc, od, dt, sl⟩ := o
                dsimp only at k2 k3
                subst k2 k3 e
                exact .inr (.inr ⟨_, _, od, its.toList, n, sl, tv, b, rfl, by rw [Array.toArray_toList]; exact k1, h2, h4, hd.here s (.bl _)⟩)
        · cases hf
  · rename_i y c hn
    cases r with
    | cons r1 r =>
      cases r with
      | cons r2 r =>
        cases r
        split at hf
        · rename_i t n et en
          cases hk : T.kit t n with
          | none => rw [hk] at hf; cases hf
          | some b =>
            rw [hk] at hf
            cases hf
            obtain ⟨tv, h1, h2⟩ := tyOf_R F s r1 et
            obtain ⟨cv, h3, h4⟩ := cls_R r2 en (nm t n b hk)
            exact .inl ⟨_, _, tv, cv, b, rfl, h4, h2, F.kit t n b tv cv hk h1 h3, hd.here s (.bl _)⟩
        · cases hf
  · cases hf
end
end DD

set_option Elab.async false
set_option linter.all false
set_option maxRecDepth 100000
namespace DD
open PySem PySem.Spec PyProof.Rows L2
section
variable {X : Cx} {g : G} {xa : Xa} {W : WX} {pos : Pos} {ι : List Addr} {H : Hp} {T : Tab}
/-! ### isinstance, repr, join, all, any -/
theorem call_isiM (hK : X.K = g.K) : CallR X (.builtin "isinstance") (fun xs H Q => rIsi g.K xs H Q ∨ rIsiT g.K xs H Q ∨ rIsiK g.K xs H Q) := by
  rw [← hK]; exact call_isi.or (call_isiT.or call_isiK)
/-- a built-in class as a value -/
theorem em_ty {x : Str} {n : String} (hm : X.mg x = none) (hv : bootBuiltins x = some (.type n) := by decide +kernel) (hg : Gl X x := by rfl) (hn : x ≠ "__name__" := by decide) (hd : (x == ("__debug__" : Str)) = false := by decide) : PE X (.Name x pos) (tE g xa W (retM (.ty n))) :=
  em_const (pe_bltn (v := .ty n) hg hm hv rfl hn hd) fun _ _ => .ty n
def okShow (p : PyData) : Bool := p.showable && (!p.hasDict && (decide (p.depth ≤ 64) && decide (p.shown.length ≤ sizeLine)))
def fRepr : FA := fun ds S => match ds with
  | [a] => match py a S with
    | some p => if okShow p = true then some (.str p.shown, S) else none
    | none => none
  | _ => none
def rRepr (K : PySem.W.Frag) : List V → Hp → VK → Prop := fun xs H Q => ∃ x p, xs = [x] ∧ Dp K H x p ∧ okShow p = true ∧ Q (.str p.shown) H
theorem call_reprM (hG : X.A.guards = some []) (hu : X.A.units + 66 < cLine) : CallR X (.builtin "repr") (rRepr X.K) := by
  intro pins s σ H xs us Q I r h
  obtain ⟨x, p, rfl, hd, ok, q⟩ := h
  obtain ⟨u, rfl, ru⟩ := vals1 r
  unfold okShow at ok
  simp only [Bool.and_eq_true, Bool.not_eq_true', decide_eq_true_eq] at ok
  obtain ⟨o1, o2, o3, o4⟩ := ok
  obtain ⟨as, rd⟩ := Dp.reads I p x u hd ru
  cases hd with
  | non => cases ru; exact PySem.P.repr_of_none ⟨V.str _, H, I.tok _, ⟨_, rfl⟩, by rw [PyData.shown_none] at q; exact q⟩
  | bl b =>
    cases ru
    rw [PyData.shown_bool] at q
    cases b with
    | true => exact PySem.P.repr_of_bool (b := true) ⟨V.str _, H, I.tok _, ⟨_, rfl⟩, q⟩
    | false => exact PySem.P.repr_of_bool (b := false) ⟨V.str _, H, I.tok _, ⟨_, rfl⟩, q⟩
  | int i =>
    obtain ⟨t, rfl⟩ := ru
    rw [PyData.shown_int] at q
    exact PySem.P.repr_of_int (by simpa [PyData.showable] using o1) ⟨V.str _, H, I.tok _, ⟨_, rfl⟩, q⟩
  | str z =>
    obtain ⟨t, rfl⟩ := ru
    rw [PyData.shown_str] at q o4
    exact PySem.P.repr_of_str ⟨V.str _, H, I.tok _, ⟨_, rfl⟩, q⟩ o4
  | lst h1 h2 =>
    cases ru
    exact repr_of_reads' rd o1 (PyData.noDict_hsm o2) hG (by omega) (fun _ _ e => e) (fun h' u tk hk => ⟨V.str _, H, I.kept (t' := tk) hk, ⟨u, rfl⟩, q⟩) o4
  | tup h1 h2 =>
    cases ru
    exact repr_of_reads' rd o1 (PyData.noDict_hsm o2) hG (by omega) (fun _ _ e => e) (fun h' u tk hk => ⟨V.str _, H, I.kept (t' := tk) hk, ⟨u, rfl⟩, q⟩) o4
theorem f_repr : OpA g (rRepr g.K) fRepr := fun ι S S' H a d x Q s r hf hd => by
  unfold fRepr at hf
  split at hf
  · split at hf
    · rename_i p e
      split at hf
      · rename_i ok
        cases hf
        cases r with
        | cons r1 r2 => cases r2; exact ⟨_, p, rfl, toPy_R s 9 _ _ p e r1, ok, hd.here s (.str _)⟩
      · cases hf
    · cases hf
  · cases hf
theorem call_reprG (hK : X.K = g.K) (hG : X.A.guards = some []) (hu : X.A.units + 66 < cLine) : CallR X (.builtin "repr") (rRepr g.K) := by rw [← hK]; exact call_reprM hG hu
def strsOf : List D → Option (List Str)
  | [] => some []
  | .str x :: r => (strsOf r).map (x :: ·)
  | _ => none
theorem strsOf_R : ∀ {ds : List D} {vs : List V} {xs : List Str}, Rs g ι H ds vs → strsOf ds = some xs → vs = xs.map V.str
  | [], _, _, r, h => by cases h; cases r; rfl
  | d :: ds, _, xs, r, h => by
    cases d with
    | str z =>
      cases r with
      | cons r1 r2 =>
        have h' : (strsOf ds).map (z :: ·) = some xs := h
        cases e : strsOf ds with
        | none => rw [e] at h'; cases h'
        | some ys =>
          rw [e] at h'
          cases h'
          cases r1
          rw [strsOf_R r2 e]
          rfl
    | _ => cases h
def fJoin : FM := fun a ds S => match a, ds with
  | .str z, [b] => match seqOf b S with
    | some (_, xs) => match strsOf xs with
      | some ys => if (ys.map (·.length)).sum + ys.length * z.length ≤ 16777216 then some (.str (Txt.join z ys), S) else none
      | none => none
    | none => none
  | _, _ => none
theorem f_join : OpM g (fun x xs H Q => ∃ a p, ∃ ys : List Str, x = .str a ∧ xs = [.ref p] ∧ (SqL g.K H p (ys.map V.str) ∨ SqT g.K H p (ys.map V.str)) ∧ (ys.map (·.length)).sum + ys.length * a.length ≤ 16777216 ∧ Q (.str (Txt.join a ys)) H) fJoin := fun ι S S' H a b d x y Q s ra rb hf hd => by
  unfold fJoin at hf
  split at hf
  · split at hf
    · rename_i k xs e
      split at hf
      · rename_i ys e2
        split at hf
        · rename_i hl
          cases hf
          cases ra
          cases rb with
          | cons r1 r2 =>
            cases r2
            obtain ⟨p, vs, rfl, r, t1, l1⟩ := seqOf_R e s r1
            have ev := strsOf_R r e2
            subst ev
            refine ⟨_, p, ys, rfl, rfl, ?_, hl, hd.here s (.str _)⟩
            cases k with
            | true => exact .inr (t1 rfl).t
            | false => exact .inl (l1 rfl)
        · cases hf
      · cases hf
    · cases hf
  · cases hf
theorem mt_joinM (hK : X.K = g.K) : MtR X "str.join" (fun x xs H Q => ∃ a p, ∃ ys : List Str, x = .str a ∧ xs = [.ref p] ∧ (SqL g.K H p (ys.map V.str) ∨ SqT g.K H p (ys.map V.str)) ∧ (ys.map (·.length)).sum + ys.length * a.length ≤ 16777216 ∧ Q (.str (Txt.join a ys)) H) := by rw [← hK]; exact mt_join
def blsOf : List D → Option (List Bool)
  | [] => some []
  | .bl x :: r => (blsOf r).map (x :: ·)
  | _ => none
theorem blsOf_R : ∀ {ds : List D} {vs : List V} {xs : List Bool}, Rs g ι H ds vs → blsOf ds = some xs → vs = xs.map V.bl
  | [], _, _, r, h => by cases h; cases r; rfl
  | d :: ds, _, xs, r, h => by
    cases d with
    | bl z =>
      cases r with
      | cons r1 r2 =>
        have h' : (blsOf ds).map (z :: ·) = some xs := h
        cases e : blsOf ds with
        | none => rw [e] at h'; cases h'
        | some ys =>
          rw [e] at h'
          cases h'
          cases r1
          rw [blsOf_R r2 e]
          rfl
    | _ => cases h
def fAllB (k : List Bool → Bool) : FA := fun ds S => match ds with
  | [b] => match seqOf b S with
    | some (false, xs) => match blsOf xs with
      | some ys => some (.bl (k ys), S)
      | none => none
    | _ => none
  | _ => none
theorem f_allB {k : List Bool → Bool} : OpA g (fun vs H Q => ∃ (a : Addr) (bs : List Bool), vs = [V.ref a] ∧ SqL g.K H a (bs.map V.bl) ∧ Q (.bl (k bs)) H) (fAllB k) := fun ι S S' H a d x Q s r hf hd => by
  unfold fAllB at hf
  split at hf
  · split at hf
    · rename_i xs e
      split at hf
      · rename_i ys e2
        cases hf
        cases r with
        | cons r1 r2 =>
          cases r2
          obtain ⟨p, vs, rfl, r, t1, l1⟩ := seqOf_R e s r1
          have ev := blsOf_R r e2
          subst ev
          exact ⟨p, ys, rfl, l1 rfl, hd.here s (.bl _)⟩
      · cases hf
    · cases hf
  · cases hf
abbrev fAll : FA := fAllB fun bs => bs.all id
abbrev fAny : FA := fAllB fun bs => bs.any id
theorem call_allM (hK : X.K = g.K) (hc : X.calm = true) : CallR X (.builtin "all") (fun vs H Q => ∃ (a : Addr) (bs : List Bool), vs = [V.ref a] ∧ SqL g.K H a (bs.map V.bl) ∧ Q (.bl (bs.all id)) H) := by rw [← hK]; exact cr_all hc
theorem call_anyM (hK : X.K = g.K) (hc : X.calm = true) : CallR X (.builtin "any") (fun vs H Q => ∃ (a : Addr) (bs : List Bool), vs = [V.ref a] ∧ SqL g.K H a (bs.map V.bl) ∧ Q (.bl (bs.any id)) H) := by rw [← hK]; exact cr_any hc
/-! ### attributes -/
def fFld (T : Tab) (f : Str) : F1 := fun a S => match a with
  | .ref n => match S[n]? with
    | some (.ins c fs) => if T.attr c f = true then (fs.lookup f).map fun d => (d, S) else none
    | _ => none
  | _ => none
theorem em_fld {e : Expr} {f : Str} {m : MM D} (F : Facts g T) (he : PE X e (tE g xa W m)) (hK : X.K = g.K := by rfl) (hb : attributeBase e f X.env (eval e X.env) = eval e X.env := by rfl) : PE X (.Attribute e f pos) (tE g xa W (mOp1 (fFld T f) m)) :=
  (pe_fld he hb).viaM fun σ H Q h => by
    refine op1_step (r := fun x H1 Q => ∃ a C dx fs v, x = .ref a ∧ H1 a = some (.ins C dx fs) ∧ Cls X.K C ∧ NoAttr X.K C f ∧ fs.lookup f = some v ∧ Q v H1) (fun ι S S' H a d x Q s r hf hd => ?_) h
    unfold fFld at hf
    split at hf
    · split at hf
      · rename_i c fs e
        split at hf
        · rename_i ha
          cases hl : fs.lookup f with
          | none => rw [hl] at hf; cases hf
          | some z =>
            rw [hl] at hf
            cases hf
            cases r with
            | ref q =>
              obtain ⟨C, dx, gs, h1, h2, h3⟩ := s.obj _ _ _ q e
              obtain ⟨v, h4, h5⟩ := h3.look hl
              obtain ⟨k1, k2⟩ := F.attr c f C ha h2
              rw [hK]
              exact ⟨_, C, dx, gs, v, rfl, h1, k1, k2, h4, hd.here s h5⟩
        · cases hf
      · cases hf
    · cases hf
/-- o.f = e -/
def fldS (T : Tab) (f : Str) (mv mo : MM D) : MS := bindS mv fun v => bindS mo fun o e S => match o with
  | .ref n => match S[n]? with
    | some (.ins c fs) => if T.attr c f = true ∧ fs.length < 1000 then some (.nx, e, S.set n (.ins c (putD f v fs))) else none
    | _ => none
  | _ => none
theorem sm_fld {o e : Expr} {f : Str} {p' : Pos} {mv mo : MM D} (F : Facts g T) (he : PE X e (tE g xa W mv)) (ho : PE X o (tE g xa W mo)) (hK : X.K = g.K := by rfl) (hs : swapsWith e (some (.Attribute o f p')) pos.line X.env = pure false := by rfl) :
    PS X (.Assign [.Attribute o f p'] e pos) (tS g xa W (fldS T f mv mo)) := (ps_fld ho he hs).viaM fun Dd σ H h => by
  obtain ⟨ι, S, e, f', e', S', hs, he, hm, hf⟩ := h
  refine stepS hs he hm hf fun v S1 ι1 H1 vv h1 p1 x1 s1 e1 r1 f1 => ?_
  refine stepS s1 e1 h1 f1 fun o S2 ι2 H2 ov h2 p2 x2 s2 e2 r2 f2 => ?_
  split at h2
  · split at h2
    · rename_i c fs q
      split at h2
      · rename_i hc
        cases h2
        cases r2 with
        | ref qa =>
          obtain ⟨C, dx, gs, h3, h4, h5⟩ := s2.obj _ _ _ qa q
          obtain ⟨k1, k2⟩ := F.attr c f C hc.1 h4
          rw [hK]
          refine ⟨_, C, dx, gs, rfl, h3, k1, k2, by rw [← h5.length]; exact hc.2, ?_⟩
          have xw : Ex H2 (upd H2 _ (.ins C dx (putF f vv gs))) := Ex.wr h3 (fun _ z => by cases z) (fun _ _ z => by cases z) fun _ z => by cases z
          obtain ⟨sw, _⟩ := s2.wr (o' := .ins c (putD f v fs)) (q := .ins C dx (putF f vv gs)) qa ⟨C, dx, _, upd_same, h4, (h5.mono (Pre.refl _) xw).put (R.mono (Pre.refl _) xw _ _ (R.mono p2 x2 _ _ r1))⟩ xw
          exact f2 ι2 _ (Pre.refl _) xw sw σ (e2.mono (Pre.refl _) xw)
      · cases h2
    · cases h2
  · cases h2
end

/-! ### own instances made -/
section
variable {X : Cx} {W : WX} {pos : Pos} {k : Nat} {f C : Addr} {fd : FuncData} {ps : List Str} {φ : FnD} {xa : Xa}
theorem guards_make {A : Around} {args : Args} (h : A.guards = some []) : (A.under (.builtin "type.__call__" args)).guards = some [] := by
  have e : pushGuards (Code.builtin "type.__call__" args).guards A.guards = A.guards := by
    first | rfl | simp [Code.guards, Code.isGuard, guardIds, pushGuards]
  exact e.trans h
def makeF (c : Str) (φ : FnD) : FnD := fun ds S => match φ (.ref S.length :: ds) (S ++ [.ins c []]) with
  | some (.ok .non, S') => some (.ok (.ref S.length), S')
  | some (.ex c fs, S') => some (.ex c fs, S')
  | _ => none
theorem run_makeM {x : Str} {pins : List (Addr × Obj)} {σ : L2.St} {H : Hp} {s : Shared} {Q : VK} {us : List Value} {vs : List V} (M : Mk X.K C f) (F : FnG X.prog X.w X.K X.mg X.base k f fd ps φ) (hr : Room (k + 1) X.A) (hG : X.A.guards = some []) (hm : X.mg x = some (.ref C)) (hb : Binds X.K fd ps []) (tk : Takes X W)
    (I : Inv X pins σ H s) (r : Vals vs us) (h : spM (gX X) (makeF x φ) vs H Q (fun cls d H' => W cls d σ H')) : wpAny (model X.prog X.w) X.A (call (.ref C) us) (EP X pins σ Q) X.xe s := by
  obtain ⟨ι, S, ds, re, S', hs, rs, hφ, hf⟩ := h
  have nx : H (s.heap.objs.size + 1) = none := I.hok.fresh (Nat.le_succ _)
  have nd : H s.heap.objs.size = none := I.hok.fresh (Nat.le_refl _)
  have ne : s.heap.objs.size ≠ s.heap.objs.size + 1 := Nat.ne_of_lt (Nat.lt_succ_self _)
  have I2 := Inv.made (C := C) I
  have sD : Sim (gX X) ι S (upd H s.heap.objs.size (.own (s.heap.objs.size + 1))) := hs.tup nd
  have nx2 : upd H s.heap.objs.size (.own (s.heap.objs.size + 1)) (s.heap.objs.size + 1) = none := by rw [upd_ne (Ne.symm ne)]; exact nx
  have xD : Ex H (upd H s.heap.objs.size (.own (s.heap.objs.size + 1))) := Ex.new nd
  have xN := xD.trans (Ex.new (o := .ins C s.heap.objs.size []) nx2)
  have sN : Sim (gX X) (ι ++ [s.heap.objs.size + 1]) (S ++ [.ins x []]) (upd (upd H s.heap.objs.size (.own (s.heap.objs.size + 1))) (s.heap.objs.size + 1) (.ins C s.heap.objs.size [])) :=
    sD.new (Ex.new nx2) (fun n a q => upd_ne (sD.fresh nx2 q)) nx2 ⟨C, _, [], upd_same, hm, .nil⟩
  have aN : (ι ++ [s.heap.objs.size + 1])[S.length]? = some (s.heap.objs.size + 1) := hs.newAt
  have pN := Pre.app ι [s.heap.objs.size + 1]
  have r2 : Vals (V.ref (s.heap.objs.size + 1) :: vs) (Value.ref (s.heap.objs.size + 1) :: us) := .cons rfl r
  unfold makeF at hφ
  have lenA : (Value.ref (s.heap.objs.size + 1) :: us).length = ps.length := by
    rw [← r2.length]
    cases q : φ (.ref S.length :: ds) (S ++ [.ins x []]) with
    | none => rw [q] at hφ; cases hφ
    | some z =>
      have := F.len _ _ _ q
      rw [← this]
      simp [Rs.length rs]
  have bnd := hb ({ s with heap := (s.heap.push PySem.W.emptyDict).push (PySem.W.instObj C s.heap.objs.size) }) (Value.ref (s.heap.objs.size + 1) :: us) I2.kIn (by rw [List.append_nil]; exact lenA)
  rw [List.append_nil] at bnd
  have sp : spM (gX X) φ (V.ref (s.heap.objs.size + 1) :: vs) (upd (upd H s.heap.objs.size (.own (s.heap.objs.size + 1))) (s.heap.objs.size + 1) (.ins C s.heap.objs.size [])) (fun v H2 => v = .non ∧ Q (.ref (s.heap.objs.size + 1)) H2) (fun cls d H' => W cls d σ H') := by
    split at hφ
    · rename_i S2 q
      cases hφ
      refine ⟨_, _, _, _, _, sN, .cons (.ref aN) (Rs.mono pN xN _ _ rs), q, fun ι' H' v p x s r => ?_⟩
      cases r
      exact ⟨rfl, hf ι' H' _ (pN.trans p) (xN.trans x) s (.ref (p _ _ aN))⟩
    · rename_i c fs S2 q
      cases hφ
      exact ⟨_, _, _, _, _, sN, .cons (.ref aN) (Rs.mono pN xN _ _ rs), q, fun ι' H' C' dd gs p x s => hf ι' H' C' dd gs (pN.trans p) (xN.trans x) s⟩
    · cases hφ
  refine wpAny_call (make_map (f := f) I.kIn M.makes M.init (beq_iff_eq.mp M.fn) (codeAny_mono (F.run _ X.stack _ _ ⟨Value.ref (s.heap.objs.size + 1) :: us, []⟩ _ _ _ _ (hr.make C us []) (guards_make hG) (I2.env0.make C us []) bnd r2 sp) fun res s' hq => ?_))
  cases res with
  | error e => exact passM tk I2 (fun _ _ _ z => z) hq
  | ok fl => cases fl with
    | ret u =>
      obtain ⟨v, H', I3, rv, ev, q3⟩ := I2.after hq
      subst ev
      exact ⟨rv, ⟨V.ref (s.heap.objs.size + 1), H', I3, rfl, q3⟩⟩
    | next => exact False.elim hq
    | brk => exact False.elim hq
    | cont => exact False.elim hq
theorem em_make {x : Str} {p : Pos} {e : Expr} {es : List Expr} {m : MM (List D)} (M : Mk X.K C f) (F : FnG X.prog X.w X.K X.mg X.base k f fd ps φ) (hr : Room (k + 1) X.A) (hG : X.A.guards = some []) (tk : Takes X W) (hm : X.mg x = some (.ref C)) (hb : Binds X.K fd ps [])
    (ha : PA X (e :: es) (tA (gX X) xa W m)) (hg : Gl X x := by rfl) (hdb : (x == ("__debug__" : Str)) = false := by decide) (he : starEach (e :: es) X.env = (false, eval e X.env) :: starEach es X.env := by rfl) (hpl : (backTo pos (starEach es X.env)).any (·.1) = false := by rfl) :
    PE X (.Call (.Name x p) (e :: es) [] pos) (tE (gX X) xa W (mCall (makeF x φ) m)) := by
  refine ⟨fun pins s σ H Q I h => wpAny_Call_Name_kw (ld_glob I hg hm ?_ hdb)⟩
  refine PySem.W.callWith_K (h₀ := X.base) I.ok.mod.kin M.kp (thn (ha.run pos pins s σ H _ I (call_step h)) fun us s1 ⟨vs, H1, I1, r, q⟩ => ⟨I1.kIn, ?_⟩) he hpl
  exact run_makeM M F hr hG hm hb tk I1 r q
/-- o.m(e, ..), the class of o is named c -/
def mMth (c m : Str) (φ : FnD) (mo : MM D) (ma : MM (List D)) : MM D := bindM mo fun o e S => match o with
  | .ref n => match S[n]? with
    | some (.ins c' fs) => if c' = c ∧ fs.lookup m = none then bindM ma (fun ds _ S => φ (.ref n :: ds) S) e S else none
    | _ => none
  | _ => none
theorem em_meth {c m : Str} {o e : Expr} {es : List Expr} {apos : Pos} {mo : MM D} {ma : MM (List D)} {pl : Sem Bool} (he : PE X o (tE (gX X) xa W mo)) (cl : Cls X.K C) (hm : Meth X.K C m f) (hC : X.mg c = some (.ref C)) (F : FnG X.prog X.w X.K X.mg X.base k f fd ps φ) (hr : Room k X.A) (hG : X.A.guards = some []) (tk : Takes X W) (hb : Binds X.K fd ps []) (ha : PA X (e :: es) (tA (gX X) xa W ma))
    (hst : starEach (e :: es) X.env = (false, eval e X.env) :: starEach es X.env := by rfl) (hpl : (backTo pos (starEach es X.env)).any (·.1) = false := by rfl)
    (ht : eval (.Call (.Attribute o m apos) (e :: es) [] pos) X.env = (do
      let ov ← eval o X.env
      standAt apos.atName
      let (f, first) ← holding [ov] (getMethod ov m pl)
      callWith pos f first (backTo pos (starEach (e :: es) X.env)) (backToKw pos (keywordEach [] X.env))) := by rfl) :
    PE X (.Call (.Attribute o m apos) (e :: es) [] pos) (tE (gX X) xa W (mMth c m φ mo ma)) := by
  refine ⟨fun pins s σ H Q I h => ?_⟩
  obtain ⟨ι, S, ev, r, S', hs, hev, hmm, hf⟩ := h
  refine PySem.W.methodCall_KW (pl := pl) (thn (he.run pins s σ H (fun v H1 => ∃ a dx fs, v = .ref a ∧ H1 a = some (.ins C dx fs) ∧ fs.lookup m = none ∧ tA (gX X) xa W ma σ H1 fun vs H2 => spM (gX X) φ (.ref a :: vs) H2 Q (fun cls d H' => W cls d σ H')) I (stepG hs hev hmm hf fun d S1 ι1 H1 v h1 p1 x1 s1 e1 r1 f1 => ?_)) fun u s1 hu => ?_) ht
  · split at h1
    · rename_i n
      split at h1
      · rename_i c' fs q
        split at h1
        · rename_i hcc
          obtain ⟨hc1, hl⟩ := hcc
          subst hc1
          cases r1 with
          | ref qa =>
            obtain ⟨C', dx, gs, h3, h4, h5⟩ := s1.obj _ _ _ qa q
            have eC : C' = C := by
              have z : X.mg c' = some (.ref C') := h4
              rw [hC] at z
              cases z
              rfl
            subst eC
            refine ⟨_, dx, gs, rfl, h3, h5.look_none hl, ?_⟩
            refine stepG s1 e1 h1 f1 fun ds S2 ι2 H2 vs h6 p2 x2 s2 e2 r2 f2 => ?_
            refine ⟨ι2, S2, _, r, S', s2, .cons (.ref (p2 _ _ qa)) r2, h6, ?_⟩
            cases r with
            | ok d => exact f2
            | ex c fs => exact fun ι' H' C dd gs p x s h1 h2 h3 => f2 ι' H' C dd gs p x s h1 h2 h3
        · cases h1
      · cases h1
    · cases h1
  · obtain ⟨v, H1, I1, rx, a, dx, fs, rfl, ea, l, q⟩ := hu
    obtain rfl : u = Value.ref a := rx
    refine getmeth_ok I1 ea cl hm l ?_
    refine PySem.W.callWith_K (first := [.ref a]) (h₀ := X.base) I.ok.mod.kin hm.kp (thn (ha.run pos pins s1 σ H1 _ I1 q) fun us s2 ⟨vs, H2, I2, r, q2⟩ => ⟨I2.kIn, ?_⟩) hst hpl
    exact run_fng (us := .ref a :: us) (vs := .ref a :: vs) F hr hG hb tk I2 (.cons rfl r) q2
end
end DD

set_option Elab.async false
set_option linter.all false
set_option maxRecDepth 100000
set_option maxHeartbeats 2000000
namespace DD
open PySem PySem.Spec PyProof.Rows L2 PySem.HandSPX PySem.W
section
variable {M : Model} {prog : Program} {w : World} {A : Around} {E : Value → Shared → Prop} {R : Result → Shared → Prop} {h : Heap} {g : Array GenState} {d : Drawn} {t : Nat} {os : OsState}
variable {nm q : Str} {C N : Addr} {bs bm bmB : List Value} {hdct : Bool} {sn : List Str} {sub : List Value} {ab : Bool} {col : Option Bool} {dd : Option Addr} {k0 k1 k2 k3 k5 : Option Value} {B newId initId : String} {kw : List (Str × Value)} {rest : List Value}

theorem kchk_new (F : ExcBaseFacts B newId initId bmB) (hT : ∀ X : String, bm.contains (.type X) = bmB.contains (.type X)) {Q : Unit → Shared → Prop}
    (hC : h.get? C = some (excClassObj nm q C N bs bm hdct sn sub ab col dd k0 k1 k2 k3 k5 newId)) (hq : Q () ⟨h, g, d, t, os⟩) : wpAny M A
      (checkBuiltinCall newId ⟨.ref C :: rest, kw⟩) Q E ⟨h, g, d, t, os⟩ := by
  have isB : (Value.ref C :: bm).contains (.type B) = true := by
    rw [List.contains_cons, hT, F.hasB, Bool.or_true]
  have noS := F.noStar
  simp only [checkBuiltinCall, F.newKind, F.newSplit, F.newRow]
  repeat (first
    | refine wpAny_loadPart_at hC ?_
    | (refine wpAny_isSubtype_exc hC ?_; rw [isB])
    | refine wpAny_staticBase_exc hC ?_
    | refine wpAny_madeBy_exc hC ?_
    | simp only [bne_self_eq_false, Bool.false_eq_true, if_false]
    | wp_step)
  exact hq
theorem kchk_call {Q : Unit → Shared → Prop} (hC : h.get? C = some (excClassObj nm q C N bs bm hdct sn sub ab col dd k0 k1 k2 k3 k5 newId))
    (hq : Q () ⟨h, g, d, t, os⟩) : wpAny M A
      (checkBuiltinCall "type.__call__" ⟨.ref C :: rest, kw⟩) Q E ⟨h, g, d, t, os⟩ := by
  have f3 := tc_sub
  have isT : (⟨h, g, d, t, os⟩ : Shared).TypeIs (.ref C) "type" := ⟨_, hC, rfl⟩
  simp only [checkBuiltinCall, tc_kind, tc_split]
  repeat (any_goals (first
    | assumption
    | with_reducible refine wpAny_loadPart_at hC ?_
    | with_reducible refine wpAny_onRaise ?_
    | with_reducible refine wpAny_map ?_
    | wp_step))
theorem knew (F : ExcBaseFacts B newId initId bmB) (hT : ∀ X : String, bm.contains (.type X) = bmB.contains (.type X))
    (hC : h.get? C = some (excClassObj nm q C N bs bm hdct sn sub ab col dd k0 k1 k2 k3 k5 newId))
    (hq : R (.ok (.ret (.ref (h.objs.size + 1)))) ⟨(h.push (kdv_tup rest)).push (excO C h.objs.size), g, d, t, os⟩) (hrest : rest.length ≤ sizeLine) :
    codeAny (model prog w) A
      (.builtin newId ⟨.ref C :: rest, kw⟩) R ⟨h, g, d, t, os⟩ := by
  have ends := F.ends
  have isB : (Value.ref C :: bm).contains (.type B) = true := by
    rw [List.contains_cons, hT, F.hasB, Bool.or_true]
  have isA : (Value.ref C :: bm).contains (.type "AttributeError") = false := by
    rw [List.contains_cons, hT, F.noAttr]; rfl
  have isN : (Value.ref C :: bm).contains (.type "NameError") = false := by
    rw [List.contains_cons, hT, F.noName]; rfl
  refine codeAny_builtinAt F.entry ?_
  unfold Builtin.«BaseException.__new__»
  refine PySem.wpAt_bind ?_
  show PySem.wpAt _ _ _ (stack >>= _) _ _ _
  refine PySem.wpAt_bind (PySem.wpAt_stack fun p below => PySem.wpAt_of_wpAny ?_)
  wp_walk
  refine PySem.wpAt_of_wpAny ?_
  rw [F.owner]
  repeat (first
    | with_reducible refine wpAny_madeHere_exc F.canon hC ?_
    | with_reducible refine wpAny_loadPart_at hC ?_
    | (with_reducible refine wpAny_isSubtype_exc hC ?_; first | rw [isB] | rw [isA] | rw [isN])
    | wp_step)
  show R _ _
  rw [Heap.size_push]
  exact hq
theorem ktype_call (F : ExcBaseFacts B newId initId bmB) (hT : ∀ X : String, bm.contains (.type X) = bmB.contains (.type X)) {fI : Addr} {Q : Fin → Shared → Prop}
    (hC : h.get? C = some (excClassObj nm q C N bs bm hdct sn sub ab col dd k0 k1 k2 k3 k5 newId))
    (hi : W.Looks (model prog w) h (typeLookup (.ref C) "__init__") (some (.ref fI)))
    (hb : ∀ self, W.Looks (model prog w) h (bindSpecial (.ref fI) self) (.ref fI, [self])) (hrest : rest.length ≤ sizeLine)
    (hq : codeAny (model prog w) A (.call (.ref fI) ⟨.ref (h.objs.size + 1) :: rest, kw⟩)
      (fun r s' => match r with | .ok (.ret v) => v = .none ∧ Q (.done (.ret (.ref (h.objs.size + 1)))) s' | .ok _ => False | .error e => E e s')
      ⟨(h.push (kdv_tup rest)).push (excO C h.objs.size), g, d, t, os⟩) :
    wpAny (model prog w) A
      (Builtin.«type.__call__» ⟨.ref C :: rest, kw⟩) Q E ⟨h, g, d, t, os⟩ := by
  repeat (first
    | with_reducible refine wpAny_loadPart_at hC ?_
    | with_reducible refine wpAny_madeBy_exc hC ?_
    | wp_step)
  refine codeAny_call_builtin_code (Code.quiet_builtin _ F.quiet) (kchk_new F hT hC ?_)
  refine knew F hT hC ?_ hrest
  show wpAny _ _ _ _ _ _
  have up : ∀ b o, h.get? b = some o → ((h.push (kdv_tup rest)).push (excO C h.objs.size)).get? b = some o := fun b o e =>
    Heap.get?_push_of_some _ (Heap.get?_push_of_some _ e)
  have hC₁ := up _ _ hC
  have here : ((h.push (kdv_tup rest)).push (excO C h.objs.size)).get? (h.objs.size + 1) = some (excO C h.objs.size) := by heap_get
  have isC : (Value.ref C :: bm).contains (.ref C) = true := by simp
  have i1 := hi.keeps up
  have b1 := (hb (.ref (h.objs.size + 1))).keeps up
  unfold isInstance
  repeat (first
    | with_reducible refine wpAny_loadPart_at here ?_
    | (with_reducible refine wpAny_isSubtype_exc hC₁ ?_; rw [isC])
    | wp_step)
  show wpAny _ _ (typeLookup (.ref C) _) _ _ _
  refine i1.at ?_
  refine wpAny_holding (wpAny_bind (b1.at ?_))
  refine wpAny_bind (wpAny_call (codeAny_mono hq fun r s' z => ?_))
  rcases r with e | (v | _ | _ | _) <;> first | exact z | exact z.elim | skip
  obtain ⟨rfl, z⟩ := z
  first
    | exact wpAny_pure (wpAny_pure z)
    | (wp_walk; exact z)
theorem kcall_own (F : ExcBaseFacts B newId initId bmB) (hT : ∀ X : String, bm.contains (.type X) = bmB.contains (.type X)) {fI : Addr}
    (hC : h.get? C = some (excClassObj nm q C N bs bm hdct sn sub ab col dd k0 k1 k2 k3 k5 newId))
    (hi : W.Looks (model prog w) h (typeLookup (.ref C) "__init__") (some (.ref fI)))
    (hb : ∀ self, W.Looks (model prog w) h (bindSpecial (.ref fI) self) (.ref fI, [self])) (hrest : rest.length ≤ sizeLine)
    (hq : codeAny (model prog w) (A.under (.builtin "type.__call__" ⟨.ref C :: rest, kw⟩)) (.call (.ref fI) ⟨.ref (h.objs.size + 1) :: rest, kw⟩) (W.InitBack (h.objs.size + 1) R)
      ⟨(h.push (kdv_tup rest)).push (excO C h.objs.size), g, d, t, os⟩) :
    codeAny (model prog w) A
      (.call (.ref C) ⟨rest, kw⟩) R ⟨h, g, d, t, os⟩ := by
  have f1 := tc_lookup
  have f2 := tc_bind (.ref C)
  have isT : (⟨h, g, d, t, os⟩ : Shared).TypeIs (.ref C) "type" := ⟨_, hC, rfl⟩
  refine codeAny_of_tree ?_
  show wpAny _ _ (callAny (.ref C) _) _ _ _
  repeat (any_goals (first
    | assumption
    | with_reducible refine wpAny_loadPart_at hC ?_
    | wp_step))
  refine ⟨rfl, ?_⟩
  refine codeAny_call_builtin_at (Code.quiet_builtin _ (by decide +kernel)) entry_typeCall (kchk_call hC (ktype_call F hT hC hi hb hrest ?_))
  refine codeAny_mono hq fun r s' z => ?_
  rcases r with e | (v | _ | _ | _) <;> exact z
end
end DD

set_option Elab.async false
set_option linter.all false
set_option maxRecDepth 100000
namespace DD
open PySem PySem.Spec PyProof.Rows L2
/-! ### errors of own classes: made, kept as values, read -/
def stk {α : Type} : List Str → List α → List (Str × α) → List (Str × α)
  | f :: fs, v :: vs, acc => stk fs vs ((f, v) :: acc)
  | _, _, acc => acc
theorem Fs.stk {g : G} {ι : List Addr} {H : Hp} : ∀ (fs : List Str) {ds : List D} {vs : List V} {a : List (Str × D)} {b : List (Str × V)}, Rs g ι H ds vs → Fs g ι H a b → Fs g ι H (DD.stk fs ds a) (DD.stk fs vs b)
  | [], _, _, _, _, r, h => by cases r <;> exact h
  | f :: fs, _, _, _, _, r, h => by
    cases r with
    | nil => exact h
    | cons r1 r2 => exact Fs.stk fs r2 (.cons r1 h)
/-- what the __init__ of an own error class does: it keeps its arguments in the fields fns -/
def spX (K : PySem.W.Frag) (C : Addr) (fns : List Str) : Sp := fun vs H Q _ => ∃ (a : Addr) (ys : List V), vs = .ref a :: ys ∧ ys.length = fns.length ∧ H a = some (exo a C none) ∧
  ∀ d, H d = none → d ≠ a → Q .non (upd (upd H d (L2.exd d (stk fns ys []))) a (exo a C (some d)))
/-- an own error class -/
structure XI (P : Program) (w : World) (K : PySem.W.Frag) (mg : Str → Option Value) (base : Heap) (k : Nat) (C : Addr) (fns : List Str) (fI : Addr) (fd : FuncData) : Prop where
  T : OexC K C
  iC : PySem.W.findIn K (.ref C) "__init__" = some (some (.ref fI))
  tI : PySem.W.typeIn K (.ref fI) = some (.type "function")
  F : FnOk P w K mg base CX0 k fI fd (("self" : Str) :: fns) (spX K C fns)
section
variable {P : Program} {w : World} {K : PySem.W.Frag} {mg : Str → Option Value} {base : Heap}
theorem xi1 {f qual : Str} {st : Stmt} {C fI : Addr} {fd : FuncData} {p1 p2 p3 p4 : Pos} (F : Fun K "__init__" qual st fI fd) (Sc : FnScope ["self", f] ["self", f] (defScope st)) (hb : defBody st = [.Assign [.Attribute (.Name "self" p1) f p2] (.Name f p3) p4])
    (T : OexC K C) (hno : PySem.W.findIn K (.ref C) f = some none) (hv : Vis (defScope st) "self") (hv2 : Vis (defScope st) f) (hd : (f == ("__debug__" : Str)) = false) (hcd : (f == ("__classdict__" : Str)) = false) : FnOk P w K mg base CX0 1 fI fd ["self", f] (spX K C [f]) := by
  refine F.ok (k := 0) Sc (fun vs H Q E h => ?_) fun cdv A outer s H vs Q E hr h => ?_
  · obtain ⟨a, ys, rfl, hl, _⟩ := h
    simp at hl ⊢
    exact hl
  · obtain ⟨a, ys, rfl, hl, e, q⟩ := h
    obtain ⟨y, rfl⟩ : ∃ y, ys = [y] := by
      cases ys with
      | nil => cases hl
      | cons y r => cases r with
        | nil => exact ⟨y, rfl⟩
        | cons _ _ => cases hl
    rw [hb]
    refine ⟨_, pss_one (ps_ost (pe_var (i := 0) rfl hv) (pe_var (i := 1) rfl hv2 hd hcd)), ?_⟩
    exact ⟨y, rfl, .ref a, rfl, a, C, rfl, T, hno, .inl ⟨e, fun dx n ne => q dx n ne⟩⟩
theorem xi2 {f g qual : Str} {st : Stmt} {C fI : Addr} {fd : FuncData} {p1 p2 p3 p4 q1 q2 q3 q4 : Pos} (F : Fun K "__init__" qual st fI fd) (Sc : FnScope ["self", f, g] ["self", f, g] (defScope st)) (hb : defBody st = [.Assign [.Attribute (.Name "self" p1) f p2] (.Name f p3) p4, .Assign [.Attribute (.Name "self" q1) g q2] (.Name g q3) q4])
    (T : OexC K C) (hno : PySem.W.findIn K (.ref C) f = some none) (hno2 : PySem.W.findIn K (.ref C) g = some none) (hv : Vis (defScope st) "self") (hv2 : Vis (defScope st) f) (hv3 : Vis (defScope st) g) (hd : (f == ("__debug__" : Str)) = false) (hcd : (f == ("__classdict__" : Str)) = false) (hd2 : (g == ("__debug__" : Str)) = false) (hcd2 : (g == ("__classdict__" : Str)) = false) :
    FnOk P w K mg base CX0 1 fI fd ["self", f, g] (spX K C [f, g]) := by
  refine F.ok (k := 0) Sc (fun vs H Q E h => ?_) fun cdv A outer s H vs Q E hr h => ?_
  · obtain ⟨a, ys, rfl, hl, _⟩ := h
    simp at hl ⊢
    exact hl
  · obtain ⟨a, ys, rfl, hl, e, q⟩ := h
    obtain ⟨y, z, rfl⟩ : ∃ y z, ys = [y, z] := by
      cases ys with
      | nil => cases hl
      | cons y r => cases r with
        | nil => cases hl
        | cons z r => cases r with
          | nil => exact ⟨y, z, rfl⟩
          | cons _ _ => cases hl
    rw [hb]
    refine ⟨_, pss_cons (ps_ost (pe_var (i := 0) rfl hv) (pe_var (i := 1) rfl hv2 hd hcd)) (pss_one (ps_ost (pe_var (i := 0) rfl hv) (pe_var (i := 2) rfl hv3 hd2 hcd2))), ?_⟩
    refine ⟨y, rfl, .ref a, rfl, a, C, rfl, T, hno, .inl ⟨e, fun dx n ne => ?_⟩⟩
    refine ⟨z, rfl, .ref a, rfl, a, C, rfl, T, hno2, .inr ⟨dx, [(f, y)], upd_same, by rw [upd_ne ne]; exact upd_same, by simp, ?_⟩⟩
    have e2 : upd (upd (upd H dx (L2.exd dx [(f, y)])) a (exo a C (some dx))) dx (L2.exd dx ((g, z) :: [(f, y)])) = upd (upd H dx (L2.exd dx (stk [f, g] [y, z] []))) a (exo a C (some dx)) := by
      funext b
      by_cases hb1 : b = dx
      · subst hb1
        rw [upd_same, upd_ne ne, upd_same]
        rfl
      · by_cases hb2 : b = a
        · subst hb2
          rw [upd_ne hb1, upd_same, upd_same]
        · rw [upd_ne hb1, upd_ne hb2, upd_ne hb1, upd_ne hb2, upd_ne hb1]
    rw [e2]
    exact q dx n ne
end
section
variable {X : Cx} {W : WX} {pos : Pos} {k : Nat} {C fI : Addr} {fd : FuncData} {fns : List Str} {xa : Xa}
def xmkF (c : Str) (fns : List Str) : FnD := fun ds S => if ds.length = fns.length then some (.ok (.ref S.length), S ++ [.exi c (stk fns ds [])]) else none
theorem run_xmk {x : Str} {pins : List (Addr × Obj)} {σ : L2.St} {H : Hp} {s : Shared} {Q : VK} {us rest : List Value} {kw : List (Str × Value)} {vs : List V} (M : XI X.prog X.w X.K X.mg X.base k C fns fI fd) (hr : Room (k + 1) X.A) (hm : X.mg x = some (.ref C)) (tk : Takes X W)
    (hb : ∀ (s : Shared) (v : Value), X.K.In s.heap → us.length = fns.length → BindsTo s fd ⟨v :: rest, kw⟩ ((("self" : Str) :: fns).zip (v :: us))) (hrl : rest.length ≤ sizeLine)
    (I : Inv X pins σ H s) (r : Vals vs us) (h : spM (gX X) (xmkF x fns) vs H Q (fun cls d H' => W cls d σ H')) : wpAny (model X.prog X.w) X.A (call (.ref C) rest kw) (EP X pins σ Q) X.xe s := by
  obtain ⟨ι, S, ds, re, S', hs, rs, hφ, hf⟩ := h
  unfold xmkF at hφ
  split at hφ
  case isFalse => cases hφ
  rename_i hl
  cases hφ
  obtain ⟨nm, q, N, bs, bm, sn, sub, ab, col, dd, k0, k1, k2, k3, k5, hC, hbm⟩ := M.T.cls
  obtain ⟨hp, g, dr, tk', os⟩ := s
  have hsz : hp.objs.size ≤ hp.objs.size + 1 := Nat.le_succ _
  have hn : H (hp.objs.size + 1) = none := I.hok.fresh hsz
  have kk : ∀ b o, hp.get? b = some o → ((hp.push (PySem.W.kdv_tup rest)).push (PySem.HandSPX.excO C hp.objs.size)).get? b = some o := fun b o e => Heap.get?_push_of_some _ (Heap.get?_push_of_some _ e)
  have hget : ((hp.push (PySem.W.kdv_tup rest)).push (PySem.HandSPX.excO C hp.objs.size)).get? (hp.objs.size + 1) = some (PySem.HandSPX.excO C hp.objs.size) := by heap_get
  have I2 : Inv X pins σ (upd H (hp.objs.size + 1) (exo (hp.objs.size + 1) C none)) ⟨(hp.push (PySem.W.kdv_tup rest)).push (PySem.HandSPX.excO C hp.objs.size), g, dr, tk', os⟩ :=
    I.laid (t' := tk') (a := hp.objs.size + 1) (o := exo (hp.objs.size + 1) C none) (h' := (hp.push (PySem.W.kdv_tup rest)).push (PySem.HandSPX.excO C hp.objs.size)) kk hsz (exo_ok hget)
  have r2 : Vals (V.ref (hp.objs.size + 1) :: vs) (Value.ref (hp.objs.size + 1) :: us) := .cons rfl r
  have lv : vs.length = fns.length := by rw [← Rs.length rs, hl]
  have sp : spX X.K C fns (V.ref (hp.objs.size + 1) :: vs) (upd H (hp.objs.size + 1) (exo (hp.objs.size + 1) C none)) (fun v H2 => v = .non ∧ Q (.ref (hp.objs.size + 1)) H2) (fun _ _ _ => False) := by
    refine ⟨_, vs, rfl, lv, upd_same, fun d nd ne => ⟨rfl, ?_⟩⟩
    have nd0 : H d = none := by rw [upd_ne ne] at nd; exact nd
    have same : ∀ b, b ≠ d → b ≠ hp.objs.size + 1 → (upd (upd (upd H (hp.objs.size + 1) (exo (hp.objs.size + 1) C none)) d (L2.exd d (stk fns vs []))) (hp.objs.size + 1) (exo (hp.objs.size + 1) C (some d))) b = H b := fun b h1 h2 => by rw [upd_ne h2, upd_ne h1, upd_ne h2]
    have ex : Ex H (upd (upd (upd H (hp.objs.size + 1) (exo (hp.objs.size + 1) C none)) d (L2.exd d (stk fns vs []))) (hp.objs.size + 1) (exo (hp.objs.size + 1) C (some d))) :=
      ⟨fun b x e => by rw [same b (ne_of_none e nd0) (ne_of_none e hn)]; exact e, fun b u x e => by rw [same b (ne_of_none e nd0) (ne_of_none e hn)]; exact e, fun b x e => by rw [same b (ne_of_none e nd0) (ne_of_none e hn)]; exact e, fun b x e => by rw [same b (ne_of_none e nd0) (ne_of_none e hn)]; exact e⟩
    refine hf (ι ++ [hp.objs.size + 1]) _ _ (Pre.app ι _) ex (hs.new ex (fun n a e => ?_) hn ⟨C, d, _, upd_same, by rw [upd_ne ne]; exact upd_same, hm, ?_⟩) (.ref hs.newAt)
    · exact same a (hs.fresh nd0 e) (hs.fresh hn e)
    · exact Fs.stk fns (Rs.mono (Pre.app ι _) ex _ _ rs) .nil
  have ul : us.length = fns.length := by rw [← r.length, lv]
  have bnd := hb ⟨(hp.push (PySem.W.kdv_tup rest)).push (PySem.HandSPX.excO C hp.objs.size), g, dr, tk', os⟩ (.ref (hp.objs.size + 1)) I2.kIn ul
  refine wpAny_call (kcall_own F.excBase_ValueError (fun Y => PySem.HandSPX.refsVE_contains Y bm hbm) (I.kIn _ _ hC) (PySem.W.looks_findIn I.kIn M.iC) (fun self => PySem.W.bind_fn I.kIn self M.tI) hrl
    (codeAny_mono (M.F.run _ X.stack _ _ ⟨Value.ref (hp.objs.size + 1) :: rest, kw⟩ (Value.ref (hp.objs.size + 1) :: us) _ _ (fun _ _ _ => False) (hr.make C rest kw) (I2.env0.make C rest kw) bnd r2 sp) fun res s' hq => ?_))
  cases res with
  | error e => exact False.elim hq
  | ok fl => cases fl with
    | ret u =>
      obtain ⟨v, H', I3, rv, ev, q3⟩ := I2.after hq
      subst ev
      exact ⟨rv, ⟨V.ref (hp.objs.size + 1), H', I3, rfl, q3⟩⟩
    | next => exact False.elim hq
    | brk => exact False.elim hq
    | cont => exact False.elim hq
theorem em_xmk {x : Str} {p : Pos} {e : Expr} {es : List Expr} {m : MM (List D)} (M : XI X.prog X.w X.K X.mg X.base k C fns fI fd) (hr : Room (k + 1) X.A) (tk : Takes X W) (hm : X.mg x = some (.ref C)) (hb : Binds X.K fd (("self" : Str) :: fns) [])
    (ha : PA X (e :: es) (tA (gX X) xa W m)) (hlen : fns.length ≤ sizeLine := by decide +kernel) (hg : Gl X x := by rfl) (hdb : (x == ("__debug__" : Str)) = false := by decide) (he : starEach (e :: es) X.env = (false, eval e X.env) :: starEach es X.env := by rfl) (hpl : (backTo pos (starEach es X.env)).any (·.1) = false := by rfl) :
    PE X (.Call (.Name x p) (e :: es) [] pos) (tE (gX X) xa W (mCall (xmkF x fns) m)) := by
  refine ⟨fun pins s σ H Q I h => wpAny_Call_Name_kw (ld_glob I hg hm ?_ hdb)⟩
  refine PySem.W.callWith_K (h₀ := X.base) I.ok.mod.kin M.T.kC (thn (ha.run pos pins s σ H _ I (call_step h)) fun us s1 ⟨vs, H1, I1, r, q⟩ => ⟨I1.kIn, ?_⟩) he hpl
  have ul : us.length = fns.length := by
    obtain ⟨ι, S, ds, r', S', hs, rs, hφ, hf⟩ := id q
    unfold xmkF at hφ
    split at hφ
    · rename_i hl; rw [← r.length, ← Rs.length rs, hl]
    · cases hφ
  refine run_xmk M hr hm tk (rest := us) (fun s v hk hl => ?_) (by omega) I1 r q
  have b := hb s (v :: us) hk (by simpa using hl)
  rwa [List.append_nil] at b
/-- C(k = e, ..), the names in the fields' order -/
theorem em_xmkK {x : Str} {p : Pos} {kws : List Keyword} {m : MM (List D)} (M : XI X.prog X.w X.K X.mg X.base k C fns fI fd) (hr : Room (k + 1) X.A) (tk : Takes X W) (hm : X.mg x = some (.ref C))
    (hb : ∀ (s : Shared) (v : Value) (us : List Value), us.length = fns.length → BindsTo s fd ⟨[v], fns.zip us⟩ ((("self" : Str) :: fns).zip (v :: us)))
    (hkw : PK X kws (tA (gX X) xa W m)) (hg : Gl X x := by rfl) (hall : (backToKw pos (keywordEach kws X.env)).all (·.1.isSome) = true := by rfl) (hks : (backToKw pos (keywordEach kws X.env)).filterMap (·.1) = fns := by rfl) (hdb : (x == ("__debug__" : Str)) = false := by decide)
    (hpl : ((backTo pos (starEach [] X.env)).any (·.1) || (backToKw pos (keywordEach kws X.env)).any (·.1.isNone)) = false := by rfl) :
    PE X (.Call (.Name x p) [] kws pos) (tE (gX X) xa W (mCall (xmkF x fns) m)) := by
  refine ⟨fun pins s σ H Q I h => wpAny_Call_Name_kw (ld_glob I hg hm ?_ hdb)⟩
  refine PySem.W.callWith_KW0 (h₀ := X.base) I.ok.mod.kin M.T.kC hall ?_ hpl
  refine thn (hkw.run pos pins s σ H _ I (call_step h)) fun us s1 ⟨vs, H1, I1, r, q⟩ => ⟨I1.kIn, ?_⟩
  rw [hks]
  exact run_xmk (rest := []) M hr hm tk (fun s v hk hl => hb s v us hl) (Nat.zero_le _) I1 r q
theorem km_nil : PK X [] (tA (gX X) xa W mNil) := ⟨fun pos pins s σ H Q I h => pk_nil.run pos pins s σ H Q I (by
  obtain ⟨ι, S, e, r, S', hs, he, hm, hf⟩ := h
  cases hm
  exact hf ι H [] (Pre.refl ι) (Ex.refl H) hs .nil)⟩
theorem km_cons {nm : Option Str} {kpos : Pos} {e : Expr} {es : List Keyword} {m : MM D} {k : MM (List D)} (h : PE X e (tE (gX X) xa W m)) (hr : PK X es (tA (gX X) xa W k)) : PK X (⟨nm, e, kpos⟩ :: es) (tA (gX X) xa W (mCons m k)) := ⟨fun pos pins s σ H Q I h' => (pk_cons h hr).run pos pins s σ H Q I (by
  obtain ⟨ι, S, e, r, S', hs, he, hm, hf⟩ := h'
  refine stepG hs he hm hf fun d S1 ι1 H1 v h1 p1 x1 s1 e1 r1 f1 => ?_
  refine stepG s1 e1 h1 f1 fun ds S2 ι2 H2 vs h2 p2 x2 s2 e2 r2 f2 => ?_
  cases h2
  exact f2 ι2 H2 (v :: vs) (Pre.refl ι2) (Ex.refl H2) s2 (.cons (R.mono p2 x2 _ _ r1) r2))⟩
end
/-! ### what is asked of an error that is held -/
section
variable {X : Cx} {g : G} {xa : Xa} {W : WX} {pos : Pos} {ι : List Addr} {H : Hp} {T : Tab}
theorem exi_inst {pins : List (Addr × Obj)} {σ : L2.St} {s : Shared} {a C d : Addr} {gs : List (Str × V)} (I : Inv X pins σ H s) (e : H a = some (exo a C (some d))) (ed : H d = some (L2.exd d gs)) :
    ∃ (oe : Obj) (od : Obj), PySem.W.InstAt s.heap a oe C (some od) ∧ ∀ f, ∃ u, PySem.W.lookIn f od = some u ∧ RelO (gs.lookup f) u := by
  obtain ⟨t1, ho⟩ := exo_at I.hok e
  obtain ⟨mA, hns, hr⟩ := exd_at I.hok ed
  obtain ⟨od, h1, hl⟩ := lookIn_ns hns
  exact ⟨_, od, ⟨ho, rfl, rfl, h1⟩, fun f => ⟨mA f, by rw [hl], hr f⟩⟩
def rIsiX (K : PySem.W.Frag) : List V → Hp → VK → Prop := fun xs H Q => ∃ (a C d : Addr) (gs : List (Str × V)) (c : V) (cv : Value) (b : Bool), xs = [.ref a, c] ∧ H a = some (exo a C (some d)) ∧ H d = some (L2.exd d gs) ∧ ExcC K C ∧ ClsV c cv ∧ PySem.W.kitOne K (.ref C) cv = some b ∧ Q (.bl b) H
theorem call_isiX (hK : X.K = g.K) : CallR X (.builtin "isinstance") (rIsiX g.K) := by
  rw [← hK]
  intro pins s σ H xs us Q I r h
  obtain ⟨a, C, d, gs, c, cv, b, rfl, ea, ed, E, hc, e, q⟩ := h
  cases r with
  | cons rx rr =>
    cases rr with
    | cons rt rr =>
      cases rr
      cases rx
      obtain ⟨oe, od, J, _⟩ := exi_inst I ea ed
      have ec := ClsV.eq hc rt
      subst ec
      have hcl : (PySem.W.clsIn X.K C).isSome = true := by
        obtain ⟨cd, hc, _⟩ := PySem.W.any_some E.hd
        rw [hc]; rfl
      exact PySem.W.kia_one (PySem.W.kitx_exc hcl E.hg E.hk E.hs E.ha E.hn E.ht E.hm) I.kIn J e (fun z => nomatch z) fun tk => ⟨.bl b, H, I.kept (t' := tk) fun _ _ z => z, rfl, q⟩
theorem f_isiA (F : Facts g T) (nm : Named g T) {f' : FA} (hf' : f' = fun ds S => match ds with
    | [.ref n, c] => match S[n]? with
      | some (.exi cn _) => match clsN c with
        | some nn => if T.exc cn = true then (T.kit (.inr cn) nn).map fun b => (.bl b, S) else none
        | none => none
      | _ => fIsi T ds S
    | _ => fIsi T ds S) : OpA g (fun xs H Q => rIsiX g.K xs H Q ∨ rIsi g.K xs H Q ∨ rIsiT g.K xs H Q ∨ rIsiK g.K xs H Q) f' := fun ι S S' H a d x Q s r hf hd => by
  subst hf'
  dsimp only at hf
  split at hf
  · rename_i n c
    split at hf
    · rename_i cn fs e
      split at hf
      · rename_i nn en
        split at hf
        · rename_i hx
          cases hk : T.kit (.inr cn) nn with
          | none => rw [hk] at hf; cases hf
          | some b =>
            rw [hk] at hf
            cases hf
            cases r with
            | cons r1 r =>
              cases r with
              | cons r2 r =>
                cases r
                cases r1 with
                | ref q =>
                  obtain ⟨C, dd, gs, h1, h2, h3, h4⟩ := s.obj _ _ _ q e
                  obtain ⟨cv, h5, h6⟩ := cls_R r2 en (nm _ _ b hk)
                  exact .inl ⟨_, C, dd, gs, _, cv, b, rfl, h1, h2, F.exc cn C hx h3, h6, F.kit _ _ b _ cv hk ⟨C, h3, rfl⟩ h5, hd.here s (.bl _)⟩
        · cases hf
      · cases hf
    · exact .inr (f_isi F nm ι S S' H _ d x Q s r hf hd)
  · exact .inr (f_isi F nm ι S S' H _ d x Q s r hf hd)
def fIsiA (T : Tab) : FA := fun ds S => match ds with
    | [.ref n, c] => match S[n]? with
      | some (.exi cn _) => match clsN c with
        | some nn => if T.exc cn = true then (T.kit (.inr cn) nn).map fun b => (.bl b, S) else none
        | none => none
      | _ => fIsi T ds S
    | _ => fIsi T ds S
theorem f_isiB (F : Facts g T) (nm : Named g T) : OpA g (fun xs H Q => rIsiX g.K xs H Q ∨ rIsi g.K xs H Q ∨ rIsiT g.K xs H Q ∨ rIsiK g.K xs H Q) (fIsiA T) := f_isiA F nm rfl
theorem call_isiB (hK : X.K = g.K) : CallR X (.builtin "isinstance") (fun xs H Q => rIsiX g.K xs H Q ∨ rIsi g.K xs H Q ∨ rIsiT g.K xs H Q ∨ rIsiK g.K xs H Q) := (call_isiX hK).or (call_isiM hK)
/-- e.f, e an error that is held -/
def fXfld (T : Tab) (f : Str) : F1 := fun a S => match a with
  | .ref n => match S[n]? with
    | some (.exi c fs) => if T.xattr c f = true then (fs.lookup f).map fun d => (d, S) else none
    | _ => none
  | _ => none
theorem em_xfld {e : Expr} {f : Str} {m : MM D} (F : Facts g T) (he : PE X e (tE g xa W m)) (hK : X.K = g.K := by rfl) (hb : attributeBase e f X.env (eval e X.env) = eval e X.env := by rfl) : PE X (.Attribute e f pos) (tE g xa W (mOp1 (fXfld T f) m)) := by
  refine ⟨fun pins s σ H Q I h => ?_⟩
  have h2 := op1_step (r := fun x H1 Q => ∃ (a C d : Addr) (gs : List (Str × V)) (v : V), x = .ref a ∧ H1 a = some (exo a C (some d)) ∧ H1 d = some (L2.exd d gs) ∧ XfC g.K C ∧ PySem.W.findIn g.K (.ref C) f = some none ∧ gs.lookup f = some v ∧ Q v H1) (f := fXfld T f) (fun ι S S' H a d x Q s r hf hd => ?_) h
  · refine attr_of hb (thn (he.run pins s σ H _ I h2) fun u s1 ⟨x, H1, I1, rx, a, C, d, gs, v, ex, ea, ed, k1, k2, l, q⟩ => ?_)
    subst ex
    obtain rfl : u = Value.ref a := rx
    obtain ⟨oe, od, J, hl⟩ := exi_inst I1 ea ed
    obtain ⟨u1, h3, h4⟩ := hl f
    rw [← hK] at k1 k2
    obtain ⟨u, hu, ru⟩ := RelO.some_of (v := v) (o := u1) (by rw [← l]; exact h4)
    subst hu
    exact HandSPX.exc_get I1.kIn J k1.ga k1.gg k1.exC (PySem.W.findObj_own k1.hdC k2 rfl h3) (handed_of ru) ⟨v, H1, I1.tok _, ru, q⟩
  · unfold fXfld at hf
    split at hf
    · split at hf
      · rename_i c fs e
        split at hf
        · rename_i ha
          cases hl : fs.lookup f with
          | none => rw [hl] at hf; cases hf
          | some z =>
            rw [hl] at hf
            cases hf
            cases r with
            | ref q =>
              obtain ⟨C, dx, gs, h1, h2, h3, h4⟩ := s.obj _ _ _ q e
              obtain ⟨v, h5, h6⟩ := h4.look hl
              obtain ⟨k1, k2⟩ := F.xattr c f C ha h3
              exact ⟨_, C, dx, gs, v, rfl, h1, h2, k1, k2, h5, hd.here s h6⟩
        · cases hf
      · cases hf
    · cases hf
end
end DD

set_option Elab.async false
set_option linter.all false
set_option maxRecDepth 100000
namespace DD
open PySem PySem.Spec PyProof.Rows L2
/-! ### the end of a law -/
section
variable {P : Program} {w : World} {K : PySem.W.Frag} {mg mb : Str → Option Value} {k : Nat} {fa a : Addr} {fd : FuncData} {x : Str} {φ : FnD} {vs : List Value} {ns : List Int} {H : Hp}
theorem rs_ints {g : G} {ι : List Addr} : ∀ ns : List Int, Rs g ι H (ns.map D.int) (ns.map V.int)
  | [] => .nil
  | n :: r => .cons (.int n) (rs_ints r)
/-- from an abstract heap that holds the script alone, or nothing -/
theorem law_core {s1 : Shared} (KX : K.In s1.heap) (hns : s1.heap.Ns mainGlobals mg) (hb : s1.heap.Ns builtinsNs mb) (hbb : ∀ x : Str, x ≠ "__name__" → mb x = bootBuiltins x) (hlim : s1.heap.NoLimit) (hg : s1.gens = #[])
    (ha : s1.heap.get? a = some { cls := .type "list", data := .seq vs.toArray }) (hr : Room k callerA)
    (F : ∀ base : Heap, K.In base → base.Ns mainGlobals mg → FnG P w K mg base k fa fd [x] φ) (hbind : ∀ (s : Shared) (u : Value), BindsTo s fd ⟨[u], []⟩ [(x, u)]) (hφ : ∃ S', φ [.rol (ns.map .int)] [] = some (.ok (.bl true), S'))
    (hO : Only H) (hS : SqF K H a (ns.map V.int)) (hok : HOk P w H s1.heap) (hA : ∀ b, H b ≠ none → b = a) (hK : H a ≠ none → K.lookup a = none) :
    codeAny (model P w) callerA (.call (.ref fa) ⟨[.ref a], []⟩)
      (fun r s' => r = .ok (.ret (.bool true)) ∧ OldK s1.heap s'.heap ∧ s'.os = s1.os ∧ AllBare s'.gens) s1 := by
  have only : ∀ {b : Addr} {u : HO}, H b = some u → b = a := fun {b u} z => hA b (by rw [z]; simp)
  have low : ∀ {b : Addr} {o : Obj}, s1.heap.get? b = some o → H b = none → (hidT s1.heap H).get? b = some o := fun e n => hidT_get e n
  have noDict : ∀ {b : Addr} {o : Obj} {es : Array DictEntry} {ep : Nat}, s1.heap.get? b = some o → o.data = .dict es ep → H b = none := by
    intro b o es ep e d
    cases q : H b with
    | none => rfl
    | some u =>
      have e' := only q
      subst e'
      rw [ha] at e
      cases e
      exact nomatch (show Data.seq vs.toArray _ = Data.dict es ep from d)
  have noK : ∀ {b : Addr} {o : Obj}, K.lookup b = some o → H b = none := by
    intro b o e
    cases q : H b with
    | none => rfl
    | some u =>
      have e' := only q
      subst e'
      rw [hK (by rw [q]; simp)] at e
      cases e
  have nsUp : ∀ {b : Addr} {m : Str → Option Value}, s1.heap.Ns b m → (hidT s1.heap H).Ns b m := fun {b m} ⟨o, es, ep, e, d, r⟩ =>
    ⟨o, es, ep, low e (noDict e d), d, r⟩
  have inB : K.In (hidT s1.heap H) := fun b o e => low (KX b o e) (noK e)
  have md : Mod K mg (hidT s1.heap H) := ⟨inB, nsUp hns, ⟨mb, nsUp hb, hbb⟩, by obtain ⟨mc, h1, h2⟩ := hlim; exact ⟨mc, nsUp h1, h2⟩⟩
  have env : Env0 P w K mg (hidT s1.heap H) callerA [] s1 H :=
    ⟨rfl, md, fun b o e => of_hidT e, Nat.le_of_eq (hidT_size _ _), trivial, fun b hb => (nomatch (show b ∈ ([] : List Addr) from hb)), hok, .of_eq hg⟩
  obtain ⟨S', hφ⟩ := hφ
  have sim : Sim (GK K mg) [] [] H := ⟨rfl, List.nodup_nil, fun n a o e _ => by simp at e⟩
  have sp : spM (GK K mg) φ [V.ref a] H (fun v _ => v = .bl true) (fun _ _ _ => False) := by
    refine ⟨[], [], _, _, S', sim, .cons (.rol hS (rs_ints ns)) .nil, hφ, fun ι' H' v p x s r => ?_⟩
    cases r
    rfl
  refine codeAny_mono ((F _ inB (nsUp hns)).run callerA [] s1 H ⟨[.ref a], []⟩ [.ref a] [.ref a] _ _ hr rfl env (hbind s1 (.ref a)) (.cons rfl .nil) sp) fun r s' h => ?_
  cases r with
  | error e =>
    obtain ⟨_, _, _, _, _, _, _, _, _, _, _, _, z⟩ := h
    exact z.elim
  | ok fl =>
    cases fl with
    | ret u =>
      obtain ⟨v, H', os, bare, un, hok', rv, q⟩ := h
      have q' : v = .bl true := q
      subst q'
      obtain rfl : u = Value.bool true := rv
      refine ⟨rfl, OldK.of_keep fun b o e => ?_, os, bare⟩
      cases z : H b with
      | none => exact un.keep b o e z (fun m => nomatch (show b ∈ ([] : List Addr) from m)) (by simp)
      | some u =>
        rcases hO b with y | ⟨ob, xs, y⟩
        · rw [z] at y
          cases y
        · obtain ⟨e1, _⟩ := hok b _ y
          obtain ⟨e2, _⟩ := hok' b _ (un.frzs b ob _ y)
          rw [e] at e1
          cases e1
          exact e2
    | next => exact False.elim h
    | brk => exact False.elim h
    | cont => exact False.elim h
theorem law_callD {s1 : Shared} (KX : K.In s1.heap) (hns : s1.heap.Ns mainGlobals mg) (hb : s1.heap.Ns builtinsNs mb) (hbb : ∀ x : Str, x ≠ "__name__" → mb x = bootBuiltins x) (hlim : s1.heap.NoLimit) (hg : s1.gens = #[])
    (ha : s1.heap.get? a = some { cls := .type "list", data := .seq vs.toArray }) (hi : IntsAre vs ns) (hl : ns.length ≤ sizeLine) (hr : Room k callerA)
    (F : ∀ base : Heap, K.In base → base.Ns mainGlobals mg → FnG P w K mg base k fa fd [x] φ) (hbind : ∀ (s : Shared) (u : Value), BindsTo s fd ⟨[u], []⟩ [(x, u)]) (hφ : ∃ S', φ [.rol (ns.map .int)] [] = some (.ok (.bl true), S')) :
    codeAny (model P w) callerA (.call (.ref fa) ⟨[.ref a], []⟩)
      (fun r s' => r = .ok (.ret (.bool true)) ∧ OldK s1.heap s'.heap ∧ s'.os = s1.os ∧ AllBare s'.gens) s1 := by
  have rv := vals_ints hi
  cases hk : K.lookup a with
  | some o =>
    have e := KX a o hk
    rw [ha] at e
    cases e
    exact law_core (H := fun _ => none) KX hns hb hbb hlim hg ha hr F hbind hφ (fun _ => .inl rfl) (.inr ⟨_, vs.toArray, _, hk, rfl, rfl, rfl, by rw [List.size_toArray, hi.length]; exact hl, by simpa using rv⟩)
      (fun b u z => nomatch (show (none : Option HO) = some u from z)) (fun b z => (z rfl).elim) fun z => (z rfl).elim
  | none =>
    have same : ∀ {b : Addr} {u : HO}, (if b = a then some (HO.frz { cls := .type "list", data := .seq vs.toArray } (.lst (ns.map V.int))) else none) = some u → b = a ∧ u = HO.frz { cls := .type "list", data := .seq vs.toArray } (.lst (ns.map V.int)) := by
      intro b u z
      by_cases e : b = a
      · rw [if_pos e] at z; exact ⟨e, (Option.some.inj z).symm⟩
      · rw [if_neg e] at z; cases z
    refine law_core (H := fun b => if b = a then some (.frz { cls := .type "list", data := .seq vs.toArray } (.lst (ns.map V.int))) else none) KX hns hb hbb hlim hg ha hr F hbind hφ (fun b => ?_) (.inl ⟨_, if_pos rfl⟩) (fun b u z => ?_) (fun b z => ?_) fun _ => hk
    · by_cases e : b = a
      · exact .inr ⟨_, _, if_pos e⟩
      · exact .inl (if_neg e)
    · obtain ⟨e, rfl⟩ := same z
      subst e
      exact ⟨ha, by rw [List.length_map]; exact hl, vs, _, rv, ha⟩
    · by_cases e : b = a
      · exact e
      · exact (z (if_neg e)).elim
end
theorem walk_D {l : PySem.W.OpenLaw} {n k : Nat} {q : Program} {loose : List Str} {XP : (Str → Option Value) → Heap → Prop} {YP : World → Heap → Prop} {d : DefRec} {x : Str} (hn : l.most = some n) (hn2 : n ≤ sizeLine) (hdf : d.params.defaults = []) (hr : Room k callerA)
    (F : ∀ (w : World) (mg : Str → Option Value) (fa : Addr) (h : Heap), YP w h → h.Ns mainGlobals mg → mg d.name = some (.ref fa) → ∃ (K : PySem.W.Frag) (fd : FuncData) (φ : FnD), K.In h ∧ (∀ (s : Shared) (u : Value), BindsTo s fd ⟨[u], []⟩ [(x, u)]) ∧
      (∀ ns : List Int, ns.length ≤ n → (∀ z ∈ ns, Builtin.Int.intBits z ≤ 1048576) → ∃ S', φ [.rol (ns.map .int)] [] = some (.ok (.bl true), S')) ∧
      ∀ base : Heap, K.In base → base.Ns mainGlobals mg → FnG l.prog w K mg base k fa fd [x] φ) :
    PySem.W.WalkO q loose XP YP l.row.toRowW d [] (fun f vs => PySem.call f vs) := by
  refine Att.attach_callB hn hdf fun w s0 s1 mg mb fa o pm cd doc a vs ns G Y ho hd hcd hmg hobj hints hlen hbits hg => ?_
  obtain ⟨K, fd, φ, KX, hb, hφ, hF⟩ := F w mg fa _ Y G.T.g hmg
  exact law_callD KX G.T.g G.T.b G.T.builtins G.T.nolimit hg hobj hints (Nat.le_trans hlen hn2) hr hF hb (hφ ns hlen hbits)
end DD

set_option Elab.async false
set_option linter.all false
set_option maxRecDepth 100000
namespace DD
open PySem PySem.Spec PyProof.Rows L2
/-! ### in -/
def fIn : F2 := fun a b S => match py a S, py b S with
  | some p, some (.list qs) => if SeqAt.shaped p = true ∧ SeqAt.shaped (.list qs) = true then some (.bl (qs.any fun z => PyData.eqv z p), S) else none
  | _, _ => none
section
variable {X : Cx} {g : G}
theorem f_in : Op2 g (rInD g.K) fIn := fun ι S S' H a b d x y Q s ra rb hf hd => by
  unfold fIn at hf
  split at hf
  · rename_i p qs e1 e2
    split at hf
    · rename_i hc
      cases hf
      exact ⟨p, qs, toPy_R s 9 a x p e1 ra, toPy_R s 9 b y _ e2 rb, hc.1, hc.2, hd.here s (.bl _)⟩
    · cases hf
  · cases hf
theorem op_inM (hK : X.K = g.K) (hu : X.A.units + 66 < cLine) : OpR X (compareOp .In) (rInD g.K) := by rw [← hK]; exact op_inD (by omega)
theorem op_eqN (hK : X.K = g.K) (hu : X.A.units + 66 < cLine) : OpR X (compareOp .Eq) (rEqM g.K) := op_eqM hK (by omega)
theorem op_neN (hK : X.K = g.K) (hu : X.A.units + 66 < cLine) : OpR X (compareOp .NotEq) (rNeM g.K) := op_neM hK (by omega)
end
/-! ### facts of the written part, as one Bool -/
open He (ga ma eqO eqO_ok ba)
def valK (K : PySem.W.Frag) : TyN → Value
  | .inl n => .type n
  | .inr x => .ref (ga K x)
def isSm (a : Option Bool) : Bool := match a with
  | some b => b
  | none => false
def oexB (K : PySem.W.Frag) (C : Addr) : Bool := match K.lookup C with
  | some ⟨.type t, _, .cls cd, sl⟩ => match cd.mro, sl.toList with
    | .ref c :: bm, [_, _, _, _, some (.builtin n), _] => decide (t = "type") && (decide (c = C) && (cd.hasDict && (!cd.hasDel && (decide (n = "ValueError.__new__") && PySem.HandSPX.refsVE bm))))
    | _, _ => false
  | _ => false
theorem oexB_ok {K : PySem.W.Frag} {C : Addr} (h : oexB K C = true) : ∃ nm q N bs bm sn sub ab col dd k0 k1 k2 k3 k5, K.lookup C = some (excClassObj nm q C N bs bm true sn sub ab col dd k0 k1 k2 k3 k5 "ValueError.__new__") ∧ PySem.HandSPX.refsVE bm = true := by
  unfold oexB at h
  split at h
  · rename_i t dd cd sl e
    split at h
    · rename_i c bm k0 k1 k2 k3 n k5 e1 e2
      simp only [Bool.and_eq_true, decide_eq_true_eq, Bool.not_eq_true'] at h
      obtain ⟨rfl, rfl, h3, h4, rfl, h5⟩ := h
      obtain ⟨nm, bs, mro, ns, qn, hd, sn, sub, ab, col, del⟩ := cd
      dsimp only at e1 h3 h4
      subst e1 h3 h4
      obtain ⟨l⟩ := sl
      dsimp only at e2
      subst e2
      exact ⟨nm, qn, ns, bs, bm, sn, sub, ab, col, dd, k0, k1, k2, k3, k5, e, h5⟩
    · cases h
  · cases h
/-- an own error class x with the fields fns -/
def clsB (K : PySem.W.Frag) (p : Str × List Str) : Bool :=
  oexB K (ga K p.1) && (eqO (PySem.W.findIn K (.ref (ga K p.1)) "__setattr__") (some (some (.builtin "object.__setattr__"))) && (decide (PySem.W.typeIn K (.ref (ga K p.1)) = some (.type "type")) && (PySem.W.keepIn K (.ref (ga K p.1)) &&
    (xfB K (ga K p.1) && (eqO (PySem.W.findIn K (.ref (ga K p.1)) "__class__") (some (some (.builtin "object.__class__"))) && (eqO (PySem.W.specialIn K (.builtin "object.__class__") "__get__") (some (some (.builtin "getset_descriptor.__get__"))) &&
    (decide (PySem.W.takesIn K (.builtin "object.__class__") = some true) && (decide (PySem.W.mroIn K (ga K p.1) (.type "object") = some true) && (p.2.all (fun f => eqO (PySem.W.findIn K (.ref (ga K p.1)) f) (some none)) &&
    (eqO (PySem.W.findIn K (.ref (ga K p.1)) "__init__") (some (some (.ref (ma K (ga K p.1) "__init__")))) && (decide (PySem.W.typeIn K (.ref (ma K (ga K p.1) "__init__")) = some (.type "function")) && eqO (PySem.W.nsIn K mainGlobals p.1) (some (some (.ref (ga K p.1)))))))))))))))
structure ClsK (K : PySem.W.Frag) (x : Str) (fns : List Str) : Prop where
  T : OexC K (ga K x)
  E : ExcC K (ga K x)
  F : XfC K (ga K x)
  no : ∀ f ∈ fns, PySem.W.findIn K (.ref (ga K x)) f = some none
  iC : PySem.W.findIn K (.ref (ga K x)) "__init__" = some (some (.ref (ma K (ga K x) "__init__")))
  tI : PySem.W.typeIn K (.ref (ma K (ga K x) "__init__")) = some (.type "function")
  glo : PySem.W.nsIn K mainGlobals x = some (some (.ref (ga K x)))
theorem clsB_ok {K : PySem.W.Frag} {p : Str × List Str} (h : clsB K p = true) : ClsK K p.1 p.2 := by
  unfold clsB at h
  simp only [Bool.and_eq_true, decide_eq_true_eq, List.all_eq_true] at h
  obtain ⟨h1, h2, h3, h4, h5, h6, h7, h8, h9, h10, h11, h12, h13⟩ := h
  have xf := xfB_ok h5
  exact ⟨⟨oexB_ok h1, eqO_ok h2, xf.exC, h3, h4⟩, ⟨xf.ga, xf.gg, xf.exC, xf.hdC, eqO_ok h6, eqO_ok h7, h8, h9⟩, xf, fun f hf => eqO_ok (h10 f hf), eqO_ok h11, h12, eqO_ok h13⟩
/-- all facts: own error classes, what isinstance says, names that are the module's, names that are free -/
structure Ask where
  xcs : List (Str × List Str)
  kits : List (TyN × TyN × Bool)
  glos : List Str
  free : List Str
def Ask.ok (q : Ask) (K : PySem.W.Frag) : Bool := q.xcs.all (clsB K) && (q.kits.all (fun t => decide (PySem.W.kitOne K (valK K t.1) (valK K t.2.1) = some t.2.2)) &&
  (q.glos.all (fun x => eqO (PySem.W.nsIn K mainGlobals x) (some (some (.ref (ga K x))))) && q.free.all (fun x => eqO (PySem.W.nsIn K mainGlobals x) (some none))))
def kitL : List (TyN × TyN × Bool) → TyN → TyN → Option Bool
  | [], _, _ => none
  | (t, c, b) :: r, t', c' => if t = t' ∧ c = c' then some b else kitL r t' c'
theorem kitL_mem {t c : TyN} {b : Bool} : ∀ {l : List (TyN × TyN × Bool)}, kitL l t c = some b → (t, c, b) ∈ l
  | (t', c', b') :: r, h => by
    unfold kitL at h
    split at h
    · rename_i e
      obtain ⟨rfl, rfl⟩ := e
      cases h
      exact List.mem_cons_self ..
    · exact List.mem_cons_of_mem _ (kitL_mem h)
def xcL (l : List (Str × List Str)) (c : Str) : Option (List Str) := l.lookup c
def Ask.tab (q : Ask) : Tab where
  kit := kitL q.kits
  catches := fun _ _ => none
  attr := fun _ _ => false
  ins := fun _ => false
  exc := fun c => (q.xcs.lookup c).isSome
  xattr := fun c f => match q.xcs.lookup c with
    | some l => l.contains f
    | none => false
theorem lookup_mem {α : Type} {x : Str} {y : α} : ∀ {l : List (Str × α)}, l.lookup x = some y → (x, y) ∈ l
  | (k, v) :: r, h => by
    cases q : (x == k) with
    | true =>
      simp only [List.lookup, q] at h
      cases h
      rw [beq_iff_eq.mp q]
      exact List.mem_cons_self ..
    | false =>
      simp only [List.lookup, q] at h
      exact List.mem_cons_of_mem _ (lookup_mem h)
section
variable {q : Ask} {K : PySem.W.Frag} {h : Heap} {mg : Str → Option Value}
theorem Ask.cls (c : q.ok K = true) {p : Str × List Str} (m : p ∈ q.xcs) : ClsK K p.1 p.2 := clsB_ok (List.all_eq_true.mp (ba c).1 p m)
theorem Ask.glo (c : q.ok K = true) (X : K.In h) (G : h.Ns mainGlobals mg) {x : Str} (m : x ∈ q.glos) : mg x = some (.ref (ga K x)) := PySem.W.mg_of X G (eqO_ok (List.all_eq_true.mp (ba (ba (ba c).2).2).1 x m))
theorem Ask.fre (c : q.ok K = true) (X : K.In h) (G : h.Ns mainGlobals mg) {x : Str} (m : x ∈ q.free) : mg x = none := PySem.W.mg_none_of X G (eqO_ok (List.all_eq_true.mp (ba (ba (ba c).2).2).2 x m))
/-- each class that is asked for is the module's -/
def Ask.closed (q : Ask) : Bool := q.kits.all fun t => (match t.1 with
  | .inl _ => true
  | .inr x => q.glos.contains x) && match t.2.1 with
  | .inl _ => true
  | .inr x => q.glos.contains x
theorem valOf_val (c : q.ok K = true) (X : K.In h) (G : h.Ns mainGlobals mg) {t : TyN} (m : (match t with | .inl _ => true | .inr x => q.glos.contains x) = true) {v : Value} (hv : ValOf (GK K mg) t v) : v = valK K t := by
  cases t with
  | inl n => exact hv
  | inr x =>
    obtain ⟨C, h1, rfl⟩ := hv
    have e := Ask.glo c X G (x := x) (by simpa using m)
    have z := h1.symm.trans e
    cases z
    rfl
theorem val_valOf (c : q.ok K = true) (X : K.In h) (G : h.Ns mainGlobals mg) {t : TyN} (m : (match t with | .inl _ => true | .inr x => q.glos.contains x) = true) : ValOf (GK K mg) t (valK K t) := by
  cases t with
  | inl n => rfl
  | inr x => exact ⟨_, Ask.glo c X G (x := x) (by simpa using m), rfl⟩
theorem Ask.facts (c : q.ok K = true) (hc : q.closed = true) (X : K.In h) (G : h.Ns mainGlobals mg) : Facts (GK K mg) q.tab := by
  have gl : ∀ {p : Str × List Str}, p ∈ q.xcs → mg p.1 = some (.ref (ga K p.1)) := fun m => PySem.W.mg_of X G (Ask.cls c m).glo
  refine ⟨fun t cc b tv cv hk h1 h2 => ?_, fun _ _ _ z => (by cases z), fun _ _ z => (by cases z), fun x C hx h1 => ?_, fun x f C hx h1 => ?_⟩
  · have m := kitL_mem hk
    have m2 := List.all_eq_true.mp hc _ m
    obtain ⟨m3, m4⟩ := ba m2
    have e1 := valOf_val c X G (t := t) m3 h1
    have e2 := valOf_val c X G (t := cc) m4 h2
    subst e1 e2
    exact of_decide_eq_true (List.all_eq_true.mp (ba (ba c).2).1 _ m)
  · have hx' : (q.xcs.lookup x).isSome = true := hx
    obtain ⟨l, e⟩ := Option.isSome_iff_exists.mp hx'
    have m := lookup_mem e
    have z := h1.symm.trans (gl m)
    cases z
    exact (Ask.cls c m).E
  · have hx' : (match q.xcs.lookup x with
      | some l => l.contains f
      | none => false) = true := hx
    split at hx'
    · rename_i l e
      have m := lookup_mem e
      have z := h1.symm.trans (gl m)
      cases z
      exact ⟨(Ask.cls c m).F, (Ask.cls c m).no f (by simpa using hx')⟩
    · cases hx'
theorem Ask.named (c : q.ok K = true) (hc : q.closed = true) (X : K.In h) (G : h.Ns mainGlobals mg) : Named (GK K mg) q.tab := fun t n b hk => by
  have m2 := List.all_eq_true.mp hc _ (kitL_mem hk)
  exact ⟨_, val_valOf c X G (t := n) (ba m2).2⟩
end
/-! ### the head's own look -/
open He (FnW DefD)
abbrev Seen : Type := Bool × List FnW
def seenB (q : Ask) (fn : List DefD) (K : PySem.W.Frag) : Seen := (fn.all (DefD.ok K) && q.ok K, fn.map fun d => He.fnW K d.at_)
def seenG (n : Nat) (q : Ask) (fn : List DefD) (get : Addr → Option Obj) : Seen := seenB q fn (He.frG get (He.asD get n))
structure Told (q : Ask) (fn : List DefD) (K : PySem.W.Frag) : Prop where
  e : seenB q fn K = (true, fn.map DefD.val)
def hookB (n : Nat) (q : Ask) (fn : List DefD) : PySem.W.Hook := {
  α := Seen
  val := fun _ => (true, fn.map DefD.val)
  obs := fun s => seenG n q fn s.heap.get?
  says := fun _ h => ∃ K : PySem.W.Frag, K.In h ∧ Told q fn K
  keeps := fun _ _ _ z up => z.elim fun K hz => ⟨K, PySem.W.Frag.In.keeps hz.1 up, hz.2⟩
  of := fun _ _ z => ⟨_, He.frG_in, ⟨z⟩⟩ }
theorem seenG_eq {n : Nat} {q : Ask} {fn : List DefD} {get : Addr → Option Obj} {s : Shared} (h : ∀ a, get a = s.heap.get? a) : seenG n q fn get = (hookB n q fn).obs s := by
  obtain rfl : get = s.heap.get? := funext h
  rfl
section
variable {q : Ask} {fn : List DefD} {K : PySem.W.Frag}
theorem Told.ask (c : Told q fn K) : q.ok K = true := (ba (show (fn.all (DefD.ok K) && q.ok K) = true from congrArg Prod.fst c.e)).2
theorem Told.def_ (c : Told q fn K) (i : Nat) {d : DefD} (h : fn[i]? = some d := by rfl) : ∃ fd, FunD K d.name d.qual d.params d.body d.scope (d.dvs K) (d.kws K) (He.fAd K d.at_) fd := by
  have c1 := (ba (show (fn.all (DefD.ok K) && q.ok K) = true from congrArg Prod.fst c.e)).1
  have e : (fn.map fun d => He.fnW K d.at_)[i]? = (fn.map DefD.val)[i]? := congrArg (fun z : Seen => z.2[i]?) c.e
  rw [List.getElem?_map, List.getElem?_map, h] at e
  exact DefD.funD (Option.some.inj e) (List.all_eq_true.mp c1 d (List.mem_of_getElem? h))
end
end DD

set_option Elab.async false
set_option linter.all false
set_option maxRecDepth 100000
namespace DD
open PySem PySem.Spec PyProof.Rows L2
/-! ### calls by name -/
structure FnN (P : Program) (w : World) (K : PySem.W.Frag) (mg : Str → Option Value) (base : Heap) (k : Nat) (x : Str) (ps : List Str) (φ : FnD) : Prop where
  ex : ∃ f fd, FnG P w K mg base k f fd ps φ ∧ mg x = some (.ref f) ∧ PySem.W.keepIn K (.ref f) = true ∧ Binds K fd ps []
theorem FnN.none {P : Program} {w : World} {K : PySem.W.Frag} {mg : Str → Option Value} {base : Heap} {k : Nat} {x : Str} {ps : List Str} {φ : FnD} (F : FnN P w K mg base k x ps φ) : FnN P w K mg base 0 x ps (fun _ _ => none) := by
  obtain ⟨f, fd, h1, h2, h3, h4⟩ := F.ex
  exact ⟨f, fd, ⟨fun _ _ _ z => (by cases z), fun A outer s H args us vs Q E _ _ _ _ _ h => by obtain ⟨_, _, _, _, _, _, _, z, _⟩ := h; cases z⟩, h2, h3, h4⟩
structure XiN (P : Program) (w : World) (K : PySem.W.Frag) (mg : Str → Option Value) (base : Heap) (x : Str) (fns : List Str) : Prop where
  ex : ∃ C fI fd, XI P w K mg base 1 C fns fI fd ∧ mg x = some (.ref C) ∧ Binds K fd (("self" : Str) :: fns) [] ∧
    ∀ (s : Shared) (v : Value) (us : List Value), us.length = fns.length → BindsTo s fd ⟨[v], fns.zip us⟩ ((("self" : Str) :: fns).zip (v :: us))
section
variable {X : Cx} {W : WX} {pos : Pos} {k : Nat} {ps fns : List Str} {φ : FnD} {xa : Xa}
theorem em_callN {x : Str} {p : Pos} {e : Expr} {es : List Expr} {m : MM (List D)} (F : FnN X.prog X.w X.K X.mg X.base k x ps φ) (hr : Room k X.A) (hG : X.A.guards = some []) (tk : Takes X W)
    (ha : PA X (e :: es) (tA (gX X) xa W m)) (hg : Gl X x := by rfl) (hdb : (x == ("__debug__" : Str)) = false := by decide) (he : starEach (e :: es) X.env = (false, eval e X.env) :: starEach es X.env := by rfl) (hpl : (backTo pos (starEach es X.env)).any (·.1) = false := by rfl) :
    PE X (.Call (.Name x p) (e :: es) [] pos) (tE (gX X) xa W (mCall φ m)) := by
  obtain ⟨f, fd, h1, h2, h3, h4⟩ := F.ex
  exact em_call h1 hr hG tk h2 h3 h4 ha hg hdb he hpl
theorem em_callN0 {x : Str} {p : Pos} (F : FnN X.prog X.w X.K X.mg X.base k x ps φ) (hr : Room k X.A) (hG : X.A.guards = some []) (tk : Takes X W) (hg : Gl X x := by rfl) (hdb : (x == ("__debug__" : Str)) = false := by decide) :
    PE X (.Call (.Name x p) [] [] pos) (tE (gX X) xa W (mCall φ mNil)) := by
  obtain ⟨f, fd, h1, h2, h3, h4⟩ := F.ex
  exact em_call0 h1 hr hG tk h2 h3 h4 hg hdb
theorem em_xmkN {x : Str} {p : Pos} {e : Expr} {es : List Expr} {m : MM (List D)} (M : XiN X.prog X.w X.K X.mg X.base x fns) (hr : Room 2 X.A) (tk : Takes X W)
    (ha : PA X (e :: es) (tA (gX X) xa W m)) (hlen : fns.length ≤ sizeLine := by decide +kernel) (hg : Gl X x := by rfl) (hdb : (x == ("__debug__" : Str)) = false := by decide) (he : starEach (e :: es) X.env = (false, eval e X.env) :: starEach es X.env := by rfl) (hpl : (backTo pos (starEach es X.env)).any (·.1) = false := by rfl) :
    PE X (.Call (.Name x p) (e :: es) [] pos) (tE (gX X) xa W (mCall (xmkF x fns) m)) := by
  obtain ⟨C, fI, fd, h1, h2, h3, h4⟩ := M.ex
  exact em_xmk h1 hr tk h2 h3 ha hlen hg hdb he hpl
theorem em_xmkKN {x : Str} {p : Pos} {kws : List Keyword} {m : MM (List D)} (M : XiN X.prog X.w X.K X.mg X.base x fns) (hr : Room 2 X.A) (tk : Takes X W)
    (hkw : PK X kws (tA (gX X) xa W m)) (hg : Gl X x := by rfl) (hall : (backToKw pos (keywordEach kws X.env)).all (·.1.isSome) = true := by rfl) (hks : (backToKw pos (keywordEach kws X.env)).filterMap (·.1) = fns := by rfl) (hdb : (x == ("__debug__" : Str)) = false := by decide)
    (hpl : ((backTo pos (starEach [] X.env)).any (·.1) || (backToKw pos (keywordEach kws X.env)).any (·.1.isNone)) = false := by rfl) :
    PE X (.Call (.Name x p) [] kws pos) (tE (gX X) xa W (mCall (xmkF x fns) m)) := by
  obtain ⟨C, fI, fd, h1, h2, h3, h4⟩ := M.ex
  exact em_xmkK h1 hr tk h2 h4 hkw hg hall hks hdb hpl
theorem em_globN {x : Str} {a : Addr} (h : X.mg x = some (.ref a)) (hg : Gl X x := by rfl) (hd : (x == ("__debug__" : Str)) = false := by decide) : PE X (.Name x pos) (tE (gX X) xa W (retM (.glo x))) :=
  em_glob (v := .ref a) hg h h rfl hd
end
/-- a statement of a class's body -/
def inClass (st : Stmt) (j : Nat) : Stmt := match st with
  | .ClassDef _ _ _ body _ _ _ _ _ _ _ => body.getD j st
  | _ => st
end DD
namespace DD
open PySem PySem.Spec PyProof.Rows L2
section
variable {P : Program} {w : World} {K : PySem.W.Frag} {mg : Str → Option Value} {base : Heap}
theorem em_globE {X : Cx} {W : WX} {pos : Pos} {xa : Xa} {x : Str} (h : ∃ a, X.mg x = some (.ref a)) (hg : Gl X x := by rfl) (hd : (x == ("__debug__" : Str)) = false := by decide) : PE X (.Name x pos) (tE (gX X) xa W (retM (.glo x))) := by
  obtain ⟨a, h⟩ := h
  exact em_globN h hg hd
theorem FnN.mono {j k : Nat} {x : Str} {ps : List Str} {φ : FnD} (F : FnN P w K mg base j x ps φ) (h : j ≤ k) : FnN P w K mg base k x ps φ := by
  obtain ⟨f, fd, h1, h2, h3, h4⟩ := F.ex
  exact ⟨f, fd, h1.mono h, h2, h3, h4⟩
theorem fnn {x : Str} {st : Stmt} {fd : FuncData} {N ps : List Str} {k : Nat} {m : MS} (FD : FunD K x x (defArgs st) (defBody st) (defScope st) [] [] (He.ga K x) fd) (Sc : FnScope N ps (defScope st)) (hm : mg x = some (.ref (He.ga K x)))
    (hb : ∀ (kV doc pm : Value) (an : Option Addr) (cdv ct : Value) (us : List Value), us.length = ps.length → bindArgs (PySem.W.fnOf x x (defArgs st) (defBody st) (defScope st) .none kV doc pm an cdv ct) ⟨us, []⟩ = pure (ps.zip us))
    (body : ∀ (cdv : Value) (A : Around) (outer : List Env) (s : Shared) (H : Hp) (E : XK), Room k (A.deeper (envOfC x (defScope st) s.heap.objs.size (He.ga K x) cdv)) → A.guards = some [] →
      PSs (cxOf (L2.CX P w) P w K mg base N x (defScope st) (He.ga K x) cdv A outer s H E) (defBody st) (tS (GK K mg) xa0 (fun cls d _ H => E cls d H) m)) :
    FnN P w K mg base (k + 1) x ps (fnM ps.length N.length m) := by
  have F := He5.fun_of FD
  exact ⟨_, _, fng_of F Sc body, hm, F.kp, FD.bindsN hb⟩
end
end DD
namespace DD
open PySem PySem.Spec PyProof.Rows L2
section
variable {P : Program} {w : World} {K : PySem.W.Frag} {mg : Str → Option Value} {base : Heap}
theorem binds_eq {x qual : Str} {params : Arguments} {body : List Stmt} {scope : Scope} {kws : List (Str × V)} {f : Addr} {fd : FuncData} {a : Args} {r : List (Str × Value)} (F : FunD K x qual params body scope [] kws f fd)
    (h : ∀ (kV doc pm : Value) (an : Option Addr) (cdv ct : Value), bindArgs (PySem.W.fnOf x qual params body scope .none kV doc pm an cdv ct) a = pure r) (s : Shared) : BindsTo s fd a r := by
  obtain ⟨oc, od, dV, kV, doc, pm, an, cdv, ct, osl, rfl, lk, hcd, hD, hK⟩ := F.ex
  rcases hD with ⟨_, rfl⟩ | ⟨e, _⟩
  · exact .of_eq (h kV doc pm an cdv ct)
  · exact absurd rfl e
theorem xin1 {x f qual : Str} {st : Stmt} {fd : FuncData} {p1 p2 p3 p4 : Pos} (FD : FunD K "__init__" qual (defArgs st) (defBody st) (defScope st) [] [] (He.ma K (He.ga K x) "__init__") fd) (c : ClsK K x [f]) (hm : mg x = some (.ref (He.ga K x)))
    (Sc : FnScope ["self", f] ["self", f] (defScope st)) (hb : defBody st = [.Assign [.Attribute (.Name "self" p1) f p2] (.Name f p3) p4]) (hv : Vis (defScope st) "self") (hv2 : Vis (defScope st) f) (hd : (f == ("__debug__" : Str)) = false) (hcd : (f == ("__classdict__" : Str)) = false)
    (b1 : ∀ (kV doc pm : Value) (an : Option Addr) (cdv ct u v : Value), bindArgs (PySem.W.fnOf "__init__" qual (defArgs st) (defBody st) (defScope st) .none kV doc pm an cdv ct) ⟨[u, v], []⟩ = pure [(("self" : Str), u), (f, v)])
    (b2 : ∀ (kV doc pm : Value) (an : Option Addr) (cdv ct u v : Value), bindArgs (PySem.W.fnOf "__init__" qual (defArgs st) (defBody st) (defScope st) .none kV doc pm an cdv ct) ⟨[u], [(f, v)]⟩ = pure [(("self" : Str), u), (f, v)]) : XiN P w K mg base x [f] := by
  refine ⟨_, _, fd, ⟨c.T, c.iC, c.tI, xi1 (He5.fun_of FD) Sc hb c.T (c.no f (by simp)) hv hv2 hd hcd⟩, hm, ?_, fun s v us hl => ?_⟩
  · exact FD.bindsN fun kV doc pm an cdv ct us hl => match us, hl with | [u, v], _ => b1 kV doc pm an cdv ct u v
  · match us, hl with
    | [u], _ => exact binds_eq FD (fun kV doc pm an cdv ct => b2 kV doc pm an cdv ct v u) s
theorem xin2 {x f g qual : Str} {st : Stmt} {fd : FuncData} {p1 p2 p3 p4 q1 q2 q3 q4 : Pos} (FD : FunD K "__init__" qual (defArgs st) (defBody st) (defScope st) [] [] (He.ma K (He.ga K x) "__init__") fd) (c : ClsK K x [f, g]) (hm : mg x = some (.ref (He.ga K x)))
    (Sc : FnScope ["self", f, g] ["self", f, g] (defScope st)) (hb : defBody st = [.Assign [.Attribute (.Name "self" p1) f p2] (.Name f p3) p4, .Assign [.Attribute (.Name "self" q1) g q2] (.Name g q3) q4]) (hv : Vis (defScope st) "self") (hv2 : Vis (defScope st) f) (hv3 : Vis (defScope st) g)
    (hd : (f == ("__debug__" : Str)) = false) (hcd : (f == ("__classdict__" : Str)) = false) (hd2 : (g == ("__debug__" : Str)) = false) (hcd2 : (g == ("__classdict__" : Str)) = false)
    (b1 : ∀ (kV doc pm : Value) (an : Option Addr) (cdv ct u v y : Value), bindArgs (PySem.W.fnOf "__init__" qual (defArgs st) (defBody st) (defScope st) .none kV doc pm an cdv ct) ⟨[u, v, y], []⟩ = pure [(("self" : Str), u), (f, v), (g, y)])
    (b2 : ∀ (kV doc pm : Value) (an : Option Addr) (cdv ct u v y : Value), bindArgs (PySem.W.fnOf "__init__" qual (defArgs st) (defBody st) (defScope st) .none kV doc pm an cdv ct) ⟨[u], [(f, v), (g, y)]⟩ = pure [(("self" : Str), u), (f, v), (g, y)]) : XiN P w K mg base x [f, g] := by
  refine ⟨_, _, fd, ⟨c.T, c.iC, c.tI, xi2 (He5.fun_of FD) Sc hb c.T (c.no f (by simp)) (c.no g (by simp)) hv hv2 hv3 hd hcd hd2 hcd2⟩, hm, ?_, fun s v us hl => ?_⟩
  · exact FD.bindsN fun kV doc pm an cdv ct us hl => match us, hl with | [u, v, y], _ => b1 kV doc pm an cdv ct u v y
  · match us, hl with
    | [u, y], _ => exact binds_eq FD (fun kV doc pm an cdv ct => b2 kV doc pm an cdv ct v u y) s
end
end DD
namespace DD
open PySem PySem.Spec PyProof.Rows L2
/-- of a def nothing is asked (the bottom of a recursion) -/
theorem fnn0 {P : Program} {w : World} {K : PySem.W.Frag} {mg : Str → Option Value} {base : Heap} {x : Str} {st : Stmt} {fd : FuncData} {ps : List Str} (FD : FunD K x x (defArgs st) (defBody st) (defScope st) [] [] (He.ga K x) fd) (hm : mg x = some (.ref (He.ga K x)))
    (hb : ∀ (kV doc pm : Value) (an : Option Addr) (cdv ct : Value) (us : List Value), us.length = ps.length → bindArgs (PySem.W.fnOf x x (defArgs st) (defBody st) (defScope st) .none kV doc pm an cdv ct) ⟨us, []⟩ = pure (ps.zip us)) : FnN P w K mg base 0 x ps (fun _ _ => none) :=
  ⟨_, _, ⟨fun _ _ _ z => (by cases z), fun A outer s H args us vs Q E _ _ _ _ _ h => by obtain ⟨_, _, _, _, _, _, _, z, _⟩ := h; cases z⟩, hm, (He5.fun_of FD).kp, FD.bindsN hb⟩
end DD

set_option Elab.async false
set_option linter.all false
set_option maxRecDepth 100000
namespace DD
open PySem PySem.Spec PyProof.Rows L2
/-! ### reasoning about runs -/
def okM {α : Type} (m : MM α) (e : Sl) (S : So) (P : α → So → Prop) : Prop := ∃ a S', m e S = some (.ok a, S') ∧ P a S'
def okS (m : MS) (e : Sl) (S : So) (P : Fl → Sl → So → Prop) : Prop := ∃ f e' S', m e S = some (f, e', S') ∧ P f e' S'
def okF {α : Type} (o : Option (α × So)) (P : α → So → Prop) : Prop := ∃ d S', o = some (d, S') ∧ P d S'
def okC (o : Option (Re D × So)) (P : D → So → Prop) : Prop := ∃ d S', o = some (.ok d, S') ∧ P d S'
section
variable {α β : Type} {e : Sl} {S : So}
theorem okM.imp {m : MM α} {P Q : α → So → Prop} (h : okM m e S P) (i : ∀ a S', P a S' → Q a S') : okM m e S Q := by
  obtain ⟨a, S', h1, h2⟩ := h; exact ⟨a, S', h1, i _ _ h2⟩
theorem okS.imp {m : MS} {P Q : Fl → Sl → So → Prop} (h : okS m e S P) (i : ∀ f e' S', P f e' S' → Q f e' S') : okS m e S Q := by
  obtain ⟨a, e', S', h1, h2⟩ := h; exact ⟨a, e', S', h1, i _ _ _ h2⟩
theorem okC.imp {o : Option (Re D × So)} {P Q : D → So → Prop} (h : okC o P) (i : ∀ a S', P a S' → Q a S') : okC o Q := by
  obtain ⟨a, S', h1, h2⟩ := h; exact ⟨a, S', h1, i _ _ h2⟩
@[simp] theorem okF_some {d : α} {P : α → So → Prop} : okF (some (d, S)) P ↔ P d S := ⟨fun ⟨_, _, h, p⟩ => by cases h; exact p, fun p => ⟨_, _, rfl, p⟩⟩
@[simp] theorem okF_none {P : α → So → Prop} : okF (none : Option (α × So)) P ↔ False := ⟨fun ⟨_, _, h, _⟩ => (by cases h), fun h => h.elim⟩
@[simp] theorem okF_ite {c : Prop} [Decidable c] {o : Option (α × So)} {P : α → So → Prop} : okF (if c then o else none) P ↔ c ∧ okF o P := by
  by_cases h : c <;> simp [h]
@[simp] theorem okC_some {d : D} {P : D → So → Prop} : okC (some (.ok d, S)) P ↔ P d S := ⟨fun ⟨_, _, h, p⟩ => by cases h; exact p, fun p => ⟨_, _, rfl, p⟩⟩
@[simp] theorem okM_ret {a : α} {P : α → So → Prop} : okM (retM a) e S P ↔ P a S := ⟨fun ⟨_, _, h, p⟩ => by cases h; exact p, fun p => ⟨_, _, rfl, p⟩⟩
@[simp] theorem okM_bind {m : MM α} {k : α → MM β} {P : β → So → Prop} : okM (bindM m k) e S P ↔ okM m e S fun a S1 => okM (k a) e S1 P := by
  constructor
  · rintro ⟨b, S', h, p⟩
    rcases bindM_some h with ⟨a, S1, h1, h2⟩ | ⟨c, fs, _, z⟩
    · exact ⟨a, S1, h1, b, S', h2, p⟩
    · cases z
  · rintro ⟨a, S1, h1, b, S', h2, p⟩
    exact ⟨b, S', by unfold bindM; rw [h1]; exact h2, p⟩
@[simp] theorem okM_lift {o : So → Option (α × So)} {P : α → So → Prop} : okM (liftF o) e S P ↔ okF (o S) P := by
  constructor
  · rintro ⟨a, S', h, p⟩
    obtain ⟨d, h1, h2⟩ := liftF_some h
    cases h2
    exact ⟨_, S', h1, p⟩
  · rintro ⟨d, S', h, p⟩
    exact ⟨d, S', by unfold liftF; rw [h], p⟩
@[simp] theorem okM_var {i : Nat} {P : D → So → Prop} : okM (mVar i) e S P ↔ ∃ d, e[i]? = some (.v d) ∧ P d S := by
  constructor
  · rintro ⟨d, S', h, p⟩
    obtain ⟨d', h1, z, rfl⟩ := mVar_some h
    cases z
    exact ⟨_, h1, p⟩
  · rintro ⟨d, h, p⟩
    exact ⟨d, S, by unfold mVar; rw [h], p⟩
@[simp] theorem okM_op2 {f : F2} {a b : MM D} {P : D → So → Prop} : okM (mOp2 f a b) e S P ↔ okM a e S fun x S1 => okM b e S1 fun y S2 => okF (f x y S2) P := by unfold mOp2; simp
@[simp] theorem okM_op1 {f : F1} {a : MM D} {P : D → So → Prop} : okM (mOp1 f a) e S P ↔ okM a e S fun x S1 => okF (f x S1) P := by unfold mOp1; simp
@[simp] theorem okM_opA {f : FA} {a : MM (List D)} {P : D → So → Prop} : okM (mOpA f a) e S P ↔ okM a e S fun x S1 => okF (f x S1) P := by unfold mOpA; simp
@[simp] theorem okM_nil {P : List D → So → Prop} : okM mNil e S P ↔ P [] S := okM_ret
@[simp] theorem okM_cons {m : MM D} {k : MM (List D)} {P : List D → So → Prop} : okM (mCons m k) e S P ↔ okM m e S fun d S1 => okM k e S1 fun ds S2 => P (d :: ds) S2 := by unfold mCons; simp
@[simp] theorem okM_call {φ : FnD} {m : MM (List D)} {P : D → So → Prop} : okM (mCall φ m) e S P ↔ okM m e S fun ds S1 => okC (φ ds S1) P := by unfold mCall; simp; rfl
@[simp] theorem okM_asB {d : D} {P : Bool → So → Prop} : okM (asB d) e S P ↔ ∃ b, d = .bl b ∧ P b S := by
  constructor
  · rintro ⟨b, S', h, p⟩
    obtain ⟨b', h1, z, rfl⟩ := asB_some h
    cases z
    exact ⟨_, h1, p⟩
  · rintro ⟨b, rfl, p⟩
    exact ⟨b, S, rfl, p⟩
@[simp] theorem okM_tst {m : MM D} {P : Bool → So → Prop} : okM (mTst m) e S P ↔ okM m e S fun d S1 => ∃ b, d = .bl b ∧ P b S1 := by unfold mTst; simp
@[simp] theorem okM_not {m : MM Bool} {P : Bool → So → Prop} : okM (mNot m) e S P ↔ okM m e S fun b S1 => P (!b) S1 := by unfold mNot; simp
theorem okM_ite {c : Bool} {m k : MM α} {P : α → So → Prop} : okM (if c then m else k) e S P ↔ if c then okM m e S P else okM k e S P := by cases c <;> simp
@[simp] theorem okM_and {m k : MM Bool} {P : Bool → So → Prop} : okM (mAnd m k) e S P ↔ okM m e S fun b S1 => if b then okM k e S1 P else P false S1 := by unfold mAnd; simp [okM_ite]
@[simp] theorem okM_or {m k : MM Bool} {P : Bool → So → Prop} : okM (mOr m k) e S P ↔ okM m e S fun b S1 => if b then P true S1 else okM k e S1 P := by unfold mOr; simp [okM_ite]
@[simp] theorem okM_andV {m k : MM D} {P : D → So → Prop} : okM (mAndV m k) e S P ↔ okM m e S fun d S1 => ∃ b, d = .bl b ∧ if b then okM k e S1 P else P (.bl false) S1 := by unfold mAndV; simp [okM_ite]
@[simp] theorem okM_orV {m k : MM D} {P : D → So → Prop} : okM (mOrV m k) e S P ↔ okM m e S fun d S1 => ∃ b, d = .bl b ∧ if b then P (.bl true) S1 else okM k e S1 P := by unfold mOrV; simp [okM_ite]
@[simp] theorem okM_notV {m : MM D} {P : D → So → Prop} : okM (mNotV m) e S P ↔ okM m e S fun d S1 => ∃ b, d = .bl b ∧ P (.bl (!b)) S1 := by unfold mNotV; simp
@[simp] theorem okM_if {t : MM Bool} {m k : MM D} {P : D → So → Prop} : okM (mIf t m k) e S P ↔ okM t e S fun b S1 => if b then okM m e S1 P else okM k e S1 P := by unfold mIf; simp [okM_ite]
theorem okS_bind {m : MM α} {k : α → MS} {P : Fl → Sl → So → Prop} (h : okM m e S fun a S1 => okS (k a) e S1 P) : okS (bindS m k) e S P := by
  obtain ⟨a, S1, h1, f, e', S', h2, p⟩ := h
  exact ⟨f, e', S', by unfold bindS; rw [h1]; exact h2, p⟩
/-- behind a statement -/
def nxt (k : MS) (P : Fl → Sl → So → Prop) : Fl → Sl → So → Prop := fun f e S => match f with
  | .nx => okS k e S P
  | f => P f e S
@[simp] theorem nxt_nx {k : MS} {P : Fl → Sl → So → Prop} : nxt k P .nx e S ↔ okS k e S P := Iff.rfl
@[simp] theorem nxt_rt {k : MS} {P : Fl → Sl → So → Prop} {d : D} : nxt k P (.rt d) e S ↔ P (.rt d) e S := Iff.rfl
@[simp] theorem nxt_bk {k : MS} {P : Fl → Sl → So → Prop} : nxt k P .bk e S ↔ P .bk e S := Iff.rfl
@[simp] theorem nxt_ct {k : MS} {P : Fl → Sl → So → Prop} : nxt k P .ct e S ↔ P .ct e S := Iff.rfl
theorem okS_seq {m k : MS} {P : Fl → Sl → So → Prop} (h : okS m e S (nxt k P)) : okS (seqS m k) e S P := by
  obtain ⟨f, e1, S1, h1, h2⟩ := h
  cases f with
  | nx =>
    obtain ⟨f, e', S', h3, p⟩ := h2
    exact ⟨f, e', S', by unfold seqS; rw [h1]; exact h3, p⟩
  | _ => exact ⟨_, e1, S1, by unfold seqS; rw [h1], h2⟩
theorem okS_nx {P : Fl → Sl → So → Prop} (h : P .nx e S) : okS nxS e S P := ⟨_, _, _, rfl, h⟩
theorem okS_fl {f : Fl} {P : Fl → Sl → So → Prop} (h : P f e S) : okS (fS f) e S P := ⟨_, _, _, rfl, h⟩
theorem okS_if {t : MM Bool} {m k : MS} {P : Fl → Sl → So → Prop} (h : okM t e S fun b S1 => if b then okS m e S1 P else okS k e S1 P) : okS (ifS t m k) e S P := by
  refine okS_bind (h.imp fun b S1 q => ?_)
  cases b
  · simpa using q
  · simpa using q
theorem okS_ifT {t : MM Bool} {m k : MS} {P : Fl → Sl → So → Prop} (h : okM t e S fun b S1 => b = true ∧ okS m e S1 P) : okS (ifS t m k) e S P :=
  okS_if (h.imp fun b S1 q => by rw [if_pos q.1]; exact q.2)
theorem okS_ifF {t : MM Bool} {m k : MS} {P : Fl → Sl → So → Prop} (h : okM t e S fun b S1 => b = false ∧ okS k e S1 P) : okS (ifS t m k) e S P :=
  okS_if (h.imp fun b S1 q => by rw [if_neg (by rw [q.1]; decide)]; exact q.2)
theorem okS_asg {m : MM D} {i : Nat} {P : Fl → Sl → So → Prop} (h : okM m e S fun d S1 => P .nx (e.set i (.v d)) S1) : okS (asgS m (nmT i)) e S P :=
  okS_bind (h.imp fun d S1 q => ⟨_, _, _, rfl, q⟩)
theorem okS_ret {m : MM D} {P : Fl → Sl → So → Prop} (h : okM m e S fun d S1 => P (.rt d) e S1) : okS (retS m) e S P := okS_bind (h.imp fun d S1 q => ⟨_, _, _, rfl, q⟩)
theorem okS_expr {m : MM D} {P : Fl → Sl → So → Prop} (h : okM m e S fun _ S1 => P .nx e S1) : okS (exprS m) e S P := okS_bind (h.imp fun d S1 q => ⟨_, _, _, rfl, q⟩)
theorem okS_par {m : MM (List D)} {i j : Nat} {P : Fl → Sl → So → Prop} (h : okM m e S fun ds S1 => ∃ a b, ds = [a, b] ∧ P .nx ((e.set i (.v a)).set j (.v b)) S1) : okS (parS i j m) e S P :=
  okS_bind (h.imp fun d S1 q => by obtain ⟨a, b, rfl, q⟩ := q; exact ⟨_, _, _, rfl, q⟩)
theorem okS_setix {mv mo mi : MM D} {P : Fl → Sl → So → Prop} (h : okM mv e S fun v S1 => okM mo e S1 fun o S2 => okM mi e S2 fun i S3 => ∃ S4, fSet o i v S3 = some S4 ∧ P .nx e S4) : okS (setS mv mo mi) e S P :=
  okS_bind (h.imp fun v S1 q => okS_bind (q.imp fun o S2 q => okS_bind (q.imp fun i S3 q => by obtain ⟨S4, h4, q⟩ := q; exact ⟨_, _, _, by dsimp only; rw [h4]; rfl, q⟩)))
/-- what a turn ends with -/
def turnP (I : Sl → So → Prop) (P : Fl → Sl → So → Prop) : Fl → Sl → So → Prop := fun f e S => match f with
  | .nx => I e S
  | .ct => I e S
  | .bk => P .nx e S
  | f => P f e S
@[simp] theorem turnP_nx {I : Sl → So → Prop} {P : Fl → Sl → So → Prop} : turnP I P .nx e S ↔ I e S := Iff.rfl
@[simp] theorem turnP_ct {I : Sl → So → Prop} {P : Fl → Sl → So → Prop} : turnP I P .ct e S ↔ I e S := Iff.rfl
@[simp] theorem turnP_bk {I : Sl → So → Prop} {P : Fl → Sl → So → Prop} : turnP I P .bk e S ↔ P .nx e S := Iff.rfl
@[simp] theorem turnP_rt {I : Sl → So → Prop} {P : Fl → Sl → So → Prop} {d : D} : turnP I P (.rt d) e S ↔ P (.rt d) e S := Iff.rfl
theorem okS_for {m : MM Itm} {t : Tg} {b : MS} {P : Fl → Sl → So → Prop} (h : okM m e S fun it S1 => ∃ I : Nat → Sl → So → Prop, I 0 e S1 ∧ ∀ i e2 S2, I i e2 S2 →
    (it.get i S2 = some none ∧ P .nx e2 S2) ∨ (i < it.n ∧ ∃ d e3, it.get i S2 = some (some d) ∧ t d e2 = some e3 ∧ okS b e3 S2 (turnP (I (i + 1)) P))) : okS (forS m t b) e S P := by
  refine okS_bind (h.imp fun it S1 q => ?_)
  obtain ⟨I, h0, hs⟩ := q
  have key : ∀ (n i : Nat) (e2 : Sl) (S2 : So), it.n - i ≤ n → I i e2 S2 → okS (loopI it.get t b n i) e2 S2 P := by
    intro n
    induction n with
    | zero =>
      intro i e2 S2 hn hI
      rcases hs i e2 S2 hI with ⟨h1, h2⟩ | ⟨h1, _⟩
      · exact ⟨_, _, _, by unfold loopI; rw [h1], h2⟩
      · omega
    | succ n ih =>
      intro i e2 S2 hn hI
      rcases hs i e2 S2 hI with ⟨h1, h2⟩ | ⟨h1, d, e3, h2, h3, f, e4, S4, h4, h5⟩
      · exact ⟨_, _, _, by unfold loopI; rw [h1], h2⟩
      · cases f with
        | nx =>
          obtain ⟨f, e5, S5, h6, h7⟩ := ih (i + 1) e4 S4 (by omega) h5
          exact ⟨f, e5, S5, by unfold loopI; rw [h2]; dsimp only; rw [h3]; dsimp only; rw [h4]; exact h6, h7⟩
        | ct =>
          obtain ⟨f, e5, S5, h6, h7⟩ := ih (i + 1) e4 S4 (by omega) h5
          exact ⟨f, e5, S5, by unfold loopI; rw [h2]; dsimp only; rw [h3]; dsimp only; rw [h4]; exact h6, h7⟩
        | bk => exact ⟨_, e4, S4, by unfold loopI; rw [h2]; dsimp only; rw [h3]; dsimp only; rw [h4], h5⟩
        | rt d => exact ⟨_, e4, S4, by unfold loopI; rw [h2]; dsimp only; rw [h3]; dsimp only; rw [h4], h5⟩
        | ex c fs => exact ⟨_, e4, S4, by unfold loopI; rw [h2]; dsimp only; rw [h3]; dsimp only; rw [h4], h5⟩
  exact key it.n 0 e S1 (by omega) h0
theorem okM_comp {own : List Nat} {m : MM Itm} {t : Tg} {te : MM D} {P : D → So → Prop} (h : okM m e S fun it S1 => ∃ I : Nat → So → Prop, I 0 (S1 ++ [.lst []]) ∧ ∀ i S2, I i S2 →
    (it.get i S2 = some none ∧ P (.ref S1.length) S2) ∨ (i < it.n ∧ ∃ d e3, it.get i S2 = some (some d) ∧ t d (wipeE e own) = some e3 ∧ okM te e3 S2 fun y S3 => ∃ acc, S3[S1.length]? = some (.lst acc) ∧ acc.length < sizeLine ∧ I (i + 1) (S3.set S1.length (.lst (acc ++ [y]))))) : okM (compM own m t yesM te) e S P := by
  unfold compM
  simp only [okM_bind]
  refine h.imp fun it S1 q => ?_
  obtain ⟨I, h0, hs⟩ := q
  have key : ∀ (n i : Nat) (S2 : So), it.n - i ≤ n → I i S2 → ∃ S', compI it.get t yesM te S1.length (wipeE e own) n i S2 = some S' ∧ P (.ref S1.length) S' := by
    intro n
    induction n with
    | zero =>
      intro i S2 hn hI
      rcases hs i S2 hI with ⟨h1, h2⟩ | ⟨h1, _⟩
      · exact ⟨_, by unfold compI; rw [h1], h2⟩
      · omega
    | succ n ih =>
      intro i S2 hn hI
      rcases hs i S2 hI with ⟨h1, h2⟩ | ⟨h1, d, e3, h2, h3, y, S3, h4, acc, h5, h6, h7⟩
      · exact ⟨_, by unfold compI; rw [h1], h2⟩
      · obtain ⟨S', h8, h9⟩ := ih (i + 1) _ (by omega) h7
        exact ⟨S', by unfold compI; rw [h2]; dsimp only; rw [h3]; dsimp only [yesM, retM]; rw [h4]; dsimp only; rw [h5]; dsimp only; rw [if_pos h6]; exact h8, h9⟩
  obtain ⟨S', h1, h2⟩ := key it.n 0 _ (by omega) h0
  exact ⟨_, S', by dsimp only; rw [h1], h2⟩
/-- the end of a def -/
def endP (P : D → So → Prop) : Fl → Sl → So → Prop := fun f _ S => match f with
  | .nx => P .non S
  | .rt d => P d S
  | _ => False
@[simp] theorem endP_nx {P : D → So → Prop} : endP P .nx e S ↔ P .non S := Iff.rfl
@[simp] theorem endP_rt {P : D → So → Prop} {d : D} : endP P (.rt d) e S ↔ P d S := Iff.rfl
theorem okC_fn {np n : Nat} {m : MS} {ds : List D} {P : D → So → Prop} (hl : ds.length = np) (h : okS m (startE n ds) S (endP P)) : okC (fnM np n m ds S) P := by
  obtain ⟨f, e', S', h1, h2⟩ := h
  unfold fnM
  rw [if_pos hl, h1]
  cases f with
  | nx => exact ⟨_, _, rfl, h2⟩
  | rt d => exact ⟨_, _, rfl, h2⟩
  | _ => exact h2.elim
theorem okS_rng {m : MM (List D)} {t : Tg} {b : MS} {P : Fl → Sl → So → Prop} (h : okM m e S fun ds S1 => ∃ j : Nat, ds = [.int j] ∧ (j : Int) < 2 ^ 62 ∧ ∃ I : Nat → Sl → So → Prop, I 0 e S1 ∧ (∀ i e2 S2, i < j → I i e2 S2 → ∃ e3, t (.int i) e2 = some e3 ∧ okS b e3 S2 (turnP (I (i + 1)) P)) ∧ ∀ e2 S2, I j e2 S2 → P .nx e2 S2) :
    okS (forS (mRng1 m) t b) e S P := by
  refine okS_for ?_
  unfold mRng1
  simp only [okM_bind]
  refine h.imp fun ds S1 q => ?_
  obtain ⟨j, rfl, hj, I, h0, hs, hd⟩ := q
  refine ⟨itRng 0 j, S1, ?_, fun i e2 S2 => i ≤ j ∧ I i e2 S2, ⟨Nat.zero_le _, h0⟩, fun i e2 S2 hI => ?_⟩
  · unfold rng1
    simp only [Int.toNat_natCast]
    rw [if_pos ⟨by omega, hj⟩]
  · obtain ⟨hi, hI⟩ := hI
    by_cases hij : i < j
    · obtain ⟨e3, h1, h2⟩ := hs i e2 S2 hij hI
      refine .inr ⟨hij, .int i, e3, by unfold itRng; simp [hij], h1, h2.imp fun f e' S' q => ?_⟩
      cases f with
      | nx => exact ⟨hij, q⟩
      | ct => exact ⟨hij, q⟩
      | _ => exact q
    · have : i = j := by omega
      subst this
      exact .inl ⟨by unfold itRng; simp, hd _ _ hI⟩
theorem okM_compR {own : List Nat} {m : MM (List D)} {t : Tg} {te : MM D} {P : D → So → Prop} (h : okM m e S fun ds S1 => ∃ j : Nat, ds = [.int j] ∧ (j : Int) < 2 ^ 62 ∧ ∃ I : Nat → So → Prop, I 0 (S1 ++ [.lst []]) ∧
    (∀ i S2, i < j → I i S2 → ∃ e3, t (.int i) (wipeE e own) = some e3 ∧ okM te e3 S2 fun y S3 => ∃ acc, S3[S1.length]? = some (.lst acc) ∧ acc.length < sizeLine ∧ I (i + 1) (S3.set S1.length (.lst (acc ++ [y])))) ∧ ∀ S2, I j S2 → P (.ref S1.length) S2) :
    okM (compM own (mRng1 m) t yesM te) e S P := by
  refine okM_comp ?_
  unfold mRng1
  simp only [okM_bind]
  refine h.imp fun ds S1 q => ?_
  obtain ⟨j, rfl, hj, I, h0, hs, hd⟩ := q
  refine ⟨itRng 0 j, S1, ?_, fun i S2 => i ≤ j ∧ I i S2, ⟨Nat.zero_le _, h0⟩, fun i S2 hI => ?_⟩
  · unfold rng1
    simp only [Int.toNat_natCast]
    rw [if_pos ⟨by omega, hj⟩]
  · obtain ⟨hi, hI⟩ := hI
    by_cases hij : i < j
    · obtain ⟨e3, h1, h2⟩ := hs i S2 hij hI
      refine .inr ⟨hij, .int i, e3, by unfold itRng; simp [hij], h1, h2.imp fun y S3 q => ?_⟩
      obtain ⟨acc, h3, h4, h5⟩ := q
      exact ⟨acc, h3, h4, hij, h5⟩
    · have : i = j := by omega
      subst this
      exact .inl ⟨by unfold itRng; simp, hd _ hI⟩
end
end DD

set_option Elab.async false
set_option linter.all false
set_option maxRecDepth 100000
namespace DD
open PySem PySem.Spec PyProof.Rows L2
section
variable {α β : Type} {e : Sl} {S : So}
@[simp] theorem okM_meth {ty : D → So → Bool} {f : FM} {mo : MM D} {ma : MM (List D)} {P : D → So → Prop} : okM (mMeth ty f mo ma) e S P ↔ okM mo e S fun a S1 => ty a S1 = true ∧ okM ma e S1 fun ds S2 => okF (f a ds S2) P := by
  unfold mMeth
  simp only [okM_bind]
  constructor
  · intro h
    refine h.imp fun a S1 q => ?_
    by_cases ht : ty a S1 = true
    · refine ⟨ht, ?_⟩
      obtain ⟨d, S2, h1, p⟩ := q
      dsimp only at h1
      rw [if_pos ht] at h1
      have : okM (bindM ma fun ds => liftF (f a ds)) e S1 P := ⟨d, S2, h1, p⟩
      simpa using this
    · obtain ⟨d, S2, h1, p⟩ := q
      dsimp only at h1
      rw [if_neg ht] at h1
      cases h1
  · intro h
    refine h.imp fun a S1 q => ?_
    obtain ⟨ht, q⟩ := q
    have : okM (bindM ma fun ds => liftF (f a ds)) e S1 P := by simpa using q
    obtain ⟨d, S2, h1, p⟩ := this
    exact ⟨d, S2, by dsimp only; rw [if_pos ht]; exact h1, p⟩
theorem cm {i j : Int} (h : -(2 ^ 64) < j ∧ j < 2 ^ 64) : CMul i j ∨ CMulW i j := .inl (.inr h)
@[simp] theorem okF_mul {i j : Int} {P : D → So → Prop} : okF (fMul (.int i) (.int j) S) P ↔ (CMul i j ∨ CMulW i j) ∧ P (.int (i * j)) S := by unfold fMul; simp
@[simp] theorem okF_div {i j : Int} {P : D → So → Prop} : okF (fDiv (.int i) (.int j) S) P ↔ CDivW i j ∧ P (.int (i / j)) S := by unfold fDiv; simp
@[simp] theorem okF_mod {i j : Int} {P : D → So → Prop} : okF (fMod (.int i) (.int j) S) P ↔ 0 < j ∧ P (.int (i % j)) S := by unfold fMod; simp
@[simp] theorem okF_pow {i j : Int} {P : D → So → Prop} : okF (fPow (.int i) (.int j) S) P ↔ CPow i j ∧ P (.int (i ^ j.toNat)) S := by unfold fPow; simp
@[simp] theorem fAdd_int {i j : Int} : fAdd (.int i) (.int j) S = some (.int (i + j), S) := rfl
@[simp] theorem fSub_int {i j : Int} : fSub (.int i) (.int j) S = some (.int (i - j), S) := rfl
@[simp] theorem fOrd_int {p q} {i j : Int} : fOrd p q (.int i) (.int j) S = some (.bl (p i j), S) := rfl
@[simp] theorem fInt_int {i : Int} : fInt [.int i] S = some (.int i, S) := rfl
@[simp] theorem fAbs_int {i : Int} : fAbs [.int i] S = some (.int (if i < 0 then -i else i), S) := rfl
@[simp] theorem fNeg_int {i : Int} : fNeg (.int i) S = some (.int (-i), S) := rfl
@[simp] theorem fLen_rol {xs : List D} : fLen [.rol xs] S = some (.int xs.length, S) := rfl
theorem fLen_ref {n : Nat} {xs : List D} (h : S[n]? = some (.lst xs)) : fLen [.ref n] S = some (.int xs.length, S) := by
  simp [fLen, seqOf, h]
theorem fIx_ref {n : Nat} {xs : List D} {i : Int} {d : D} (h : S[n]? = some (.lst xs)) (h2 : atI xs i = some d) : fIx (.ref n) (.int i) S = some (d, S) := by
  simp [fIx, seqOf, h, h2]
theorem fIx_rol {xs : List D} {i : Int} {d : D} (h2 : atI xs i = some d) : fIx (.rol xs) (.int i) S = some (d, S) := by
  simp [fIx, seqOf, h2]
theorem atI_ok {xs : List α} {i : Int} (h0 : 0 ≤ i) (h1 : i < xs.length) : ∃ d, atI xs i = some d ∧ xs[i.toNat]? = some d := by
  have h2 : i.toNat < xs.length := by omega
  refine ⟨xs[i.toNat], ?_, List.getElem?_eq_getElem h2⟩
  unfold atI ixN
  rw [if_pos h0, if_pos h1]
  exact List.getElem?_eq_getElem h2
theorem isL_ref {n : Nat} {xs : List D} (h : S[n]? = some (.lst xs)) : isL (.ref n) S = true := by simp [isL, h]
theorem fAppend_ref {n : Nat} {xs : List D} {y : D} (h : S[n]? = some (.lst xs)) (hl : xs.length < sizeLine) : fAppend (.ref n) [y] S = some (.non, S.set n (.lst (xs ++ [y]))) := by
  simp [fAppend, h, hl]
theorem fSet_ref {n : Nat} {xs : List D} {i : Int} {y : D} (h : S[n]? = some (.lst xs)) (h0 : 0 ≤ i) (h1 : i < xs.length) : fSet (.ref n) (.int i) y S = some (S.set n (.lst (xs.set i.toNat y))) := by
  unfold fSet
  simp only [h]
  unfold ixN
  rw [if_pos h0, if_pos h1]
  rfl
@[simp] theorem fEq_int {i j : Int} : fEq (.int i) (.int j) S = some (.bl (i == j), S) := by
  unfold fEq
  dsimp only
  unfold eqD
  have h1 : ∀ k : Int, py (.int k) S = some (.int k) := fun k => by unfold py toPy; rfl
  have h2 : ∀ k : Int, SeqAt.shaped (.int k) = true := fun k => by
    unfold SeqAt.shaped
    simp [PyData.canLay0, PyData.depth]
  rw [h1, h1]
  dsimp only
  rw [if_pos ⟨h2 _, h2 _⟩]
  simp [PyData.eqv]
theorem okM_seqV {i : Nat} {xs : List D} {P : Itm → So → Prop} (h : e[i]? = some (.v (.rol xs))) (hp : P (itFix xs) S) : okM (mSeq (mVar i)) e S P := by
  unfold mSeq
  rw [okM_bind, okM_var]
  exact ⟨_, h, _, _, rfl, hp⟩
theorem okM_seqM {m : MM D} {P : Itm → So → Prop} (h : okM m e S fun d S1 => ∃ xs, d = .tup xs ∧ P (itFix xs) S1) : okM (mSeq m) e S P := by
  unfold mSeq
  rw [okM_bind]
  refine h.imp fun d S1 q => ?_
  obtain ⟨xs, rfl, q⟩ := q
  exact ⟨_, _, rfl, q⟩
theorem line200 : (200 : Nat) < sizeLine := by rw [sizeLine_eq]; decide
end
end DD

set_option Elab.async false
set_option linter.all false
set_option maxRecDepth 100000
namespace DD
open PySem PySem.Spec PyProof.Rows L2
section
variable {e : Sl} {S : So}
/-- if x == j: .. of a chain -/
theorem okS_eqF {i : Nat} {k j : Int} {m rest : MS} {P : Fl → Sl → So → Prop} (he : e[i]? = some (.v (.int k))) (hj : (k == j) = false) (h : okS rest e S P) : okS (seqS (ifS (mTst (mOp2 fEq (mVar i) (retM (.int j)))) m nxS) rest) e S P := by
  refine okS_seq (okS_ifF ?_)
  simp only [okM_tst, okM_op2, okM_var, okM_ret]
  refine ⟨_, he, ?_⟩
  rw [fEq_int, okF_some, hj]
  exact ⟨_, rfl, rfl, okS_nx h⟩
theorem okS_eqT {i : Nat} {k j : Int} {m rest : MS} {P : Fl → Sl → So → Prop} (he : e[i]? = some (.v (.int k))) (hj : (k == j) = true) (h : okS m e S (nxt rest P)) : okS (seqS (ifS (mTst (mOp2 fEq (mVar i) (retM (.int j)))) m nxS) rest) e S P := by
  refine okS_seq (okS_ifT ?_)
  simp only [okM_tst, okM_op2, okM_var, okM_ret]
  refine ⟨_, he, ?_⟩
  rw [fEq_int, okF_some, hj]
  exact ⟨_, rfl, rfl, h⟩
theorem fTup_ok {ds : List D} (h : ds.length ≤ 100) : fTup ds S = some (.tup ds, S) := by
  unfold fTup
  rw [if_pos (by have := line200; omega)]
theorem fLst_ok {ds : List D} (h : ds.length ≤ 100) : fLst ds S = some (.ref S.length, S ++ [.lst ds]) := by
  unfold fLst
  rw [if_pos (by have := line200; omega)]
theorem xmkF_ok {c : Str} {fns : List Str} {ds : List D} (h : ds.length = fns.length) : xmkF c fns ds S = some (.ok (.ref S.length), S ++ [.exi c (stk fns ds [])]) := by
  unfold xmkF
  rw [if_pos h]
theorem fXfld_ok {T : Tab} {f c : Str} {n : Nat} {fs : List (Str × D)} {d : D} (h : S[n]? = some (.exi c fs)) (h2 : T.xattr c f = true) (h3 : fs.lookup f = some d) : fXfld T f (.ref n) S = some (d, S) := by
  unfold fXfld
  simp [h, h2, h3]
theorem fIsiA_ok {T : Tab} {c x : Str} {n : Nat} {fs : List (Str × D)} {b : Bool} (h : S[n]? = some (.exi c fs)) (h2 : T.exc c = true) (h3 : T.kit (.inr c) (.inr x) = some b) : fIsiA T [.ref n, .glo x] S = some (.bl b, S) := by
  unfold fIsiA
  simp [h, clsN, h2, h3]
theorem fIsiA_ty {T : Tab} {c : Str} {x : String} {n : Nat} {fs : List (Str × D)} {b : Bool} (h : S[n]? = some (.exi c fs)) (h2 : T.exc c = true) (h3 : T.kit (.inr c) (.inl x) = some b) : fIsiA T [.ref n, .ty x] S = some (.bl b, S) := by
  unfold fIsiA
  simp [h, clsN, h2, h3]
theorem py_ints {k : Nat} : ∀ js : List Int, toPys S k (js.map .int) = some (js.map .int)
  | [] => by unfold toPys; rfl
  | j :: js => by
    have h : toPy S k (.int j) = some (.int j) := by unfold toPy; rfl
    rw [List.map_cons, List.map_cons]
    unfold toPys
    rw [h, py_ints js]
theorem py_bls {k : Nat} : ∀ js : List Bool, toPys S k (js.map .bl) = some (js.map .bool)
  | [] => by unfold toPys; rfl
  | j :: js => by
    have h : toPy S k (.bl j) = some (.bool j) := by unfold toPy; rfl
    rw [List.map_cons, List.map_cons]
    unfold toPys
    rw [h, py_bls js]
theorem lay_ints : ∀ js : List Int, PyData.canLayAll0 (js.map .int) = true ∧ PyData.depthAll (js.map .int) = 0
  | [] => by simp [PyData.canLayAll0, PyData.depthAll]
  | j :: js => by
    obtain ⟨h1, h2⟩ := lay_ints js
    simp [PyData.canLayAll0, PyData.depthAll, PyData.canLay0, PyData.depth, h1, h2]
theorem lay_bls : ∀ js : List Bool, PyData.canLayAll0 (js.map .bool) = true ∧ PyData.depthAll (js.map .bool) = 0
  | [] => by simp [PyData.canLayAll0, PyData.depthAll]
  | j :: js => by
    obtain ⟨h1, h2⟩ := lay_bls js
    simp [PyData.canLayAll0, PyData.depthAll, PyData.canLay0, PyData.depth, h1, h2]
theorem shaped_int {i : Int} : SeqAt.shaped (.int i) = true := by unfold SeqAt.shaped; simp [PyData.canLay0, PyData.depth]
theorem shaped_ints {js : List Int} : SeqAt.shaped (.list (js.map .int)) = true := by
  unfold SeqAt.shaped
  simp [PyData.canLay0, PyData.depth, lay_ints js]
theorem shaped_bls {js : List Bool} : SeqAt.shaped (.list (js.map .bool)) = true := by
  unfold SeqAt.shaped
  simp [PyData.canLay0, PyData.depth, lay_bls js]
theorem py_list {n : Nat} {xs : List D} {ps : List PyData} (h : S[n]? = some (.lst xs)) (h2 : toPys S 8 xs = some ps) : py (.ref n) S = some (.list ps) := by
  unfold py toPy
  rw [h]
  dsimp only
  rw [h2]
  rfl
theorem fIn_ints {k : Int} {n : Nat} {js : List Int} (h : S[n]? = some (.lst (js.map .int))) : fIn (.int k) (.ref n) S = some (.bl (js.any fun j => j == k), S) := by
  have h1 : py (.int k) S = some (.int k) := by unfold py toPy; rfl
  unfold fIn
  rw [h1, py_list h (py_ints js)]
  dsimp only
  rw [if_pos ⟨shaped_int, shaped_ints⟩]
  have : ((js.map PyData.int).any fun z => PyData.eqv z (.int k)) = js.any fun j => j == k := by
    rw [List.any_map]
    congr 1
  rw [this]
theorem fNe_bls {n m : Nat} {js : List Bool} (h : S[n]? = some (.lst (js.map .bl))) (h2 : S[m]? = some (.lst (js.map .bl))) : fNe (.ref n) (.ref m) S = some (.bl false, S) := by
  unfold fNe
  dsimp only
  unfold eqD
  rw [py_list h (py_bls js), py_list h2 (py_bls js)]
  dsimp only
  rw [if_pos ⟨shaped_bls, shaped_bls⟩]
  have e : PyData.eqv (.list (js.map .bool)) (.list (js.map .bool)) = true := PySem.SeqAt.eqv_refl _ (by simp [PyData.canLay0, lay_bls js])
  rw [e]
  rfl
theorem fNe_str {x : Str} : fNe (.str x) (.str x) S = some (.bl false, S) := by
  unfold fNe
  simp
theorem fRepr_ok {d : D} {p : PyData} (h : py d S = some p) (h2 : okShow p = true) : fRepr [d] S = some (.str p.shown, S) := by
  unfold fRepr
  dsimp only
  rw [h]
  dsimp only
  rw [if_pos h2]
end
end DD

set_option Elab.async false
set_option linter.all false
set_option maxRecDepth 100000
set_option maxHeartbeats 4000000
namespace K01
open PySem PySem.Spec PyProof.Rows L2 DD
def xcs : List (Str × List Str) := [("InvalidSides", ["sides"]), ("InvalidCells", ["cells"]), ("InvalidInputs", ["inputs"]), ("NoFit", ["number"]), ("NoName", ["name"]), ("BadInput", ["number"]), ("InvalidGrid", ["directions"]), ("InvalidDealing", ["cuts", "parts"]), ("NoMachine", ["machine"]), ("NoDealing", ["number"]), ("Quarrel", ["machine"]), ("NoLetter", ["number"]), ("InvalidText", ["text", "at"]), ("TooMany", ["many"]), ("NotDone", ["machine"])]
def kits : List (TyN × TyN × Bool) := (xcs.flatMap fun a => xcs.map fun b => (Sum.inr a.1, Sum.inr b.1, decide (a.1 = b.1))) ++ xcs.flatMap fun a => [(Sum.inr a.1, Sum.inr ("DealError" : Str), true), (Sum.inr a.1, Sum.inl "ValueError", true)]
def top (i : Nat) : Stmt := PySem.Challenge.pw_dealtarrays_k01_errors_kept.main.body.getD i (.Pass ⟨0, 0, 0, 0⟩)
def frees : List Str := ["int", "abs", "range", "len", "tuple", "str", "isinstance", "repr", "ValueError"]
def globs : List Str := ["InvalidInputs", "InvalidCells", "InvalidSides", "NoFit", "InvalidGrid", "BadInput", "NoName", "NoDealing", "NoMachine", "InvalidDealing", "InvalidText", "NoLetter", "Quarrel", "NotDone", "TooMany", "DealError"]
abbrev Z (mg : Str → Option Value) : Prop := ∀ (i : Nat) (x : Str), frees[i]? = some x → mg x = none
abbrev Gs (mg : Str → Option Value) : Prop := ∀ (i : Nat) (x : Str), globs[i]? = some x → ∃ a, mg x = some (.ref a)
def ask : Ask := ⟨xcs, kits, globs ++ (["DealError", "_law_draws", "_law_take", "_law_any", "_law_error", "_law_kept", "_law_classes", "law"] : List Str), frees⟩
def tb : Tab := ask.tab
section
variable {P : Program} {w : World} {K : PySem.W.Frag} {mg : Str → Option Value} {base : Heap}
def b_draws_1 : MS := (seqS (asgS (mVar 5) (nmT 3)) (seqS (ifS (mTst (mOp2 (fOrd pGt qGt) (mOpA fLen (mCons (mVar 0) mNil)) (retM (.int 0)))) (seqS (asgS (mOp2 fMod (mVar 5) (mOpA fLen (mCons (mVar 0) mNil))) (nmT 6)) (seqS (asgS (mOpA fInt (mCons (mOp2 fIx (mVar 0) (mVar 6)) mNil)) (nmT 3)) (ifS (mAnd (mTst (mOp2 (fOrd pGe qGe) (mVar 3) (mOp2 fPow (retM (.int 10)) (retM (.int 18))))) (mTst (mOp2 (fOrd pGt qGt) (mOp2 fIx (mVar 2) (mVar 6)) (retM (.int 0))))) (seqS (exprS (mMeth isL fAppend (mVar 4) (mCons (mOp2 fMod (mOpA fInt (mCons (mOp2 fIx (mVar 2) (mVar 6)) mNil)) (retM (.int 1000003))) mNil))) (seqS (setS (mOp2 fDiv (mOpA fInt (mCons (mOp2 fIx (mVar 2) (mVar 6)) mNil)) (retM (.int 1000003))) (mVar 2) (mVar 6)) (fS .ct))) nxS))) nxS) (seqS (asgS (mOp2 fMod (mOpA fInt (mCons (mOp2 fAdd (mOp2 fAdd (mOp2 fMul (mVar 3) (retM (.int 48271))) (mOp2 fMul (mVar 5) (retM (.int 69621)))) (retM (.int 11))) mNil)) (retM (.int 2147483647))) (nmT 7)) (seqS (asgS (mOp2 fMod (mOpA fInt (mCons (mOp2 fAdd (mOp2 fDiv (mOp2 fMul (mVar 7) (mVar 7)) (retM (.int 4096))) (mVar 7)) mNil)) (retM (.int 2147483629))) (nmT 7)) (exprS (mMeth isL fAppend (mVar 4) (mCons (mOp2 fMod (mOpA fInt (mCons (mOp2 fAdd (mOp2 fDiv (mOp2 fMul (mVar 7) (mVar 7)) (retM (.int 4096))) (mOp2 fMul (mVar 5) (retM (.int 7919)))) mNil)) (retM (.int 2147483629))) mNil)))))))
def m_draws : MS := (seqS (asgS (compM [3] (mSeq (mVar 0)) (nmT 3) yesM (mOpA fAbs (mCons (mOpA fInt (mCons (mVar 3) mNil)) mNil))) (nmT 2)) (seqS (asgS (mOpA fLst mNil) (nmT 4)) (seqS (forS (mRng1 (mCons (mVar 1) mNil)) (nmT 5) b_draws_1) (retS (mVar 4)))))
def phi_draws : FnD := fnM 2 8 m_draws
abbrev s_draws : Stmt := top 18
theorem sc_draws : FnScope ["script", "many", "rests", "cell", "draws", "k", "at", "mixed"] ["script", "many"] (defScope s_draws) := ⟨rfl, rfl, rfl, by decide +kernel, rfl, by decide +kernel, by decide +kernel⟩
theorem d_draws (hF : Facts (GK K mg) tb) (hN : Named (GK K mg) tb) (z : Z mg) (gl : Gs mg) {fd : FuncData} (FD : FunD K "_law_draws" "_law_draws" (defArgs s_draws) (defBody s_draws) (defScope s_draws) [] [] (He.ga K "_law_draws") fd) (hm : mg "_law_draws" = some (.ref (He.ga K "_law_draws"))) : FnN P w K mg base (0 + 1) "_law_draws" ["script", "many"] phi_draws := by
  have hN0 : (["script", "many", "rests", "cell", "draws", "k", "at", "mixed"] : List Str).Nodup := by decide +kernel
  refine fnn (st := s_draws) (N := ["script", "many", "rests", "cell", "draws", "k", "at", "mixed"]) (m := m_draws) (k := 0) FD sc_draws hm (fun _ _ _ _ _ _ us hl => match us, hl with | [_, _], _ => rfl) fun cdv A outer s H E hr hG0 => ?_
  have hu : (A.deeper (envOfC "_law_draws" (defScope s_draws) s.heap.objs.size (He.ga K "_law_draws") cdv)).units + 66 < cLine := by have := hr.un; omega
  have hG : (A.deeper (envOfC "_law_draws" (defScope s_draws) s.heap.objs.size (He.ga K "_law_draws") cdv)).guards = some [] := hG0
  exact (sm_cons (sm_setLc 2 [("cell", 3)] rfl hN0 rfl rfl rfl (im_seq (em_var 0)) (blkOk_by rfl) (fun _ _ _ _ _ => (gc_name 3 hN0)) (fun _ _ _ _ _ => sm_yes) (fun _ _ _ _ _ => (em_callB call_abs f_abs (z 1 _ rfl) (am_cons (em_callTy call_int1 f_int (z 0 _ rfl) (am_cons (em_var 3) am_nil)) am_nil)))) (sm_cons (sm_set 4 hN0 (em_lst am_nil)) (sm_cons (sm_for PassesOwn.leaving rfl (im_range1 (z 2 _ rfl) (am_cons (em_var 1) am_nil)) (gm_name 5 hN0) (sm_cons (sm_set 3 hN0 (em_var 5)) (sm_cons (sm_if (tm_cmp op_gtM f_ord (em_callB (call_lenM rfl) f_len (z 3 _ rfl) (am_cons (em_var 0) am_nil)) em_int rfl) (sm_cons (sm_set 6 hN0 (em_mod (em_var 5) (em_callB (call_lenM rfl) f_len (z 3 _ rfl) (am_cons (em_var 0) am_nil)))) (sm_cons (sm_set 3 hN0 (em_callTy call_int1 f_int (z 0 _ rfl) (am_cons (em_ix (em_var 0) (em_var 6)) am_nil))) (sm_one (sm_if (L2.PW.pt (wm_and (tm_cmp op_geM f_ord (em_var 3) (em_pow em_int em_int) rfl) (wm_and1 (tm_cmp op_gtM f_ord (em_ix (em_var 2) (em_var 6)) em_int rfl)))) (sm_cons (sm_expr (em_append (em_var 4) (am_cons (em_mod (em_callTy call_int1 f_int (z 0 _ rfl) (am_cons (em_ix (em_var 2) (em_var 6)) am_nil)) em_int) am_nil))) (sm_cons (sm_setix (em_div (em_callTy call_int1 f_int (z 0 _ rfl) (am_cons (em_ix (em_var 2) (em_var 6)) am_nil)) em_int) (em_var 2) (em_var 6)) (sm_one sm_continue))) sm_nil)))) sm_nil) (sm_cons (sm_set 7 hN0 (em_mod (em_callTy call_int1 f_int (z 0 _ rfl) (am_cons (em_add (em_add (em_mul (em_var 3) em_int) (em_mul (em_var 5) em_int)) em_int) am_nil)) em_int)) (sm_cons (sm_set 7 hN0 (em_mod (em_callTy call_int1 f_int (z 0 _ rfl) (am_cons (em_add (em_div (em_mul (em_var 7) (em_var 7)) em_int) (em_var 7)) am_nil)) em_int)) (sm_one (sm_expr (em_append (em_var 4) (am_cons (em_mod (em_callTy call_int1 f_int (z 0 _ rfl) (am_cons (em_add (em_div (em_mul (em_var 7) (em_var 7)) em_int) (em_mul (em_var 5) em_int)) am_nil)) em_int) am_nil))))))))) (sm_one (sm_ret (em_var 4))))))
def m_take : MS := (seqS (asgS (mOp2 fIx (mVar 0) (retM (.int 1))) (nmT 2)) (seqS (setS (mOp2 fAdd (mVar 2) (retM (.int 1))) (mVar 0) (retM (.int 1))) (seqS (asgS (mOp2 fIx (mVar 0) (retM (.int 0))) (nmT 3)) (seqS (ifS (mTst (mOp2 (fOrd pGe qGe) (mVar 2) (mOpA fLen (mCons (mVar 3) mNil)))) (retS (retM (.int 0))) nxS) (retS (mOp2 fMod (mOp2 fDiv (mOpA fInt (mCons (mOp2 fIx (mVar 3) (mVar 2)) mNil)) (retM (.int 7))) (mVar 1)))))))
def phi_take : FnD := fnM 2 4 m_take
abbrev s_take : Stmt := top 19
theorem sc_take : FnScope ["hand", "many", "at", "draws"] ["hand", "many"] (defScope s_take) := ⟨rfl, rfl, rfl, by decide +kernel, rfl, by decide +kernel, by decide +kernel⟩
theorem d_take (hF : Facts (GK K mg) tb) (hN : Named (GK K mg) tb) (z : Z mg) (gl : Gs mg) {fd : FuncData} (FD : FunD K "_law_take" "_law_take" (defArgs s_take) (defBody s_take) (defScope s_take) [] [] (He.ga K "_law_take") fd) (hm : mg "_law_take" = some (.ref (He.ga K "_law_take"))) : FnN P w K mg base (0 + 1) "_law_take" ["hand", "many"] phi_take := by
  have hN0 : (["hand", "many", "at", "draws"] : List Str).Nodup := by decide +kernel
  refine fnn (st := s_take) (N := ["hand", "many", "at", "draws"]) (m := m_take) (k := 0) FD sc_take hm (fun _ _ _ _ _ _ us hl => match us, hl with | [_, _], _ => rfl) fun cdv A outer s H E hr hG0 => ?_
  have hu : (A.deeper (envOfC "_law_take" (defScope s_take) s.heap.objs.size (He.ga K "_law_take") cdv)).units + 66 < cLine := by have := hr.un; omega
  have hG : (A.deeper (envOfC "_law_take" (defScope s_take) s.heap.objs.size (He.ga K "_law_take") cdv)).guards = some [] := hG0
  exact (sm_cons (sm_set 2 hN0 (em_ix (em_var 0) em_int)) (sm_cons (sm_setix (em_add (em_var 2) em_int) (em_var 0) em_int) (sm_cons (sm_set 3 hN0 (em_ix (em_var 0) em_int)) (sm_cons (sm_if (tm_cmp op_geM f_ord (em_var 2) (em_callB (call_lenM rfl) f_len (z 3 _ rfl) (am_cons (em_var 3) am_nil)) rfl) (sm_one (sm_ret em_int)) sm_nil) (sm_one (sm_ret (em_mod (em_div (em_callTy call_int1 f_int (z 0 _ rfl) (am_cons (em_ix (em_var 3) (em_var 2)) am_nil)) em_int) (em_var 1))))))))
def b_any_1 : MS := (asgS (mOp2 fMul (mVar 5) (retM (.int 999983))) (nmT 5))
def m_any (φ : FnD) : MS := (seqS (asgS (mCall phi_take (mCons (mVar 0) (mCons (retM (.int 9)) mNil))) (nmT 2)) (seqS (ifS (mAnd (mTst (mOp2 (fOrd pGt qGt) (mVar 1) (retM (.int 0)))) (mTst (mOp2 (fOrd pGt qGt) (mVar 2) (retM (.int 6))))) (seqS (asgS (compM [4] (mRng1 (mCons (mCall phi_take (mCons (mVar 0) (mCons (retM (.int 4)) mNil))) mNil)) (nmT 4) yesM (mCall φ (mCons (mVar 0) (mCons (mOp2 fSub (mVar 1) (retM (.int 1))) mNil)))) (nmT 3)) (seqS (ifS (mTst (mOp2 fEq (mVar 2) (retM (.int 7)))) (retS (mVar 3)) nxS) (retS (mOpA fTuple (mCons (mVar 3) mNil))))) nxS) (seqS (asgS (retM (.int 1)) (nmT 5)) (seqS (forS (mRng1 (mCons (mCall phi_take (mCons (mVar 0) (mCons (retM (.int 60)) mNil))) mNil)) (nmT 4) b_any_1) (retS (mOp2 fIx (mOpA fLst (mCons (retM .non) (mCons (retM (.bl true)) (mCons (retM (.bl false)) (mCons (mOp1 fNeg (mVar 5)) (mCons (mVar 5) (mCons (retM (.str "")) (mCons (mOp2 fAdd (retM (.str "a word ")) (mOpA fStr (mCons (mCall phi_take (mCons (mVar 0) (mCons (retM (.int 99)) mNil))) mNil))) (mCons (retM (.int 0)) (mCons (mOp1 fNeg (retM (.int 1))) mNil)))))))))) (mVar 2)))))))
def phi_any : Nat → FnD
  | 0 => fun _ _ => none
  | k + 1 => fnM 2 6 (m_any (phi_any k))
abbrev s_any : Stmt := top 20
theorem sc_any : FnScope ["hand", "depth", "kind", "row", "k", "number"] ["hand", "depth"] (defScope s_any) := ⟨rfl, rfl, rfl, by decide +kernel, rfl, by decide +kernel, by decide +kernel⟩
theorem d_any {φ : FnD} (hF : Facts (GK K mg) tb) (hN : Named (GK K mg) tb) (z : Z mg) (gl : Gs mg) (h_take : FnN P w K mg base 1 "_law_take" ["hand", "many"] phi_take) (j : Nat) (hj : 1 ≤ j) (hRec : FnN P w K mg base j "_law_any" ["hand", "depth"] φ) {fd : FuncData} (FD : FunD K "_law_any" "_law_any" (defArgs s_any) (defBody s_any) (defScope s_any) [] [] (He.ga K "_law_any") fd) (hm : mg "_law_any" = some (.ref (He.ga K "_law_any"))) : FnN P w K mg base (j + 1) "_law_any" ["hand", "depth"] (fnM 2 6 (m_any φ)) := by
  have hN0 : (["hand", "depth", "kind", "row", "k", "number"] : List Str).Nodup := by decide +kernel
  refine fnn (st := s_any) (N := ["hand", "depth", "kind", "row", "k", "number"]) (m := m_any φ) (k := j) FD sc_any hm (fun _ _ _ _ _ _ us hl => match us, hl with | [_, _], _ => rfl) fun cdv A outer s H E hr hG0 => ?_
  have hu : (A.deeper (envOfC "_law_any" (defScope s_any) s.heap.objs.size (He.ga K "_law_any") cdv)).units + 66 < cLine := by have := hr.un; omega
  have hG : (A.deeper (envOfC "_law_any" (defScope s_any) s.heap.objs.size (He.ga K "_law_any") cdv)).guards = some [] := hG0
  exact (sm_cons (sm_set 2 hN0 (em_callN h_take (hr.mono (Nat.le_trans (by decide) hj)) hG (takes_of rfl rfl rfl rfl) (am_cons (em_var 0) (am_cons em_int am_nil)))) (sm_cons (sm_if (L2.PW.pt (wm_and (tm_cmp op_gtM f_ord (em_var 1) em_int rfl) (wm_and1 (tm_cmp op_gtM f_ord (em_var 2) em_int rfl)))) (sm_cons (sm_setLc 3 [("k", 4)] rfl hN0 rfl rfl rfl (im_range1 (z 2 _ rfl) (am_cons (em_callN h_take (hr.mono (Nat.le_trans (by decide) hj)) hG (takes_of rfl rfl rfl rfl) (am_cons (em_var 0) (am_cons em_int am_nil))) am_nil)) (blkOk_by rfl) (fun _ _ _ _ _ => (gc_name 4 hN0)) (fun _ _ _ _ _ => sm_yes) (fun _ _ _ _ _ => (em_callN hRec (hr.mono (Nat.le_refl _)) hG takes_none5 (am_cons (em_var 0) (am_cons (em_sub (em_var 1) em_int) am_nil))))) (sm_cons (sm_if (tm_cmp (op_eqN rfl hu) f_eq (em_var 2) em_int rfl) (sm_one (sm_ret (em_var 3))) sm_nil) (sm_one (sm_ret (em_callTy (call_tupleM rfl) f_tuple (z 4 _ rfl) (am_cons (em_var 3) am_nil)))))) sm_nil) (sm_cons (sm_set 5 hN0 em_int) (sm_cons (sm_for PassesOwn.leaving rfl (im_range1 (z 2 _ rfl) (am_cons (em_callN h_take (hr.mono (Nat.le_trans (by decide) hj)) hG (takes_of rfl rfl rfl rfl) (am_cons (em_var 0) (am_cons em_int am_nil))) am_nil)) (gm_name 4 hN0) (sm_one (sm_set 5 hN0 (em_mul (em_var 5) em_int)))) (sm_one (sm_ret (em_ix (em_lst (am_cons em_non (am_cons em_bl (am_cons em_bl (am_cons (em_neg (em_var 5)) (am_cons (em_var 5) (am_cons em_str (am_cons (em_add em_str (em_callTy call_str_int f_str (z 5 _ rfl) (am_cons (em_callN h_take (hr.mono (Nat.le_trans (by decide) hj)) hG (takes_of rfl rfl rfl rfl) (am_cons (em_var 0) (am_cons em_int am_nil))) am_nil))) (am_cons em_int (am_cons (em_neg em_int) am_nil)))))))))) (em_var 2))))))))
def m_error : MS := (seqS (ifS (mTst (mOp2 fEq (mVar 0) (retM (.int 0)))) (retS (mOpA fTup (mCons (mCall (xmkF "InvalidSides" ["sides"]) (mCons (mVar 1) mNil)) (mCons (mCall (xmkF "InvalidSides" ["sides"]) (mCons (mVar 1) mNil)) mNil)))) nxS) (seqS (ifS (mTst (mOp2 fEq (mVar 0) (retM (.int 1)))) (retS (mOpA fTup (mCons (mCall (xmkF "InvalidCells" ["cells"]) (mCons (mVar 1) mNil)) (mCons (mCall (xmkF "InvalidCells" ["cells"]) (mCons (mVar 1) mNil)) mNil)))) nxS) (seqS (ifS (mTst (mOp2 fEq (mVar 0) (retM (.int 2)))) (retS (mOpA fTup (mCons (mCall (xmkF "InvalidInputs" ["inputs"]) (mCons (mVar 1) mNil)) (mCons (mCall (xmkF "InvalidInputs" ["inputs"]) (mCons (mVar 1) mNil)) mNil)))) nxS) (seqS (ifS (mTst (mOp2 fEq (mVar 0) (retM (.int 3)))) (retS (mOpA fTup (mCons (mCall (xmkF "NoFit" ["number"]) (mCons (mVar 1) mNil)) (mCons (mCall (xmkF "NoFit" ["number"]) (mCons (mVar 1) mNil)) mNil)))) nxS) (seqS (ifS (mTst (mOp2 fEq (mVar 0) (retM (.int 4)))) (retS (mOpA fTup (mCons (mCall (xmkF "NoName" ["name"]) (mCons (mVar 1) mNil)) (mCons (mCall (xmkF "NoName" ["name"]) (mCons (mVar 1) mNil)) mNil)))) nxS) (seqS (ifS (mTst (mOp2 fEq (mVar 0) (retM (.int 5)))) (retS (mOpA fTup (mCons (mCall (xmkF "BadInput" ["number"]) (mCons (mVar 1) mNil)) (mCons (mCall (xmkF "BadInput" ["number"]) (mCons (mVar 1) mNil)) mNil)))) nxS) (seqS (ifS (mTst (mOp2 fEq (mVar 0) (retM (.int 6)))) (retS (mOpA fTup (mCons (mCall (xmkF "InvalidGrid" ["directions"]) (mCons (mVar 1) mNil)) (mCons (mCall (xmkF "InvalidGrid" ["directions"]) (mCons (mVar 1) mNil)) mNil)))) nxS) (seqS (ifS (mTst (mOp2 fEq (mVar 0) (retM (.int 7)))) (retS (mOpA fTup (mCons (mCall (xmkF "InvalidDealing" ["cuts", "parts"]) (mCons (mVar 1) (mCons (mVar 2) mNil))) (mCons (mCall (xmkF "InvalidDealing" ["cuts", "parts"]) (mCons (mVar 1) (mCons (mVar 2) mNil))) mNil)))) nxS) (seqS (ifS (mTst (mOp2 fEq (mVar 0) (retM (.int 8)))) (retS (mOpA fTup (mCons (mCall (xmkF "NoMachine" ["machine"]) (mCons (mVar 1) mNil)) (mCons (mCall (xmkF "NoMachine" ["machine"]) (mCons (mVar 1) mNil)) mNil)))) nxS) (seqS (ifS (mTst (mOp2 fEq (mVar 0) (retM (.int 9)))) (retS (mOpA fTup (mCons (mCall (xmkF "NoDealing" ["number"]) (mCons (mVar 1) mNil)) (mCons (mCall (xmkF "NoDealing" ["number"]) (mCons (mVar 1) mNil)) mNil)))) nxS) (seqS (ifS (mTst (mOp2 fEq (mVar 0) (retM (.int 10)))) (retS (mOpA fTup (mCons (mCall (xmkF "Quarrel" ["machine"]) (mCons (mVar 1) mNil)) (mCons (mCall (xmkF "Quarrel" ["machine"]) (mCons (mVar 1) mNil)) mNil)))) nxS) (seqS (ifS (mTst (mOp2 fEq (mVar 0) (retM (.int 11)))) (retS (mOpA fTup (mCons (mCall (xmkF "NoLetter" ["number"]) (mCons (mVar 1) mNil)) (mCons (mCall (xmkF "NoLetter" ["number"]) (mCons (mVar 1) mNil)) mNil)))) nxS) (seqS (ifS (mTst (mOp2 fEq (mVar 0) (retM (.int 12)))) (retS (mOpA fTup (mCons (mCall (xmkF "InvalidText" ["text", "at"]) (mCons (mVar 1) (mCons (mVar 2) mNil))) (mCons (mCall (xmkF "InvalidText" ["text", "at"]) (mCons (mVar 1) (mCons (mVar 2) mNil))) mNil)))) nxS) (seqS (ifS (mTst (mOp2 fEq (mVar 0) (retM (.int 13)))) (retS (mOpA fTup (mCons (mCall (xmkF "TooMany" ["many"]) (mCons (mVar 1) mNil)) (mCons (mCall (xmkF "TooMany" ["many"]) (mCons (mVar 1) mNil)) mNil)))) nxS) (retS (mOpA fTup (mCons (mCall (xmkF "NotDone" ["machine"]) (mCons (mVar 1) mNil)) (mCons (mCall (xmkF "NotDone" ["machine"]) (mCons (mVar 1) mNil)) mNil))))))))))))))))))
def phi_error : FnD := fnM 3 3 m_error
abbrev s_error : Stmt := top 21
theorem sc_error : FnScope ["kind", "a", "b"] ["kind", "a", "b"] (defScope s_error) := ⟨rfl, rfl, rfl, by decide +kernel, rfl, by decide +kernel, by decide +kernel⟩
theorem d_error (hF : Facts (GK K mg) tb) (hN : Named (GK K mg) tb) (z : Z mg) (gl : Gs mg) (x_InvalidSides : XiN P w K mg base "InvalidSides" ["sides"]) (x_InvalidCells : XiN P w K mg base "InvalidCells" ["cells"]) (x_InvalidInputs : XiN P w K mg base "InvalidInputs" ["inputs"]) (x_NoFit : XiN P w K mg base "NoFit" ["number"]) (x_NoName : XiN P w K mg base "NoName" ["name"]) (x_BadInput : XiN P w K mg base "BadInput" ["number"]) (x_InvalidGrid : XiN P w K mg base "InvalidGrid" ["directions"]) (x_InvalidDealing : XiN P w K mg base "InvalidDealing" ["cuts", "parts"]) (x_NoMachine : XiN P w K mg base "NoMachine" ["machine"]) (x_NoDealing : XiN P w K mg base "NoDealing" ["number"]) (x_Quarrel : XiN P w K mg base "Quarrel" ["machine"]) (x_NoLetter : XiN P w K mg base "NoLetter" ["number"]) (x_InvalidText : XiN P w K mg base "InvalidText" ["text", "at"]) (x_TooMany : XiN P w K mg base "TooMany" ["many"]) (x_NotDone : XiN P w K mg base "NotDone" ["machine"]) {fd : FuncData} (FD : FunD K "_law_error" "_law_error" (defArgs s_error) (defBody s_error) (defScope s_error) [] [] (He.ga K "_law_error") fd) (hm : mg "_law_error" = some (.ref (He.ga K "_law_error"))) : FnN P w K mg base (2 + 1) "_law_error" ["kind", "a", "b"] phi_error := by
  have hN0 : (["kind", "a", "b"] : List Str).Nodup := by decide +kernel
  refine fnn (st := s_error) (N := ["kind", "a", "b"]) (m := m_error) (k := 2) FD sc_error hm (fun _ _ _ _ _ _ us hl => match us, hl with | [_, _, _], _ => rfl) fun cdv A outer s H E hr hG0 => ?_
  have hu : (A.deeper (envOfC "_law_error" (defScope s_error) s.heap.objs.size (He.ga K "_law_error") cdv)).units + 66 < cLine := by have := hr.un; omega
  have hG : (A.deeper (envOfC "_law_error" (defScope s_error) s.heap.objs.size (He.ga K "_law_error") cdv)).guards = some [] := hG0
  exact (sm_cons (sm_if (tm_cmp (op_eqN rfl hu) f_eq (em_var 0) em_int rfl) (sm_one (sm_ret (em_tup (am_cons (em_xmkN x_InvalidSides (hr.mono (by decide)) (takes_of rfl rfl rfl rfl) (am_cons (em_var 1) am_nil)) (am_cons (em_xmkKN x_InvalidSides (hr.mono (by decide)) (takes_of rfl rfl rfl rfl) (km_cons (em_var 1) km_nil)) am_nil))))) sm_nil) (sm_cons (sm_if (tm_cmp (op_eqN rfl hu) f_eq (em_var 0) em_int rfl) (sm_one (sm_ret (em_tup (am_cons (em_xmkN x_InvalidCells (hr.mono (by decide)) (takes_of rfl rfl rfl rfl) (am_cons (em_var 1) am_nil)) (am_cons (em_xmkKN x_InvalidCells (hr.mono (by decide)) (takes_of rfl rfl rfl rfl) (km_cons (em_var 1) km_nil)) am_nil))))) sm_nil) (sm_cons (sm_if (tm_cmp (op_eqN rfl hu) f_eq (em_var 0) em_int rfl) (sm_one (sm_ret (em_tup (am_cons (em_xmkN x_InvalidInputs (hr.mono (by decide)) (takes_of rfl rfl rfl rfl) (am_cons (em_var 1) am_nil)) (am_cons (em_xmkKN x_InvalidInputs (hr.mono (by decide)) (takes_of rfl rfl rfl rfl) (km_cons (em_var 1) km_nil)) am_nil))))) sm_nil) (sm_cons (sm_if (tm_cmp (op_eqN rfl hu) f_eq (em_var 0) em_int rfl) (sm_one (sm_ret (em_tup (am_cons (em_xmkN x_NoFit (hr.mono (by decide)) (takes_of rfl rfl rfl rfl) (am_cons (em_var 1) am_nil)) (am_cons (em_xmkKN x_NoFit (hr.mono (by decide)) (takes_of rfl rfl rfl rfl) (km_cons (em_var 1) km_nil)) am_nil))))) sm_nil) (sm_cons (sm_if (tm_cmp (op_eqN rfl hu) f_eq (em_var 0) em_int rfl) (sm_one (sm_ret (em_tup (am_cons (em_xmkN x_NoName (hr.mono (by decide)) (takes_of rfl rfl rfl rfl) (am_cons (em_var 1) am_nil)) (am_cons (em_xmkKN x_NoName (hr.mono (by decide)) (takes_of rfl rfl rfl rfl) (km_cons (em_var 1) km_nil)) am_nil))))) sm_nil) (sm_cons (sm_if (tm_cmp (op_eqN rfl hu) f_eq (em_var 0) em_int rfl) (sm_one (sm_ret (em_tup (am_cons (em_xmkN x_BadInput (hr.mono (by decide)) (takes_of rfl rfl rfl rfl) (am_cons (em_var 1) am_nil)) (am_cons (em_xmkKN x_BadInput (hr.mono (by decide)) (takes_of rfl rfl rfl rfl) (km_cons (em_var 1) km_nil)) am_nil))))) sm_nil) (sm_cons (sm_if (tm_cmp (op_eqN rfl hu) f_eq (em_var 0) em_int rfl) (sm_one (sm_ret (em_tup (am_cons (em_xmkN x_InvalidGrid (hr.mono (by decide)) (takes_of rfl rfl rfl rfl) (am_cons (em_var 1) am_nil)) (am_cons (em_xmkKN x_InvalidGrid (hr.mono (by decide)) (takes_of rfl rfl rfl rfl) (km_cons (em_var 1) km_nil)) am_nil))))) sm_nil) (sm_cons (sm_if (tm_cmp (op_eqN rfl hu) f_eq (em_var 0) em_int rfl) (sm_one (sm_ret (em_tup (am_cons (em_xmkN x_InvalidDealing (hr.mono (by decide)) (takes_of rfl rfl rfl rfl) (am_cons (em_var 1) (am_cons (em_var 2) am_nil))) (am_cons (em_xmkKN x_InvalidDealing (hr.mono (by decide)) (takes_of rfl rfl rfl rfl) (km_cons (em_var 1) (km_cons (em_var 2) km_nil))) am_nil))))) sm_nil) (sm_cons (sm_if (tm_cmp (op_eqN rfl hu) f_eq (em_var 0) em_int rfl) (sm_one (sm_ret (em_tup (am_cons (em_xmkN x_NoMachine (hr.mono (by decide)) (takes_of rfl rfl rfl rfl) (am_cons (em_var 1) am_nil)) (am_cons (em_xmkKN x_NoMachine (hr.mono (by decide)) (takes_of rfl rfl rfl rfl) (km_cons (em_var 1) km_nil)) am_nil))))) sm_nil) (sm_cons (sm_if (tm_cmp (op_eqN rfl hu) f_eq (em_var 0) em_int rfl) (sm_one (sm_ret (em_tup (am_cons (em_xmkN x_NoDealing (hr.mono (by decide)) (takes_of rfl rfl rfl rfl) (am_cons (em_var 1) am_nil)) (am_cons (em_xmkKN x_NoDealing (hr.mono (by decide)) (takes_of rfl rfl rfl rfl) (km_cons (em_var 1) km_nil)) am_nil))))) sm_nil) (sm_cons (sm_if (tm_cmp (op_eqN rfl hu) f_eq (em_var 0) em_int rfl) (sm_one (sm_ret (em_tup (am_cons (em_xmkN x_Quarrel (hr.mono (by decide)) (takes_of rfl rfl rfl rfl) (am_cons (em_var 1) am_nil)) (am_cons (em_xmkKN x_Quarrel (hr.mono (by decide)) (takes_of rfl rfl rfl rfl) (km_cons (em_var 1) km_nil)) am_nil))))) sm_nil) (sm_cons (sm_if (tm_cmp (op_eqN rfl hu) f_eq (em_var 0) em_int rfl) (sm_one (sm_ret (em_tup (am_cons (em_xmkN x_NoLetter (hr.mono (by decide)) (takes_of rfl rfl rfl rfl) (am_cons (em_var 1) am_nil)) (am_cons (em_xmkKN x_NoLetter (hr.mono (by decide)) (takes_of rfl rfl rfl rfl) (km_cons (em_var 1) km_nil)) am_nil))))) sm_nil) (sm_cons (sm_if (tm_cmp (op_eqN rfl hu) f_eq (em_var 0) em_int rfl) (sm_one (sm_ret (em_tup (am_cons (em_xmkN x_InvalidText (hr.mono (by decide)) (takes_of rfl rfl rfl rfl) (am_cons (em_var 1) (am_cons (em_var 2) am_nil))) (am_cons (em_xmkKN x_InvalidText (hr.mono (by decide)) (takes_of rfl rfl rfl rfl) (km_cons (em_var 1) (km_cons (em_var 2) km_nil))) am_nil))))) sm_nil) (sm_cons (sm_if (tm_cmp (op_eqN rfl hu) f_eq (em_var 0) em_int rfl) (sm_one (sm_ret (em_tup (am_cons (em_xmkN x_TooMany (hr.mono (by decide)) (takes_of rfl rfl rfl rfl) (am_cons (em_var 1) am_nil)) (am_cons (em_xmkKN x_TooMany (hr.mono (by decide)) (takes_of rfl rfl rfl rfl) (km_cons (em_var 1) km_nil)) am_nil))))) sm_nil) (sm_one (sm_ret (em_tup (am_cons (em_xmkN x_NotDone (hr.mono (by decide)) (takes_of rfl rfl rfl rfl) (am_cons (em_var 1) am_nil)) (am_cons (em_xmkKN x_NotDone (hr.mono (by decide)) (takes_of rfl rfl rfl rfl) (km_cons (em_var 1) km_nil)) am_nil)))))))))))))))))))
def m_kept : MS := (seqS (ifS (mTst (mOp2 fEq (mVar 0) (retM (.int 0)))) (retS (mOpA fLst (mCons (mOp1 (fXfld tb "sides") (mVar 1)) mNil))) nxS) (seqS (ifS (mTst (mOp2 fEq (mVar 0) (retM (.int 1)))) (retS (mOpA fLst (mCons (mOp1 (fXfld tb "cells") (mVar 1)) mNil))) nxS) (seqS (ifS (mTst (mOp2 fEq (mVar 0) (retM (.int 2)))) (retS (mOpA fLst (mCons (mOp1 (fXfld tb "inputs") (mVar 1)) mNil))) nxS) (seqS (ifS (mTst (mOp2 fEq (mVar 0) (retM (.int 4)))) (retS (mOpA fLst (mCons (mOp1 (fXfld tb "name") (mVar 1)) mNil))) nxS) (seqS (ifS (mTst (mOp2 fEq (mVar 0) (retM (.int 6)))) (retS (mOpA fLst (mCons (mOp1 (fXfld tb "directions") (mVar 1)) mNil))) nxS) (seqS (ifS (mTst (mOp2 fEq (mVar 0) (retM (.int 7)))) (retS (mOpA fLst (mCons (mOp1 (fXfld tb "cuts") (mVar 1)) (mCons (mOp1 (fXfld tb "parts") (mVar 1)) mNil)))) nxS) (seqS (ifS (mTst (mOp2 fEq (mVar 0) (retM (.int 12)))) (retS (mOpA fLst (mCons (mOp1 (fXfld tb "text") (mVar 1)) (mCons (mOp1 (fXfld tb "at") (mVar 1)) mNil)))) nxS) (seqS (ifS (mTst (mOp2 fEq (mVar 0) (retM (.int 13)))) (retS (mOpA fLst (mCons (mOp1 (fXfld tb "many") (mVar 1)) mNil))) nxS) (seqS (ifS (mTst (mOp2 fIn (mVar 0) (mOpA fLst (mCons (retM (.int 8)) (mCons (retM (.int 10)) (mCons (retM (.int 14)) mNil)))))) (retS (mOpA fLst (mCons (mOp1 (fXfld tb "machine") (mVar 1)) mNil))) nxS) (retS (mOpA fLst (mCons (mOp1 (fXfld tb "number") (mVar 1)) mNil))))))))))))
def phi_kept : FnD := fnM 2 2 m_kept
abbrev s_kept : Stmt := top 22
theorem sc_kept : FnScope ["kind", "e"] ["kind", "e"] (defScope s_kept) := ⟨rfl, rfl, rfl, by decide +kernel, rfl, by decide +kernel, by decide +kernel⟩
theorem d_kept (hF : Facts (GK K mg) tb) (hN : Named (GK K mg) tb) (z : Z mg) (gl : Gs mg) {fd : FuncData} (FD : FunD K "_law_kept" "_law_kept" (defArgs s_kept) (defBody s_kept) (defScope s_kept) [] [] (He.ga K "_law_kept") fd) (hm : mg "_law_kept" = some (.ref (He.ga K "_law_kept"))) : FnN P w K mg base (0 + 1) "_law_kept" ["kind", "e"] phi_kept := by
  have hN0 : (["kind", "e"] : List Str).Nodup := by decide +kernel
  refine fnn (st := s_kept) (N := ["kind", "e"]) (m := m_kept) (k := 0) FD sc_kept hm (fun _ _ _ _ _ _ us hl => match us, hl with | [_, _], _ => rfl) fun cdv A outer s H E hr hG0 => ?_
  have hu : (A.deeper (envOfC "_law_kept" (defScope s_kept) s.heap.objs.size (He.ga K "_law_kept") cdv)).units + 66 < cLine := by have := hr.un; omega
  have hG : (A.deeper (envOfC "_law_kept" (defScope s_kept) s.heap.objs.size (He.ga K "_law_kept") cdv)).guards = some [] := hG0
  exact (sm_cons (sm_if (tm_cmp (op_eqN rfl hu) f_eq (em_var 0) em_int rfl) (sm_one (sm_ret (em_lst (am_cons (em_xfld hF (em_var 1)) am_nil)))) sm_nil) (sm_cons (sm_if (tm_cmp (op_eqN rfl hu) f_eq (em_var 0) em_int rfl) (sm_one (sm_ret (em_lst (am_cons (em_xfld hF (em_var 1)) am_nil)))) sm_nil) (sm_cons (sm_if (tm_cmp (op_eqN rfl hu) f_eq (em_var 0) em_int rfl) (sm_one (sm_ret (em_lst (am_cons (em_xfld hF (em_var 1)) am_nil)))) sm_nil) (sm_cons (sm_if (tm_cmp (op_eqN rfl hu) f_eq (em_var 0) em_int rfl) (sm_one (sm_ret (em_lst (am_cons (em_xfld hF (em_var 1)) am_nil)))) sm_nil) (sm_cons (sm_if (tm_cmp (op_eqN rfl hu) f_eq (em_var 0) em_int rfl) (sm_one (sm_ret (em_lst (am_cons (em_xfld hF (em_var 1)) am_nil)))) sm_nil) (sm_cons (sm_if (tm_cmp (op_eqN rfl hu) f_eq (em_var 0) em_int rfl) (sm_one (sm_ret (em_lst (am_cons (em_xfld hF (em_var 1)) (am_cons (em_xfld hF (em_var 1)) am_nil))))) sm_nil) (sm_cons (sm_if (tm_cmp (op_eqN rfl hu) f_eq (em_var 0) em_int rfl) (sm_one (sm_ret (em_lst (am_cons (em_xfld hF (em_var 1)) (am_cons (em_xfld hF (em_var 1)) am_nil))))) sm_nil) (sm_cons (sm_if (tm_cmp (op_eqN rfl hu) f_eq (em_var 0) em_int rfl) (sm_one (sm_ret (em_lst (am_cons (em_xfld hF (em_var 1)) am_nil)))) sm_nil) (sm_cons (sm_if (tm_cmp (op_inM rfl hu) f_in (em_var 0) (em_lst (am_cons em_int (am_cons em_int (am_cons em_int am_nil)))) rfl) (sm_one (sm_ret (em_lst (am_cons (em_xfld hF (em_var 1)) am_nil)))) sm_nil) (sm_one (sm_ret (em_lst (am_cons (em_xfld hF (em_var 1)) am_nil)))))))))))))
def m_classes : MS := (seqS (asgS (mOpA fLst (mCons (mOpA (fIsiA tb) (mCons (mVar 0) (mCons (retM (.glo "InvalidSides")) mNil))) (mCons (mOpA (fIsiA tb) (mCons (mVar 0) (mCons (retM (.glo "InvalidCells")) mNil))) (mCons (mOpA (fIsiA tb) (mCons (mVar 0) (mCons (retM (.glo "InvalidInputs")) mNil))) mNil)))) (nmT 1)) (seqS (exprS (mMeth isL fAppend (mVar 1) (mCons (mOpA (fIsiA tb) (mCons (mVar 0) (mCons (retM (.glo "NoFit")) mNil))) mNil))) (seqS (asgS (mOp2 fAdd (mVar 1) (mOpA fLst (mCons (mOpA (fIsiA tb) (mCons (mVar 0) (mCons (retM (.glo "NoName")) mNil))) (mCons (mOpA (fIsiA tb) (mCons (mVar 0) (mCons (retM (.glo "BadInput")) mNil))) (mCons (mOpA (fIsiA tb) (mCons (mVar 0) (mCons (retM (.glo "InvalidGrid")) mNil))) mNil))))) (nmT 1)) (seqS (asgS (mOp2 fAdd (mVar 1) (mOpA fLst (mCons (mOpA (fIsiA tb) (mCons (mVar 0) (mCons (retM (.glo "InvalidDealing")) mNil))) (mCons (mOpA (fIsiA tb) (mCons (mVar 0) (mCons (retM (.glo "NoMachine")) mNil))) (mCons (mOpA (fIsiA tb) (mCons (mVar 0) (mCons (retM (.glo "NoDealing")) mNil))) mNil))))) (nmT 1)) (seqS (asgS (mOp2 fAdd (mVar 1) (mOpA fLst (mCons (mOpA (fIsiA tb) (mCons (mVar 0) (mCons (retM (.glo "Quarrel")) mNil))) (mCons (mOpA (fIsiA tb) (mCons (mVar 0) (mCons (retM (.glo "NoLetter")) mNil))) (mCons (mOpA (fIsiA tb) (mCons (mVar 0) (mCons (retM (.glo "InvalidText")) mNil))) mNil))))) (nmT 1)) (retS (mOp2 fAdd (mVar 1) (mOpA fLst (mCons (mOpA (fIsiA tb) (mCons (mVar 0) (mCons (retM (.glo "TooMany")) mNil))) (mCons (mOpA (fIsiA tb) (mCons (mVar 0) (mCons (retM (.glo "NotDone")) mNil))) mNil))))))))))
def phi_classes : FnD := fnM 1 2 m_classes
abbrev s_classes : Stmt := top 23
theorem sc_classes : FnScope ["e", "found"] ["e"] (defScope s_classes) := ⟨rfl, rfl, rfl, by decide +kernel, rfl, by decide +kernel, by decide +kernel⟩
theorem d_classes (hF : Facts (GK K mg) tb) (hN : Named (GK K mg) tb) (z : Z mg) (gl : Gs mg) {fd : FuncData} (FD : FunD K "_law_classes" "_law_classes" (defArgs s_classes) (defBody s_classes) (defScope s_classes) [] [] (He.ga K "_law_classes") fd) (hm : mg "_law_classes" = some (.ref (He.ga K "_law_classes"))) : FnN P w K mg base (0 + 1) "_law_classes" ["e"] phi_classes := by
  have hN0 : (["e", "found"] : List Str).Nodup := by decide +kernel
  refine fnn (st := s_classes) (N := ["e", "found"]) (m := m_classes) (k := 0) FD sc_classes hm (fun _ _ _ _ _ _ us hl => match us, hl with | [_], _ => rfl) fun cdv A outer s H E hr hG0 => ?_
  have hu : (A.deeper (envOfC "_law_classes" (defScope s_classes) s.heap.objs.size (He.ga K "_law_classes") cdv)).units + 66 < cLine := by have := hr.un; omega
  have hG : (A.deeper (envOfC "_law_classes" (defScope s_classes) s.heap.objs.size (He.ga K "_law_classes") cdv)).guards = some [] := hG0
  exact (sm_cons (sm_set 1 hN0 (em_lst (am_cons (em_callB (call_isiB rfl) (f_isiB hF hN) (z 6 _ rfl) (am_cons (em_var 0) (am_cons (em_globE (gl 2 _ rfl)) am_nil))) (am_cons (em_callB (call_isiB rfl) (f_isiB hF hN) (z 6 _ rfl) (am_cons (em_var 0) (am_cons (em_globE (gl 1 _ rfl)) am_nil))) (am_cons (em_callB (call_isiB rfl) (f_isiB hF hN) (z 6 _ rfl) (am_cons (em_var 0) (am_cons (em_globE (gl 0 _ rfl)) am_nil))) am_nil))))) (sm_cons (sm_expr (em_append (em_var 1) (am_cons (em_callB (call_isiB rfl) (f_isiB hF hN) (z 6 _ rfl) (am_cons (em_var 0) (am_cons (em_globE (gl 3 _ rfl)) am_nil))) am_nil))) (sm_cons (sm_set 1 hN0 (em_add (em_var 1) (em_lst (am_cons (em_callB (call_isiB rfl) (f_isiB hF hN) (z 6 _ rfl) (am_cons (em_var 0) (am_cons (em_globE (gl 6 _ rfl)) am_nil))) (am_cons (em_callB (call_isiB rfl) (f_isiB hF hN) (z 6 _ rfl) (am_cons (em_var 0) (am_cons (em_globE (gl 5 _ rfl)) am_nil))) (am_cons (em_callB (call_isiB rfl) (f_isiB hF hN) (z 6 _ rfl) (am_cons (em_var 0) (am_cons (em_globE (gl 4 _ rfl)) am_nil))) am_nil)))))) (sm_cons (sm_set 1 hN0 (em_add (em_var 1) (em_lst (am_cons (em_callB (call_isiB rfl) (f_isiB hF hN) (z 6 _ rfl) (am_cons (em_var 0) (am_cons (em_globE (gl 9 _ rfl)) am_nil))) (am_cons (em_callB (call_isiB rfl) (f_isiB hF hN) (z 6 _ rfl) (am_cons (em_var 0) (am_cons (em_globE (gl 8 _ rfl)) am_nil))) (am_cons (em_callB (call_isiB rfl) (f_isiB hF hN) (z 6 _ rfl) (am_cons (em_var 0) (am_cons (em_globE (gl 7 _ rfl)) am_nil))) am_nil)))))) (sm_cons (sm_set 1 hN0 (em_add (em_var 1) (em_lst (am_cons (em_callB (call_isiB rfl) (f_isiB hF hN) (z 6 _ rfl) (am_cons (em_var 0) (am_cons (em_globE (gl 12 _ rfl)) am_nil))) (am_cons (em_callB (call_isiB rfl) (f_isiB hF hN) (z 6 _ rfl) (am_cons (em_var 0) (am_cons (em_globE (gl 11 _ rfl)) am_nil))) (am_cons (em_callB (call_isiB rfl) (f_isiB hF hN) (z 6 _ rfl) (am_cons (em_var 0) (am_cons (em_globE (gl 10 _ rfl)) am_nil))) am_nil)))))) (sm_one (sm_ret (em_add (em_var 1) (em_lst (am_cons (em_callB (call_isiB rfl) (f_isiB hF hN) (z 6 _ rfl) (am_cons (em_var 0) (am_cons (em_globE (gl 14 _ rfl)) am_nil))) (am_cons (em_callB (call_isiB rfl) (f_isiB hF hN) (z 6 _ rfl) (am_cons (em_var 0) (am_cons (em_globE (gl 13 _ rfl)) am_nil))) am_nil)))))))))))
def b_law_1 : MS := (seqS (ifS (mOr (mNot (mTst (mOpA (fIsiA tb) (mCons (mVar 7) (mCons (retM (.glo "DealError")) mNil))))) (mNot (mTst (mOpA (fIsiA tb) (mCons (mVar 7) (mCons (retM (.ty "ValueError")) mNil)))))) (retS (retM (.bl false))) nxS) (ifS (mOr (mTst (mOp2 fNe (mOpA fRepr (mCons (mCall phi_kept (mCons (mVar 2) (mCons (mVar 7) mNil))) mNil)) (mVar 6))) (mTst (mOp2 fNe (mCall phi_classes (mCons (mVar 7) mNil)) (compM [8] (mRng1 (mCons (retM (.int 15)) mNil)) (nmT 8) yesM (mOp2 fEq (mVar 8) (mVar 2)))))) (retS (retM (.bl false))) nxS))
def b_law_2 : MS := (seqS (parS 3 4 (mCons (mCall (phi_any 3) (mCons (mVar 1) (mCons (retM (.int 2)) mNil))) (mCons (mCall (phi_any 3) (mCons (mVar 1) (mCons (retM (.int 1)) mNil))) mNil))) (seqS (ifS (mTst (mOp2 fEq (mVar 2) (retM (.int 12)))) (asgS (mCall phi_take (mCons (mVar 1) (mCons (retM (.int 1000)) mNil))) (nmT 4)) nxS) (seqS (ifS (mTst (mOp2 fEq (mVar 2) (retM (.int 13)))) (asgS (mCall phi_take (mCons (mVar 1) (mCons (retM (.int 1000)) mNil))) (nmT 3)) nxS) (seqS (asgS (mOpA fLst (mCons (mVar 3) mNil)) (nmT 5)) (seqS (ifS (mOr (mTst (mOp2 fEq (mVar 2) (retM (.int 7)))) (mTst (mOp2 fEq (mVar 2) (retM (.int 12))))) (asgS (mOpA fLst (mCons (mVar 3) (mCons (mVar 4) mNil))) (nmT 5)) nxS) (seqS (asgS (mOpA fRepr (mCons (mVar 5) mNil)) (nmT 6)) (forS (mSeq (mCall phi_error (mCons (mVar 2) (mCons (mVar 3) (mCons (mVar 4) mNil))))) (nmT 7) b_law_1)))))))
def m_law : MS := (seqS (asgS (mOpA fLst (mCons (mCall phi_draws (mCons (mVar 0) (mCons (retM (.int 200)) mNil))) (mCons (retM (.int 0)) mNil))) (nmT 1)) (seqS (forS (mRng1 (mCons (retM (.int 15)) mNil)) (nmT 2) b_law_2) (retS (retM (.bl true)))))
def phi_law : FnD := fnM 1 9 m_law
abbrev s_law : Stmt := top 24
theorem sc_law : FnScope ["script", "hand", "kind", "a", "b", "due", "told", "one", "k"] ["script"] (defScope s_law) := ⟨rfl, rfl, rfl, by decide +kernel, rfl, by decide +kernel, by decide +kernel⟩
theorem d_law (hF : Facts (GK K mg) tb) (hN : Named (GK K mg) tb) (z : Z mg) (gl : Gs mg) (h_draws : FnN P w K mg base 1 "_law_draws" ["script", "many"] phi_draws) (h_any : FnN P w K mg base 4 "_law_any" ["hand", "depth"] (phi_any 3)) (h_take : FnN P w K mg base 1 "_law_take" ["hand", "many"] phi_take) (h_error : FnN P w K mg base 3 "_law_error" ["kind", "a", "b"] phi_error) (h_kept : FnN P w K mg base 1 "_law_kept" ["kind", "e"] phi_kept) (h_classes : FnN P w K mg base 1 "_law_classes" ["e"] phi_classes) {fd : FuncData} (FD : FunD K "law" "law" (defArgs s_law) (defBody s_law) (defScope s_law) [] [] (He.ga K "law") fd) (hm : mg "law" = some (.ref (He.ga K "law"))) : FnG P w K mg base (4 + 1) (He.ga K "law") fd ["script"] phi_law := by
  have hN0 : (["script", "hand", "kind", "a", "b", "due", "told", "one", "k"] : List Str).Nodup := by decide +kernel
  refine fng_of (st := s_law) (N := ["script", "hand", "kind", "a", "b", "due", "told", "one", "k"]) (m := m_law) (k := 4) (He5.fun_of FD) sc_law fun cdv A outer s H E hr hG0 => ?_
  have hu : (A.deeper (envOfC "law" (defScope s_law) s.heap.objs.size (He.ga K "law") cdv)).units + 66 < cLine := by have := hr.un; omega
  have hG : (A.deeper (envOfC "law" (defScope s_law) s.heap.objs.size (He.ga K "law") cdv)).guards = some [] := hG0
  exact (sm_cons (sm_set 1 hN0 (em_lst (am_cons (em_callN h_draws (hr.mono (by decide)) hG (takes_of rfl rfl rfl rfl) (am_cons (em_var 0) (am_cons em_int am_nil))) (am_cons em_int am_nil)))) (sm_cons (sm_for PassesOwn.leaving rfl (im_range1 (z 2 _ rfl) (am_cons em_int am_nil)) (gm_name 2 hN0) (sm_cons (sm_par 3 4 rfl hN0 (am_cons (em_callN h_any (hr.mono (by decide)) hG (takes_of rfl rfl rfl rfl) (am_cons (em_var 1) (am_cons em_int am_nil))) (am_cons (em_callN h_any (hr.mono (by decide)) hG (takes_of rfl rfl rfl rfl) (am_cons (em_var 1) (am_cons em_int am_nil))) am_nil))) (sm_cons (sm_if (tm_cmp (op_eqN rfl hu) f_eq (em_var 2) em_int rfl) (sm_one (sm_set 4 hN0 (em_callN h_take (hr.mono (by decide)) hG (takes_of rfl rfl rfl rfl) (am_cons (em_var 1) (am_cons em_int am_nil))))) sm_nil) (sm_cons (sm_if (tm_cmp (op_eqN rfl hu) f_eq (em_var 2) em_int rfl) (sm_one (sm_set 3 hN0 (em_callN h_take (hr.mono (by decide)) hG (takes_of rfl rfl rfl rfl) (am_cons (em_var 1) (am_cons em_int am_nil))))) sm_nil) (sm_cons (sm_set 5 hN0 (em_lst (am_cons (em_var 3) am_nil))) (sm_cons (sm_if (L2.PW.pt (wm_or (tm_cmp (op_eqN rfl hu) f_eq (em_var 2) em_int rfl) (wm_or1 (tm_cmp (op_eqN rfl hu) f_eq (em_var 2) em_int rfl)))) (sm_one (sm_set 5 hN0 (em_lst (am_cons (em_var 3) (am_cons (em_var 4) am_nil))))) sm_nil) (sm_cons (sm_set 6 hN0 (em_callB (call_reprG rfl hG hu) f_repr (z 7 _ rfl) (am_cons (em_var 5) am_nil))) (sm_one (sm_for PassesOwn.leaving rfl (im_seq (em_callN h_error (hr.mono (by decide)) hG (takes_of rfl rfl rfl rfl) (am_cons (em_var 2) (am_cons (em_var 3) (am_cons (em_var 4) am_nil))))) (gm_name 7 hN0) (sm_cons (sm_if (L2.PW.pt (wm_or (tm_not (tm_val (em_callB (call_isiB rfl) (f_isiB hF hN) (z 6 _ rfl) (am_cons (em_var 7) (am_cons (em_globE (gl 15 _ rfl)) am_nil))))) (wm_or1 (tm_not (tm_val (em_callB (call_isiB rfl) (f_isiB hF hN) (z 6 _ rfl) (am_cons (em_var 7) (am_cons (em_ty (z 8 _ rfl)) am_nil)))))))) (sm_one (sm_ret em_bl)) sm_nil) (sm_one (sm_if (L2.PW.pt (wm_or (tm_cmp (op_neN rfl hu) f_ne (em_callB (call_reprG rfl hG hu) f_repr (z 7 _ rfl) (am_cons (em_callN h_kept (hr.mono (by decide)) hG (takes_of rfl rfl rfl rfl) (am_cons (em_var 2) (am_cons (em_var 7) am_nil))) am_nil)) (em_var 6) rfl) (wm_or1 (tm_cmp (op_neN rfl hu) f_ne (em_callN h_classes (hr.mono (by decide)) hG (takes_of rfl rfl rfl rfl) (am_cons (em_var 7) am_nil)) (em_lc [("k", 8)] rfl hN0 (im_range1 (z 2 _ rfl) (am_cons em_int am_nil)) (blkOk_by rfl) (fun _ _ _ _ _ => (gc_name 8 hN0)) (fun _ _ _ _ _ => sm_yes) (fun _ _ _ _ _ => (em_cmp (op_eqN rfl hu) f_eq (em_var 8) (em_var 2) rfl))) rfl)))) (sm_one (sm_ret em_bl)) sm_nil)))))))))))) (sm_one (sm_ret em_bl))))
end
end K01

set_option Elab.async false
set_option linter.all false
set_option maxRecDepth 100000
namespace K01
open PySem PySem.Spec PyProof.Rows L2 DD
def Draw (x : Int) : Prop := 0 ≤ x ∧ x < 2147483648
/-- the three statements behind cell -/
theorem mix (c : Int) (k n : Nat) {r : D} {s2 s6 s7 : Sv} {S : So} {xs : List D} {P : Fl → Sl → So → Prop} {m : D} (hS : S[1]? = some (.lst xs)) (hl : xs.length < sizeLine)
    (h : ∀ v s, Draw v → P .nx [.v r, .v m, s2, .v (.int c), .v (.ref 1), .v (.int k), s6, s] (S.set 1 (.lst (xs ++ [.int v])))) :
    okS (seqS (asgS (mOp2 fMod (mOpA fInt (mCons (mOp2 fAdd (mOp2 fAdd (mOp2 fMul (mVar 3) (retM (.int 48271))) (mOp2 fMul (mVar 5) (retM (.int 69621)))) (retM (.int 11))) mNil)) (retM (.int 2147483647))) (nmT 7)) (seqS (asgS (mOp2 fMod (mOpA fInt (mCons (mOp2 fAdd (mOp2 fDiv (mOp2 fMul (mVar 7) (mVar 7)) (retM (.int 4096))) (mVar 7)) mNil)) (retM (.int 2147483629))) (nmT 7)) (exprS (mMeth isL fAppend (mVar 4) (mCons (mOp2 fMod (mOpA fInt (mCons (mOp2 fAdd (mOp2 fDiv (mOp2 fMul (mVar 7) (mVar 7)) (retM (.int 4096))) (mOp2 fMul (mVar 5) (retM (.int 7919)))) mNil)) (retM (.int 2147483629))) mNil)))))
      [.v r, .v m, s2, .v (.int c), .v (.ref 1), .v (.int k), s6, s7] S P := by
  have c1 : ∀ a : Int, CDivW a 4096 := fun a => by unfold CDivW; decide
  refine okS_seq (okS_asg ?_)
  simp
  refine ⟨cm (by decide), cm (by decide), ?_⟩
  have hm : ∀ a : Int, 0 ≤ a % 2147483647 ∧ a % 2147483647 < 2147483647 := fun a => ⟨Int.emod_nonneg _ (by decide), Int.emod_lt_of_pos _ (by decide)⟩
  have hm2 : ∀ a : Int, 0 ≤ a % 2147483629 ∧ a % 2147483629 < 2147483629 := fun a => ⟨Int.emod_nonneg _ (by decide), Int.emod_lt_of_pos _ (by decide)⟩
  generalize hq : (c * 48271 + (k : Int) * 69621 + 11) % 2147483647 = q
  have q1 : 0 ≤ q ∧ q < 2147483647 := by rw [← hq]; exact hm _
  refine okS_seq (okS_asg ?_)
  simp
  refine ⟨cm (by omega), c1 _, ?_⟩
  generalize hq2 : (q * q / 4096 + q) % 2147483629 = q2
  have q3 : 0 ≤ q2 ∧ q2 < 2147483629 := by rw [← hq2]; exact hm2 _
  refine okS_expr ?_
  simp
  refine ⟨isL_ref hS, cm (by omega), c1 _, cm (by decide), ?_⟩
  rw [fAppend_ref hS hl]
  simp
  refine h _ _ ?_
  have := hm2 (q2 * q2 / 4096 + (k : Int) * 7919)
  unfold Draw
  omega

/-- one turn of the draws -/
theorem draw_turn (ns rests xs : List Int) (i : Nat) (s3 s5 s6 s7 : Sv) (P : Fl → Sl → So → Prop) (hr : rests.length = ns.length) (h0 : ∀ r ∈ rests, 0 ≤ r) (hx : ∀ x ∈ xs, Draw x) (hl : xs.length < sizeLine)
    (h : ∀ (f : Fl) (s3 s5 s6 s7 : Sv) (rests : List Int) (v : Int), (f = .nx ∨ f = .ct) → rests.length = ns.length → (∀ r ∈ rests, 0 ≤ r) → Draw v →
      P f [.v (.rol (ns.map .int)), .v (.int 200), .v (.ref 0), s3, .v (.ref 1), s5, s6, s7] [.lst (rests.map .int), .lst ((xs ++ [v]).map .int)]) :
    okS b_draws_1 [.v (.rol (ns.map .int)), .v (.int 200), .v (.ref 0), s3, .v (.ref 1), .v (.int (i : Nat)), s6, s7] [.lst (rests.map .int), .lst (xs.map .int)] P := by
  have fin : ∀ (c : Int) (s3 s6 s7 : Sv) (rests : List Int), rests.length = ns.length → (∀ r ∈ rests, 0 ≤ r) → ∀ v s, Draw v → P .nx [.v (.rol (ns.map .int)), .v (.int 200), .v (.ref 0), .v (.int c), .v (.ref 1), .v (.int (i : Nat)), s6, s] ([O.lst (rests.map .int), .lst (xs.map .int)].set 1 (.lst (xs.map .int ++ [.int v]))) := by
    intro c s3 s6 s7 rests hr h0 v s hv
    have := h .nx (.v (.int c)) (.v (.int (i : Nat))) s6 s rests v (.inl rfl) hr h0 hv
    simpa using this
  unfold b_draws_1
  refine okS_seq (okS_asg ?_)
  simp
  by_cases hn : ns = []
  · subst hn
    refine okS_seq (okS_ifF ?_)
    simp
    refine okS_nx ?_
    simp
    exact mix _ i 0 rfl (by simpa using hl) (fin _ (.v (.int (i : Nat))) s6 s7 rests hr h0)
  · have hpos : 0 < ns.length := List.length_pos_iff.mpr hn
    refine okS_seq (okS_ifT ?_)
    simp [hpos]
    refine okS_seq (okS_asg ?_)
    simp [hpos]
    generalize hj : (i : Int) % (ns.length : Int) = j
    have j1 : 0 ≤ j ∧ j < ns.length := by
      rw [← hj]
      exact ⟨Int.emod_nonneg _ (by omega), Int.emod_lt_of_pos _ (by omega)⟩
    obtain ⟨d1, a1, g1⟩ := atI_ok (xs := ns.map D.int) j1.1 (by simpa using j1.2)
    obtain ⟨d2, a2, g2⟩ := atI_ok (xs := rests.map D.int) j1.1 (by simpa [hr] using j1.2)
    rw [List.getElem?_map] at g1 g2
    obtain ⟨c, g1, rfl⟩ := Option.map_eq_some_iff.mp g1
    obtain ⟨t, g2, rfl⟩ := Option.map_eq_some_iff.mp g2
    refine okS_seq (okS_asg ?_)
    simp [fIx_rol a1]
    have S0 : ([O.lst (rests.map .int), .lst (xs.map .int)] : So)[0]? = some (.lst (rests.map .int)) := rfl
    have S1 : ([O.lst (rests.map .int), .lst (xs.map .int)] : So)[1]? = some (.lst (xs.map .int)) := rfl
    have pw : CPow 10 18 := by unfold CPow; decide
    by_cases hc : (1000000000000000000 : Int) ≤ c
    · by_cases ht : 0 < t
      · refine okS_ifT ?_
        simp [pw, fIx_ref S0 a2, hc, ht]
        refine okS_seq (okS_expr ?_)
        have c1 : CDivW t 1000003 := by unfold CDivW; decide
        simp [fIx_ref S0 a2, isL_ref S1, fAppend_ref S1 (by simpa using hl)]
        refine okS_seq (okS_setix ?_)
        have S0' : ([O.lst (rests.map .int), .lst (xs.map .int ++ [D.int (t % 1000003)])] : So)[0]? = some (.lst (rests.map .int)) := rfl
        simp [fIx_ref S0' a2, c1, fSet_ref S0' j1.1 (by simpa [hr] using j1.2)]
        refine okS_fl ?_
        simp
        have := h .ct (.v (.int c)) (.v (.int (i : Nat))) (.v (.int j)) s7 (rests.set j.toNat (t / 1000003)) (t % 1000003) (.inr rfl) (by simpa using hr) (fun r hm => ?_) ⟨Int.emod_nonneg _ (by decide), by have := Int.emod_lt_of_pos t (b := 1000003) (by decide); omega⟩
        · simpa [List.map_set] using this
        · rcases List.mem_or_eq_of_mem_set hm with q | q
          · exact h0 r q
          · rw [q]; exact Int.ediv_nonneg (by omega) (by decide)
      · refine okS_ifF ?_
        simp [pw, fIx_ref S0 a2, hc, ht]
        refine okS_nx ?_
        simp
        exact mix c i 0 rfl (by simpa using hl) (fin c (.v (.int (i : Nat))) _ s7 rests hr h0)
    · refine okS_ifF ?_
      simp [pw, hc]
      refine okS_nx ?_
      simp
      exact mix c i 0 rfl (by simpa using hl) (fin c (.v (.int (i : Nat))) _ s7 rests hr h0)
/-- the draws of a script -/
theorem ok_draws (ns : List Int) (hn : ns.length ≤ 63) (P : D → So → Prop) (h : ∀ (rs xs : List Int), (∀ x ∈ xs, Draw x) → P (.ref 1) [.lst (rs.map .int), .lst (xs.map .int)]) : okC (phi_draws [.rol (ns.map .int), .int 200] []) P := by
  unfold phi_draws
  refine okC_fn rfl ?_
  unfold m_draws
  refine okS_seq (okS_asg (okM_comp (okM_seqV (xs := ns.map .int) rfl ?_)))
  refine ⟨fun i S => i ≤ ns.length ∧ S = [.lst (((ns.take i).map fun n => if n < 0 then -n else n).map .int)], ⟨Nat.zero_le _, rfl⟩, fun i S2 hI => ?_⟩
  obtain ⟨hi, rfl⟩ := hI
  by_cases hin : i < ns.length
  · refine .inr ⟨by simpa [itFix] using hin, .int ns[i], _, by simp [itFix, hin], rfl, ?_⟩
    simp [startE, wipeE]
    refine ⟨?_, hin, ?_⟩
    · have := line200
      omega
    · rw [List.take_add_one]
      simp [hin]
  · have e : i = ns.length := by omega
    subst e
    refine .inl ⟨by simp [itFix], ?_⟩
    refine okS_seq (okS_asg ?_)
    simp [fLst, startE]
    refine okS_seq (okS_rng (okM_cons.mpr (okM_var.mpr ⟨.int 200, rfl, okM_nil.mpr ⟨200, rfl, by decide, ?_⟩⟩)))
    refine ⟨fun i e S => i ≤ 200 ∧ ∃ (s3 s5 s6 s7 : Sv) (rests xs : List Int), e = [.v (.rol (ns.map .int)), .v (.int 200), .v (.ref 0), s3, .v (.ref 1), s5, s6, s7] ∧ S = [.lst (rests.map .int), .lst (xs.map .int)] ∧ rests.length = ns.length ∧ (∀ r ∈ rests, 0 ≤ r) ∧ (∀ x ∈ xs, Draw x) ∧ xs.length = i, ?_, ?_, ?_⟩
    · refine ⟨Nat.zero_le _, .no, .no, .no, .no, ns.map fun n => if n < 0 then -n else n, [], rfl, by simp, by simp, fun r hr => ?_, by simp, rfl⟩
      obtain ⟨n, _, rfl⟩ := List.mem_map.mp hr
      split <;> omega
    · rintro i e2 S2 hi ⟨hi2, s3, s5, s6, s7, rests, xs, rfl, rfl, h1, h2, h3, h4⟩
      refine ⟨_, rfl, ?_⟩
      refine draw_turn ns rests xs i s3 s5 s6 s7 _ h1 h2 h3 (by have := line200; omega) fun f t3 t5 t6 t7 rests' v hf k1 k2 k3 => ?_
      have q : i + 1 ≤ 200 ∧ ∃ (s3 s5 s6 s7 : Sv) (rs ys : List Int), [Sv.v (.rol (ns.map .int)), .v (.int 200), .v (.ref 0), t3, .v (.ref 1), t5, t6, t7] = [Sv.v (.rol (ns.map .int)), .v (.int 200), .v (.ref 0), s3, .v (.ref 1), s5, s6, s7] ∧ [O.lst (rests'.map .int), .lst ((xs ++ [v]).map .int)] = [O.lst (rs.map .int), .lst (ys.map .int)] ∧ rs.length = ns.length ∧ (∀ r ∈ rs, 0 ≤ r) ∧ (∀ x ∈ ys, Draw x) ∧ ys.length = i + 1 := by
        refine ⟨by omega, t3, t5, t6, t7, rests', xs ++ [v], rfl, rfl, k1, k2, fun x hx => ?_, by simp [h4]⟩
        rcases List.mem_append.mp hx with z | z
        · exact h3 x z
        · simp at z; subst z; exact k3
      rcases hf with rfl | rfl
      · exact q
      · exact q
    · rintro e2 S2 ⟨hi2, s3, s5, s6, s7, rests, xs, rfl, rfl, h1, h2, h3, h4⟩
      refine okS_ret ?_
      simp
      have := h rests xs h3
      exact this
end K01

set_option Elab.async false
set_option linter.all false
set_option maxRecDepth 100000
namespace K01
open PySem PySem.Spec PyProof.Rows L2 DD
def Hand (S : So) : Prop := ∃ (xs : List Int) (at_ : Int), S[2]? = some (.lst [.ref 1, .int at_]) ∧ 0 ≤ at_ ∧ S[1]? = some (.lst (xs.map .int)) ∧ ∀ x ∈ xs, Draw x
def Grow (S T : So) : Prop := S.length ≤ T.length ∧ ∀ n o, n ≠ 2 → S[n]? = some o → T[n]? = some o
theorem Grow.refl (S : So) : Grow S S := ⟨Nat.le_refl _, fun _ _ _ h => h⟩
theorem Grow.trans {S T U : So} (a : Grow S T) (b : Grow T U) : Grow S U := ⟨Nat.le_trans a.1 b.1, fun n o h e => b.2 n o h (a.2 n o h e)⟩
theorem Grow.app (S : So) (o : O) : Grow S (S ++ [o]) := ⟨by simp, fun n x _ e => by rw [List.getElem?_append_left (List.getElem?_eq_some_iff.mp e).1]; exact e⟩
theorem get_app {S : So} {n : Nat} {o x : O} (e : S[n]? = some x) : (S ++ [o])[n]? = some x := by rw [List.getElem?_append_left (List.getElem?_eq_some_iff.mp e).1]; exact e
theorem get_new {S : So} {o : O} : (S ++ [o])[S.length]? = some o := by simp
theorem Hand.app {S : So} {o : O} (h : Hand S) : Hand (S ++ [o]) := by
  obtain ⟨xs, a, h1, h2, h3, h4⟩ := h
  exact ⟨xs, a, get_app h1, h2, get_app h3, h4⟩
theorem Hand.len {S : So} (h : Hand S) : 2 < S.length := by
  obtain ⟨xs, a, h1, h2, h3, h4⟩ := h
  exact (List.getElem?_eq_some_iff.mp h1).1
theorem Hand.set {S : So} {n : Nat} {o : O} (h : Hand S) (h1 : n ≠ 1) (h2 : n ≠ 2) : Hand (S.set n o) := by
  obtain ⟨xs, a, k1, k2, k3, k4⟩ := h
  exact ⟨xs, a, by rw [List.getElem?_set_ne h2]; exact k1, k2, by rw [List.getElem?_set_ne h1]; exact k3, k4⟩
theorem ok_take {S : So} {many : Int} {P : D → So → Prop} (h : Hand S) (hm : 0 < many) (hm2 : many < 2 ^ 63) (hP : ∀ v S', 0 ≤ v → v < many → Hand S' → Grow S S' → S'.length = S.length → P (.int v) S') : okC (phi_take [.ref 2, .int many] S) P := by
  obtain ⟨xs, a, h1, h2, h3, h4⟩ := h
  have l2 : 2 < S.length := (List.getElem?_eq_some_iff.mp h1).1
  unfold phi_take
  refine okC_fn rfl ?_
  unfold m_take
  simp only [startE, List.map, List.length, List.replicate, List.cons_append, List.nil_append]
  have i1 : atI [D.ref 1, .int a] 1 = some (.int a) := rfl
  refine okS_seq (okS_asg ?_)
  simp [fIx_ref h1 i1]
  refine okS_seq (okS_setix ?_)
  simp [fSet_ref h1 (i := 1) (by decide) (by simp)]
  have g2 : (S.set 2 (.lst [D.ref 1, .int (a + 1)]))[2]? = some (.lst [D.ref 1, .int (a + 1)]) := List.getElem?_set_self l2
  have g1 : (S.set 2 (.lst [D.ref 1, .int (a + 1)]))[1]? = some (.lst (xs.map .int)) := by rw [List.getElem?_set_ne (by decide)]; exact h3
  have hd : Hand (S.set 2 (.lst [D.ref 1, .int (a + 1)])) := ⟨xs, a + 1, g2, by omega, g1, h4⟩
  have gr : Grow S (S.set 2 (.lst [D.ref 1, .int (a + 1)])) := ⟨by simp, fun n o hn e => by rw [List.getElem?_set_ne (Ne.symm hn)]; exact e⟩
  have i0 : atI [D.ref 1, .int (a + 1)] 0 = some (.ref 1) := rfl
  refine okS_seq (okS_asg ?_)
  simp [fIx_ref g2 i0]
  by_cases hc : a < xs.length
  · refine okS_seq (okS_ifF ?_)
    simp [fLen_ref g1]
    refine ⟨by omega, okS_nx ?_⟩
    refine okS_ret ?_
    obtain ⟨d, a1, a2⟩ := atI_ok (xs := xs.map D.int) h2 (by simpa using hc)
    rw [List.getElem?_map] at a2
    obtain ⟨c, a2, rfl⟩ := Option.map_eq_some_iff.mp a2
    have c1 : CDivW c 7 := by unfold CDivW; decide
    simp [fIx_ref g1 a1, c1, hm]
    exact hP _ _ (Int.emod_nonneg _ (by omega)) (Int.emod_lt_of_pos _ hm) hd gr (by simp)
  · refine okS_seq (okS_ifT ?_)
    simp [fLen_ref g1]
    refine ⟨by omega, okS_ret ?_⟩
    simp
    exact hP _ _ (by decide) hm hd gr (by simp)
/-! ### data -/
mutual
inductive Dat (b : Nat) (S : So) : Nat → D → PyData → Prop
  | non {k : Nat} : Dat b S k .non .none
  | bl {k : Nat} (v : Bool) : Dat b S k (.bl v) (.bool v)
  | int {k : Nat} (v : Int) : Dat b S k (.int v) (.int v)
  | str {k : Nat} (v : Str) : Dat b S k (.str v) (.str v)
  | tup {k : Nat} {xs : List D} {ps : List PyData} : Dats b S k xs ps → Dat b S k (.tup xs) (.tuple ps)
  | ref {k m : Nat} {xs : List D} {ps : List PyData} : b ≤ m → S[m]? = some (.lst xs) → Dats b S k xs ps → Dat b S (k + 1) (.ref m) (.list ps)
inductive Dats (b : Nat) (S : So) : Nat → List D → List PyData → Prop
  | nil {k : Nat} : Dats b S k [] []
  | cons {k : Nat} {d : D} {p : PyData} {ds : List D} {ps : List PyData} : Dat b S k d p → Dats b S k ds ps → Dats b S k (d :: ds) (p :: ps)
end
section
variable {b b' : Nat} {S T : So}
mutual
theorem Dat.mono (hb : b' ≤ b) (h : ∀ n xs, b ≤ n → S[n]? = some (.lst xs) → T[n]? = some (.lst xs)) : ∀ {k k' : Nat} {d : D} {p : PyData}, k ≤ k' → Dat b S k d p → Dat b' T k' d p
  | _, _, _, _, _, .non => .non
  | _, _, _, _, _, .bl v => .bl v
  | _, _, _, _, _, .int v => .int v
  | _, _, _, _, _, .str v => .str v
  | _, _, _, _, hk, .tup x => .tup (Dats.mono hb h hk x)
  | _, 0, _, _, hk, .ref _ _ _ => absurd hk (by omega)
  | _, _ + 1, _, _, hk, .ref h1 h2 h3 => .ref (Nat.le_trans hb h1) (h _ _ h1 h2) (Dats.mono hb h (Nat.le_of_succ_le_succ hk) h3)
theorem Dats.mono (hb : b' ≤ b) (h : ∀ n xs, b ≤ n → S[n]? = some (.lst xs) → T[n]? = some (.lst xs)) : ∀ {k k' : Nat} {d : List D} {p : List PyData}, k ≤ k' → Dats b S k d p → Dats b' T k' d p
  | _, _, _, _, _, .nil => .nil
  | _, _, _, _, hk, .cons x y => .cons (Dat.mono hb h hk x) (Dats.mono hb h hk y)
end
mutual
theorem Dat.py : ∀ {k : Nat} {d : D} {p : PyData}, Dat b S k d p → toPy S k d = some p
  | _, _, _, .non => by unfold toPy; rfl
  | _, _, _, .bl v => by unfold toPy; rfl
  | _, _, _, .int v => by unfold toPy; rfl
  | _, _, _, .str v => by unfold toPy; rfl
  | _, _, _, .tup x => by unfold toPy; rw [Dats.py x]; rfl
  | _, _, _, .ref h1 h2 h3 => by unfold toPy; rw [h2]; dsimp only; rw [Dats.py h3]; rfl
theorem Dats.py : ∀ {k : Nat} {d : List D} {p : List PyData}, Dats b S k d p → toPys S k d = some p
  | _, _, _, .nil => by unfold toPys; rfl
  | _, _, _, .cons x y => by unfold toPys; rw [Dat.py x, Dats.py y]
end
theorem Dats.snoc {k : Nat} {d : D} {p : PyData} : ∀ {ds : List D} {ps : List PyData}, Dats b S k ds ps → Dat b S k d p → Dats b S k (ds ++ [d]) (ps ++ [p])
  | _, _, .nil, x => .cons x .nil
  | _, _, .cons y z, x => .cons y (Dats.snoc z x)
theorem Dats.len {k : Nat} : ∀ {ds : List D} {ps : List PyData}, Dats b S k ds ps → ds.length = ps.length
  | _, _, .nil => rfl
  | _, _, .cons _ z => by simp [Dats.len z]
end
end K01

set_option Elab.async false
set_option linter.all false
set_option maxRecDepth 100000
namespace K01
open PySem PySem.Spec PyProof.Rows L2 DD
def Leaf (p : PyData) : Prop := p = .none ∨ (∃ v, p = .bool v) ∨ (∃ i, p = .int i ∧ i.natAbs < 10 ^ 360) ∨ ∃ x, p = .str x ∧ x.cps.size ≤ 9 ∧ (x.cps.toList.all fun c => decide (c < 16 ^ 8)) = true
def Good : Nat → PyData → Prop
  | 0, p => Leaf p
  | t + 1, p => Leaf p ∨ ∃ xs : List PyData, (p = .list xs ∨ p = .tuple xs) ∧ xs.length ≤ 3 ∧ ∀ x ∈ xs, Good t x
theorem Good.leaf {t : Nat} {p : PyData} (h : Leaf p) : Good t p := by cases t; exact h; exact .inl h
/-- what repr wants of data, with room -/
structure Fit (n : Nat) (p : PyData) : Prop where
  lv : p.leavesShort 400 = true
  bk : p.bulk ≤ n
  sh : p.showable = true
  nd : p.hasDict = false
  dp : p.depth ≤ 3
theorem pow360 : (10 : Nat) ^ 360 < 2 ^ 1920 := by decide +kernel
theorem leaf_facts {p : PyData} (h : Leaf p) : p.leavesShort 400 = true ∧ p.bulk ≤ 9 ∧ p.showable = true ∧ p.hasDict = false ∧ p.depth = 0 := by
  rcases h with rfl | ⟨v, rfl⟩ | ⟨i, rfl, hi⟩ | ⟨x, rfl, h1, h2⟩
  · simp [PyData.leavesShort, PyData.bulk, PyData.showable, PyData.hasDict, PyData.depth]
  · simp [PyData.leavesShort, PyData.bulk, PyData.showable, PyData.hasDict, PyData.depth]
  · have e := int_text_length_le10 (k := 360) (by decide) hi
    have e2 : (PyData.shown (.int i)).length ≤ 361 := by
      show (Str.ofString (toString i)).length ≤ 361
      rw [PySem.ofString_length]; exact e
    have e3 : i.natAbs.log2 < 1920 := by
      by_cases h0 : i.natAbs = 0
      · rw [h0]; decide
      · exact (Nat.log2_lt h0).mpr (Nat.lt_trans hi pow360)
    refine ⟨?_, ?_, ?_, ?_, ?_⟩
    · simp only [PyData.leavesShort, decide_eq_true_eq]; omega
    · simp [PyData.bulk]
    · simp only [PyData.showable, decide_eq_true_eq]; exact e3
    · simp [PyData.hasDict]
    · simp [PyData.depth]
  · simp only [PyData.leavesShort, PyData.bulk, PyData.showable, PyData.hasDict, PyData.depth]
    exact ⟨h2, h1, trivial, trivial, trivial⟩
def cap : Nat → Nat
  | 0 => 9
  | t + 1 => 3 * (cap t + 1)
theorem all_facts {t : Nat} (ih : ∀ p, Good t p → p.leavesShort 400 = true ∧ p.bulk ≤ cap t ∧ p.showable = true ∧ p.hasDict = false ∧ p.depth ≤ t) : ∀ xs : List PyData, (∀ x ∈ xs, Good t x) →
    PyData.leavesShortAll 400 xs = true ∧ PyData.bulkAll xs ≤ xs.length * (cap t + 1) ∧ PyData.showableAll xs = true ∧ PyData.hasDictAll xs = false ∧ PyData.depthAll xs ≤ t
  | [], _ => by simp [PyData.leavesShortAll, PyData.bulkAll, PyData.showableAll, PyData.hasDictAll, PyData.depthAll]
  | x :: xs, h => by
    obtain ⟨a1, a2, a3, a4, a5⟩ := ih x (h x (List.mem_cons_self ..))
    obtain ⟨b1, b2, b3, b4, b5⟩ := all_facts ih xs fun y hy => h y (List.mem_cons_of_mem _ hy)
    simp only [PyData.leavesShortAll, PyData.bulkAll, PyData.showableAll, PyData.hasDictAll, PyData.depthAll, a1, a3, a4, b1, b3, b4, List.length_cons, Nat.add_mul]
    refine ⟨by simp, by omega, by simp, by simp, by omega⟩
theorem good_facts : ∀ (t : Nat) (p : PyData), Good t p → p.leavesShort 400 = true ∧ p.bulk ≤ cap t ∧ p.showable = true ∧ p.hasDict = false ∧ p.depth ≤ t
  | 0, p, h => by
    obtain ⟨h1, h2, h3, h4, h5⟩ := leaf_facts h
    exact ⟨h1, h2, h3, h4, by omega⟩
  | t + 1, p, h => by
    rcases h with h | ⟨xs, hp, hl, hx⟩
    · obtain ⟨h1, h2, h3, h4, h5⟩ := leaf_facts h
      have : 9 ≤ cap (t + 1) := by
        have : ∀ t, 9 ≤ cap t := fun t => by
          induction t with
          | zero => decide
          | succ t ih => show 9 ≤ 3 * (cap t + 1); omega
        exact this _
      exact ⟨h1, by omega, h3, h4, by omega⟩
    · obtain ⟨a1, a2, a3, a4, a5⟩ := all_facts (good_facts t) xs hx
      have a6 : PyData.bulkAll xs ≤ cap (t + 1) := by
        have : xs.length * (cap t + 1) ≤ 3 * (cap t + 1) := Nat.mul_le_mul_right _ hl
        show _ ≤ 3 * (cap t + 1)
        omega
      rcases hp with rfl | rfl
      · simp only [PyData.leavesShort, PyData.bulk, PyData.showable, PyData.hasDict, PyData.depth]
        exact ⟨a1, a6, a3, a4, by omega⟩
      · simp only [PyData.leavesShort, PyData.bulk, PyData.showable, PyData.hasDict, PyData.depth]
        exact ⟨a1, a6, a3, a4, by omega⟩
/-- a list of one or two of them can be shown -/
theorem show_list {xs : List PyData} (hl : xs.length ≤ 3) (h : ∀ x ∈ xs, Good 2 x) : okShow (.list xs) = true := by
  obtain ⟨h1, h2, h3, h4, h5⟩ := good_facts 3 (.list xs) (.inr ⟨xs, .inl rfl, hl, h⟩)
  unfold okShow
  have e := PyData.shown_le_bulk 400 (by decide) (.list xs) h1
  have e2 : (PyData.list xs).bulk ≤ 282 := h2
  have e3 : (PyData.shown (.list xs)).length ≤ sizeLine := by
    rw [sizeLine_eq]
    have : (400 + 2) * (PyData.list xs).bulk ≤ (400 + 2) * 282 := Nat.mul_le_mul_left _ e2
    omega
  simp only [h3, h4, Bool.not_false, Bool.true_and, Bool.and_eq_true, decide_eq_true_eq]
  exact ⟨by omega, e3⟩
theorem word_leaf : ∀ n : Nat, n < 99 → ((("a word " : Str) ++ (toString (n : Int) : String)).cps.size ≤ 9 ∧ ((("a word " : Str) ++ (toString (n : Int) : String)).cps.toList.all fun c => decide (c < 16 ^ 8)) = true) ∧ (("a word " : Str).length + (Str.ofString (toString (n : Int))).length ≤ 100) := by decide +kernel
end K01

set_option Elab.async false
set_option linter.all false
set_option maxRecDepth 100000
namespace K01
open PySem PySem.Spec PyProof.Rows L2 DD
theorem fAdd_str {x y : Str} {S : So} (h : x.length + y.length ≤ sizeLine) : fAdd (.str x) (.str y) S = some (.str (x ++ y), S) := by
  unfold fAdd; dsimp only; rw [if_pos h]
theorem fStr_int {i : Int} {S : So} (h : i.natAbs.log2 < 1920) : fStr [.int i] S = some (.str (toString i), S) := by
  unfold fStr; dsimp only; rw [if_pos h]
theorem fLst_ok {ds : List D} {S : So} (h : ds.length ≤ 100) : fLst ds S = some (.ref S.length, S ++ [.lst ds]) := by
  unfold fLst
  rw [if_pos (by have := line200; omega)]
theorem fTuple_ref {n : Nat} {xs : List D} {S : So} (h : S[n]? = some (.lst xs)) : fTuple [.ref n] S = some (.tup xs, S) := by
  simp [fTuple, seqOf, h]
theorem pow_small (i : Nat) (h : i < 60) : (((999983 : Int) ^ i)).natAbs < 10 ^ 360 := by
  have e : (((999983 : Int) ^ i)).natAbs = 999983 ^ i := by rw [Int.natAbs_pow]; rfl
  rw [e]
  have : (999983 : Nat) ^ i ≤ 999983 ^ 59 := Nat.pow_le_pow_right (by decide) (by omega)
  have : (999983 : Nat) ^ 59 < 10 ^ 360 := by decide +kernel
  omega
theorem word_ok {v : Int} (h0 : 0 ≤ v) (h1 : v < 99) {S : So} : v.natAbs.log2 < 1920 ∧ fAdd (.str "a word ") (.str (toString v)) S = some (.str ("a word " ++ (toString v : String)), S) ∧ Leaf (.str ("a word " ++ (toString v : String))) := by
  obtain ⟨n, rfl⟩ := Int.eq_ofNat_of_zero_le h0
  have hn : n < 99 := by omega
  obtain ⟨⟨w1, w2⟩, w3⟩ := word_leaf n hn
  refine ⟨?_, fAdd_str ?_, .inr (.inr (.inr ⟨_, rfl, w1, w2⟩))⟩
  · by_cases h : n = 0
    · subst h; decide
    · have : (Int.natAbs (n : Int)) = n := by simp
      rw [this]
      exact Nat.lt_trans ((Nat.log2_lt h).mpr (by omega : n < 2 ^ 7)) (by decide)
  · have := line200
    exact Nat.le_trans w3 (by omega)
/-- the part behind the rows -/
theorem any_rest {t : Nat} {kind : Int} {S0 S : So} {P : D → So → Prop} (hS : Hand S) (hg : Grow S0 S) (k0 : 0 ≤ kind) (k9 : kind < 9) (hP : ∀ d p S', Hand S' → Grow S0 S' → Dat S0.length S' t d p → Good t p → P d S') :
    okS (seqS (asgS (retM (.int 1)) (nmT 5)) (seqS (forS (mRng1 (mCons (mCall phi_take (mCons (mVar 0) (mCons (retM (.int 60)) mNil))) mNil)) (nmT 4) b_any_1) (retS (mOp2 fIx (mOpA fLst (mCons (retM .non) (mCons (retM (.bl true)) (mCons (retM (.bl false)) (mCons (mOp1 fNeg (mVar 5)) (mCons (mVar 5) (mCons (retM (.str "")) (mCons (mOp2 fAdd (retM (.str "a word ")) (mOpA fStr (mCons (mCall phi_take (mCons (mVar 0) (mCons (retM (.int 99)) mNil))) mNil))) (mCons (retM (.int 0)) (mCons (mOp1 fNeg (retM (.int 1))) mNil)))))))))) (mVar 2)))))
      [.v (.ref 2), .v (.int (t : Nat)), .v (.int kind), .no, .no, .no] S (endP P) := by
  refine okS_seq (okS_asg ?_)
  simp
  refine okS_seq (okS_rng ?_)
  simp only [okM_cons, okM_call, okM_var, okM_ret, okM_nil]
  refine ⟨.ref 2, rfl, ok_take hS (by decide) (by decide) fun v S1 v0 v1 h1 g1 l1 => ?_⟩
  refine ⟨v.toNat, by simp; omega, by omega, fun i e S2 => S2 = S1 ∧ ∃ s4, e = [.v (.ref 2), .v (.int (t : Nat)), .v (.int kind), .no, s4, .v (.int (999983 ^ i))], ⟨rfl, .no, rfl⟩, ?_, ?_⟩
  · rintro i e2 S2 hi ⟨rfl, s4, rfl⟩
    refine ⟨_, rfl, ?_⟩
    unfold b_any_1
    refine okS_asg ?_
    simp
    refine ⟨cm (by decide), ?_⟩
    rw [Int.pow_succ]
  · rintro e2 S2 ⟨rfl, s4, rfl⟩
    refine okS_ret ?_
    simp only [okM_op2, okM_opA, okM_op1, okM_cons, okM_call, okM_var, okM_ret, okM_nil, okF_some, fNeg_int]
    refine ⟨.int (999983 ^ v.toNat), rfl, ?_⟩
    simp only [okF_some, fNeg_int]
    refine ⟨.int (999983 ^ v.toNat), rfl, .ref 2, rfl, ok_take h1 (by decide) (by decide) fun u S3 u0 u1 h3 g3 l3 => ?_⟩
    obtain ⟨q1, q2, q3⟩ := word_ok u0 u1 (S := S3)
    rw [fStr_int q1]
    simp only [okF_some]
    rw [q2]
    simp only [okF_some]
    rw [fLst_ok (by simp)]
    simp only [okF_some]
    refine ⟨.int kind, rfl, ?_⟩
    have hn := pow_small v.toNat (by omega)
    have fin : ∀ d p, atI [D.non, .bl true, .bl false, .int (-(999983 ^ v.toNat)), .int (999983 ^ v.toNat), .str "", .str ("a word " ++ (toString u : String)), .int 0, .int (-1)] kind = some d → Dat S0.length (S3 ++ [.lst [D.non, .bl true, .bl false, .int (-(999983 ^ v.toNat)), .int (999983 ^ v.toNat), .str "", .str ("a word " ++ (toString u : String)), .int 0, .int (-1)]]) t d p → Leaf p →
        okF (fIx (.ref S3.length) (.int kind) (S3 ++ [.lst [D.non, .bl true, .bl false, .int (-(999983 ^ v.toNat)), .int (999983 ^ v.toNat), .str "", .str ("a word " ++ (toString u : String)), .int 0, .int (-1)]])) fun d S1 => endP P (.rt d) [.v (.ref 2), .v (.int (t : Nat)), .v (.int kind), .no, s4, .v (.int (999983 ^ v.toNat))] S1 := by
      intro d p ha hd hl
      rw [fIx_ref get_new ha]
      simp only [okF_some, endP_rt]
      exact hP d p _ h3.app (((hg.trans g1).trans g3).trans (Grow.app _ _)) hd (Good.leaf hl)
    have hk : kind = 0 ∨ kind = 1 ∨ kind = 2 ∨ kind = 3 ∨ kind = 4 ∨ kind = 5 ∨ kind = 6 ∨ kind = 7 ∨ kind = 8 := by omega
    rcases hk with rfl | rfl | rfl | rfl | rfl | rfl | rfl | rfl | rfl
    · exact fin _ _ rfl .non (.inl rfl)
    · exact fin _ _ rfl (.bl _) (.inr (.inl ⟨_, rfl⟩))
    · exact fin _ _ rfl (.bl _) (.inr (.inl ⟨_, rfl⟩))
    · exact fin _ _ rfl (.int _) (.inr (.inr (.inl ⟨_, rfl, by rw [Int.natAbs_neg]; exact hn⟩)))
    · exact fin _ _ rfl (.int _) (.inr (.inr (.inl ⟨_, rfl, hn⟩)))
    · exact fin _ _ rfl (.str _) (.inr (.inr (.inr ⟨_, rfl, by decide, by decide⟩)))
    · exact fin _ _ rfl (.str _) q3
    · exact fin _ _ rfl (.int _) (.inr (.inr (.inl ⟨_, rfl, by decide +kernel⟩)))
    · exact fin _ _ rfl (.int _) (.inr (.inr (.inl ⟨_, rfl, by decide +kernel⟩)))

theorem ok_any : ∀ (t n : Nat) (S : So) (P : D → So → Prop), t < 100 → t < n → Hand S → (∀ d p S', Hand S' → Grow S S' → Dat S.length S' t d p → Good t p → P d S') → okC (phi_any n [.ref 2, .int (t : Nat)] S) P := by
  intro t
  induction t with
  | zero =>
    intro n S P _ hn hS hP
    obtain ⟨n, rfl⟩ : ∃ j, n = j + 1 := ⟨n - 1, by omega⟩
    unfold phi_any
    refine okC_fn rfl ?_
    unfold m_any
    simp only [startE, List.map, List.length, List.replicate, List.cons_append, List.nil_append]
    refine okS_seq (okS_asg ?_)
    simp only [okM_cons, okM_call, okM_var, okM_ret, okM_nil]
    refine ⟨.ref 2, rfl, ok_take hS (by decide) (by decide) fun kind S1 k0 k1 h1 g1 l1 => ?_⟩
    refine okS_seq (okS_ifF ?_)
    simp
    refine okS_nx ?_
    exact any_rest (t := 0) h1 g1 k0 k1 hP
  | succ t ih =>
    intro n S P ht hn hS hP
    obtain ⟨n, rfl⟩ : ∃ j, n = j + 1 := ⟨n - 1, by omega⟩
    unfold phi_any
    refine okC_fn rfl ?_
    unfold m_any
    simp only [startE, List.map, List.length, List.replicate, List.cons_append, List.nil_append]
    refine okS_seq (okS_asg ?_)
    simp only [okM_cons, okM_call, okM_var, okM_ret, okM_nil]
    refine ⟨.ref 2, rfl, ok_take hS (by decide) (by decide) fun kind S1 k0 k1 h1 g1 l1 => ?_⟩
    by_cases hk : 6 < kind
    · refine okS_seq (okS_ifT ?_)
      have z : (0 : Int) < (t : Int) + 1 := by omega
      simp [hk, z]
      refine okS_seq (okS_asg (okM_compR ?_))
      simp only [okM_cons, okM_call, okM_var, okM_ret, okM_nil]
      refine ⟨.ref 2, rfl, ok_take h1 (by decide) (by decide) fun v S2 v0 v1 h2 g2 l2 => ?_⟩
      have hn2 : 2 < S2.length := h2.len
      refine ⟨v.toNat, by simp; omega, by omega, fun i T => Hand T ∧ Grow S2 T ∧ ∃ acc ps, T[S2.length]? = some (.lst acc) ∧ Dats (S2.length + 1) T t acc ps ∧ ps.length = i ∧ ∀ p ∈ ps, Good t p, ⟨h2.app, Grow.app _ _, [], [], get_new, .nil, rfl, by simp⟩, ?_, ?_⟩
      · rintro i T hi ⟨hT, gT, acc, ps, e1, e2, e3, e4⟩
        refine ⟨_, rfl, ?_⟩
        simp only [okM_cons, okM_call, okM_var, okM_ret, okM_nil, okM_op2, fSub_int, okF_some]
        refine ⟨.ref 2, rfl, .int ((t : Int) + 1), rfl, ?_⟩
        have et : (t : Int) + 1 - 1 = (t : Nat) := by omega
        simp only [fSub_int, okF_some, et]
        have lT : S2.length < T.length := (List.getElem?_eq_some_iff.mp e1).1
        refine ih n T _ (by omega) (by omega) hT fun d p T2 hT2 gT2 dd gd => ?_
        have e5 : T2[S2.length]? = some (.lst acc) := gT2.2 _ _ (by omega) e1
        have l2 : S2.length < T2.length := (List.getElem?_eq_some_iff.mp e5).1
        refine ⟨acc, e5, ?_, hT2.set (by omega) (by omega), ?_, acc ++ [d], ps ++ [p], List.getElem?_set_self l2, ?_, by simp [e3], fun x hx => ?_⟩
        · rw [Dats.len e2, e3]
          have := line200
          omega
        · refine ⟨?_, fun n o hn e => ?_⟩
          · have := gT.1; have := gT2.1; simp; omega
          · have hl : n < S2.length := (List.getElem?_eq_some_iff.mp e).1
            rw [List.getElem?_set_ne (by omega)]
            exact gT2.2 n o hn (gT.2 n o hn e)
        · refine Dats.snoc (Dats.mono (Nat.le_refl _) (fun n xs hn e => ?_) (Nat.le_refl _) e2) (Dat.mono (by omega) (fun n xs hn e => ?_) (Nat.le_refl _) dd)
          · rw [List.getElem?_set_ne (by omega)]
            exact gT2.2 n _ (by omega) e
          · rw [List.getElem?_set_ne (by omega)]
            exact e
        · rcases List.mem_append.mp hx with q | q
          · exact e4 x q
          · simp at q; subst q; exact gd
      · rintro T ⟨hT, gT, acc, ps, e1, e2, e3, e4⟩
        have lS : S.length ≤ S2.length := by have := g1.1; have := g2.1; omega
        have G : Grow S T := (g1.trans g2).trans gT
        have hx : ps.length ≤ 3 := by rw [e3]; omega
        by_cases h7 : kind = 7
        · refine okS_seq (okS_ifT ?_)
          simp [h7]
          refine okS_ret ?_
          simp
          exact hP _ (.list ps) T hT G (.ref lS e1 (Dats.mono (by omega) (fun n xs hn e => e) (Nat.le_refl _) e2)) (.inr ⟨ps, .inl rfl, hx, e4⟩)
        · refine okS_seq (okS_ifF ?_)
          simp [h7]
          refine okS_nx ?_
          refine okS_ret ?_
          simp [fTuple_ref e1]
          exact hP _ (.tuple ps) T hT G (.tup (Dats.mono (by omega) (fun n xs hn e => e) (by omega) e2)) (.inr ⟨ps, .inr rfl, hx, e4⟩)
    · refine okS_seq (okS_ifF ?_)
      have z : (0 : Int) < (t : Int) + 1 := by omega
      simp [hk, z]
      refine okS_nx ?_
      exact any_rest (t := t + 1) h1 g1 k0 k1 hP
end K01

set_option Elab.async false
set_option linter.all false
set_option maxRecDepth 100000
set_option maxHeartbeats 4000000
namespace K01
open PySem PySem.Spec PyProof.Rows L2 DD
def cn (k : Nat) : Str := (xcs.getD k ("", [])).1
def fl (k : Nat) : List Str := (xcs.getD k ("", [])).2
def flds (k : Nat) (a b : D) : List (Str × D) := stk (fl k) [a, b] []
def due (k : Nat) (a b : D) : List D := [a, b].take (fl k).length
theorem exc_ok : ∀ k, k < 15 → tb.exc (cn k) = true := by decide +kernel
theorem isi_ok : ∀ k, k < 15 → ∀ j, j < 15 → tb.kit (.inr (cn k)) (.inr (cn j)) = some (decide (k = j)) := by decide +kernel
theorem deal_ok : ∀ k, k < 15 → tb.kit (.inr (cn k)) (.inr "DealError") = some true ∧ tb.kit (.inr (cn k)) (.inl "ValueError") = some true := by decide +kernel
theorem k15 {k : Nat} (h : k < 15) : k = 0 ∨ k = 1 ∨ k = 2 ∨ k = 3 ∨ k = 4 ∨ k = 5 ∨ k = 6 ∨ k = 7 ∨ k = 8 ∨ k = 9 ∨ k = 10 ∨ k = 11 ∨ k = 12 ∨ k = 13 ∨ k = 14 := by omega
theorem ok_error (k : Nat) (hk : k < 15) (a b : D) (S : So) (P : D → So → Prop) (h : P (.tup [.ref S.length, .ref (S ++ [O.exi (cn k) (flds k a b)]).length]) (S ++ [O.exi (cn k) (flds k a b)] ++ [O.exi (cn k) (flds k a b)])) : okC (phi_error [.int (k : Nat), a, b] S) P := by
  unfold phi_error
  refine okC_fn rfl ?_
  unfold m_error
  simp only [startE, List.map, List.length, List.replicate, List.cons_append, List.nil_append]
  rcases k15 hk with rfl | rfl | rfl | rfl | rfl | rfl | rfl | rfl | rfl | rfl | rfl | rfl | rfl | rfl | rfl
  all_goals
    repeat (refine okS_eqF rfl rfl ?_)
    try refine okS_eqT rfl rfl ?_
    refine okS_ret ?_
    simp only [okM_opA, okM_cons, okM_call, okM_var, okM_ret, okM_nil]
    first
      | (refine ⟨_, rfl, ?_⟩
         rw [xmkF_ok rfl, okC_some]
         refine ⟨_, rfl, ?_⟩
         rw [xmkF_ok rfl, okC_some, fTup_ok (by simp), okF_some]
         exact h)
      | (refine ⟨_, rfl, _, rfl, ?_⟩
         rw [xmkF_ok rfl, okC_some]
         refine ⟨_, rfl, _, rfl, ?_⟩
         rw [xmkF_ok rfl, okC_some, fTup_ok (by simp), okF_some]
         exact h)

theorem all2 {p : Nat → Str → Bool} {l : Nat → List Str} {n : Nat} (h : ((List.range n).all fun k => (l k).all fun f => p k f) = true) (k : Nat) (hk : k < n) (f : Str) (hf : f ∈ l k) : p k f = true := by
  have h1 := List.all_eq_true.mp h k (List.mem_range.mpr hk)
  exact List.all_eq_true.mp h1 f hf
def xatB (k : Nat) (f : Str) : Bool := tb.xattr (cn k) f
theorem xat_all : ((List.range 15).all fun k => (fl k).all fun f => xatB k f) = true := by decide +kernel
theorem xat_ok (k : Nat) (hk : k < 15) (f : Str) (hf : f ∈ fl k) : tb.xattr (cn k) f = true := all2 (p := xatB) xat_all k hk f hf
theorem ok_kept (k : Nat) (hk : k < 15) (a b : D) (n : Nat) (S : So) (P : D → So → Prop) (hS : Hand S) (e : S[n]? = some (.exi (cn k) (flds k a b))) (h : ∀ m T, T[m]? = some (.lst (due k a b)) → Grow S T → Hand T → P (.ref m) T) : okC (phi_kept [.int (k : Nat), .ref n] S) P := by
  unfold phi_kept
  refine okC_fn rfl ?_
  unfold m_kept
  simp only [startE, List.map, List.length, List.replicate, List.cons_append, List.nil_append]
  have one : ∀ (T : So), Hand T → Grow S T → ∀ f x, T[n]? = some (.exi (cn k) (flds k a b)) → f ∈ fl k → (flds k a b).lookup f = some x → due k a b = [x] → okS (retS (mOpA fLst (mCons (mOp1 (fXfld tb f) (mVar 1)) mNil))) [.v (.int (k : Nat)), .v (.ref n)] T (endP P) := by
    intro T hT gT f x eT hf hl hd
    refine okS_ret ?_
    simp only [okM_opA, okM_op1, okM_cons, okM_var, okM_nil]
    refine ⟨_, rfl, ?_⟩
    rw [fXfld_ok eT (xat_ok k hk f hf) hl, okF_some, fLst_ok (by simp), okF_some]
    exact h _ _ (by rw [get_new, hd]) (gT.trans (Grow.app _ _)) hT.app
  have two : ∀ f g x y, f ∈ fl k → g ∈ fl k → (flds k a b).lookup f = some x → (flds k a b).lookup g = some y → due k a b = [x, y] → okS (retS (mOpA fLst (mCons (mOp1 (fXfld tb f) (mVar 1)) (mCons (mOp1 (fXfld tb g) (mVar 1)) mNil)))) [.v (.int (k : Nat)), .v (.ref n)] S (endP P) := by
    intro f g x y hf hg hl hl2 hd
    refine okS_ret ?_
    simp only [okM_opA, okM_op1, okM_cons, okM_var, okM_nil]
    refine ⟨_, rfl, ?_⟩
    rw [fXfld_ok e (xat_ok k hk f hf) hl, okF_some]
    refine ⟨_, rfl, ?_⟩
    rw [fXfld_ok e (xat_ok k hk g hg) hl2, okF_some, fLst_ok (by simp), okF_some]
    exact h _ _ (by rw [get_new, hd]) (Grow.app _ _) hS.app
  have nx : ∀ {m r : MS} {e : Sl} {T : So}, okS m e T (endP P) → (∀ Q : Fl → Sl → So → Prop, True) → True := fun _ _ => trivial
  have ret1 : ∀ {m : MM D} {r : MS} {T : So} {e : Sl}, okS (retS m) e T (endP P) → okS (retS m) e T (nxt r (endP P)) := by
    intro m r T e hh
    obtain ⟨f, e', S', h1, h2⟩ := hh
    refine ⟨f, e', S', h1, ?_⟩
    unfold retS bindS at h1
    split at h1
    · cases h1; exact h2
    · cases h1; exact h2
    · cases h1
  have inT : ∀ (t : Bool) (m r : MS), ([8, 10, 14].any fun j => j == (k : Int)) = t → (if t = true then okS m [.v (.int (k : Nat)), .v (.ref n)] (S ++ [O.lst ([8, 10, 14].map D.int)]) (nxt r (endP P)) else okS r [.v (.int (k : Nat)), .v (.ref n)] (S ++ [O.lst ([8, 10, 14].map D.int)]) (endP P)) →
      okS (seqS (ifS (mTst (mOp2 fIn (mVar 0) (mOpA fLst (mCons (retM (.int 8)) (mCons (retM (.int 10)) (mCons (retM (.int 14)) mNil)))))) m nxS) r) [.v (.int (k : Nat)), .v (.ref n)] S (endP P) := by
    intro t m r ht hh
    refine okS_seq (okS_if ?_)
    simp only [okM_tst, okM_op2, okM_opA, okM_cons, okM_var, okM_ret, okM_nil]
    refine ⟨_, rfl, ?_⟩
    rw [fLst_ok (by simp), okF_some]
    have gn : (S ++ [O.lst [D.int 8, D.int 10, D.int 14]])[S.length]? = some (.lst ([8, 10, 14].map D.int)) := get_new
    rw [fIn_ints gn, okF_some, ht]
    refine ⟨t, rfl, ?_⟩
    cases t with
    | true => rw [if_pos rfl] at hh ⊢; exact hh
    | false => rw [if_neg Bool.false_ne_true] at hh ⊢; exact okS_nx hh
  rcases k15 hk with rfl | rfl | rfl | rfl | rfl | rfl | rfl | rfl | rfl | rfl | rfl | rfl | rfl | rfl | rfl
  all_goals
    repeat (refine okS_eqF rfl rfl ?_)
    first
      | (refine okS_eqT rfl rfl (ret1 ?_)
         first
           | exact one S hS (Grow.refl S) _ _ e (List.mem_cons_self ..) rfl rfl
           | exact two _ _ _ _ (List.mem_cons_self ..) (List.mem_cons_of_mem _ (List.mem_cons_self ..)) rfl rfl rfl)
      | (refine inT true _ _ rfl ?_
         rw [if_pos rfl]
         exact ret1 (one _ hS.app (Grow.app _ _) _ _ (get_app e) (List.mem_cons_self ..) rfl rfl))
      | (refine inT false _ _ rfl ?_
         rw [if_neg Bool.false_ne_true]
         exact one _ hS.app (Grow.app _ _) _ _ (get_app e) (List.mem_cons_self ..) rfl rfl)
end K01

set_option Elab.async false
set_option linter.all false
set_option maxRecDepth 100000
namespace K01
open PySem PySem.Spec PyProof.Rows L2 DD
theorem fAdd_ref {S : So} {n m : Nat} {xs ys : List D} (h1 : S[n]? = some (.lst xs)) (h2 : S[m]? = some (.lst ys)) (hl : xs.length + ys.length ≤ 100) : fAdd (.ref n) (.ref m) S = some (.ref S.length, S ++ [.lst (xs ++ ys)]) := by
  unfold fAdd
  dsimp only
  rw [h1, h2]
  dsimp only
  rw [if_pos (by have := line200; omega)]
def bits (k : Nat) (j n : Nat) : List D := ((List.range n).map fun i => decide (k = j + i)).map D.bl
theorem bits_app (k a b c : Nat) : bits k a b ++ bits k (a + b) c = bits k a (b + c) := by
  unfold bits
  rw [← List.map_append]
  congr 1
  rw [List.range_add, List.map_append, List.map_map]
  congr 1
  apply List.map_congr_left
  intro i _
  simp [Nat.add_assoc]
theorem ok_classes (k : Nat) (hk : k < 15) (fs : List (Str × D)) (n : Nat) (S : So) (P : D → So → Prop) (hS : Hand S) (e : S[n]? = some (.exi (cn k) fs)) (h : ∀ m T, T[m]? = some (.lst (bits k 0 15)) → Grow S T → Hand T → P (.ref m) T) : okC (phi_classes [.ref n] S) P := by
  have n2 : n ≠ 2 := fun z => by
    subst z
    obtain ⟨xs, a, h1, _⟩ := hS
    rw [h1] at e
    cases e
  -- one isinstance
  have isi : ∀ (j : Nat) (T : So) (s1 : Sv) (P : D → So → Prop), j < 15 → Grow S T → P (.bl (decide (k = j))) T → okM (mOpA (fIsiA tb) (mCons (mVar 0) (mCons (retM (.glo (cn j))) mNil))) [.v (.ref n), s1] T P := by
    intro j T s1 P hj gT hp
    simp only [okM_opA, okM_cons, okM_var, okM_ret, okM_nil]
    refine ⟨_, rfl, ?_⟩
    rw [fIsiA_ok (gT.2 _ _ n2 e) (exc_ok k hk) (isi_ok k hk j hj), okF_some]
    exact hp
  -- three of them, as a list
  have tri : ∀ (j : Nat) (T : So) (s1 : Sv) (P : D → So → Prop), j + 2 < 15 → Grow S T → P (.ref T.length) (T ++ [.lst (bits k j 3)]) →
      okM (mOpA fLst (mCons (mOpA (fIsiA tb) (mCons (mVar 0) (mCons (retM (.glo (cn j))) mNil))) (mCons (mOpA (fIsiA tb) (mCons (mVar 0) (mCons (retM (.glo (cn (j + 1)))) mNil))) (mCons (mOpA (fIsiA tb) (mCons (mVar 0) (mCons (retM (.glo (cn (j + 2)))) mNil))) mNil)))) [.v (.ref n), s1] T P := by
    intro j T s1 P hj gT hp
    rw [okM_opA]
    refine okM_cons.mpr (isi j T s1 _ (by omega) gT ?_)
    refine okM_cons.mpr (isi (j + 1) T s1 _ (by omega) gT ?_)
    refine okM_cons.mpr (isi (j + 2) T s1 _ (by omega) gT ?_)
    refine okM_nil.mpr ?_
    rw [fLst_ok (by simp), okF_some]
    exact hp
  have duo : ∀ (j : Nat) (T : So) (s1 : Sv) (P : D → So → Prop), j + 1 < 15 → Grow S T → P (.ref T.length) (T ++ [.lst (bits k j 2)]) →
      okM (mOpA fLst (mCons (mOpA (fIsiA tb) (mCons (mVar 0) (mCons (retM (.glo (cn j))) mNil))) (mCons (mOpA (fIsiA tb) (mCons (mVar 0) (mCons (retM (.glo (cn (j + 1)))) mNil))) mNil))) [.v (.ref n), s1] T P := by
    intro j T s1 P hj gT hp
    rw [okM_opA]
    refine okM_cons.mpr (isi j T s1 _ (by omega) gT ?_)
    refine okM_cons.mpr (isi (j + 1) T s1 _ (by omega) gT ?_)
    refine okM_nil.mpr ?_
    rw [fLst_ok (by simp), okF_some]
    exact hp
  -- found = found + [..]
  have add : ∀ (j c : Nat) (r : Nat) (T : So) (mm : MM D) (P : D → So → Prop), (∀ Q : D → So → Prop, Q (.ref T.length) (T ++ [.lst (bits k j c)]) → okM mm [.v (.ref n), .v (.ref r)] T Q) → j + c ≤ 15 → T[r]? = some (.lst (bits k 0 j)) → P (.ref (T ++ [O.lst (bits k j c)]).length) (T ++ [.lst (bits k j c)] ++ [.lst (bits k 0 (j + c))]) →
      okM (mOp2 fAdd (mVar 1) mm) [.v (.ref n), .v (.ref r)] T P := by
    intro j c r T mm P hm hj er hp
    rw [okM_op2, okM_var]
    refine ⟨_, rfl, hm _ ?_⟩
    rw [fAdd_ref (get_app er) get_new (by simp [bits]; omega), okF_some]
    have := bits_app k 0 j c
    rw [Nat.zero_add] at this
    rw [this]
    exact hp
  unfold phi_classes
  refine okC_fn rfl ?_
  unfold m_classes
  simp only [startE, List.map, List.length, List.replicate, List.cons_append, List.nil_append]
  refine okS_seq (okS_asg (tri 0 S .no _ (by decide) (Grow.refl S) ?_))
  refine okS_seq (okS_expr ?_)
  have G1 := Grow.app S (O.lst (bits k 0 3))
  rw [okM_meth, okM_var]
  refine ⟨_, rfl, isL_ref get_new, okM_cons.mpr (isi 3 _ _ _ (by decide) G1 (okM_nil.mpr ?_))⟩
  rw [fAppend_ref get_new (by simp [bits]; have := line200; omega), okF_some]
  have e4 : (S ++ [O.lst (bits k 0 3)]).set S.length (.lst (bits k 0 3 ++ [.bl (decide (k = 3))])) = S ++ [.lst (bits k 0 4)] := by
    rw [List.set_append_right _ _ (Nat.le_refl _)]
    simp
    have := bits_app k 0 3 1
    exact this
  rw [e4]
  have G2 := Grow.app S (O.lst (bits k 0 4))
  have H2 : Hand (S ++ [O.lst (bits k 0 4)]) := hS.app
  refine okS_seq (okS_asg (add 4 3 S.length _ _ _ (fun Q q => tri 4 _ _ Q (by decide) G2 q) (by decide) get_new ?_))
  have G3 := (G2.trans (Grow.app _ (O.lst (bits k 4 3)))).trans (Grow.app _ (O.lst (bits k 0 7)))
  refine okS_seq (okS_asg (add 7 3 _ _ _ _ (fun Q q => tri 7 _ _ Q (by decide) G3 q) (by decide) get_new ?_))
  have G4 := (G3.trans (Grow.app _ (O.lst (bits k 7 3)))).trans (Grow.app _ (O.lst (bits k 0 10)))
  refine okS_seq (okS_asg (add 10 3 _ _ _ _ (fun Q q => tri 10 _ _ Q (by decide) G4 q) (by decide) get_new ?_))
  have G5 := (G4.trans (Grow.app _ (O.lst (bits k 10 3)))).trans (Grow.app _ (O.lst (bits k 0 13)))
  refine okS_ret (add 13 2 _ _ _ _ (fun Q q => duo 13 _ _ Q (by decide) G5 q) (by decide) get_new ?_)
  exact h _ _ get_new ((G5.trans (Grow.app _ _)).trans (Grow.app _ _)) H2.app.app.app.app.app.app.app.app
end K01

set_option Elab.async false
set_option linter.all false
set_option maxRecDepth 100000
set_option maxHeartbeats 1000000
namespace K01
open PySem PySem.Spec PyProof.Rows L2 DD
theorem Hand.ne2 {S : So} {n : Nat} {xs : List D} (h : Hand S) (e : S[n]? = some (.lst xs)) (hl : xs.length ≠ 2) : n ≠ 2 := fun z => by
  subst z
  obtain ⟨ys, a, h1, _⟩ := h
  rw [h1] at e
  cases e
  exact hl rfl
theorem beq_dec (i k : Nat) : ((i : Int) == (k : Int)) = decide (k = 0 + i) := by
  rw [Nat.zero_add]
  by_cases h : k = i
  · subst h; simp
  · have h2 : ¬ (i : Int) = (k : Int) := fun z => h (Int.ofNat.inj z).symm
    simp [h, h2]
/-- one error is looked at -/
theorem turn_one (k : Nat) (hk : k < 15) (a b sc du a3 a4 : D) (s8 : Sv) (n : Nat) (S : So) (ps : List PyData) (P : Fl → Sl → So → Prop) (hS : Hand S) (e : S[n]? = some (.exi (cn k) (flds k a b)))
    (hp : Dats 3 S 8 (due k a b) ps) (hs : okShow (.list ps) = true) (h : ∀ T s, Hand T → Grow S T → P .nx [.v sc, .v (.ref 2), .v (.int (k : Nat)), .v a3, .v a4, .v du, .v (.str (PyData.list ps).shown), .v (.ref n), s] T) :
    okS b_law_1 [.v sc, .v (.ref 2), .v (.int (k : Nat)), .v a3, .v a4, .v du, .v (.str (PyData.list ps).shown), .v (.ref n), s8] S P := by
  obtain ⟨d1, d2⟩ := deal_ok k hk
  unfold b_law_1
  refine okS_seq (okS_ifF ?_)
  simp only [okM_or, okM_not, okM_tst, okM_opA, okM_cons, okM_var, okM_ret, okM_nil]
  refine ⟨_, rfl, ?_⟩
  rw [fIsiA_ok e (exc_ok k hk) d1, okF_some]
  refine ⟨true, rfl, ?_⟩
  rw [if_neg (by decide)]
  refine ⟨_, rfl, ?_⟩
  rw [fIsiA_ty e (exc_ok k hk) d2, okF_some]
  refine ⟨true, rfl, rfl, okS_nx ?_⟩
  refine okS_ifF ?_
  simp only [okM_or, okM_tst, okM_op2, okM_opA, okM_call, okM_cons, okM_var, okM_ret, okM_nil]
  refine ⟨_, rfl, _, rfl, ok_kept k hk a b n S _ hS e fun m T em gT hT => ?_⟩
  have hp2 : Dats 3 T 8 (due k a b) ps := Dats.mono (Nat.le_refl _) (fun i xs hi ei => gT.2 i _ (by omega) ei) (Nat.le_refl _) hp
  rw [fRepr_ok (py_list em (Dats.py hp2)) hs, okF_some]
  refine ⟨_, rfl, ?_⟩
  rw [fNe_str, okF_some]
  refine ⟨false, rfl, ?_⟩
  rw [if_neg Bool.false_ne_true]
  have n2 : n ≠ 2 := fun z => by
    subst z
    obtain ⟨xs, a, h1, _⟩ := hS
    rw [h1] at e
    cases e
  refine ⟨_, rfl, ok_classes k hk _ n T _ hT (gT.2 _ _ n2 e) fun m2 T2 em2 gT2 hT2 => ?_⟩
  have m22 : m2 ≠ 2 := hT2.ne2 em2 (by simp [bits])
  have lm2 : m2 < T2.length := (List.getElem?_eq_some_iff.mp em2).1
  have l2 := hT2.len
  refine okM_compR ?_
  simp only [okM_cons, okM_ret, okM_nil]
  refine ⟨15, rfl, by decide, fun i U => Hand U ∧ Grow T2 U ∧ U[T2.length]? = some (.lst (bits k 0 i)), ⟨hT2.app, Grow.app _ _, get_new⟩, ?_, ?_⟩
  · rintro i U hi ⟨hU, gU, eU⟩
    refine ⟨_, rfl, ?_⟩
    simp only [okM_op2, okM_var]
    refine ⟨.int (i : Nat), rfl, .int (k : Nat), rfl, ?_⟩
    rw [fEq_int, okF_some]
    have lU : T2.length < U.length := (List.getElem?_eq_some_iff.mp eU).1
    refine ⟨_, eU, by simp [bits]; have := line200; omega, hU.set (by omega) (by omega), ⟨by have := gU.1; simp; omega, fun j o hj ej => ?_⟩, ?_⟩
    · have hl : j < T2.length := (List.getElem?_eq_some_iff.mp ej).1
      rw [List.getElem?_set_ne (by omega)]
      exact gU.2 j o hj ej
    · rw [List.getElem?_set_self lU, beq_dec]
      have := bits_app k 0 i 1
      rw [Nat.zero_add] at this
      have e1 : bits k i 1 = [.bl (decide (k = 0 + i))] := by simp [bits]
      rw [e1] at this
      rw [this]
  · rintro U ⟨hU, gU, eU⟩
    have e3 : U[m2]? = some (.lst (bits k 0 15)) := gU.2 _ _ m22 em2
    rw [fNe_bls (js := (List.range 15).map fun i => decide (k = 0 + i)) e3 eU, okF_some]
    exact ⟨false, rfl, rfl, okS_nx (h U s8 hU ((gT.trans gT2).trans gU))⟩
theorem due_two {k : Nat} (hk : k < 15) (a b : D) : (k = 7 ∨ k = 12 → due k a b = [a, b]) ∧ (¬ (k = 7 ∨ k = 12) → due k a b = [a]) := by
  rcases k15 hk with rfl | rfl | rfl | rfl | rfl | rfl | rfl | rfl | rfl | rfl | rfl | rfl | rfl | rfl | rfl <;>
    exact ⟨fun h => by first | rfl | (exact absurd h (by decide)), fun h => by first | rfl | (exact absurd h (by decide))⟩
/-- behind a and b -/
theorem law_tail (k : Nat) (hk : k < 15) (a b sc : D) (s5 s6 s7 s8 : Sv) (S : So) (pa pb : PyData) (P : Fl → Sl → So → Prop) (hS : Hand S) (ha : Dat 3 S 2 a pa) (hb : Dat 3 S 2 b pb) (ga : Good 2 pa) (gb : Good 2 pb)
    (h : ∀ T t5 t6 t7 t8, Hand T → P .nx [.v sc, .v (.ref 2), .v (.int (k : Nat)), .v a, .v b, t5, t6, t7, t8] T) :
    okS (seqS (asgS (mOpA fLst (mCons (mVar 3) mNil)) (nmT 5)) (seqS (ifS (mOr (mTst (mOp2 fEq (mVar 2) (retM (.int 7)))) (mTst (mOp2 fEq (mVar 2) (retM (.int 12))))) (asgS (mOpA fLst (mCons (mVar 3) (mCons (mVar 4) mNil))) (nmT 5)) nxS) (seqS (asgS (mOpA fRepr (mCons (mVar 5) mNil)) (nmT 6)) (forS (mSeq (mCall phi_error (mCons (mVar 2) (mCons (mVar 3) (mCons (mVar 4) mNil))))) (nmT 7) b_law_1))))
      [.v sc, .v (.ref 2), .v (.int (k : Nat)), .v a, .v b, s5, s6, s7, s8] S P := by
  -- from the list of what is due on
  have rest : ∀ (r : Nat) (T : So) (ps : List PyData), Hand T → Grow S T → T[r]? = some (.lst (due k a b)) → Dats 3 T 8 (due k a b) ps → ps.length ≤ 3 → (∀ x ∈ ps, Good 2 x) →
      okS (seqS (asgS (mOpA fRepr (mCons (mVar 5) mNil)) (nmT 6)) (forS (mSeq (mCall phi_error (mCons (mVar 2) (mCons (mVar 3) (mCons (mVar 4) mNil))))) (nmT 7) b_law_1)) [.v sc, .v (.ref 2), .v (.int (k : Nat)), .v a, .v b, .v (.ref r), s6, s7, s8] T P := by
    intro r T ps hT gT er hd hl hx
    have hs := show_list hl hx
    refine okS_seq (okS_asg ?_)
    simp only [okM_opA, okM_cons, okM_var, okM_nil]
    refine ⟨_, rfl, ?_⟩
    rw [fRepr_ok (py_list er (Dats.py hd)) hs, okF_some]
    refine okS_for (okM_seqM ?_)
    simp only [okM_cons, okM_call, okM_var, okM_nil]
    refine ⟨_, rfl, _, rfl, _, rfl, ok_error k hk a b T _ ?_⟩
    refine ⟨_, rfl, fun i e U => i ≤ 2 ∧ ∃ s7 s8, e = [.v sc, .v (.ref 2), .v (.int (k : Nat)), .v a, .v b, .v (.ref r), .v (.str (PyData.list ps).shown), s7, s8] ∧ Hand U ∧ Grow (T ++ [O.exi (cn k) (flds k a b)] ++ [O.exi (cn k) (flds k a b)]) U, ⟨Nat.zero_le _, s7, s8, rfl, hT.app.app, Grow.refl _⟩, ?_⟩
    rintro i e U ⟨hi, s7, s8, rfl, hU, gU⟩
    have lT := hT.len
    have e1 : U[T.length]? = some (.exi (cn k) (flds k a b)) := gU.2 _ _ (by omega) (get_app get_new)
    have e2 : U[(T ++ [O.exi (cn k) (flds k a b)]).length]? = some (.exi (cn k) (flds k a b)) := gU.2 _ _ (by simp; omega) get_new
    have dU : Dats 3 U 8 (due k a b) ps := Dats.mono (Nat.le_refl _) (fun j xs hj ej => gU.2 j _ (by omega) (get_app (get_app ej))) (Nat.le_refl _) hd
    have go : ∀ n, U[n]? = some (.exi (cn k) (flds k a b)) → i + 1 ≤ 2 → okS b_law_1 [.v sc, .v (.ref 2), .v (.int (k : Nat)), .v a, .v b, .v (.ref r), .v (.str (PyData.list ps).shown), .v (.ref n), s8] U
        (turnP (fun e U => i + 1 ≤ 2 ∧ ∃ s7 s8, e = [.v sc, .v (.ref 2), .v (.int (k : Nat)), .v a, .v b, .v (.ref r), .v (.str (PyData.list ps).shown), s7, s8] ∧ Hand U ∧ Grow (T ++ [O.exi (cn k) (flds k a b)] ++ [O.exi (cn k) (flds k a b)]) U) P) :=
      fun n en h2 => turn_one k hk a b sc _ a b s8 n U ps _ hU en dU hs fun V s hV gV => ⟨h2, .v (.ref n), s, rfl, hV, gU.trans gV⟩
    by_cases h0 : i = 0
    · subst h0
      exact .inr ⟨Nat.succ_pos _, _, _, rfl, rfl, go _ e1 (by decide)⟩
    · by_cases h1 : i = 1
      · subst h1
        exact .inr ⟨by simp [itFix], _, _, rfl, rfl, go _ e2 (by decide)⟩
      · have h2 : i = 2 := by omega
        subst h2
        exact .inl ⟨rfl, h U _ _ _ _ hU⟩
  have up : ∀ {T : So} {d : D} {p : PyData}, Grow S T → Dat 3 S 2 d p → Dat 3 T 8 d p := fun gT x => Dat.mono (Nat.le_refl _) (fun j xs hj ej => gT.2 j _ (by omega) ej) (by decide) x
  have G1 := Grow.app S (O.lst [a])
  have H1 : Hand (S ++ [O.lst [a]]) := hS.app
  obtain ⟨du2, du1⟩ := due_two hk a b
  refine okS_seq (okS_asg ?_)
  simp only [okM_opA, okM_cons, okM_var, okM_nil]
  refine ⟨_, rfl, ?_⟩
  rw [fLst_ok (by simp), okF_some]
  by_cases h7 : k = 7 ∨ k = 12
  · refine okS_seq (okS_ifT ?_)
    simp only [okM_or, okM_tst, okM_op2, okM_var, okM_ret]
    refine ⟨_, rfl, ?_⟩
    rw [fEq_int, okF_some]
    refine ⟨_, rfl, ?_⟩
    have fin : okS (asgS (mOpA fLst (mCons (mVar 3) (mCons (mVar 4) mNil))) (nmT 5)) [.v sc, .v (.ref 2), .v (.int (k : Nat)), .v a, .v b, .v (.ref S.length), s6, s7, s8] (S ++ [O.lst [a]]) (nxt (seqS (asgS (mOpA fRepr (mCons (mVar 5) mNil)) (nmT 6)) (forS (mSeq (mCall phi_error (mCons (mVar 2) (mCons (mVar 3) (mCons (mVar 4) mNil))))) (nmT 7) b_law_1)) P) := by
      refine okS_asg ?_
      simp only [okM_opA, okM_cons, okM_var, okM_nil]
      refine ⟨_, rfl, _, rfl, ?_⟩
      rw [fLst_ok (by simp), okF_some]
      have G2 := G1.trans (Grow.app _ (O.lst [a, b]))
      refine rest _ _ [pa, pb] H1.app G2 (by rw [get_new, du2 h7]) ?_ (by simp) ?_
      · rw [du2 h7]
        exact .cons (up G2 ha) (.cons (up G2 hb) .nil)
      · intro x hx
        simp at hx
        rcases hx with rfl | rfl
        · exact ga
        · exact gb
    by_cases hk7 : k = 7
    · subst hk7
      exact ⟨trivial, fin⟩
    · have hk12 : k = 12 := by omega
      subst hk12
      refine ⟨_, rfl, ?_⟩
      rw [fEq_int, okF_some]
      exact ⟨_, rfl, rfl, fin⟩
  · have n7 : ((k : Int) == 7) = false := by simp; omega
    have n12 : ((k : Int) == 12) = false := by simp; omega
    refine okS_seq (okS_ifF ?_)
    simp only [okM_or, okM_tst, okM_op2, okM_var, okM_ret]
    refine ⟨_, rfl, ?_⟩
    rw [fEq_int, okF_some, n7]
    refine ⟨_, rfl, ?_⟩
    rw [if_neg Bool.false_ne_true]
    refine ⟨_, rfl, ?_⟩
    rw [fEq_int, okF_some, n12]
    refine ⟨_, rfl, rfl, okS_nx ?_⟩
    refine rest _ _ [pa] H1 G1 (by rw [get_new, du1 h7]) ?_ (by simp) ?_
    · rw [du1 h7]
      exact .cons (up G1 ha) .nil
    · intro x hx
      simp at hx
      subst hx
      exact ga
end K01

set_option Elab.async false
set_option linter.all false
set_option maxRecDepth 100000
set_option maxHeartbeats 1000000
namespace K01
open PySem PySem.Spec PyProof.Rows L2 DD
/-- one kind -/
theorem turn_kind (k : Nat) (hk : k < 15) (sc : D) (s3 s4 s5 s6 s7 s8 : Sv) (S : So) (P : Fl → Sl → So → Prop) (hS : Hand S)
    (h : ∀ T t3 t4 t5 t6 t7 t8, Hand T → P .nx [.v sc, .v (.ref 2), .v (.int (k : Nat)), t3, t4, t5, t6, t7, t8] T) :
    okS b_law_2 [.v sc, .v (.ref 2), .v (.int (k : Nat)), s3, s4, s5, s6, s7, s8] S P := by
  unfold b_law_2
  refine okS_seq (okS_par ?_)
  simp only [okM_cons, okM_call, okM_var, okM_ret, okM_nil]
  refine ⟨_, rfl, ok_any 2 3 S _ (by decide) (by decide) hS fun a pa S1 h1 g1 da ga => ?_⟩
  refine ⟨_, rfl, ok_any 1 3 S1 _ (by decide) (by decide) h1 fun b pb S2 h2 g2 db gb => ?_⟩
  refine ⟨a, b, rfl, ?_⟩
  have l0 := hS.len
  have l1 := h1.len
  have da2 : Dat 3 S2 2 a pa := Dat.mono (by omega) (fun j xs hj ej => g2.2 j _ (by omega) ej) (Nat.le_refl _) da
  have db2 : Dat 3 S2 2 b pb := Dat.mono (by omega) (fun j xs hj ej => ej) (by decide) db
  have gb2 : Good 2 pb := by
    rcases gb with gb | ⟨xs, h1, h2, h3⟩
    · exact .inl gb
    · exact .inr ⟨xs, h1, h2, fun x hx => .inl (h3 x hx)⟩
  have int_good : ∀ v : Int, 0 ≤ v → v < 1000 → Good 2 (.int v) := fun v v0 v1 => Good.leaf (.inr (.inr (.inl ⟨v, rfl, by
    have : (1000 : Nat) ≤ 10 ^ 360 := by decide +kernel
    omega⟩)))
  have keep : ∀ {T : So} {d : D} {p : PyData}, Grow S2 T → Dat 3 S2 2 d p → Dat 3 T 2 d p := fun gT x => Dat.mono (Nat.le_refl _) (fun j xs hj ej => gT.2 j _ (by omega) ej) (Nat.le_refl _) x
  by_cases k12 : k = 12
  · subst k12
    refine okS_eqT rfl rfl ?_
    refine okS_asg ?_
    simp only [okM_cons, okM_call, okM_var, okM_ret, okM_nil]
    refine ⟨_, rfl, ok_take h2 (by decide) (by decide) fun v S3 v0 v1 h3 g3 l3 => ?_⟩
    refine okS_eqF rfl rfl ?_
    exact law_tail 12 hk a (.int v) sc s5 s6 s7 s8 S3 pa (.int v) P h3 (keep g3 da2) (.int v) ga (int_good v v0 v1) fun T t5 t6 t7 t8 hT => h T _ _ t5 t6 t7 t8 hT
  · have n12 : ((k : Int) == 12) = false := by simp; omega
    refine okS_eqF rfl n12 ?_
    by_cases k13 : k = 13
    · subst k13
      refine okS_eqT rfl rfl ?_
      refine okS_asg ?_
      simp only [okM_cons, okM_call, okM_var, okM_ret, okM_nil]
      refine ⟨_, rfl, ok_take h2 (by decide) (by decide) fun v S3 v0 v1 h3 g3 l3 => ?_⟩
      exact law_tail 13 hk (.int v) b sc s5 s6 s7 s8 S3 (.int v) pb P h3 (.int v) (keep g3 db2) (int_good v v0 v1) gb2 fun T t5 t6 t7 t8 hT => h T _ _ t5 t6 t7 t8 hT
    · have n13 : ((k : Int) == 13) = false := by simp; omega
      refine okS_eqF rfl n13 ?_
      exact law_tail k hk a b sc s5 s6 s7 s8 S2 pa pb P h2 da2 db2 ga gb2 fun T t5 t6 t7 t8 hT => h T _ _ t5 t6 t7 t8 hT
theorem law_true (ns : List Int) (hn : ns.length ≤ 63) : ∃ S', phi_law [.rol (ns.map .int)] [] = some (.ok (.bl true), S') := by
  have key : okC (phi_law [.rol (ns.map .int)] []) fun d _ => d = .bl true := by
    unfold phi_law
    refine okC_fn rfl ?_
    unfold m_law
    simp only [startE, List.map, List.length, List.replicate, List.cons_append, List.nil_append]
    refine okS_seq (okS_asg ?_)
    simp only [okM_opA, okM_cons, okM_call, okM_var, okM_ret, okM_nil]
    refine ⟨_, rfl, ok_draws ns hn _ fun rs xs hx => ?_⟩
    rw [fLst_ok (by simp), okF_some]
    have hH : Hand ([O.lst (rs.map .int), .lst (xs.map .int)] ++ [.lst [.ref 1, .int 0]]) := ⟨xs, 0, rfl, by decide, rfl, hx⟩
    refine okS_seq (okS_rng (okM_cons.mpr (okM_ret.mpr (okM_nil.mpr ⟨15, rfl, by decide, ?_⟩))))
    refine ⟨fun i e S => Hand S ∧ ∃ s2 s3 s4 s5 s6 s7 s8, e = [.v (.rol (ns.map .int)), .v (.ref 2), s2, s3, s4, s5, s6, s7, s8], ⟨hH, .no, .no, .no, .no, .no, .no, .no, rfl⟩, ?_, ?_⟩
    · rintro i e S hi ⟨hS, s2, s3, s4, s5, s6, s7, s8, rfl⟩
      refine ⟨_, rfl, ?_⟩
      exact turn_kind i hi _ s3 s4 s5 s6 s7 s8 S _ hS fun T t3 t4 t5 t6 t7 t8 hT => ⟨hT, _, t3, t4, t5, t6, t7, t8, rfl⟩
    · rintro e S ⟨hS, s2, s3, s4, s5, s6, s7, s8, rfl⟩
      refine okS_ret ?_
      simp
  obtain ⟨d, S', h1, h2⟩ := key
  subst h2
  exact ⟨S', h1⟩
end K01

set_option Elab.async false
set_option linter.all false
set_option maxRecDepth 100000
set_option maxHeartbeats 0
namespace K01
open PySem PySem.Spec PyProof.Rows L2 DD
def dn (x : Str) (i : Nat) : He.DefD := ⟨(x, none), x, x, defArgs (top i), defBody (top i), defScope (top i), [], []⟩
def di (x qual : Str) (i : Nat) : He.DefD := ⟨(x, some "__init__"), "__init__", qual, defArgs (DD.inClass (top i) 0), defBody (DD.inClass (top i) 0), defScope (DD.inClass (top i) 0), [], []⟩
def fns : List He.DefD := [dn "_law_draws" 18, dn "_law_take" 19, dn "_law_any" 20, dn "_law_error" 21, dn "_law_kept" 22, dn "_law_classes" 23, dn "law" 24, di "InvalidSides" "InvalidSides.__init__" 2, di "InvalidCells" "InvalidCells.__init__" 3, di "InvalidInputs" "InvalidInputs.__init__" 4, di "NoFit" "NoFit.__init__" 5, di "NoName" "NoName.__init__" 6, di "BadInput" "BadInput.__init__" 7, di "InvalidGrid" "InvalidGrid.__init__" 8, di "InvalidDealing" "InvalidDealing.__init__" 9, di "NoMachine" "NoMachine.__init__" 10, di "NoDealing" "NoDealing.__init__" 11, di "Quarrel" "Quarrel.__init__" 12, di "NoLetter" "NoLetter.__init__" 13, di "InvalidText" "InvalidText.__init__" 14, di "TooMany" "TooMany.__init__" 15, di "NotDone" "NotDone.__init__" 16]
abbrev R : PySem.W.OpenRow := PySem.W.OpenLaw.row PySem.Challenge.rw_dealtarrays_k01_errors_kept
abbrev hk : PySem.W.Hook := hookB 6 ask fns
def ob (s : PySem.W.SharedT) : DD.Seen := seenG 6 ask fns (HandSHeadRun.getT s)
theorem ob_eq (s : PySem.W.SharedT) : ob s = hk.obs s.abs := seenG_eq (HandSHeadRun.getT_eq s)
def loose : List Str := ["DealError", "InvalidSides", "InvalidCells", "InvalidInputs", "NoFit", "NoName", "BadInput", "InvalidGrid", "InvalidDealing", "NoMachine", "NoDealing", "Quarrel", "NoLetter", "InvalidText", "TooMany", "NotDone", "_law_draws", "_law_take", "_law_any", "_law_error", "_law_kept", "_law_classes"]
theorem run (w : World) : HandSHeadRun.RunEq R (PySem.W.view R.prog [24]) hk ob 6000 loose w := by
  intro os
  kernel_rfl
end K01

set_option Elab.async false
set_option linter.all false
set_option maxRecDepth 100000
set_option maxHeartbeats 0
namespace K01
open PySem PySem.Spec PyProof.Rows L2 DD
section
variable {P : Program} {w : World} {K : PySem.W.Frag} {mg : Str → Option Value} {base : Heap}
theorem x_InvalidSides (c : Told ask fns K) (hm : mg "InvalidSides" = some (.ref (He.ga K "InvalidSides"))) : XiN P w K mg base "InvalidSides" ["sides"] := by
  obtain ⟨fd, FD⟩ := c.def_ 7 (d := di "InvalidSides" "InvalidSides.__init__" 2) rfl
  have k : ClsK K "InvalidSides" ["sides"] := Ask.cls c.ask (p := ("InvalidSides", ["sides"])) (List.mem_of_getElem? (i := 0) rfl)
  exact xin1 (st := (DD.inClass (top 2) 0)) FD k hm ⟨rfl, rfl, rfl, by decide +kernel, rfl, by decide +kernel, by decide +kernel⟩ rfl (.inl rfl) (.inl rfl) rfl rfl (fun _ _ _ _ _ _ _ _ => rfl) (fun _ _ _ _ _ _ _ _ => rfl)
theorem x_InvalidCells (c : Told ask fns K) (hm : mg "InvalidCells" = some (.ref (He.ga K "InvalidCells"))) : XiN P w K mg base "InvalidCells" ["cells"] := by
  obtain ⟨fd, FD⟩ := c.def_ 8 (d := di "InvalidCells" "InvalidCells.__init__" 3) rfl
  have k : ClsK K "InvalidCells" ["cells"] := Ask.cls c.ask (p := ("InvalidCells", ["cells"])) (List.mem_of_getElem? (i := 1) rfl)
  exact xin1 (st := (DD.inClass (top 3) 0)) FD k hm ⟨rfl, rfl, rfl, by decide +kernel, rfl, by decide +kernel, by decide +kernel⟩ rfl (.inl rfl) (.inl rfl) rfl rfl (fun _ _ _ _ _ _ _ _ => rfl) (fun _ _ _ _ _ _ _ _ => rfl)
theorem x_InvalidInputs (c : Told ask fns K) (hm : mg "InvalidInputs" = some (.ref (He.ga K "InvalidInputs"))) : XiN P w K mg base "InvalidInputs" ["inputs"] := by
  obtain ⟨fd, FD⟩ := c.def_ 9 (d := di "InvalidInputs" "InvalidInputs.__init__" 4) rfl
  have k : ClsK K "InvalidInputs" ["inputs"] := Ask.cls c.ask (p := ("InvalidInputs", ["inputs"])) (List.mem_of_getElem? (i := 2) rfl)
  exact xin1 (st := (DD.inClass (top 4) 0)) FD k hm ⟨rfl, rfl, rfl, by decide +kernel, rfl, by decide +kernel, by decide +kernel⟩ rfl (.inl rfl) (.inl rfl) rfl rfl (fun _ _ _ _ _ _ _ _ => rfl) (fun _ _ _ _ _ _ _ _ => rfl)
theorem x_NoFit (c : Told ask fns K) (hm : mg "NoFit" = some (.ref (He.ga K "NoFit"))) : XiN P w K mg base "NoFit" ["number"] := by
  obtain ⟨fd, FD⟩ := c.def_ 10 (d := di "NoFit" "NoFit.__init__" 5) rfl
  have k : ClsK K "NoFit" ["number"] := Ask.cls c.ask (p := ("NoFit", ["number"])) (List.mem_of_getElem? (i := 3) rfl)
  exact xin1 (st := (DD.inClass (top 5) 0)) FD k hm ⟨rfl, rfl, rfl, by decide +kernel, rfl, by decide +kernel, by decide +kernel⟩ rfl (.inl rfl) (.inl rfl) rfl rfl (fun _ _ _ _ _ _ _ _ => rfl) (fun _ _ _ _ _ _ _ _ => rfl)
theorem x_NoName (c : Told ask fns K) (hm : mg "NoName" = some (.ref (He.ga K "NoName"))) : XiN P w K mg base "NoName" ["name"] := by
  obtain ⟨fd, FD⟩ := c.def_ 11 (d := di "NoName" "NoName.__init__" 6) rfl
  have k : ClsK K "NoName" ["name"] := Ask.cls c.ask (p := ("NoName", ["name"])) (List.mem_of_getElem? (i := 4) rfl)
  exact xin1 (st := (DD.inClass (top 6) 0)) FD k hm ⟨rfl, rfl, rfl, by decide +kernel, rfl, by decide +kernel, by decide +kernel⟩ rfl (.inl rfl) (.inl rfl) rfl rfl (fun _ _ _ _ _ _ _ _ => rfl) (fun _ _ _ _ _ _ _ _ => rfl)
theorem x_BadInput (c : Told ask fns K) (hm : mg "BadInput" = some (.ref (He.ga K "BadInput"))) : XiN P w K mg base "BadInput" ["number"] := by
  obtain ⟨fd, FD⟩ := c.def_ 12 (d := di "BadInput" "BadInput.__init__" 7) rfl
  have k : ClsK K "BadInput" ["number"] := Ask.cls c.ask (p := ("BadInput", ["number"])) (List.mem_of_getElem? (i := 5) rfl)
  exact xin1 (st := (DD.inClass (top 7) 0)) FD k hm ⟨rfl, rfl, rfl, by decide +kernel, rfl, by decide +kernel, by decide +kernel⟩ rfl (.inl rfl) (.inl rfl) rfl rfl (fun _ _ _ _ _ _ _ _ => rfl) (fun _ _ _ _ _ _ _ _ => rfl)
theorem x_InvalidGrid (c : Told ask fns K) (hm : mg "InvalidGrid" = some (.ref (He.ga K "InvalidGrid"))) : XiN P w K mg base "InvalidGrid" ["directions"] := by
  obtain ⟨fd, FD⟩ := c.def_ 13 (d := di "InvalidGrid" "InvalidGrid.__init__" 8) rfl
  have k : ClsK K "InvalidGrid" ["directions"] := Ask.cls c.ask (p := ("InvalidGrid", ["directions"])) (List.mem_of_getElem? (i := 6) rfl)
  exact xin1 (st := (DD.inClass (top 8) 0)) FD k hm ⟨rfl, rfl, rfl, by decide +kernel, rfl, by decide +kernel, by decide +kernel⟩ rfl (.inl rfl) (.inl rfl) rfl rfl (fun _ _ _ _ _ _ _ _ => rfl) (fun _ _ _ _ _ _ _ _ => rfl)
theorem x_InvalidDealing (c : Told ask fns K) (hm : mg "InvalidDealing" = some (.ref (He.ga K "InvalidDealing"))) : XiN P w K mg base "InvalidDealing" ["cuts", "parts"] := by
  obtain ⟨fd, FD⟩ := c.def_ 14 (d := di "InvalidDealing" "InvalidDealing.__init__" 9) rfl
  have k : ClsK K "InvalidDealing" ["cuts", "parts"] := Ask.cls c.ask (p := ("InvalidDealing", ["cuts", "parts"])) (List.mem_of_getElem? (i := 7) rfl)
  exact xin2 (st := (DD.inClass (top 9) 0)) FD k hm ⟨rfl, rfl, rfl, by decide +kernel, rfl, by decide +kernel, by decide +kernel⟩ rfl (.inl rfl) (.inl rfl) (.inl rfl) rfl rfl rfl rfl (fun _ _ _ _ _ _ _ _ _ => rfl) (fun _ _ _ _ _ _ _ _ _ => rfl)
theorem x_NoMachine (c : Told ask fns K) (hm : mg "NoMachine" = some (.ref (He.ga K "NoMachine"))) : XiN P w K mg base "NoMachine" ["machine"] := by
  obtain ⟨fd, FD⟩ := c.def_ 15 (d := di "NoMachine" "NoMachine.__init__" 10) rfl
  have k : ClsK K "NoMachine" ["machine"] := Ask.cls c.ask (p := ("NoMachine", ["machine"])) (List.mem_of_getElem? (i := 8) rfl)
  exact xin1 (st := (DD.inClass (top 10) 0)) FD k hm ⟨rfl, rfl, rfl, by decide +kernel, rfl, by decide +kernel, by decide +kernel⟩ rfl (.inl rfl) (.inl rfl) rfl rfl (fun _ _ _ _ _ _ _ _ => rfl) (fun _ _ _ _ _ _ _ _ => rfl)
theorem x_NoDealing (c : Told ask fns K) (hm : mg "NoDealing" = some (.ref (He.ga K "NoDealing"))) : XiN P w K mg base "NoDealing" ["number"] := by
  obtain ⟨fd, FD⟩ := c.def_ 16 (d := di "NoDealing" "NoDealing.__init__" 11) rfl
  have k : ClsK K "NoDealing" ["number"] := Ask.cls c.ask (p := ("NoDealing", ["number"])) (List.mem_of_getElem? (i := 9) rfl)
  exact xin1 (st := (DD.inClass (top 11) 0)) FD k hm ⟨rfl, rfl, rfl, by decide +kernel, rfl, by decide +kernel, by decide +kernel⟩ rfl (.inl rfl) (.inl rfl) rfl rfl (fun _ _ _ _ _ _ _ _ => rfl) (fun _ _ _ _ _ _ _ _ => rfl)
theorem x_Quarrel (c : Told ask fns K) (hm : mg "Quarrel" = some (.ref (He.ga K "Quarrel"))) : XiN P w K mg base "Quarrel" ["machine"] := by
  obtain ⟨fd, FD⟩ := c.def_ 17 (d := di "Quarrel" "Quarrel.__init__" 12) rfl
  have k : ClsK K "Quarrel" ["machine"] := Ask.cls c.ask (p := ("Quarrel", ["machine"])) (List.mem_of_getElem? (i := 10) rfl)
  exact xin1 (st := (DD.inClass (top 12) 0)) FD k hm ⟨rfl, rfl, rfl, by decide +kernel, rfl, by decide +kernel, by decide +kernel⟩ rfl (.inl rfl) (.inl rfl) rfl rfl (fun _ _ _ _ _ _ _ _ => rfl) (fun _ _ _ _ _ _ _ _ => rfl)
theorem x_NoLetter (c : Told ask fns K) (hm : mg "NoLetter" = some (.ref (He.ga K "NoLetter"))) : XiN P w K mg base "NoLetter" ["number"] := by
  obtain ⟨fd, FD⟩ := c.def_ 18 (d := di "NoLetter" "NoLetter.__init__" 13) rfl
  have k : ClsK K "NoLetter" ["number"] := Ask.cls c.ask (p := ("NoLetter", ["number"])) (List.mem_of_getElem? (i := 11) rfl)
  exact xin1 (st := (DD.inClass (top 13) 0)) FD k hm ⟨rfl, rfl, rfl, by decide +kernel, rfl, by decide +kernel, by decide +kernel⟩ rfl (.inl rfl) (.inl rfl) rfl rfl (fun _ _ _ _ _ _ _ _ => rfl) (fun _ _ _ _ _ _ _ _ => rfl)
theorem x_InvalidText (c : Told ask fns K) (hm : mg "InvalidText" = some (.ref (He.ga K "InvalidText"))) : XiN P w K mg base "InvalidText" ["text", "at"] := by
  obtain ⟨fd, FD⟩ := c.def_ 19 (d := di "InvalidText" "InvalidText.__init__" 14) rfl
  have k : ClsK K "InvalidText" ["text", "at"] := Ask.cls c.ask (p := ("InvalidText", ["text", "at"])) (List.mem_of_getElem? (i := 12) rfl)
  exact xin2 (st := (DD.inClass (top 14) 0)) FD k hm ⟨rfl, rfl, rfl, by decide +kernel, rfl, by decide +kernel, by decide +kernel⟩ rfl (.inl rfl) (.inl rfl) (.inl rfl) rfl rfl rfl rfl (fun _ _ _ _ _ _ _ _ _ => rfl) (fun _ _ _ _ _ _ _ _ _ => rfl)
theorem x_TooMany (c : Told ask fns K) (hm : mg "TooMany" = some (.ref (He.ga K "TooMany"))) : XiN P w K mg base "TooMany" ["many"] := by
  obtain ⟨fd, FD⟩ := c.def_ 20 (d := di "TooMany" "TooMany.__init__" 15) rfl
  have k : ClsK K "TooMany" ["many"] := Ask.cls c.ask (p := ("TooMany", ["many"])) (List.mem_of_getElem? (i := 13) rfl)
  exact xin1 (st := (DD.inClass (top 15) 0)) FD k hm ⟨rfl, rfl, rfl, by decide +kernel, rfl, by decide +kernel, by decide +kernel⟩ rfl (.inl rfl) (.inl rfl) rfl rfl (fun _ _ _ _ _ _ _ _ => rfl) (fun _ _ _ _ _ _ _ _ => rfl)
theorem x_NotDone (c : Told ask fns K) (hm : mg "NotDone" = some (.ref (He.ga K "NotDone"))) : XiN P w K mg base "NotDone" ["machine"] := by
  obtain ⟨fd, FD⟩ := c.def_ 21 (d := di "NotDone" "NotDone.__init__" 16) rfl
  have k : ClsK K "NotDone" ["machine"] := Ask.cls c.ask (p := ("NotDone", ["machine"])) (List.mem_of_getElem? (i := 14) rfl)
  exact xin1 (st := (DD.inClass (top 16) 0)) FD k hm ⟨rfl, rfl, rfl, by decide +kernel, rfl, by decide +kernel, by decide +kernel⟩ rfl (.inl rfl) (.inl rfl) rfl rfl (fun _ _ _ _ _ _ _ _ => rfl) (fun _ _ _ _ _ _ _ _ => rfl)
theorem closed : ask.closed = true := by decide +kernel
theorem all {h : Heap} {fa : Addr} (KX : K.In h) (G : h.Ns mainGlobals mg) (hfa : mg "law" = some (.ref fa)) (c : Told ask fns K) : ∃ fd : FuncData, (∀ (s : Shared) (u : Value), BindsTo s fd ⟨[u], []⟩ [("script", u)]) ∧ ∀ base : Heap, K.In base → base.Ns mainGlobals mg → FnG P w K mg base 5 fa fd ["script"] phi_law := by
  have gl : ∀ (i : Nat) (x : Str), ask.glos[i]? = some x → mg x = some (.ref (He.ga K x)) := fun i x e => Ask.glo c.ask KX G (List.mem_of_getElem? e)
  have z : Z mg := fun i x e => Ask.fre c.ask KX G (List.mem_of_getElem? e)
  have gs : Gs mg := fun i x e => ⟨_, Ask.glo c.ask KX G (List.mem_append_left _ (List.mem_of_getElem? e))⟩
  have xg : ∀ {p : Str × List Str}, p ∈ xcs → mg p.1 = some (.ref (He.ga K p.1)) := fun m => PySem.W.mg_of KX G (Ask.cls c.ask m).glo
  have hF : Facts (GK K mg) tb := Ask.facts c.ask closed KX G
  have hN : Named (GK K mg) tb := Ask.named c.ask closed KX G
  obtain ⟨fd_draws, D_draws⟩ := c.def_ 0 (d := dn "_law_draws" 18) rfl
  have m_draws := gl 17 "_law_draws" rfl
  obtain ⟨fd_take, D_take⟩ := c.def_ 1 (d := dn "_law_take" 19) rfl
  have m_take := gl 18 "_law_take" rfl
  obtain ⟨fd_any, D_any⟩ := c.def_ 2 (d := dn "_law_any" 20) rfl
  have m_any := gl 19 "_law_any" rfl
  obtain ⟨fd_error, D_error⟩ := c.def_ 3 (d := dn "_law_error" 21) rfl
  have m_error := gl 20 "_law_error" rfl
  obtain ⟨fd_kept, D_kept⟩ := c.def_ 4 (d := dn "_law_kept" 22) rfl
  have m_kept := gl 21 "_law_kept" rfl
  obtain ⟨fd_classes, D_classes⟩ := c.def_ 5 (d := dn "_law_classes" 23) rfl
  have m_classes := gl 22 "_law_classes" rfl
  obtain ⟨fd_law, D_law⟩ := c.def_ 6 (d := dn "law" 24) rfl
  have m_law := gl 23 "law" rfl
  have e := hfa.symm.trans m_law
  cases e
  refine ⟨fd_law, fun s u => binds_eq D_law (fun _ _ _ _ _ _ => rfl) s, fun base KB GB => ?_⟩
  have X_InvalidSides : XiN P w K mg base "InvalidSides" _ := x_InvalidSides c (xg (p := ("InvalidSides", _)) (List.mem_of_getElem? (i := 0) rfl))
  have X_InvalidCells : XiN P w K mg base "InvalidCells" _ := x_InvalidCells c (xg (p := ("InvalidCells", _)) (List.mem_of_getElem? (i := 1) rfl))
  have X_InvalidInputs : XiN P w K mg base "InvalidInputs" _ := x_InvalidInputs c (xg (p := ("InvalidInputs", _)) (List.mem_of_getElem? (i := 2) rfl))
  have X_NoFit : XiN P w K mg base "NoFit" _ := x_NoFit c (xg (p := ("NoFit", _)) (List.mem_of_getElem? (i := 3) rfl))
  have X_NoName : XiN P w K mg base "NoName" _ := x_NoName c (xg (p := ("NoName", _)) (List.mem_of_getElem? (i := 4) rfl))
  have X_BadInput : XiN P w K mg base "BadInput" _ := x_BadInput c (xg (p := ("BadInput", _)) (List.mem_of_getElem? (i := 5) rfl))
  have X_InvalidGrid : XiN P w K mg base "InvalidGrid" _ := x_InvalidGrid c (xg (p := ("InvalidGrid", _)) (List.mem_of_getElem? (i := 6) rfl))
  have X_InvalidDealing : XiN P w K mg base "InvalidDealing" _ := x_InvalidDealing c (xg (p := ("InvalidDealing", _)) (List.mem_of_getElem? (i := 7) rfl))
  have X_NoMachine : XiN P w K mg base "NoMachine" _ := x_NoMachine c (xg (p := ("NoMachine", _)) (List.mem_of_getElem? (i := 8) rfl))
  have X_NoDealing : XiN P w K mg base "NoDealing" _ := x_NoDealing c (xg (p := ("NoDealing", _)) (List.mem_of_getElem? (i := 9) rfl))
  have X_Quarrel : XiN P w K mg base "Quarrel" _ := x_Quarrel c (xg (p := ("Quarrel", _)) (List.mem_of_getElem? (i := 10) rfl))
  have X_NoLetter : XiN P w K mg base "NoLetter" _ := x_NoLetter c (xg (p := ("NoLetter", _)) (List.mem_of_getElem? (i := 11) rfl))
  have X_InvalidText : XiN P w K mg base "InvalidText" _ := x_InvalidText c (xg (p := ("InvalidText", _)) (List.mem_of_getElem? (i := 12) rfl))
  have X_TooMany : XiN P w K mg base "TooMany" _ := x_TooMany c (xg (p := ("TooMany", _)) (List.mem_of_getElem? (i := 13) rfl))
  have X_NotDone : XiN P w K mg base "NotDone" _ := x_NotDone c (xg (p := ("NotDone", _)) (List.mem_of_getElem? (i := 14) rfl))
  have f_draws := d_draws (P := P) (w := w) (base := base) hF hN z gs D_draws m_draws
  have f_take := d_take (P := P) (w := w) (base := base) hF hN z gs D_take m_take
  have a0 : FnN P w K mg base 1 "_law_any" ["hand", "depth"] (phi_any 0) := (fnn0 (st := s_any) D_any m_any (fun _ _ _ _ _ _ us hl => match us, hl with | [_, _], _ => rfl)).mono (by decide)
  have a1 : FnN P w K mg base 2 "_law_any" ["hand", "depth"] (phi_any 1) := d_any hF hN z gs f_take 1 (Nat.le_refl _) a0 D_any m_any
  have a2 : FnN P w K mg base 3 "_law_any" ["hand", "depth"] (phi_any 2) := d_any hF hN z gs f_take 2 (by decide) a1 D_any m_any
  have a3 : FnN P w K mg base 4 "_law_any" ["hand", "depth"] (phi_any 3) := d_any hF hN z gs f_take 3 (by decide) a2 D_any m_any
  have f_error := d_error (P := P) (w := w) (base := base) hF hN z gs X_InvalidSides X_InvalidCells X_InvalidInputs X_NoFit X_NoName X_BadInput X_InvalidGrid X_InvalidDealing X_NoMachine X_NoDealing X_Quarrel X_NoLetter X_InvalidText X_TooMany X_NotDone D_error m_error
  have f_kept := d_kept (P := P) (w := w) (base := base) hF hN z gs D_kept m_kept
  have f_classes := d_classes (P := P) (w := w) (base := base) hF hN z gs D_classes m_classes
  exact d_law hF hN z gs f_draws a3 f_take f_error f_kept f_classes D_law m_law
end
end K01
open PySem PySem.W PySem.Calls PyProof.Rows
theorem PySem.Challenge.cw_dealtarrays_k01_errors_kept_holds : PySem.Challenge.rw_dealtarrays_k01_errors_kept.Holds := by
  w_on; o_law
  refine HandSHeadRun.head_any (r := OpenLaw.row PySem.Challenge.rw_dealtarrays_k01_errors_kept) (q := view (OpenLaw.row PySem.Challenge.rw_dealtarrays_k01_errors_kept).prog [24]) (H := K01.hk) (ob := K01.ob) (M := 6000) (loose := K01.loose) (d := HandSHeadRun.topDef (OpenLaw.row PySem.Challenge.rw_dealtarrays_k01_errors_kept).prog 24) (kwd := []) K01.ob_eq
    (by kernel_rfl) (fun s => by kernel_rfl) K01.run (by kernel_rfl) (by kernel_rfl) (by kernel_rfl) (by rfl) (by first | assumption | decide +kernel) (by decide +kernel) ⟨rfl, rfl, rfl, rfl, rfl, by decide +kernel⟩ ?hw ?hc
  case hw => w_witness2
  case hc =>
    refine DD.walk_D (l := PySem.Challenge.rw_dealtarrays_k01_errors_kept) (n := 63) (k := 5) (x := "script") rfl (by decide) (by kernel_rfl) ⟨rfl, by decide, by decide⟩ ?F
    intro w mg fa h Y G hmg0
    obtain ⟨K, KX, c⟩ := Y
    have hmg : mg ("law" : PySem.Str) = some (.ref fa) := by
      have e : (HandSHeadRun.topDef (OpenLaw.row PySem.Challenge.rw_dealtarrays_k01_errors_kept).prog 24).name = ("law" : PySem.Str) := by kernel_rfl
      rw [← e]
      exact hmg0
    obtain ⟨fd, hb, hF⟩ := K01.all (P := (PySem.Challenge.rw_dealtarrays_k01_errors_kept).prog) (w := w) KX G hmg c
    exact ⟨K, fd, K01.phi_law, KX, hb, fun ns hn _ => K01.law_true ns hn, hF⟩

