import PyProof.Rows.All
import HandS.ForMost
import HandS.Wide
import HandS.EndBits
import HandS.Exc
import HandS.ExcOwn
import HandS.ExcInit
import HandS.ExcField
import HandS.ExcIs
import HandS.TryMany
import HandS.WordsExc
import HandS.OwnEq
import HandS.RaiseMore
import HandS.IsInst
import HandS.Walk
import HandS.Zip
import HandS.TryOnly
import HandS.TupAny
import HandS.TupMul
import HandS.Style
import HandS.Text
import HandS.CallSlots
import KE.KExcIs
import HandS.Head0
import HandS.Head1
import HandS.Head2
import HandS.HeadEnd
import HandS.HeadHook1
import HandS.HeadHook2
import HandS.Words
import HandS.Defaults
import HandS.Deep
import HandS.HeadNt
import KE.KIsNot
import HandS.More
import PyProof.StrOps2
import HandS.Conv
import PySem.Challenge.RW_dealtarrays_k02_sides_and_arrays
set_option Elab.async false
set_option linter.all false
set_option maxRecDepth 100000
namespace DD
open PySem PySem.Spec PyProof.Rows L2

/-- plain data; objects that change stand in a store and are named by their place there -/
inductive D where
  | non | bl (b : Bool) | int (i : Int) | str (x : Str) | tup (xs : List D) | rol (xs : List D) | ref (n : Nat) | glo (x : Str) | ty (n : String)
/-- an object of the store -/
inductive O where
  | lst (xs : List D) | ins (c : Str) (fs : List (Str × D)) | dct (kvs : List (Key × D)) | exi (c : Str) (fs : List (Str × D))
abbrev So := List O
/-- a slot: without a value, with one, with the caught error -/
inductive Sv where
  | no | v (d : D) | exn (c : Str) (fs : List (Str × D))
abbrev Sl := List Sv

/-- the written part and the module's names -/
structure G where
  K : PySem.W.Frag
  mg : Str → Option Value

/-- a list that nobody changes -/
def SqF (K : PySem.W.Frag) (H : Hp) (a : Addr) (xs : List V) : Prop :=
  (∃ o, H a = some (.frz o (.lst xs))) ∨
    ∃ (o : Obj) (its : Array Value) (n : Nat), K.lookup a = some o ∧ o.cls = .type "list" ∧ o.dict = none ∧ o.data = .seq its n ∧ its.size ≤ sizeLine ∧ Vals xs its.toList
theorem SqF.seq {K : PySem.W.Frag} {H : Hp} {a : Addr} {xs : List V} (h : SqF K H a xs) : SqL K H a xs := by
  rcases h with h | h
  · exact .inl (.inr h)
  · exact .inr h

/-- a tuple: tracked, or one of the written part -/
def SqU (K : PySem.W.Frag) (H : Hp) (a : Addr) (xs : List V) : Prop :=
  H a = some (.tup xs) ∨ ∃ (o : Obj) (its : Array Value) (n : Nat), K.lookup a = some o ∧ o.cls = .type "tuple" ∧ o.data = .seq its n ∧ its.size ≤ sizeLine ∧ Vals xs its.toList
theorem SqU.t {K : PySem.W.Frag} {H : Hp} {a : Addr} {xs : List V} (h : SqU K H a xs) : SqT K H a xs := h.elim (fun h => .inl (.inl h)) .inr
mutual
inductive R (g : G) (ι : List Addr) (H : Hp) : D → V → Prop
  | non : R g ι H .non .non
  | bl (b : Bool) : R g ι H (.bl b) (.bl b)
  | int (i : Int) : R g ι H (.int i) (.int i)
  | str (x : Str) : R g ι H (.str x) (.str x)
  | tup {a : Addr} {vs : List V} {xs : List D} : SqU g.K H a vs → Rs g ι H xs vs → R g ι H (.tup xs) (.ref a)
  | rol {a : Addr} {vs : List V} {xs : List D} : SqF g.K H a vs → Rs g ι H xs vs → R g ι H (.rol xs) (.ref a)
  | ref {n : Nat} {a : Addr} : ι[n]? = some a → R g ι H (.ref n) (.ref a)
  | glo {x : Str} {u : Value} {v : V} : g.mg x = some u → RelV v u → R g ι H (.glo x) v
  | ty (n : String) : R g ι H (.ty n) (.ty n)
inductive Rs (g : G) (ι : List Addr) (H : Hp) : List D → List V → Prop
  | nil : Rs g ι H [] []
  | cons {d : D} {v : V} {ds : List D} {vs : List V} : R g ι H d v → Rs g ι H ds vs → Rs g ι H (d :: ds) (v :: vs)
end

/-- what stays: tuples, locked things, the dicts of errors -/
structure Ex (H H' : Hp) : Prop where
  tup : ∀ b xs, H b = some (.tup xs) → H' b = some (.tup xs)
  frz : ∀ b o u, H b = some (.frz o u) → H' b = some (.frz o u)
  xd : ∀ b fs, H b = some (.xd fs) → H' b = some (.xd fs)
  exd : ∀ b fs, H b = some (L2.exd b fs) → H' b = some (L2.exd b fs)
theorem Ex.refl (H : Hp) : Ex H H := ⟨fun _ _ h => h, fun _ _ _ h => h, fun _ _ h => h, fun _ _ h => h⟩
theorem Ex.trans {H H1 H2 : Hp} (a : Ex H H1) (b : Ex H1 H2) : Ex H H2 := ⟨fun c x h => b.tup c x (a.tup c x h), fun c o x h => b.frz c o x (a.frz c o x h), fun c x h => b.xd c x (a.xd c x h), fun c x h => b.exd c x (a.exd c x h)⟩
theorem Ex.new {H : Hp} {p : Addr} {o : HO} (h : H p = none) : Ex H (upd H p o) :=
  ⟨fun b x e => by rw [upd_ne (ne_of_none e h)]; exact e, fun b u x e => by rw [upd_ne (ne_of_none e h)]; exact e, fun b x e => by rw [upd_ne (ne_of_none e h)]; exact e, fun b x e => by rw [upd_ne (ne_of_none e h)]; exact e⟩
theorem exd_case {b : Addr} {xs : List (Str × V)} {q : HO} (z : q = L2.exd b xs) : ∃ φ, q = .ext φ := ⟨_, z⟩
theorem Ex.wr {H : Hp} {p : Addr} {o q : HO} (h : H p = some q) (h1 : ∀ xs, q ≠ .tup xs) (h2 : ∀ o u, q ≠ .frz o u) (h3 : ∀ xs, q ≠ .xd xs) (h4 : ∀ b xs, q ≠ L2.exd b xs := by intro b xs z; obtain ⟨φ, z⟩ := exd_case z; cases z) : Ex H (upd H p o) :=
  ⟨fun b x e => by rw [upd_ne (ne_of e h (fun z => h1 _ z.symm))]; exact e, fun b u x e => by rw [upd_ne (ne_of e h (fun z => h2 _ _ z.symm))]; exact e, fun b x e => by rw [upd_ne (ne_of e h (fun z => h3 _ z.symm))]; exact e, fun b x e => by rw [upd_ne (ne_of e h (fun z => h4 _ _ z.symm))]; exact e⟩

abbrev Pre (ι ι' : List Addr) : Prop := ∀ (n : Nat) (a : Addr), ι[n]? = some a → ι'[n]? = some a
theorem Pre.refl (ι : List Addr) : Pre ι ι := fun _ _ h => h
theorem Pre.trans {ι ι1 ι2 : List Addr} (a : Pre ι ι1) (b : Pre ι1 ι2) : Pre ι ι2 := fun n x h => b n x (a n x h)
theorem Pre.app (ι l : List Addr) : Pre ι (ι ++ l) := fun n a h => by
  rw [List.getElem?_append_left (List.getElem?_eq_some_iff.mp h).1]; exact h

theorem sqT_ex {K : PySem.W.Frag} {H H' : Hp} {a : Addr} {xs : List V} (e : Ex H H') (h : SqT K H a xs) : SqT K H' a xs := by
  rcases h with (h | ⟨o, h⟩) | h
  · exact .inl (.inl (e.tup _ _ h))
  · exact .inl (.inr ⟨o, e.frz _ _ _ h⟩)
  · exact .inr h
theorem sqU_ex {K : PySem.W.Frag} {H H' : Hp} {a : Addr} {xs : List V} (e : Ex H H') (h : SqU K H a xs) : SqU K H' a xs := h.elim (fun h => .inl (e.tup _ _ h)) .inr
theorem sqF_ex {K : PySem.W.Frag} {H H' : Hp} {a : Addr} {xs : List V} (e : Ex H H') (h : SqF K H a xs) : SqF K H' a xs := by
  rcases h with ⟨o, h⟩ | h
  · exact .inl ⟨o, e.frz _ _ _ h⟩
  · exact .inr h

section
variable {g : G} {ι ι' : List Addr} {H H' : Hp}
mutual
theorem R.mono (p : Pre ι ι') (e : Ex H H') : ∀ (d : D) (v : V), R g ι H d v → R g ι' H' d v
  | .non, _, h => by cases h; exact .non
  | .bl _, _, h => by cases h; exact .bl _
  | .int _, _, h => by cases h; exact .int _
  | .str _, _, h => by cases h; exact .str _
  | .tup xs, _, h => by
    cases h with
    | tup h1 h2 => exact .tup (sqU_ex e h1) (Rs.mono p e xs _ h2)
  | .rol xs, _, h => by
    cases h with
    | rol h1 h2 => exact .rol (sqF_ex e h1) (Rs.mono p e xs _ h2)
  | .ref _, _, h => by
    cases h with
    | ref h1 => exact .ref (p _ _ h1)
  | .glo _, _, h => by
    cases h with
    | glo h1 h2 => exact .glo h1 h2
  | .ty _, _, h => by cases h; exact .ty _
theorem Rs.mono (p : Pre ι ι') (e : Ex H H') : ∀ (ds : List D) (vs : List V), Rs g ι H ds vs → Rs g ι' H' ds vs
  | [], _, h => by cases h; exact .nil
  | d :: ds, _, h => by
    cases h with
    | cons h1 h2 => exact .cons (R.mono p e d _ h1) (Rs.mono p e ds _ h2)
end
theorem Rs.length : ∀ {ds : List D} {vs : List V}, Rs g ι H ds vs → ds.length = vs.length
  | [], _, h => by cases h; rfl
  | _ :: _, _, h => by
    cases h with
    | cons _ h2 => simp [Rs.length h2]
theorem Rs.get : ∀ {ds : List D} {vs : List V} {i : Nat} {d : D}, Rs g ι H ds vs → ds[i]? = some d → ∃ v, vs[i]? = some v ∧ R g ι H d v
  | [], _, _, _, _, e => by simp at e
  | _ :: _, _, 0, _, h, e => by
    cases h with
    | cons h1 _ => simp at e; subst e; exact ⟨_, rfl, h1⟩
  | _ :: _, _, i + 1, d, h, e => by
    cases h with
    | cons _ h2 =>
      obtain ⟨v, h3, h4⟩ := Rs.get (i := i) (d := d) h2 (by simpa using e)
      exact ⟨v, by simpa using h3, h4⟩
theorem Rs.getV : ∀ {ds : List D} {vs : List V} {i : Nat} {v : V}, Rs g ι H ds vs → vs[i]? = some v → ∃ d, ds[i]? = some d ∧ R g ι H d v
  | _, [], _, _, _, e => by simp at e
  | _, _ :: _, 0, _, h, e => by
    cases h with
    | cons h1 _ => simp at e; subst e; exact ⟨_, rfl, h1⟩
  | _, _ :: _, i + 1, v, h, e => by
    cases h with
    | cons _ h2 =>
      obtain ⟨d, h3, h4⟩ := Rs.getV (i := i) (v := v) h2 (by simpa using e)
      exact ⟨d, by simpa using h3, h4⟩
theorem Rs.append : ∀ {ds es : List D} {vs us : List V}, Rs g ι H ds vs → Rs g ι H es us → Rs g ι H (ds ++ es) (vs ++ us)
  | [], _, _, _, h, k => by cases h; exact k
  | _ :: _, _, _, _, h, k => by
    cases h with
    | cons h1 h2 => exact .cons h1 (Rs.append h2 k)
theorem Rs.take : ∀ {ds : List D} {vs : List V} (n : Nat), Rs g ι H ds vs → Rs g ι H (ds.take n) (vs.take n)
  | _, _, 0, _ => .nil
  | [], _, _ + 1, h => by cases h; exact .nil
  | _ :: _, _, n + 1, h => by
    cases h with
    | cons h1 h2 => exact .cons h1 (Rs.take n h2)
theorem Rs.drop : ∀ {ds : List D} {vs : List V} (n : Nat), Rs g ι H ds vs → Rs g ι H (ds.drop n) (vs.drop n)
  | _, _, 0, h => h
  | [], _, _ + 1, h => by cases h; exact .nil
  | _ :: _, _, n + 1, h => by
    cases h with
    | cons _ h2 => exact Rs.drop n h2
theorem Rs.set {d : D} {v : V} (r : R g ι H d v) : ∀ {ds : List D} {vs : List V} (i : Nat), Rs g ι H ds vs → Rs g ι H (ds.set i d) (vs.set i v)
  | [], _, _, h => by cases h; exact .nil
  | _ :: _, _, 0, h => by
    cases h with
    | cons _ h2 => exact .cons r h2
  | _ :: _, _, i + 1, h => by
    cases h with
    | cons h1 h2 => exact .cons h1 (Rs.set r i h2)
end

/-- named fields -/
inductive Fs (g : G) (ι : List Addr) (H : Hp) : List (Str × D) → List (Str × V) → Prop
  | nil : Fs g ι H [] []
  | cons {f : Str} {d : D} {v : V} {fs : List (Str × D)} {gs : List (Str × V)} : R g ι H d v → Fs g ι H fs gs → Fs g ι H ((f, d) :: fs) ((f, v) :: gs)
theorem Fs.mono {g : G} {ι ι' : List Addr} {H H' : Hp} (p : Pre ι ι') (e : Ex H H') : ∀ {fs : List (Str × D)} {gs : List (Str × V)}, Fs g ι H fs gs → Fs g ι' H' fs gs
  | _, _, .nil => .nil
  | _, _, .cons r t => .cons (R.mono p e _ _ r) (Fs.mono p e t)
theorem Fs.look {g : G} {ι : List Addr} {H : Hp} {f : Str} : ∀ {fs : List (Str × D)} {gs : List (Str × V)} {d : D}, Fs g ι H fs gs → fs.lookup f = some d → ∃ v, gs.lookup f = some v ∧ R g ι H d v
  | _, _, _, .nil, e => by simp at e
  | _, _, d, .cons (f := k) r t, e => by
    cases q : (f == k) with
    | true => simp only [List.lookup, q] at e ⊢; cases e; exact ⟨_, rfl, r⟩
    | false => simp only [List.lookup, q] at e ⊢; exact Fs.look t e
theorem Fs.look_none {g : G} {ι : List Addr} {H : Hp} {f : Str} : ∀ {fs : List (Str × D)} {gs : List (Str × V)}, Fs g ι H fs gs → fs.lookup f = none → gs.lookup f = none
  | _, _, .nil, _ => rfl
  | _, _, .cons (f := k) r t, e => by
    cases q : (f == k) with
    | true => simp only [List.lookup, q] at e; cases e
    | false => simp only [List.lookup, q] at e ⊢; exact Fs.look_none t e
theorem Fs.length {g : G} {ι : List Addr} {H : Hp} : ∀ {fs : List (Str × D)} {gs : List (Str × V)}, Fs g ι H fs gs → fs.length = gs.length
  | _, _, .nil => rfl
  | _, _, .cons _ t => by simp [Fs.length t]
def putD (f : Str) (v : D) : List (Str × D) → List (Str × D)
  | [] => [(f, v)]
  | (k, x) :: r => if k = f then (k, v) :: r else (k, x) :: putD f v r
theorem Fs.put {g : G} {ι : List Addr} {H : Hp} {f : Str} {d : D} {v : V} (r : R g ι H d v) : ∀ {fs : List (Str × D)} {gs : List (Str × V)}, Fs g ι H fs gs → Fs g ι H (putD f d fs) (putF f v gs)
  | _, _, .nil => .cons r .nil
  | _, _, .cons (f := k) q t => by
    unfold putD putF
    by_cases h : k = f
    · rw [if_pos h, if_pos h]; exact .cons r t
    · rw [if_neg h, if_neg h]; exact .cons q (Fs.put r t)

def OR (g : G) (ι : List Addr) (H : Hp) : O → Addr → Prop
  | .lst xs, a => ∃ vs, H a = some (.lst vs) ∧ Rs g ι H xs vs
  | .ins c fs, a => ∃ C dx gs, H a = some (.ins C dx gs) ∧ g.mg c = some (.ref C) ∧ Fs g ι H fs gs
  | .exi c fs, a => ∃ C d gs, H a = some (exo a C (some d)) ∧ H d = some (L2.exd d gs) ∧ g.mg c = some (.ref C) ∧ Fs g ι H fs gs
  | .dct kvs, a => ∃ vs, H a = some (.dK vs) ∧ kvs.map (·.1) = vs.map (·.1) ∧ Rs g ι H (kvs.map (·.2)) (vs.map (·.2))
theorem OR.move {g : G} {ι ι' : List Addr} {H H' : Hp} {o : O} {a : Addr} (p : Pre ι ι') (e : Ex H H') (k : H' a = H a) (h : OR g ι H o a) : OR g ι' H' o a := by
  cases o with
  | lst xs => obtain ⟨vs, h1, h2⟩ := h; exact ⟨vs, k.trans h1, Rs.mono p e _ _ h2⟩
  | ins c fs => obtain ⟨C, dx, gs, h1, h2, h3⟩ := h; exact ⟨C, dx, gs, k.trans h1, h2, h3.mono p e⟩
  | dct kvs => obtain ⟨vs, h1, h2, h3⟩ := h; exact ⟨vs, k.trans h1, h2, Rs.mono p e _ _ h3⟩
  | exi c fs => obtain ⟨C, d, gs, h1, h2, h3, h4⟩ := h; exact ⟨C, d, gs, k.trans h1, e.exd _ _ h2, h3, h4.mono p e⟩
theorem exo_case {e C : Addr} {d : Option Addr} {q : HO} (z : exo e C d = q) : ∃ φ, q = .ext φ := ⟨_, z.symm⟩
theorem or_some {g : G} {ι : List Addr} {H : Hp} {o : O} {a : Addr} (h : OR g ι H o a) : ∃ q, H a = some q ∧ (∀ xs, q ≠ .tup xs) ∧ (∀ o u, q ≠ .frz o u) ∧ ∀ xs, q ≠ .xd xs := by
  cases o with
  | lst xs => obtain ⟨vs, h1, h2⟩ := h; exact ⟨_, h1, fun _ z => (by cases z), fun _ _ z => (by cases z), fun _ z => (by cases z)⟩
  | ins c fs => obtain ⟨C, dx, gs, h1, h2, h3⟩ := h; exact ⟨_, h1, fun _ z => (by cases z), fun _ _ z => (by cases z), fun _ z => (by cases z)⟩
  | dct kvs => obtain ⟨vs, h1, h2, h3⟩ := h; exact ⟨_, h1, fun _ z => (by cases z), fun _ _ z => (by cases z), fun _ z => (by cases z)⟩
  | exi c fs =>
    obtain ⟨C, d, gs, h1, h2, h3, h4⟩ := h
    exact ⟨_, h1, fun _ z => (by obtain ⟨φ, z⟩ := exo_case z; cases z), fun _ _ z => (by obtain ⟨φ, z⟩ := exo_case z; cases z), fun _ z => (by obtain ⟨φ, z⟩ := exo_case z; cases z)⟩

structure Sim (g : G) (ι : List Addr) (S : So) (H : Hp) : Prop where
  len : ι.length = S.length
  nd : ι.Nodup
  obj : ∀ (n : Nat) (a : Addr) (o : O), ι[n]? = some a → S[n]? = some o → OR g ι H o a
section
variable {g : G} {ι : List Addr} {S : So} {H H' : Hp}
theorem Sim.get (s : Sim g ι S H) {n : Nat} {o : O} (e : S[n]? = some o) : ∃ a, ι[n]? = some a ∧ OR g ι H o a := by
  have h1 : n < ι.length := by rw [s.len]; exact (List.getElem?_eq_some_iff.mp e).1
  exact ⟨ι[n], List.getElem?_eq_getElem h1, s.obj n _ o (List.getElem?_eq_getElem h1) e⟩
theorem Sim.at (s : Sim g ι S H) {n : Nat} {a : Addr} (e : ι[n]? = some a) : ∃ o, S[n]? = some o ∧ OR g ι H o a := by
  have h1 : n < S.length := by rw [← s.len]; exact (List.getElem?_eq_some_iff.mp e).1
  exact ⟨S[n], List.getElem?_eq_getElem h1, s.obj n a _ e (List.getElem?_eq_getElem h1)⟩
/-- the heap grew or changed elsewhere -/
theorem Sim.keep (s : Sim g ι S H) (e : Ex H H') (k : ∀ (n : Nat) (a : Addr), ι[n]? = some a → H' a = H a) : Sim g ι S H' :=
  ⟨s.len, s.nd, fun n a o h1 h2 => (s.obj n a o h1 h2).move (Pre.refl ι) e (k n a h1)⟩
theorem Sim.fresh (s : Sim g ι S H) {p : Addr} (h : H p = none) {n : Nat} {a : Addr} (e : ι[n]? = some a) : a ≠ p := by
  obtain ⟨o, _, h2⟩ := s.at e
  obtain ⟨q, hq, _⟩ := or_some h2
  exact ne_of_none hq h
theorem Sim.tup (s : Sim g ι S H) {p : Addr} {o : HO} (h : H p = none) : Sim g ι S (upd H p o) :=
  s.keep (Ex.new h) fun n a e => upd_ne (s.fresh h e)
/-- a new object -/
theorem Sim.new (s : Sim g ι S H) (e : Ex H H') (k : ∀ (n : Nat) (a : Addr), ι[n]? = some a → H' a = H a) {p : Addr} {o : O} (h : H p = none) (ho : OR g (ι ++ [p]) H' o p) : Sim g (ι ++ [p]) (S ++ [o]) H' := by
  have nm : p ∉ ι := fun hm => by
    obtain ⟨n, hn⟩ := List.mem_iff_getElem?.mp hm
    exact s.fresh h hn rfl
  refine ⟨by simp [s.len], List.nodup_append.mpr ⟨s.nd, by simp, fun a ha b hb z => nm (by simp at hb; rw [← hb, ← z]; exact ha)⟩, fun n a o' h1 h2 => ?_⟩
  by_cases hn : n < ι.length
  · rw [List.getElem?_append_left hn] at h1
    rw [List.getElem?_append_left (by rw [← s.len]; exact hn)] at h2
    exact (s.obj n a o' h1 h2).move (Pre.app ι [p]) e (k n a h1)
  · have hn' : ι.length ≤ n := Nat.le_of_not_lt hn
    rw [List.getElem?_append_right hn'] at h1
    rw [List.getElem?_append_right (by rw [← s.len]; exact hn'), ← s.len] at h2
    have z : n - ι.length = 0 := by
      have := (List.getElem?_eq_some_iff.mp h1).1
      simp at this
      omega
    rw [z] at h1 h2
    cases h1
    cases h2
    exact ho
theorem Sim.newAt (s : Sim g ι S H) {p : Addr} : (ι ++ [p])[S.length]? = some p := by
  rw [← s.len, List.getElem?_append_right (Nat.le_refl _)]
  simp
/-- an object is changed -/
theorem Sim.wr (s : Sim g ι S H) {n : Nat} {a : Addr} {o' : O} {q : HO} (e : ι[n]? = some a) (ho : OR g ι (upd H a q) o' a) (ex : Ex H (upd H a q)) : Sim g ι (S.set n o') (upd H a q) ∧ Ex H (upd H a q) := by
  obtain ⟨o, h1, h2⟩ := s.at e
  obtain ⟨z, hz, z1, z2, z3⟩ := or_some h2
  refine ⟨⟨by simp [s.len], s.nd, fun m b u e1 e2 => ?_⟩, ex⟩
  by_cases hm : m = n
  · subst hm
    rw [e] at e1
    cases e1
    have hl : m < S.length := (List.getElem?_eq_some_iff.mp h1).1
    rw [List.getElem?_set_self hl] at e2
    cases e2
    exact ho
  · rw [List.getElem?_set_ne (Ne.symm hm)] at e2
    have hb : b ≠ a := fun x => by
      subst x
      have l1 := (List.getElem?_eq_some_iff.mp e1)
      have l2 := (List.getElem?_eq_some_iff.mp e)
      obtain ⟨i1, j1⟩ := l1
      obtain ⟨i2, j2⟩ := l2
      exact hm ((List.getElem_inj s.nd).mp (j1.trans j2.symm))
    exact (s.obj m b u e1 e2).move (Pre.refl ι) ex (upd_ne hb)
end

/-- the caught error: its address, its class, its dict -/
structure Xa where
  a : Addr
  cls : Value
  d : Option Addr
/-- the slots -/
def Er1 (g : G) (xa : Xa) (ι : List Addr) (H : Hp) (y : Sv) (v : Option V) : Prop :=
  match y with
  | .no => True
  | .v d => ∃ x, v = some x ∧ R g ι H d x
  | .exn c fs => v = some (.ref xa.a) ∧ (∃ C, xa.cls = .ref C ∧ g.mg c = some (.ref C)) ∧ ∃ dd gs, xa.d = some dd ∧ H dd = some (.xd gs) ∧ Fs g ι H fs gs
def Er (g : G) (xa : Xa) (ι : List Addr) (H : Hp) (e : Sl) (σ : L2.St) : Prop := e.length = σ.length ∧ ∀ (i : Nat) (y : Sv) (z : Option V), e[i]? = some y → σ[i]? = some z → Er1 g xa ι H y z
section
variable {g : G} {xa : Xa} {ι ι' : List Addr} {H H' : Hp} {e : Sl} {σ : L2.St}
theorem Er.mono (p : Pre ι ι') (x : Ex H H') (h : Er g xa ι H e σ) : Er g xa ι' H' e σ := ⟨h.1, fun i y z e1 e2 => by
  have q := h.2 i y z e1 e2
  cases y with
  | no => trivial
  | v d => obtain ⟨v, h1, h2⟩ := q; exact ⟨v, h1, R.mono p x _ _ h2⟩
  | exn c fs => obtain ⟨h1, h2, dd, gs, h3, h4, h5⟩ := q; exact ⟨h1, h2, dd, gs, h3, x.xd _ _ h4, h5.mono p x⟩⟩
theorem Er.get (h : Er g xa ι H e σ) {i : Nat} {d : D} (q : e[i]? = some (.v d)) : ∃ v, σ[i]? = some (some v) ∧ R g ι H d v := by
  have hl : i < σ.length := by rw [← h.1]; exact (List.getElem?_eq_some_iff.mp q).1
  obtain ⟨v, h1, h2⟩ := h.2 i _ σ[i] q (List.getElem?_eq_getElem hl)
  exact ⟨v, by rw [List.getElem?_eq_getElem hl, h1], h2⟩
theorem Er.set (h : Er g xa ι H e σ) {i : Nat} {d : D} {v : V} (r : R g ι H d v) : Er g xa ι H (e.set i (.v d)) (σ.set i (some v)) := by
  refine ⟨by simp [h.1], fun j y z e1 e2 => ?_⟩
  by_cases hj : j = i
  · subst hj
    have hl : j < e.length := by have := (List.getElem?_eq_some_iff.mp e1).1; simpa using this
    rw [List.getElem?_set_self hl] at e1
    rw [List.getElem?_set_self (by rw [← h.1]; exact hl)] at e2
    cases e1; cases e2
    exact ⟨v, rfl, r⟩
  · rw [List.getElem?_set_ne (Ne.symm hj)] at e1
    rw [List.getElem?_set_ne (Ne.symm hj)] at e2
    exact h.2 j y z e1 e2
theorem Er.clear (h : Er g xa ι H e σ) {i : Nat} {z : Option V} : Er g xa ι H (e.set i .no) (σ.set i z) := by
  refine ⟨by simp [h.1], fun j y u e1 e2 => ?_⟩
  by_cases hj : j = i
  · subst hj
    have hl : j < e.length := by have := (List.getElem?_eq_some_iff.mp e1).1; simpa using this
    rw [List.getElem?_set_self hl] at e1
    cases e1
    trivial
  · rw [List.getElem?_set_ne (Ne.symm hj)] at e1
    rw [List.getElem?_set_ne (Ne.symm hj)] at e2
    exact h.2 j y u e1 e2
end
end DD

set_option Elab.async false
set_option linter.all false
set_option maxRecDepth 100000
namespace DD
open PySem PySem.Spec PyProof.Rows L2

/-- a result: a value, or an error of the class c with its fields -/
inductive Re (α : Type) where
  | ok (a : α) | ex (c : Str) (fs : List (Str × D))
abbrev MM (α : Type) := Sl → So → Option (Re α × So)
def bindM {α β : Type} (m : MM α) (k : α → MM β) : MM β := fun e S => match m e S with
  | some (.ok a, S1) => k a e S1
  | some (.ex c fs, S1) => some (.ex c fs, S1)
  | none => none
def retM {α : Type} (a : α) : MM α := fun _ S => some (.ok a, S)
theorem bindM_some {α β : Type} {m : MM α} {k : α → MM β} {e : Sl} {S S' : So} {r : Re β} (h : bindM m k e S = some (r, S')) :
    (∃ a S1, m e S = some (.ok a, S1) ∧ k a e S1 = some (r, S')) ∨ ∃ c fs, m e S = some (.ex c fs, S') ∧ r = .ex c fs := by
  unfold bindM at h
  split at h
  · rename_i a S1 q; exact .inl ⟨a, S1, q, h⟩
  · rename_i c fs S1 q; cases h; exact .inr ⟨c, fs, q, rfl⟩
  · cases h
inductive Fl where
  | nx | rt (d : D) | bk | ct | ex (c : Str) (fs : List (Str × D))
abbrev MS := Sl → So → Option (Fl × Sl × So)
def bindS {α : Type} (m : MM α) (k : α → MS) : MS := fun e S => match m e S with
  | some (.ok a, S1) => k a e S1
  | some (.ex c fs, S1) => some (.ex c fs, e, S1)
  | none => none
theorem bindS_some {α : Type} {m : MM α} {k : α → MS} {e e' : Sl} {S S' : So} {f : Fl} (h : bindS m k e S = some (f, e', S')) :
    (∃ a S1, m e S = some (.ok a, S1) ∧ k a e S1 = some (f, e', S')) ∨ ∃ c fs, m e S = some (.ex c fs, S') ∧ f = .ex c fs ∧ e' = e := by
  unfold bindS at h
  split at h
  · rename_i a S1 q; exact .inl ⟨a, S1, q, h⟩
  · rename_i c fs S1 q; cases h; exact .inr ⟨c, fs, q, rfl, rfl⟩
  · cases h
def seqS (m k : MS) : MS := fun e S => match m e S with
  | some (.nx, e1, S1) => k e1 S1
  | o => o

section
variable (g : G) (xa : Xa) (W : WX)
def FinX (σ : L2.St) (ι : List Addr) (H : Hp) (c : Str) (fs : List (Str × D)) (S' : So) : Prop :=
  ∀ (ι' : List Addr) (H' : Hp) (C dd : Addr) (gs : List (Str × V)), Pre ι ι' → Ex H H' → Sim g ι' S' H' → g.mg c = some (.ref C) → H' dd = some (.xd gs) → Fs g ι' H' fs gs → W (.ref C) (some dd) σ H'
abbrev Rel (α γ : Type) := List Addr → Hp → α → γ → Prop
def FinG {α γ : Type} (ρ : Rel α γ) (σ : L2.St) (Q : γ → Hp → Prop) (ι : List Addr) (H : Hp) (r : Re α) (S' : So) : Prop := match r with
  | .ok a => ∀ (ι' : List Addr) (H' : Hp) (v : γ), Pre ι ι' → Ex H H' → Sim g ι' S' H' → ρ ι' H' a v → Q v H'
  | .ex c fs => FinX g W σ ι H c fs S'
/-- a reading by a run m -/
def tG {α γ : Type} (ρ : Rel α γ) (m : MM α) (σ : L2.St) (H : Hp) (Q : γ → Hp → Prop) : Prop :=
  ∃ (ι : List Addr) (S : So) (e : Sl) (r : Re α) (S' : So), Sim g ι S H ∧ Er g xa ι H e σ ∧ m e S = some (r, S') ∧ FinG g W ρ σ Q ι H r S'
abbrev ρD : Rel D V := fun ι H d v => R g ι H d v
abbrev ρA : Rel (List D) (List V) := fun ι H d v => Rs g ι H d v
abbrev ρB : Rel Bool Bool := fun _ _ a b => a = b
abbrev ρO : Rel (Option Int) (Option Int) := fun _ _ a b => a = b
abbrev tE (m : MM D) : TE := fun σ H Q => tG g xa W (ρD g) m σ H Q
abbrev tT (m : MM Bool) : TT := fun σ H Q => tG g xa W ρB m σ H Q
abbrev tA (m : MM (List D)) : TA := fun σ H Q => tG g xa W (ρA g) m σ H Q
abbrev tO (m : MM (Option Int)) : TO := fun σ H Q => tG g xa W ρO m σ H Q
def FinS (Dd : Ends) (ι : List Addr) (H : Hp) (f : Fl) (e' : Sl) (S' : So) : Prop :=
  ∀ (ι' : List Addr) (H' : Hp), Pre ι ι' → Ex H H' → Sim g ι' S' H' → match f with
  | .nx => ∀ σ', Er g xa ι' H' e' σ' → Dd.nx σ' H'
  | .bk => ∀ σ', Er g xa ι' H' e' σ' → Dd.bk σ' H'
  | .ct => ∀ σ', Er g xa ι' H' e' σ' → Dd.ct σ' H'
  | .rt d => ∀ v, R g ι' H' d v → Dd.rt v H'
  | .ex c fs => ∀ σ' C dd gs, Er g xa ι' H' e' σ' → g.mg c = some (.ref C) → H' dd = some (.xd gs) → Fs g ι' H' fs gs → W (.ref C) (some dd) σ' H'
def tS (m : MS) : TS := fun Dd σ H =>
  ∃ (ι : List Addr) (S : So) (e : Sl) (f : Fl) (e' : Sl) (S' : So), Sim g ι S H ∧ Er g xa ι H e σ ∧ m e S = some (f, e', S') ∧ FinS g xa W Dd ι H f e' S'
end

section
variable {g : G} {xa : Xa} {W : WX} {ι ι1 : List Addr} {H H1 : Hp} {σ : L2.St} {S S' : So} {e : Sl}
theorem FinX.mono {c : Str} {fs : List (Str × D)} (p : Pre ι ι1) (x : Ex H H1) (h : FinX g W σ ι H c fs S') : FinX g W σ ι1 H1 c fs S' :=
  fun ι' H' C dd gs p' x' => h ι' H' C dd gs (p.trans p') (x.trans x')
theorem FinG.mono {α γ : Type} {ρ : Rel α γ} {Q : γ → Hp → Prop} {r : Re α} (p : Pre ι ι1) (x : Ex H H1) (h : FinG g W ρ σ Q ι H r S') : FinG g W ρ σ Q ι1 H1 r S' := by
  cases r with
  | ok a => exact fun ι' H' v p' x' => h ι' H' v (p.trans p') (x.trans x')
  | ex c fs => exact FinX.mono p x h
theorem FinS.mono {Dd : Ends} {f : Fl} {e' : Sl} (p : Pre ι ι1) (x : Ex H H1) (h : FinS g xa W Dd ι H f e' S') : FinS g xa W Dd ι1 H1 f e' S' :=
  fun ι' H' p' x' => h ι' H' (p.trans p') (x.trans x')
/-- a run's first part -/
theorem stepG {α β γ δ : Type} {ρ : Rel α γ} {ρ' : Rel β δ} {m : MM α} {k : α → MM β} {r : Re β} {Q : δ → Hp → Prop} {P : γ → Hp → Prop}
    (hs : Sim g ι S H) (he : Er g xa ι H e σ) (hm : bindM m k e S = some (r, S')) (hf : FinG g W ρ' σ Q ι H r S')
    (hk : ∀ (a : α) (S1 : So) (ι1 : List Addr) (H1 : Hp) (v : γ), k a e S1 = some (r, S') → Pre ι ι1 → Ex H H1 → Sim g ι1 S1 H1 → Er g xa ι1 H1 e σ → ρ ι1 H1 a v → FinG g W ρ' σ Q ι1 H1 r S' → P v H1) :
    tG g xa W ρ m σ H P := by
  rcases bindM_some hm with ⟨a, S1, h1, h2⟩ | ⟨c, fs, h1, rfl⟩
  · exact ⟨ι, S, e, .ok a, S1, hs, he, h1, fun ι' H' v p x s r' => hk a S1 ι' H' v h2 p x s (he.mono p x) r' (hf.mono p x)⟩
  · exact ⟨ι, S, e, .ex c fs, S', hs, he, h1, hf⟩
theorem stepS {α γ : Type} {ρ : Rel α γ} {m : MM α} {k : α → MS} {f : Fl} {e' : Sl} {Dd : Ends} {P : γ → Hp → Prop}
    (hs : Sim g ι S H) (he : Er g xa ι H e σ) (hm : bindS m k e S = some (f, e', S')) (hf : FinS g xa W Dd ι H f e' S')
    (hk : ∀ (a : α) (S1 : So) (ι1 : List Addr) (H1 : Hp) (v : γ), k a e S1 = some (f, e', S') → Pre ι ι1 → Ex H H1 → Sim g ι1 S1 H1 → Er g xa ι1 H1 e σ → ρ ι1 H1 a v → FinS g xa W Dd ι1 H1 f e' S' → P v H1) :
    tG g xa W ρ m σ H P := by
  rcases bindS_some hm with ⟨a, S1, h1, h2⟩ | ⟨c, fs, h1, rfl, rfl⟩
  · exact ⟨ι, S, e, .ok a, S1, hs, he, h1, fun ι' H' v p x s r' => hk a S1 ι' H' v h2 p x s (he.mono p x) r' (hf.mono p x)⟩
  · exact ⟨ι, S, e', .ex c fs, S', hs, he, h1, fun ι' H' C dd gs p x s h3 h4 h5 => hf ι' H' p x s σ C dd gs (he.mono p x) h3 h4 h5⟩
end

section
variable {X : Cx}
theorem _root_.L2.PE.viaM {e : Expr} {t t' : TE} (h : PE X e t) (i : ∀ σ H Q, t' σ H Q → t σ H Q) : PE X e t' := ⟨fun pins s σ H Q I q => h.run pins s σ H Q I (i σ H Q q)⟩
theorem _root_.L2.PT.viaM {e : Expr} {t t' : TT} (h : PT X e t) (i : ∀ σ H Q, t' σ H Q → t σ H Q) : PT X e t' := ⟨fun pins s σ H Q I q => h.run pins s σ H Q I (i σ H Q q)⟩
theorem _root_.L2.PW.viaM {e : Expr} {t t' : TT} (h : PW X e t) (i : ∀ σ H Q, t' σ H Q → t σ H Q) : PW X e t' := ⟨fun wh pins s σ H Q I q => h.run wh pins s σ H Q I (i σ H Q q)⟩
theorem _root_.L2.PA.viaM {e : List Expr} {t t' : TA} (h : PA X e t) (i : ∀ σ H Q, t' σ H Q → t σ H Q) : PA X e t' := ⟨fun p pins s σ H Q I q => h.run p pins s σ H Q I (i σ H Q q)⟩
theorem _root_.L2.PO.viaM {e : Option Expr} {t t' : TO} (h : PO X e t) (i : ∀ σ H Q, t' σ H Q → t σ H Q) : PO X e t' := ⟨fun pins s σ H Q I q => h.run pins s σ H Q I (i σ H Q q)⟩
theorem _root_.L2.PS.viaM {e : Stmt} {t t' : TS} (h : PS X e t) (i : ∀ D σ H, t' D σ H → t D σ H) : PS X e t' := ⟨fun pins s σ H D I q => h.run pins s σ H D I (i D σ H q)⟩
theorem _root_.L2.PSs.viaM {e : List Stmt} {t t' : TS} (h : PSs X e t) (i : ∀ D σ H, t' D σ H → t D σ H) : PSs X e t' := ⟨fun pins s σ H D I q => h.run pins s σ H D I (i D σ H q)⟩
theorem _root_.L2.PI.viaM {tg e : Expr} {t t' : TI} (h : PI X tg e t) (i : ∀ σ H Q, t' σ H Q → t σ H Q) : PI X tg e t' := ⟨fun pins s σ H Q I q => h.run pins s σ H Q I (i σ H Q q)⟩
theorem _root_.L2.PI.orM {tg e : Expr} {t t' : TI} (h : PI X tg e t) (h' : PI X tg e t') : PI X tg e (fun σ H Q => t σ H Q ∨ t' σ H Q) := ⟨fun pins s σ H Q I q => q.elim (h.run pins s σ H Q I) (h'.run pins s σ H Q I)⟩
end

/-! ### names, constants -/
section
variable {X : Cx} {g : G} {xa : Xa} {W : WX} {pos : Pos}
def mVar (i : Nat) : MM D := fun e S => match e[i]? with
  | some (.v d) => some (.ok d, S)
  | _ => none
theorem mVar_some {i : Nat} {e : Sl} {S S' : So} {r : Re D} (h : mVar i e S = some (r, S')) : ∃ d, e[i]? = some (.v d) ∧ r = .ok d ∧ S' = S := by
  unfold mVar at h
  split at h
  · rename_i d q; cases h; exact ⟨d, q, rfl, rfl⟩
  · cases h
theorem em_var (i : Nat) {x : Str} (hN : X.N[i]? = some x := by rfl) (hv : Vis X.env.scope x := by first | exact Or.inl rfl | exact Or.inr (Or.inl rfl) | exact Or.inr (Or.inr rfl)) (hd : (x == ("__debug__" : Str)) = false := by decide)
    (hcd : (x == ("__classdict__" : Str)) = false := by decide) : PE X (.Name x pos) (tE g xa W (mVar i)) := by
  refine (pe_var (i := i) hN hv hd hcd).viaM fun σ H Q h => ?_
  obtain ⟨ι, S, e, r, S', hs, he, hm, hf⟩ := h
  obtain ⟨d, h1, rfl, rfl⟩ := mVar_some hm
  obtain ⟨v, h2, h3⟩ := he.get h1
  exact ⟨v, h2, hf ι H v (Pre.refl ι) (Ex.refl H) hs h3⟩
theorem em_const {e : Expr} {d : D} {v : V} (h : PE X e (tC v)) (r : ∀ ι H, R g ι H d v) : PE X e (tE g xa W (retM d)) := by
  refine h.viaM fun σ H Q h => ?_
  obtain ⟨ι, S, e, r', S', hs, he, hm, hf⟩ := h
  cases hm
  exact hf ι H v (Pre.refl ι) (Ex.refl H) hs (r ι H)
theorem em_int {i : Int} {j : Nat} : PE X (.Constant (.int i) j pos) (tE g xa W (retM (.int i))) := em_const pe_int fun _ _ => .int i
theorem em_bl {b : Bool} {j : Nat} : PE X (.Constant (.bool b) j pos) (tE g xa W (retM (.bl b))) := em_const pe_bl fun _ _ => .bl b
theorem em_non {j : Nat} : PE X (.Constant .none j pos) (tE g xa W (retM .non)) := em_const pe_non fun _ _ => .non
theorem em_str {x : Str} {j : Nat} : PE X (.Constant (.str x) j pos) (tE g xa W (retM (.str x))) := em_const pe_str fun _ _ => .str x
/-- a module's own def or class as a value -/
theorem em_glob {x : Str} {u : Value} {v : V} (hg : Gl X x) (hm : X.mg x = some u) (hm2 : g.mg x = some u) (r : RelV v u) (hd : (x == ("__debug__" : Str)) = false := by decide) : PE X (.Name x pos) (tE g xa W (retM (.glo x))) :=
  em_const (pe_glob hg hm r hd) fun _ _ => .glo hm2 r
/-- a module's plain constant -/
theorem em_gint {x : Str} {i : Int} {t : Tok} (hg : Gl X x) (hm : X.mg x = some (.int i t)) (hd : (x == ("__debug__" : Str)) = false := by decide) : PE X (.Name x pos) (tE g xa W (retM (.int i))) :=
  em_const (pe_glob (v := .int i) hg hm ⟨t, rfl⟩ hd) fun _ _ => .int i
theorem em_gstr {x y : Str} {t : Tok} (hg : Gl X x) (hm : X.mg x = some (.str y t)) (hd : (x == ("__debug__" : Str)) = false := by decide) : PE X (.Name x pos) (tE g xa W (retM (.str y))) :=
  em_const (pe_glob (v := .str y) hg hm ⟨t, rfl⟩ hd) fun _ _ => .str y

/-! ### argument lists -/
def mNil : MM (List D) := retM []
def mCons (m : MM D) (k : MM (List D)) : MM (List D) := bindM m fun d => bindM k fun ds => retM (d :: ds)
theorem am_nil : PA X [] (tA g xa W mNil) := pa_nil.viaM fun σ H Q h => by
  obtain ⟨ι, S, e, r, S', hs, he, hm, hf⟩ := h
  cases hm
  exact hf ι H [] (Pre.refl ι) (Ex.refl H) hs .nil
theorem am_cons {e : Expr} {es : List Expr} {m : MM D} {k : MM (List D)} (h : PE X e (tE g xa W m)) (hr : PA X es (tA g xa W k)) (hs : starEach (e :: es) X.env = (false, eval e X.env) :: starEach es X.env := by rfl) : PA X (e :: es) (tA g xa W (mCons m k)) := by
  refine (pa_cons h hr hs).viaM fun σ H Q h => ?_
  obtain ⟨ι, S, e, r, S', hs, he, hm, hf⟩ := h
  refine stepG hs he hm hf fun d S1 ι1 H1 v h1 p1 x1 s1 e1 r1 f1 => ?_
  refine stepG s1 e1 h1 f1 fun ds S2 ι2 H2 vs h2 p2 x2 s2 e2 r2 f2 => ?_
  cases h2
  exact f2 ι2 H2 (v :: vs) (Pre.refl ι2) (Ex.refl H2) s2 (.cons (R.mono p2 x2 _ _ r1) r2)

/-! ### operators by values -/
/-- a reading of values -/
def Does {α γ : Type} (g : G) (ρ : Rel α γ) (ι : List Addr) (H : Hp) (a : α) (S' : So) (Q : γ → Hp → Prop) : Prop :=
  ∀ (ι' : List Addr) (H' : Hp) (v : γ), Pre ι ι' → Ex H H' → Sim g ι' S' H' → ρ ι' H' a v → Q v H'
theorem Does.here {α γ : Type} {g : G} {ρ : Rel α γ} {ι : List Addr} {H : Hp} {a : α} {S : So} {Q : γ → Hp → Prop} {v : γ} (h : Does g ρ ι H a S Q) (s : Sim g ι S H) (r : ρ ι H a v) : Q v H := h ι H v (Pre.refl ι) (Ex.refl H) s r
abbrev F1 := D → So → Option (D × So)
abbrev F2 := D → D → So → Option (D × So)
abbrev FA := List D → So → Option (D × So)
def Op2 (g : G) (r : R2) (f : F2) : Prop := ∀ (ι : List Addr) (S S' : So) (H : Hp) (a b d : D) (x y : V) (Q : VK), Sim g ι S H → R g ι H a x → R g ι H b y → f a b S = some (d, S') → Does g (ρD g) ι H d S' Q → r x y H Q
def Op1 (g : G) (r : V → Hp → VK → Prop) (f : F1) : Prop := ∀ (ι : List Addr) (S S' : So) (H : Hp) (a d : D) (x : V) (Q : VK), Sim g ι S H → R g ι H a x → f a S = some (d, S') → Does g (ρD g) ι H d S' Q → r x H Q
def OpA (g : G) (r : List V → Hp → VK → Prop) (f : FA) : Prop := ∀ (ι : List Addr) (S S' : So) (H : Hp) (a : List D) (d : D) (x : List V) (Q : VK), Sim g ι S H → Rs g ι H a x → f a S = some (d, S') → Does g (ρD g) ι H d S' Q → r x H Q
def liftF {α : Type} (o : So → Option (α × So)) : MM α := fun _ S => match o S with
  | some (d, S1) => some (.ok d, S1)
  | none => none
theorem liftF_some {α : Type} {o : So → Option (α × So)} {e : Sl} {S S' : So} {r : Re α} (h : liftF o e S = some (r, S')) : ∃ d, o S = some (d, S') ∧ r = .ok d := by
  unfold liftF at h
  split at h
  · rename_i d S1 q; cases h; exact ⟨d, q, rfl⟩
  · cases h
def mOp2 (f : F2) (ma mb : MM D) : MM D := bindM ma fun a => bindM mb fun b => liftF (f a b)
def mOp1 (f : F1) (ma : MM D) : MM D := bindM ma fun a => liftF (f a)
def mOpA (f : FA) (ma : MM (List D)) : MM D := bindM ma fun a => liftF (f a)
theorem op2_step {r : R2} {f : F2} (hf : Op2 g r f) {ma mb : MM D} {σ : L2.St} {H : Hp} {Q : VK} (h : tE g xa W (mOp2 f ma mb) σ H Q) : tOp r (tE g xa W ma) (tE g xa W mb) σ H Q := by
  obtain ⟨ι, S, e, r, S', hs, he, hm, hf'⟩ := h
  refine stepG hs he hm hf' fun a S1 ι1 H1 v h1 p1 x1 s1 e1 r1 f1 => ?_
  refine stepG s1 e1 h1 f1 fun b S2 ι2 H2 u h2 p2 x2 s2 e2 r2 f2 => ?_
  obtain ⟨d, h3, rfl⟩ := liftF_some h2
  exact hf ι2 S2 S' H2 a b d v u Q s2 (R.mono p2 x2 _ _ r1) r2 h3 f2
theorem opA_step {r : List V → Hp → VK → Prop} {f : FA} (hf : OpA g r f) {ma : MM (List D)} {σ : L2.St} {H : Hp} {Q : VK} (h : tE g xa W (mOpA f ma) σ H Q) : tA g xa W ma σ H fun vs H1 => r vs H1 Q := by
  obtain ⟨ι, S, e, r, S', hs, he, hm, hf'⟩ := h
  refine stepG hs he hm hf' fun a S1 ι1 H1 v h1 p1 x1 s1 e1 r1 f1 => ?_
  obtain ⟨d, h3, rfl⟩ := liftF_some h1
  exact hf ι1 S1 S' H1 a d v Q s1 r1 h3 f1
theorem op1_step {r : V → Hp → VK → Prop} {f : F1} (hf : Op1 g r f) {ma : MM D} {σ : L2.St} {H : Hp} {Q : VK} (h : tE g xa W (mOp1 f ma) σ H Q) : tE g xa W ma σ H fun vs H1 => r vs H1 Q := by
  obtain ⟨ι, S, e, r, S', hs, he, hm, hf'⟩ := h
  refine stepG hs he hm hf' fun a S1 ι1 H1 v h1 p1 x1 s1 e1 r1 f1 => ?_
  obtain ⟨d, h3, rfl⟩ := liftF_some h1
  exact hf ι1 S1 S' H1 a d v Q s1 r1 h3 f1
theorem em_op {a b : Expr} {op : Operator} {r : R2} {f : F2} {ma mb : MM D} (ho : OpR X (binaryOp op) r) (hf : Op2 g r f) (ha : PE X a (tE g xa W ma)) (hb : PE X b (tE g xa W mb)) : PE X (.BinOp a op b pos) (tE g xa W (mOp2 f ma mb)) :=
  (pe_op ho ha hb).viaM fun _ _ _ h => op2_step hf h
theorem em_un {a : Expr} {op : UnaryOp} {r : V → Hp → VK → Prop} {f : F1} {ma : MM D} (ho : UnR X (unaryOp op) r) (hf : Op1 g r f) (ha : PE X a (tE g xa W ma)) : PE X (.UnaryOp op a pos) (tE g xa W (mOp1 f ma)) :=
  (pe_un ho ha).viaM fun _ _ _ h => op1_step hf h
theorem em_cmp {a b : Expr} {op : CmpOp} {r : R2} {f : F2} {ma mb : MM D} (ho : OpR X (compareOp op) r) (hf : Op2 g r f) (ha : PE X a (tE g xa W ma)) (hb : PE X b (tE g xa W mb)) (hm : behindInMarks op b = false) : PE X (.Compare a [op] [b] pos) (tE g xa W (mOp2 f ma mb)) :=
  (pe_cmpR ho ha hb hm).viaM fun _ _ _ h => op2_step hf h
/-- the bool of a comparison -/
def asB (d : D) : MM Bool := fun _ S => match d with
  | .bl b => some (.ok b, S)
  | _ => none
theorem asB_some {d : D} {e : Sl} {S S' : So} {r : Re Bool} (h : asB d e S = some (r, S')) : ∃ b, d = .bl b ∧ r = .ok b ∧ S' = S := by
  unfold asB at h
  split at h
  · cases h; exact ⟨_, rfl, rfl, rfl⟩
  · cases h
def mTst (m : MM D) : MM Bool := bindM m asB
theorem tst_step {t : TE} {m : MM D} (ht : ∀ σ H Q, tE g xa W m σ H Q → t σ H Q) {σ : L2.St} {H : Hp} {Q : Bool → Hp → Prop} (h : tT g xa W (mTst m) σ H Q) : t σ H fun x H' => ∃ k, x = .bl k ∧ Q k H' := by
  obtain ⟨ι, S, e, r, S', hs, he, hm, hf'⟩ := h
  refine ht _ _ _ (stepG hs he hm hf' fun a S1 ι1 H1 v h1 p1 x1 s1 e1 r1 f1 => ?_)
  obtain ⟨b, rfl, rfl, rfl⟩ := asB_some h1
  cases r1
  exact ⟨b, rfl, f1 ι1 H1 b (Pre.refl _) (Ex.refl _) s1 rfl⟩
theorem tm_cmp {a b : Expr} {op : CmpOp} {r : R2} {f : F2} {ma mb : MM D} (ho : OpR X (compareOp op) r) (hf : Op2 g r f) (ha : PE X a (tE g xa W ma)) (hb : PE X b (tE g xa W mb)) (hm : behindInMarks op b = false) : PT X (.Compare a [op] [b] pos) (tT g xa W (mTst (mOp2 f ma mb))) :=
  (pt_cmpR ho ha hb hm).viaM fun _ _ _ h => tst_step (fun _ _ _ h => op2_step hf h) h
/-- an expression that gives a bool -/
theorem tm_val {e : Expr} {m : MM D} (h : PE X e (tE g xa W m)) (he : ∀ whole, isTrue e X.env whole = (do let v ← whole; standAt e.pos; holding [v] (truthy v)) := by intro _; rfl) : PT X e (tT g xa W (mTst m)) :=
  (pt_val h he).viaM fun _ _ _ h => tst_step (fun _ _ _ h => h) h
def mNot (m : MM Bool) : MM Bool := bindM m fun b => retM (!b)
theorem tm_not {a : Expr} {m : MM Bool} (ha : PT X a (tT g xa W m)) : PT X (.UnaryOp .Not a pos) (tT g xa W (mNot m)) := by
  refine (pt_not ha).viaM fun σ H Q h => ?_
  obtain ⟨ι, S, e, r, S', hs, he, hm, hf'⟩ := h
  refine stepG hs he hm hf' fun a S1 ι1 H1 v h1 p1 x1 s1 e1 r1 f1 => ?_
  cases r1
  cases h1
  exact f1 ι1 H1 _ (Pre.refl _) (Ex.refl _) s1 rfl
def mAnd (m k : MM Bool) : MM Bool := bindM m fun b => if b then k else retM false
def mOr (m k : MM Bool) : MM Bool := bindM m fun b => if b then retM true else k
theorem wm_and1 {a : Expr} {m : MM Bool} (ha : PT X a (tT g xa W m)) : PW X (.BoolOp .And [a] pos) (tT g xa W m) := pw_and1 ha
theorem wm_or1 {a : Expr} {m : MM Bool} (ha : PT X a (tT g xa W m)) : PW X (.BoolOp .Or [a] pos) (tT g xa W m) := pw_or1 ha
theorem wm_and {a b : Expr} {rest : List Expr} {m k : MM Bool} (ha : PT X a (tT g xa W m)) (hb : PW X (.BoolOp .And (b :: rest) pos) (tT g xa W k)) : PW X (.BoolOp .And (a :: b :: rest) pos) (tT g xa W (mAnd m k)) := by
  refine (pw_and ha hb).viaM fun σ H Q h => ?_
  obtain ⟨ι, S, e, r, S', hs, he, hm, hf'⟩ := h
  refine stepG hs he hm hf' fun a S1 ι1 H1 v h1 p1 x1 s1 e1 r1 f1 => ?_
  cases r1
  cases a with
  | true => exact ⟨ι1, S1, e, r, S', s1, e1, h1, f1⟩
  | false => cases h1; exact f1 ι1 H1 _ (Pre.refl _) (Ex.refl _) s1 rfl
theorem wm_or {a b : Expr} {rest : List Expr} {m k : MM Bool} (ha : PT X a (tT g xa W m)) (hb : PW X (.BoolOp .Or (b :: rest) pos) (tT g xa W k)) : PW X (.BoolOp .Or (a :: b :: rest) pos) (tT g xa W (mOr m k)) := by
  refine (pw_or ha hb).viaM fun σ H Q h => ?_
  obtain ⟨ι, S, e, r, S', hs, he, hm, hf'⟩ := h
  refine stepG hs he hm hf' fun a S1 ι1 H1 v h1 p1 x1 s1 e1 r1 f1 => ?_
  cases r1
  cases a with
  | true => cases h1; exact f1 ι1 H1 _ (Pre.refl _) (Ex.refl _) s1 rfl
  | false => exact ⟨ι1, S1, e, r, S', s1, e1, h1, f1⟩
/-- and, or, not as values of bools -/
def mAndV (m k : MM D) : MM D := bindM m fun d => bindM (asB d) fun b => if b then k else retM (.bl false)
def mOrV (m k : MM D) : MM D := bindM m fun d => bindM (asB d) fun b => if b then retM (.bl true) else k
def mNotV (m : MM D) : MM D := bindM m fun d => bindM (asB d) fun b => retM (.bl (!b))
theorem bind_asB {β : Type} {d : D} {k : Bool → MM β} {e : Sl} {S S' : So} {r : Re β} (h : bindM (asB d) k e S = some (r, S')) : ∃ b, d = .bl b ∧ k b e S = some (r, S') := by
  rcases bindM_some h with ⟨b, S1, h1, h2⟩ | ⟨c, fs, h1, _⟩
  · obtain ⟨b', rfl, e1, rfl⟩ := asB_some h1; cases e1; exact ⟨b, rfl, h2⟩
  · obtain ⟨b', _, e1, _⟩ := asB_some h1; cases e1
theorem em_one {op : BoolOp} {a : Expr} {m : MM D} (h : PE X a (tE g xa W m)) : PE X (.BoolOp op [a] pos) (tE g xa W m) := pe_one h
theorem em_and {a b : Expr} {rest : List Expr} {m k : MM D} (ha : PE X a (tE g xa W m)) (hb : PE X (.BoolOp .And (b :: rest) pos) (tE g xa W k)) : PE X (.BoolOp .And (a :: b :: rest) pos) (tE g xa W (mAndV m k)) := by
  refine (pe_and ha hb).viaM fun σ H Q h => ?_
  obtain ⟨ι, S, e, r, S', hs, he, hm, hf'⟩ := h
  refine stepG hs he hm hf' fun a S1 ι1 H1 v h1 p1 x1 s1 e1 r1 f1 => ?_
  obtain ⟨b, rfl, h2⟩ := bind_asB h1
  cases r1
  refine ⟨b, rfl, ?_⟩
  cases b with
  | true => exact ⟨ι1, S1, e, r, S', s1, e1, h2, f1⟩
  | false => cases h2; exact f1 ι1 H1 _ (Pre.refl _) (Ex.refl _) s1 (.bl _)
theorem em_or {a b : Expr} {rest : List Expr} {m k : MM D} (ha : PE X a (tE g xa W m)) (hb : PE X (.BoolOp .Or (b :: rest) pos) (tE g xa W k)) : PE X (.BoolOp .Or (a :: b :: rest) pos) (tE g xa W (mOrV m k)) := by
  refine (pe_or ha hb).viaM fun σ H Q h => ?_
  obtain ⟨ι, S, e, r, S', hs, he, hm, hf'⟩ := h
  refine stepG hs he hm hf' fun a S1 ι1 H1 v h1 p1 x1 s1 e1 r1 f1 => ?_
  obtain ⟨b, rfl, h2⟩ := bind_asB h1
  cases r1
  refine ⟨b, rfl, ?_⟩
  cases b with
  | true => cases h2; exact f1 ι1 H1 _ (Pre.refl _) (Ex.refl _) s1 (.bl _)
  | false => exact ⟨ι1, S1, e, r, S', s1, e1, h2, f1⟩
theorem em_not {a : Expr} {m : MM D} (ha : PE X a (tE g xa W m)) : PE X (.UnaryOp .Not a pos) (tE g xa W (mNotV m)) := by
  refine (pe_not ha).viaM fun σ H Q h => ?_
  obtain ⟨ι, S, e, r, S', hs, he, hm, hf'⟩ := h
  refine stepG hs he hm hf' fun a S1 ι1 H1 v h1 p1 x1 s1 e1 r1 f1 => ?_
  obtain ⟨b, rfl, h2⟩ := bind_asB h1
  cases r1
  cases h2
  exact ⟨b, rfl, f1 ι1 H1 _ (Pre.refl _) (Ex.refl _) s1 (.bl _)⟩
def mIf (t : MM Bool) (m k : MM D) : MM D := bindM t fun b => if b then m else k
theorem em_if {c a b : Expr} {t : MM Bool} {m k : MM D} (hc : PT X c (tT g xa W t)) (ha : PE X a (tE g xa W m)) (hb : PE X b (tE g xa W k)) : PE X (.IfExp c a b pos) (tE g xa W (mIf t m k)) := by
  refine (pe_ifExp hc ha hb).viaM fun σ H Q h => ?_
  obtain ⟨ι, S, e, r, S', hs, he, hm, hf'⟩ := h
  refine stepG hs he hm hf' fun a S1 ι1 H1 v h1 p1 x1 s1 e1 r1 f1 => ?_
  cases r1
  cases a with
  | true => exact ⟨ι1, S1, e, r, S', s1, e1, h1, f1⟩
  | false => exact ⟨ι1, S1, e, r, S', s1, e1, h1, f1⟩
/-- a op b op c -/
def mChain (f f' : F2) (ma mb mc : MM D) : MM D := bindM ma fun a => bindM mb fun b => bindM (liftF (f a b)) fun d => bindM (asB d) fun k => if k then bindM mc fun c => liftF (f' b c) else retM (.bl false)
theorem chain_step {r r' : R2} {f f' : F2} (hf : Op2 g r f) (hf2 : Op2 g r' f') {ma mb mc : MM D} {σ : L2.St} {H : Hp} {Q : VK} (h : tE g xa W (mChain f f' ma mb mc) σ H Q) : tChain r r' (tE g xa W ma) (tE g xa W mb) (tE g xa W mc) σ H Q := by
  obtain ⟨ι, S, e, r, S', hs, he, hm, hf'⟩ := h
  refine stepG hs he hm hf' fun a S1 ι1 H1 v h1 p1 x1 s1 e1 r1 f1 => ?_
  refine stepG s1 e1 h1 f1 fun b S2 ι2 H2 u h2 p2 x2 s2 e2 r2 f2 => ?_
  rcases bindM_some h2 with ⟨d, S3, h3, h4⟩ | ⟨c, fs, h3, _⟩
  · obtain ⟨d', h5, z⟩ := liftF_some h3
    cases z
    refine hf ι2 S2 S3 H2 a b d v u _ s2 (R.mono p2 x2 _ _ r1) r2 h5 fun ι3 H3 w p3 x3 s3 r3 => ?_
    obtain ⟨k, rfl, h6⟩ := bind_asB h4
    cases r3
    refine ⟨k, rfl, ?_⟩
    have f3 := f2.mono p3 x3
    have e3 := e2.mono p3 x3
    cases k with
    | true =>
      rw [if_pos rfl] at h6 ⊢
      refine stepG s3 e3 h6 f3 fun c S4 ι4 H4 z h7 p4 x4 s4 e4 r4 f4 => ?_
      obtain ⟨d', h8, rfl⟩ := liftF_some h7
      exact hf2 ι4 S4 S' H4 b c d' u z Q s4 (R.mono p4 x4 _ _ (R.mono p3 x3 _ _ r2)) r4 h8 f4
    | false =>
      rw [if_neg Bool.false_ne_true] at h6 ⊢
      cases h6
      exact f3 ι3 H3 _ (Pre.refl _) (Ex.refl _) s3 (.bl _)
  · obtain ⟨d, _, z⟩ := liftF_some h3; cases z
theorem em_chain {a b c : Expr} {op op' : CmpOp} {r r' : R2} {f f' : F2} {ma mb mc : MM D} (ho : OpR X (compareOp op) r) (hf : Op2 g r f) (ho' : OpR X (compareOp op') r') (hf' : Op2 g r' f') (ha : PE X a (tE g xa W ma)) (hb : PE X b (tE g xa W mb)) (hc : PE X c (tE g xa W mc))
    (hm : lastMarks [op, op'] [b, c] = false := by with_unfolding_all rfl) : PE X (.Compare a [op, op'] [b, c] pos) (tE g xa W (mChain f f' ma mb mc)) :=
  (pe_chain ho ho' ha hb hc hm).viaM fun _ _ _ h => chain_step hf hf' h
theorem tm_chain {a b c : Expr} {op op' : CmpOp} {r r' : R2} {f f' : F2} {ma mb mc : MM D} (ho : OpR X (compareOp op) r) (hf : Op2 g r f) (ho' : OpR X (compareOp op') r') (hf' : Op2 g r' f') (ha : PE X a (tE g xa W ma)) (hb : PE X b (tE g xa W mb)) (hc : PE X c (tE g xa W mc))
    (hm : lastMarks [op, op'] [b, c] = false := by with_unfolding_all rfl) : PT X (.Compare a [op, op'] [b, c] pos) (tT g xa W (mTst (mChain f f' ma mb mc))) :=
  (pt_chain ho ho' ha hb hc hm).viaM fun _ _ _ h => tst_step (fun _ _ _ h => chain_step hf hf' h) h
end
end DD

set_option Elab.async false
set_option linter.all false
set_option maxRecDepth 100000
namespace DD
open PySem PySem.Spec PyProof.Rows L2

section
variable {g : G} {ι : List Addr} {H : Hp}
theorem lst_here {n : Nat} {a : Addr} {S : So} {ys : List D} (s : Sim g ι S H) (q : ι[n]? = some a) (h : S[n]? = some (.lst ys)) : ∃ vs, H a = some (.lst vs) ∧ Rs g ι H ys vs := s.obj n a _ q h
/-- the items of a sequence (true: of a tuple) -/
def seqOf (d : D) (S : So) : Option (Bool × List D) := match d with
  | .tup xs => some (true, xs)
  | .rol xs => some (false, xs)
  | .ref n => match S[n]? with
    | some (.lst xs) => some (false, xs)
    | _ => none
  | _ => none
theorem seqOf_R {d : D} {S : So} {b : Bool} {xs : List D} {v : V} (h : seqOf d S = some (b, xs)) (s : Sim g ι S H) (r : R g ι H d v) : ∃ a vs, v = .ref a ∧ Rs g ι H xs vs ∧ (b = true → SqU g.K H a vs) ∧ (b = false → SqL g.K H a vs) := by
  cases r with
  | tup h1 h2 => cases h; exact ⟨_, _, rfl, h2, fun _ => h1, nofun⟩
  | rol h1 h2 => cases h; exact ⟨_, _, rfl, h2, nofun, fun _ => h1.seq⟩
  | ref h1 =>
    unfold seqOf at h
    dsimp only at h
    split at h
    · rename_i ys q
      cases h
      obtain ⟨vs, h4, h5⟩ := lst_here s h1 q
      exact ⟨_, vs, rfl, h5, nofun, fun _ => SqL.of h4⟩
    · cases h
  | _ => cases h
end
section
variable {X : Cx} {g : G} {xa : Xa} {W : WX} {pos : Pos}
/-! ### statements -/
def nxS : MS := fun e S => some (.nx, e, S)
theorem FinS.nx {Dd : Ends} {ι : List Addr} {H : Hp} {e : Sl} {S : So} {σ : L2.St} (h : FinS g xa W Dd ι H .nx e S) (s : Sim g ι S H) (r : Er g xa ι H e σ) : Dd.nx σ H := h ι H (Pre.refl _) (Ex.refl _) s σ r
theorem sm_nil : PSs X [] (tS g xa W nxS) := pss_nil.viaM fun Dd σ H h => by
  obtain ⟨ι, S, e, f, e', S', hs, he, hm, hf⟩ := h
  cases hm
  exact hf.nx hs he
theorem seq_step {m k : MS} {t : TS} {Dd : Ends} {σ : L2.St} {H : Hp} (ht : ∀ D σ H, tS g xa W m D σ H → t D σ H) (h : tS g xa W (seqS m k) Dd σ H) : t { Dd with nx := tS g xa W k Dd } σ H := by
  obtain ⟨ι, S, e, f, e', S', hs, he, hm, hf⟩ := h
  unfold seqS at hm
  split at hm
  · rename_i e1 S1 q
    exact ht _ _ _ ⟨ι, S, e, .nx, e1, S1, hs, he, q, fun ι' H' p x s σ' r => ⟨ι', S1, e1, f, e', S', s, r, hm, hf.mono p x⟩⟩
  · rename_i q
    refine ht _ _ _ ⟨ι, S, e, f, e', S', hs, he, hm, ?_⟩
    cases f with
    | nx => exact absurd hm (q e' S')
    | rt d => exact fun ι' H' p x s => hf ι' H' p x s
    | bk => exact fun ι' H' p x s => hf ι' H' p x s
    | ct => exact fun ι' H' p x s => hf ι' H' p x s
    | ex c fs => exact fun ι' H' p x s => hf ι' H' p x s
theorem sm_cons {st : Stmt} {rest : List Stmt} {m k : MS} (h1 : PS X st (tS g xa W m)) (h2 : PSs X rest (tS g xa W k)) : PSs X (st :: rest) (tS g xa W (seqS m k)) :=
  (pss_cons h1 h2).viaM fun _ _ _ h => seq_step (t := tS g xa W m) (fun _ _ _ h => h) h
theorem sm_one {st : Stmt} {m : MS} (h1 : PS X st (tS g xa W m)) : PSs X [st] (tS g xa W m) := pss_one h1
def fS (f : Fl) : MS := fun e S => some (f, e, S)
theorem sm_pass : PS X (.Pass pos) (tS g xa W nxS) := ps_pass.viaM fun Dd σ H h => by
  obtain ⟨ι, S, e, f, e', S', hs, he, hm, hf⟩ := h
  cases hm
  exact hf.nx hs he
theorem sm_break : PS X (.Break pos) (tS g xa W (fS .bk)) := ps_break.viaM fun Dd σ H h => by
  obtain ⟨ι, S, e, f, e', S', hs, he, hm, hf⟩ := h
  cases hm
  exact hf ι H (Pre.refl _) (Ex.refl _) hs σ he
theorem sm_continue : PS X (.Continue pos) (tS g xa W (fS .ct)) := ps_continue.viaM fun Dd σ H h => by
  obtain ⟨ι, S, e, f, e', S', hs, he, hm, hf⟩ := h
  cases hm
  exact hf ι H (Pre.refl _) (Ex.refl _) hs σ he
def exprS (m : MM D) : MS := bindS m fun _ => nxS
theorem sm_expr {e : Expr} {m : MM D} (he : PE X e (tE g xa W m)) (hs : swapsWith e none pos.line X.env = pure false := by rfl) : PS X (.Expr e pos) (tS g xa W (exprS m)) := (ps_expr he hs).viaM fun Dd σ H h => by
  obtain ⟨ι, S, e, f, e', S', hs, he, hm, hf⟩ := h
  refine stepS hs he hm hf fun a S1 ι1 H1 v h1 p1 x1 s1 e1 r1 f1 => ?_
  cases h1
  exact f1.nx s1 e1
theorem sm_doc {x j pos'} : PS X (.Expr (.Constant (.str x) j pos) pos') (tS g xa W nxS) := ps_doc.viaM fun Dd σ H h => by
  obtain ⟨ι, S, e, f, e', S', hs, he, hm, hf⟩ := h
  cases hm
  exact hf.nx hs he
def retS (m : MM D) : MS := bindS m fun d => fS (.rt d)
theorem sm_ret {e : Expr} {m : MM D} (he : PE X e (tE g xa W m)) : PS X (.Return (some e) pos) (tS g xa W (retS m)) := (ps_ret he).viaM fun Dd σ H h => by
  obtain ⟨ι, S, e, f, e', S', hs, he, hm, hf⟩ := h
  refine stepS hs he hm hf fun a S1 ι1 H1 v h1 p1 x1 s1 e1 r1 f1 => ?_
  cases h1
  exact f1 ι1 H1 (Pre.refl _) (Ex.refl _) s1 v r1
theorem sm_retN : PS X (.Return none pos) (tS g xa W (fS (.rt .non))) := ps_retN.viaM fun Dd σ H h => by
  obtain ⟨ι, S, e, f, e', S', hs, he, hm, hf⟩ := h
  cases hm
  exact hf ι H (Pre.refl _) (Ex.refl _) hs .non .non
def ifS (t : MM Bool) (m k : MS) : MS := bindS t fun b => if b then m else k
theorem sm_if {c : Expr} {a b : List Stmt} {t : MM Bool} {m k : MS} (hc : PT X c (tT g xa W t)) (ha : PSs X a (tS g xa W m)) (hb : PSs X b (tS g xa W k)) : PS X (.If c a b pos) (tS g xa W (ifS t m k)) := (ps_if hc ha hb).viaM fun Dd σ H h => by
  obtain ⟨ι, S, e, f, e', S', hs, he, hm, hf⟩ := h
  refine stepS hs he hm hf fun a S1 ι1 H1 v h1 p1 x1 s1 e1 r1 f1 => ?_
  cases r1
  cases a with
  | true => exact ⟨ι1, S1, e, f, e', S', s1, e1, h1, f1⟩
  | false => exact ⟨ι1, S1, e, f, e', S', s1, e1, h1, f1⟩

/-! ### targets -/
abbrev Tg := D → So → Sl → Option Sl
abbrev Tgs := List D → So → Sl → Option Sl
def tGt (g : G) (xa : Xa) (t : Tg) : TG := fun v σ H Q => ∃ (ι : List Addr) (S : So) (e e' : Sl) (d : D), Sim g ι S H ∧ Er g xa ι H e σ ∧ R g ι H d v ∧ t d S e = some e' ∧ ∀ σ', Er g xa ι H e' σ' → Q σ' H
def tGts (g : G) (xa : Xa) (t : Tgs) : TGs := fun v σ H Q => ∃ (ι : List Addr) (S : So) (e e' : Sl) (d : List D), Sim g ι S H ∧ Er g xa ι H e σ ∧ Rs g ι H d v ∧ t d S e = some e' ∧ ∀ σ', Er g xa ι H e' σ' → Q σ' H
theorem _root_.L2.PG.viaM {e : Expr} {t t' : TG} (h : PG X e t) (i : ∀ v σ H Q, t' v σ H Q → t v σ H Q) : PG X e t' := ⟨fun pins s σ H v u Q I r q => h.run pins s σ H v u Q I r (i v σ H Q q)⟩
theorem _root_.L2.PGs.viaM {e : List Expr} {t t' : TGs} (h : PGs X e t) (i : ∀ v σ H Q, t' v σ H Q → t v σ H Q) : PGs X e t' := ⟨fun pins s σ H v u Q I r q => h.run pins s σ H v u Q I r (i v σ H Q q)⟩
def nmT (i : Nat) : Tg := fun d _ e => some (e.set i (.v d))
def nilT : Tgs := fun ds _ e => match ds with
  | [] => some e
  | _ => none
def consT (t : Tg) (u : Tgs) : Tgs := fun ds S e => match ds with
  | d :: r => (t d S e).bind (u r S)
  | _ => none
def tupT (n : Nat) (t : Tgs) : Tg := fun d S e => match seqOf d S with
  | some (_, ds) => if ds.length = n then t ds S e else none
  | none => none
theorem _root_.L2.PG.orM {e : Expr} {t t' : TG} (h : PG X e t) (h' : PG X e t') : PG X e (fun v σ H Q => t v σ H Q ∨ t' v σ H Q) := ⟨fun pins s σ H v u Q I r q => q.elim (h.run pins s σ H v u Q I r) (h'.run pins s σ H v u Q I r)⟩
theorem gm_name (i : Nat) {x : Str} (hN : X.N.Nodup) (hi : X.N[i]? = some x := by rfl) (hx : Loc X.env.scope x := by first | exact Or.inl rfl | exact Or.inr rfl) (hf : X.fn x = true ∨ X.env.scope.names.lookup x = some .local := by first | exact .inl rfl | exact .inr rfl) : PG X (.Name x pos) (tGt g xa (nmT i)) :=
  (pg_name (i := i) hN hi hx hf).viaM fun v σ H Q h => by
    obtain ⟨ι, S, e, e', d, hs, he, r, ht, q⟩ := h
    cases ht
    exact q _ (he.set r)
theorem gms_nil : PGs X [] (tGts g xa nilT) := pgs_nil.viaM fun v σ H Q h => by
  obtain ⟨ι, S, e, e', d, hs, he, r, ht, q⟩ := h
  cases d with
  | nil => cases ht; cases r; exact ⟨rfl, q _ he⟩
  | cons _ _ => cases ht
theorem gms_cons {e : Expr} {es : List Expr} {t : Tg} {u : Tgs} (h1 : PG X e (tGt g xa t)) (h2 : PGs X es (tGts g xa u))
    (hs : (assignEach (e :: es) X.env).map (·.2) = assign e X.env :: (assignEach es X.env).map (·.2) := by rfl) : PGs X (e :: es) (tGts g xa (consT t u)) := (pgs_cons h1 h2 hs).viaM fun v σ H Q h => by
  obtain ⟨ι, S, e, e', d, hs, he, r, ht, q⟩ := h
  cases d with
  | nil => cases ht
  | cons d ds =>
    cases r with
    | cons r1 r2 =>
      have ht' : (t d S e).bind (u ds S) = some e' := ht
      cases h3 : t d S e with
      | none => rw [h3] at ht'; cases ht'
      | some e1 =>
        rw [h3] at ht'
        exact ⟨_, _, rfl, ι, S, e, e1, d, hs, he, r1, h3, fun σ1 he1 => ⟨ι, S, e1, e', ds, hs, he1, r2, ht', q⟩⟩
theorem gm_tup {es : List Expr} {k n : Nat} {t : Tgs} (hc : X.calm = true) (h : PGs X es (tGts g xa t)) (hK : X.K = g.K := by rfl)
    (hn : (assignEach es X.env).length = n := by rfl) (hst : (assignEach es X.env).findIdx? (·.1) = none := by rfl) : PG X (.Tuple es k pos) (tGt g xa (tupT n t)) := ((pg_tup hc h hn hst).orM (pg_lst hc h hn hst)).viaM fun v σ H Q h => by
  obtain ⟨ι, S, e, e', d, hs, he, r, ht, q⟩ := h
  unfold tupT at ht
  split at ht
  · rename_i b ds hsq
    split at ht
    · rename_i hl
      obtain ⟨a, vs, rfl, h2, t1, l1⟩ := seqOf_R hsq hs r
      cases b with
      | true => exact .inl ⟨_, _, rfl, by rw [hK]; exact (t1 rfl).t, by rw [← Rs.length h2]; exact hl, ι, S, e, e', ds, hs, he, h2, ht, q⟩
      | false => exact .inr ⟨_, _, rfl, by rw [hK]; exact l1 rfl, by rw [← Rs.length h2]; exact hl, ι, S, e, e', ds, hs, he, h2, ht, q⟩
    · cases ht
  · cases ht
def asgS (m : MM D) (t : Tg) : MS := bindS m fun d e S => match t d S e with
  | some e' => some (.nx, e', S)
  | none => none
theorem asg_step {m : MM D} {t : Tg} {te : TE} {Dd : Ends} {σ : L2.St} {H : Hp} (hm : ∀ σ H Q, tE g xa W m σ H Q → te σ H Q) (h : tS g xa W (asgS m t) Dd σ H) : te σ H fun x H1 => tGt g xa t x σ H1 Dd.nx := by
  obtain ⟨ι, S, e, f, e', S', hs, he, hm', hf⟩ := h
  refine hm _ _ _ (stepS hs he hm' hf fun a S1 ι1 H1 v h1 p1 x1 s1 e1 r1 f1 => ?_)
  split at h1
  · rename_i e2 q
    cases h1
    exact ⟨ι1, _, e, e', a, s1, e1, r1, q, fun σ' r => f1 ι1 H1 (Pre.refl _) (Ex.refl _) s1 σ' r⟩
  · cases h1
theorem sm_asg {tg e : Expr} {m : MM D} {t : Tg} (he : PE X e (tE g xa W m)) (hg : PG X tg (tGt g xa t)) (hs : swapsWithSole [tg] e pos.line X.env = pure false := by rfl) (hw : swappedStores [tg] e X.env = pure none := by rfl)
    (h1 : (assignEach [tg] X.env).map (·.2) = [assign tg X.env] := by rfl) : PS X (.Assign [tg] e pos) (tS g xa W (asgS m t)) :=
  (ps_asg he hg hs hw h1).viaM fun _ _ _ h => asg_step (fun _ _ _ h => h) h
theorem sm_set (i : Nat) {x : Str} {e : Expr} {m : MM D} {pos' : Pos} (hN : X.N.Nodup) (he : PE X e (tE g xa W m)) (hi : X.N[i]? = some x := by rfl) (hx : Loc X.env.scope x := by first | exact Or.inl rfl | exact Or.inr rfl) (hs : swapsWith e (some (.Name x pos')) pos.line X.env = pure false := by rfl) (hf : X.fn x = true ∨ X.env.scope.names.lookup x = some .local := by first | exact .inl rfl | exact .inr rfl) :
    PS X (.Assign [.Name x pos'] e pos) (tS g xa W (asgS m (nmT i))) := (ps_set (i := i) hN hi hx he hs hf).viaM fun Dd σ H h => by
  obtain ⟨ι, S, e, f, e', S', hs, he, hm', hf⟩ := h
  refine stepS hs he hm' hf fun a S1 ι1 H1 v h1 p1 x1 s1 e1 r1 f1 => ?_
  cases h1
  exact f1 ι1 H1 (Pre.refl _) (Ex.refl _) s1 _ (e1.set r1)
/-- a, b = x, y -/
def parS (i j : Nat) (m : MM (List D)) : MS := bindS m fun ds e S => match ds with
  | [a, b] => some (.nx, (e.set i (.v a)).set j (.v b), S)
  | _ => none
theorem sm_par (i j : Nat) {x y : Str} {a b : Expr} {m : MM (List D)} {px py pt : Pos} {kt k2 : Nat} {pt2 : Pos} (hc : X.calm = true) (hN : X.N.Nodup) (ha : PA X [a, b] (tA g xa W m)) (hi : X.N[i]? = some x := by rfl) (hj : X.N[j]? = some y := by rfl) (hij : i ≠ j := by decide)
    (hx : X.env.scope.names.lookup x = some .local := by rfl) (hy : X.env.scope.names.lookup y = some .local := by rfl)
    (hw : swappedStores [.Tuple [.Name x px, .Name y py] kt pt] (.Tuple [a, b] k2 pt2) X.env = pure (some [x, y]) := by rfl)
    (hs : swapsWithSole [.Tuple [.Name x px, .Name y py] kt pt] (.Tuple [a, b] k2 pt2) pos.line X.env = pure false := by rfl) :
    PS X (.Assign [.Tuple [.Name x px, .Name y py] kt pt] (.Tuple [a, b] k2 pt2) pos) (tS g xa W (parS i j m)) := (ps_par hc hN hi hj hij hx hy ha hw hs).viaM fun Dd σ H h => by
  obtain ⟨ι, S, e, f, e', S', hs, he, hm', hf⟩ := h
  refine stepS hs he hm' hf fun ds S1 ι1 H1 v h1 p1 x1 s1 e1 r1 f1 => ?_
  split at h1
  · cases h1
    cases r1 with
    | cons q1 r =>
      cases r with
      | cons q2 r =>
        cases r
        exact ⟨_, _, rfl, f1 ι1 H1 (Pre.refl _) (Ex.refl _) s1 _ ((e1.set q1).set q2)⟩
  · cases h1

end
end DD

set_option Elab.async false
set_option linter.all false
set_option maxRecDepth 100000
namespace DD
open PySem PySem.Spec PyProof.Rows L2

/-- what is walked: at most n turns; what stands at turn i (none: it can't be told; some none: the end) -/
structure Itm where
  n : Nat
  get : Nat → So → Option (Option D)
def Wk (g : G) : Rel Itm It := fun ι H it J => ∀ (i : Nat) (ι1 : List Addr) (H1 : Hp) (S1 : So), Pre ι ι1 → Ex H H1 → Sim g ι1 S1 H1 →
  (it.get i S1 = some none → J.stop i H1) ∧ ∀ d, it.get i S1 = some (some d) → J.go i H1 ∧ ∀ v H2, J.yld i H1 v H2 → Ex H1 H2 ∧ Sim g ι1 S1 H2 ∧ R g ι1 H2 d v
abbrev tI (g : G) (xa : Xa) (W : WX) (m : MM Itm) : TI := fun σ H R => tG g xa W (Wk g) m σ H R
def signs (z : Str) : List D := z.cps.toList.map fun c => D.str ⟨#[c]⟩
def itFix (xs : List D) : Itm := ⟨xs.length, fun i _ => some xs[i]?⟩
def itLst (n k : Nat) : Itm := ⟨k, fun i S => match S[n]? with
  | some (.lst ys) => some ys[i]?
  | _ => none⟩
def seqI (d : D) : MM Itm := fun _ S => match d with
  | .tup xs => some (.ok (itFix xs), S)
  | .rol xs => some (.ok (itFix xs), S)
  | .str z => some (.ok (itFix (signs z)), S)
  | .ref n => match S[n]? with
    | some (.lst ys) => some (.ok (itLst n ys.length), S)
    | _ => none
  | _ => none
def mSeq (m : MM D) : MM Itm := bindM m seqI

section
variable {X : Cx} {g : G} {xa : Xa} {W : WX} {pos : Pos} {ι : List Addr} {H : Hp}
theorem wk_list {a : Addr} {xs : List D} {vs : List V} (r : Rs g ι H xs vs) (q : SqF g.K H a vs) : Wk g ι H (itFix xs) (Itl g.K a) := fun i ι1 H1 S1 p x s => by
  have q1 := sqF_ex x q
  have r1 := Rs.mono p x _ _ r
  refine ⟨fun e => ⟨vs, q1.seq, ?_⟩, fun d e => ?_⟩
  · have e' : xs[i]? = none := Option.some.inj e
    rw [← Rs.length r]; exact List.getElem?_eq_none_iff.mp e'
  · have e' : xs[i]? = some d := Option.some.inj e
    obtain ⟨v, h1, h2⟩ := Rs.get r1 e'
    refine ⟨⟨vs, v, q1.seq, h1⟩, fun u H2 y => ?_⟩
    obtain ⟨rfl, y⟩ := y
    have z := y vs q1.seq
    rw [h1] at z; cases z
    exact ⟨Ex.refl _, s, h2⟩
theorem wk_tup {a : Addr} {xs : List D} {vs : List V} (r : Rs g ι H xs vs) (q : SqT g.K H a vs) : Wk g ι H (itFix xs) (Itt g.K a) := fun i ι1 H1 S1 p x s => by
  have q1 := sqT_ex x q
  have r1 := Rs.mono p x _ _ r
  refine ⟨fun e => ⟨vs, q1, ?_⟩, fun d e => ?_⟩
  · have e' : xs[i]? = none := Option.some.inj e
    rw [← Rs.length r]; exact List.getElem?_eq_none_iff.mp e'
  · have e' : xs[i]? = some d := Option.some.inj e
    obtain ⟨v, h1, h2⟩ := Rs.get r1 e'
    refine ⟨⟨vs, v, q1, h1⟩, fun u H2 y => ?_⟩
    obtain ⟨rfl, y⟩ := y
    have z := y vs q1
    rw [h1] at z; cases z
    exact ⟨Ex.refl _, s, h2⟩
theorem wk_ref {a : Addr} {n k : Nat} (q : ι[n]? = some a) : Wk g ι H (itLst n k) (Itl g.K a) := fun i ι1 H1 S1 p x s => by
  have q1 := p _ _ q
  refine ⟨fun e => ?_, fun d e => ?_⟩
  · unfold itLst at e
    dsimp only at e
    split at e
    · rename_i ys h
      obtain ⟨vs, h1, h2⟩ := lst_here s q1 h
      have e' : ys[i]? = none := Option.some.inj e
      exact ⟨vs, SqL.of h1, by rw [← Rs.length h2]; exact List.getElem?_eq_none_iff.mp e'⟩
    · cases e
  · unfold itLst at e
    dsimp only at e
    split at e
    · rename_i ys h
      obtain ⟨vs, h1, h2⟩ := lst_here s q1 h
      have e' : ys[i]? = some d := Option.some.inj e
      obtain ⟨v, h3, h4⟩ := Rs.get h2 e'
      refine ⟨⟨vs, v, SqL.of h1, h3⟩, fun u H2 y => ?_⟩
      obtain ⟨rfl, y⟩ := y
      have z := y vs (SqL.of h1)
      rw [h3] at z; cases z
      exact ⟨Ex.refl _, s, h4⟩
    · cases e
theorem wk_str {z : Str} : Wk g ι H (itFix (signs z)) (Its z) := fun i ι1 H1 S1 p x s => by
  have hl : (signs z).length = z.cps.size := by simp [signs]
  refine ⟨fun e => ?_, fun d e => ?_⟩
  · have e' : (signs z)[i]? = none := Option.some.inj e
    have := List.getElem?_eq_none_iff.mp e'
    show z.cps.size ≤ i
    omega
  · have e' : (signs z)[i]? = some d := Option.some.inj e
    refine ⟨?_, fun u H2 y => ?_⟩
    · have := (List.getElem?_eq_some_iff.mp e').1
      show i < z.cps.size
      omega
    · obtain ⟨rfl, c, e1, rfl⟩ := y
      have : (signs z)[i]? = some (.str ⟨#[c]⟩) := by simp [signs, e1]
      rw [this] at e'; cases e'
      exact ⟨Ex.refl _, s, .str _⟩
theorem im_seq {tg e : Expr} {m : MM D} (he : PE X e (tE g xa W m)) (hK : X.K = g.K := by rfl) : PI X tg e (tI g xa W (mSeq m)) := by
  refine (((pi_list he).orM (pi_tup he)).orM (pi_str he)).viaM fun σ H Rk h => ?_
  obtain ⟨ι, S, ev, r, S', hs, hev, hm, hf⟩ := h
  have key : ∀ {P : V → Hp → Prop}, (∀ d S1 ι1 H1 v, m ev S = some (.ok d, S1) → seqI d ev S1 = some (r, S') → Pre ι ι1 → Ex H H1 → Sim g ι1 S1 H1 → R g ι1 H1 d v → FinG g W (Wk g) σ Rk ι1 H1 r S' → P v H1) → tE g xa W m σ H P := fun hk => by
    rcases bindM_some hm with ⟨d, S1, h1, h2⟩ | ⟨c, fs, h1, rfl⟩
    · exact ⟨ι, S, ev, .ok d, S1, hs, hev, h1, fun ι1 H1 v p x s rv => hk d S1 ι1 H1 v h1 h2 p x s rv (hf.mono p x)⟩
    · exact ⟨ι, S, ev, .ex c fs, S', hs, hev, h1, hf⟩
  rw [hK]
  by_cases hz : ∃ z S1, m ev S = some (.ok (.str z), S1)
  · refine .inr (key fun d S1 ι1 H1 v h1 h2 p x s rv f1 => ?_)
    obtain ⟨z, S2, h3⟩ := hz
    rw [h3] at h1
    cases h1
    cases h2
    cases rv
    exact ⟨z, rfl, f1 ι1 H1 _ (Pre.refl _) (Ex.refl _) s wk_str⟩
  · by_cases ht : ∃ xs S1, m ev S = some (.ok (.tup xs), S1)
    · refine .inl (.inr (key fun d S1 ι1 H1 v h1 h2 p x s rv f1 => ?_))
      obtain ⟨z, S2, h3⟩ := ht
      rw [h3] at h1
      cases h1
      cases h2
      cases rv with
      | tup q1 q2 => exact ⟨_, rfl, ⟨_, q1.t⟩, f1 ι1 H1 _ (Pre.refl _) (Ex.refl _) s (wk_tup q2 q1.t)⟩
    · refine .inl (.inl (key fun d S1 ι1 H1 v h1 h2 p x s rv f1 => ?_))
      cases d with
      | str z => exact absurd ⟨z, S1, h1⟩ hz
      | tup xs => exact absurd ⟨xs, S1, h1⟩ ht
      | rol xs =>
        cases h2
        cases rv with
        | rol q1 q2 => exact ⟨_, rfl, ⟨_, q1.seq⟩, f1 ι1 H1 _ (Pre.refl _) (Ex.refl _) s (wk_list q2 q1)⟩
      | ref n =>
        unfold seqI at h2
        dsimp only at h2
        split at h2
        · rename_i ys q
          cases h2
          cases rv with
          | ref q1 =>
            obtain ⟨vs, h4, h5⟩ := lst_here s q1 q
            exact ⟨_, rfl, ⟨vs, SqL.of h4⟩, f1 ι1 H1 _ (Pre.refl _) (Ex.refl _) s (wk_ref q1)⟩
        · cases h2
      | _ => cases h2
def itRng (lo : Int) (n : Nat) : Itm := ⟨n, fun i _ => some (if i < n then some (D.int (lo + (i : Int))) else none)⟩
theorem wk_rng {lo : Int} {n : Nat} : Wk g ι H (itRng lo n) (Itr lo n) := fun i ι1 H1 S1 p x s => by
  refine ⟨fun e => ?_, fun d e => ?_⟩
  · have e' : (if i < n then some (D.int (lo + (i : Int))) else none) = none := Option.some.inj e
    show n ≤ i
    by_cases h : i < n
    · rw [if_pos h] at e'; cases e'
    · omega
  · have e' : (if i < n then some (D.int (lo + (i : Int))) else none) = some d := Option.some.inj e
    by_cases h : i < n
    · rw [if_pos h] at e'
      cases e'
      refine ⟨h, fun u H2 y => ?_⟩
      obtain ⟨rfl, rfl⟩ := y
      exact ⟨Ex.refl _, s, .int _⟩
    · rw [if_neg h] at e'; cases e'
def rng1 (ds : List D) : MM Itm := fun _ S => match ds with
  | [.int j] => if -(2 ^ 62) ≤ j ∧ j < 2 ^ 62 then some (.ok (itRng 0 j.toNat), S) else none
  | _ => none
def rng2 (ds : List D) : MM Itm := fun _ S => match ds with
  | [.int i, .int j] => if (-(2 ^ 62) ≤ i ∧ i < 2 ^ 62) ∧ -(2 ^ 62) ≤ j ∧ j < 2 ^ 62 then some (.ok (itRng i (j - i).toNat), S) else none
  | _ => none
def mRng1 (m : MM (List D)) : MM Itm := bindM m rng1
def mRng2 (m : MM (List D)) : MM Itm := bindM m rng2
theorem im_range1 {tg a : Expr} {m : MM (List D)} {p : Pos} (hm : X.mg "range" = none) (ha : PA X [a] (tA g xa W m)) (hg : Gl X "range" := by rfl) (hs : starEach [a] X.env = [(false, eval a X.env)] := by rfl) : PI X tg (.Call (.Name "range" p) [a] [] pos) (tI g xa W (mRng1 m)) :=
  (pi_range1 hg hm ha hs).viaM fun σ H Rk h => by
    obtain ⟨ι, S, ev, r, S', hs, hev, hm, hf⟩ := h
    refine stepG hs hev hm hf fun ds S1 ι1 H1 vs h1 p1 x1 s1 e1 r1 f1 => ?_
    unfold rng1 at h1
    split at h1
    · rename_i j
      split at h1
      · rename_i hb
        cases h1
        cases r1 with
        | cons q1 q2 =>
          cases q2
          cases q1
          exact ⟨j, rfl, hb.1, hb.2, f1 ι1 H1 _ (Pre.refl _) (Ex.refl _) s1 wk_rng⟩
      · cases h1
    · cases h1
theorem im_range2 {tg a b : Expr} {m : MM (List D)} {p : Pos} (hm : X.mg "range" = none) (ha : PA X [a, b] (tA g xa W m)) (hg : Gl X "range" := by rfl) (hs : starEach [a, b] X.env = [(false, eval a X.env), (false, eval b X.env)] := by rfl) (hs2 : starEach [b] X.env = [(false, eval b X.env)] := by rfl) : PI X tg (.Call (.Name "range" p) [a, b] [] pos) (tI g xa W (mRng2 m)) :=
  (pi_range2 hg hm ha hs hs2).viaM fun σ H Rk h => by
    obtain ⟨ι, S, ev, r, S', hs, hev, hm, hf⟩ := h
    refine stepG hs hev hm hf fun ds S1 ι1 H1 vs h1 p1 x1 s1 e1 r1 f1 => ?_
    unfold rng2 at h1
    split at h1
    · rename_i i j
      split at h1
      · rename_i hb
        cases h1
        cases r1 with
        | cons q1 q2 =>
          cases q2 with
          | cons q2 q3 =>
            cases q3
            cases q1
            cases q2
            exact ⟨i, j, rfl, ⟨hb.1.1, hb.1.2, hb.2.1, hb.2.2⟩, f1 ι1 H1 _ (Pre.refl _) (Ex.refl _) s1 wk_rng⟩
      · cases h1
    · cases h1

/-! ### zip -/
def pairAt (a b : D) : Nat → So → Option (Option D) := fun i S => match seqOf a S, seqOf b S with
  | some (k, xs), some (k', ys) => if k = k' then some (match xs[i]?, ys[i]? with
    | some x, some y => some (.tup [x, y])
    | _, _ => none) else none
  | _, _ => none
def zipI (ds : List D) : MM Itm := fun _ S => match ds with
  | [a, b] => match seqOf a S, seqOf b S with
    | some (k, xs), some (k', ys) => if k = k' then some (.ok ⟨min xs.length ys.length, pairAt a b⟩, S) else none
    | _, _ => none
  | _ => none
def mZip (m : MM (List D)) : MM Itm := bindM m zipI
theorem wk_zip {a b : D} {p q : Addr} {k : Bool} (ra : R g ι H a (.ref p)) (rb : R g ι H b (.ref q)) (hk : ∀ ι1 H1 S1 k1 k2 xs ys, Pre ι ι1 → Ex H H1 → Sim g ι1 S1 H1 → seqOf a S1 = some (k1, xs) → seqOf b S1 = some (k2, ys) → k1 = k2 → k1 = k) :
    Wk g ι H ⟨0, pairAt a b⟩ (if k = true then RZ.ItzT g.K p q else Itz g.K p q) := fun i ι1 H1 S1 pr x s => by
  have ra1 := R.mono pr x _ _ ra
  have rb1 := R.mono pr x _ _ rb
  have main : ∀ z, pairAt a b i S1 = some z → ∃ xs ys vs us, z = (match xs[i]?, ys[i]? with | some x, some y => some (D.tup [x, y]) | _, _ => none) ∧ Rs g ι1 H1 xs vs ∧ Rs g ι1 H1 ys us ∧
      ((k = true ∧ SqT g.K H1 p vs ∧ SqT g.K H1 q us) ∨ (k = false ∧ SqL g.K H1 p vs ∧ SqL g.K H1 q us)) := fun z hz => by
    unfold pairAt at hz
    split at hz
    · rename_i k1 xs k2 ys e1 e2
      split at hz
      · rename_i ek
        have kk := hk ι1 H1 S1 k1 k2 xs ys pr x s e1 e2 ek
        obtain ⟨a1, vs, z1, r1, t1, l1⟩ := seqOf_R e1 s ra1
        obtain ⟨b1, us, z2, r2, t2, l2⟩ := seqOf_R e2 s rb1
        cases z1; cases z2
        refine ⟨xs, ys, vs, us, (Option.some.inj hz).symm, r1, r2, ?_⟩
        subst ek
        cases k1 with
        | true => exact .inl ⟨kk.symm, (t1 rfl).t, (t2 rfl).t⟩
        | false => exact .inr ⟨kk.symm, l1 rfl, l2 rfl⟩
      · cases hz
    · cases hz
  refine ⟨fun e => ?_, fun d e => ?_⟩
  · obtain ⟨xs, ys, vs, us, hz, r1, r2, hq⟩ := main _ e
    have hl : vs.length ≤ i ∨ us.length ≤ i := by
      cases e1 : xs[i]? with
      | none => exact .inl (by rw [← Rs.length r1]; exact List.getElem?_eq_none_iff.mp e1)
      | some a' => cases e2 : ys[i]? with
        | none => exact .inr (by rw [← Rs.length r2]; exact List.getElem?_eq_none_iff.mp e2)
        | some b' => rw [e1, e2] at hz; cases hz
    rcases hq with ⟨rfl, h1, h2⟩ | ⟨rfl, h1, h2⟩
    · exact ⟨vs, us, h1, h2, hl⟩
    · exact ⟨vs, us, h1, h2, hl⟩
  · obtain ⟨xs, ys, vs, us, hz, r1, r2, hq⟩ := main _ e
    cases e1 : xs[i]? with
    | none => rw [e1] at hz; cases hz
    | some a' => cases e2 : ys[i]? with
      | none => rw [e1, e2] at hz; cases hz
      | some b' =>
        rw [e1, e2] at hz
        cases hz
        obtain ⟨v1, g1, q1⟩ := Rs.get r1 e1
        obtain ⟨v2, g2, q2⟩ := Rs.get r2 e2
        have fin : ∀ T, H1 T = none → Ex H1 (upd H1 T (.tup [v1, v2])) ∧ Sim g ι1 S1 (upd H1 T (.tup [v1, v2])) ∧ R g ι1 (upd H1 T (.tup [v1, v2])) (.tup [a', b']) (.ref T) := fun T nT => by
          have x2 : Ex H1 (upd H1 T (.tup [v1, v2])) := Ex.new nT
          exact ⟨x2, s.tup nT, .tup (.inl upd_same) (.cons (R.mono (Pre.refl _) x2 _ _ q1) (.cons (R.mono (Pre.refl _) x2 _ _ q2) .nil))⟩
        rcases hq with ⟨rfl, h1, h2⟩ | ⟨rfl, h1, h2⟩
        · refine ⟨⟨vs, us, v1, v2, h1, h2, g1, g2⟩, fun v H2 y => ?_⟩
          obtain ⟨T, x', y', rfl, nT, rfl, f1, f2⟩ := y
          have z1 := f1 vs h1
          have z2 := f2 us h2
          rw [g1] at z1; rw [g2] at z2; cases z1; cases z2
          exact fin T nT
        · refine ⟨⟨vs, us, v1, v2, h1, h2, g1, g2⟩, fun v H2 y => ?_⟩
          obtain ⟨T, x', y', rfl, nT, rfl, f1, f2⟩ := y
          have z1 := f1 vs h1
          have z2 := f2 us h2
          rw [g1] at z1; rw [g2] at z2; cases z1; cases z2
          exact fin T nT
end
end DD

set_option Elab.async false
set_option linter.all false
set_option maxRecDepth 100000
namespace DD
open PySem PySem.Spec PyProof.Rows L2
section
variable {X : Cx} {g : G} {xa : Xa} {W : WX} {pos : Pos} {ι : List Addr} {H : Hp}
def isTup : D → Bool
  | .tup _ => true
  | _ => false
theorem seqOf_kind {d : D} {S : So} {k : Bool} {xs : List D} (h : seqOf d S = some (k, xs)) : k = isTup d := by
  cases d with
  | tup _ => cases h; rfl
  | rol _ => cases h; rfl
  | ref n =>
    unfold seqOf at h
    dsimp only at h
    split at h
    · cases h; rfl
    · cases h
  | _ => cases h
theorem im_zip {a b : Expr} {m : MM (List D)} {p tpos : Pos} {elts : List Expr} {kk : Nat} (hm : X.mg "zip" = none) (ha : PA X [a, b] (tA g xa W m)) (hg : Gl X "zip" := by rfl) (hK : X.K = g.K := by rfl)
    (hs : starEach [a, b] X.env = (false, eval a X.env) :: starEach [b] X.env := by rfl) (hpl : (backTo pos (starEach [b] X.env)).any (·.1) = false := by rfl) :
    PI X (.Tuple elts kk tpos) (.Call (.Name "zip" p) [a, b] [] pos) (tI g xa W (mZip m)) :=
  (RZ.pi_zipA hg hm ha hs hpl).viaM fun σ H Rk h => by
    obtain ⟨ι, S, ev, r, S', hs, hev, hm, hf⟩ := h
    refine stepG hs hev hm hf fun ds S1 ι1 H1 vs h1 p1 x1 s1 e1 r1 f1 => ?_
    unfold zipI at h1
    split at h1
    · rename_i a' b'
      split at h1
      · rename_i k xs k' ys q1 q2
        split at h1
        · rename_i ek
          cases h1
          subst ek
          cases r1 with
          | cons ra r =>
            cases r with
            | cons rb r =>
              cases r
              obtain ⟨pa, us, z1, rs1, t1, l1⟩ := seqOf_R q1 s1 ra
              obtain ⟨pb, ws, z2, rs2, t2, l2⟩ := seqOf_R q2 s1 rb
              subst z1 z2
              have wk := wk_zip (k := k) ra rb fun ι2 H2 S2 k1 k2 xs2 ys2 _ _ _ e1 e2 ek => by rw [seqOf_kind e1, seqOf_kind q1]
              have wk' : Wk g ι1 H1 ⟨min xs.length ys.length, pairAt a' b'⟩ (if k = true then RZ.ItzT g.K pa pb else Itz g.K pa pb) := wk
              have fin := f1 ι1 H1 _ (Pre.refl _) (Ex.refl _) s1 wk'
              rw [hK]
              cases k with
              | true => exact ⟨pa, pb, us, ws, rfl, .inr ⟨(t1 rfl).t, (t2 rfl).t, fin⟩⟩
              | false => exact ⟨pa, pb, us, ws, rfl, .inl ⟨l1 rfl, l2 rfl, fin⟩⟩
        · cases h1
      · cases h1
    · cases h1

/-! ### for -/
def loopI (get : Nat → So → Option (Option D)) (t : Tg) (b : MS) : Nat → Nat → MS
  | 0, i, e, S => match get i S with
    | some none => some (.nx, e, S)
    | _ => none
  | k + 1, i, e, S => match get i S with
    | some none => some (.nx, e, S)
    | some (some x) => match t x S e with
      | none => none
      | some e1 => match b e1 S with
        | some (.nx, e2, S2) => loopI get t b k (i + 1) e2 S2
        | some (.ct, e2, S2) => loopI get t b k (i + 1) e2 S2
        | some (.bk, e2, S2) => some (.nx, e2, S2)
        | o => o
    | none => none
def forS (m : MM Itm) (t : Tg) (b : MS) : MS := bindS m fun it => loopI it.get t b it.n 0
theorem turn_end {b : MS} {next : MS} {Dd : Ends} {ι : List Addr} {S : So} {H : Hp} {e1 e' : Sl} {f : Fl} {S' : So} {σ : L2.St} {Nx : L2.St → Hp → Prop}
    (hs : Sim g ι S H) (he : Er g xa ι H e1 σ)
    (hm : (match b e1 S with
      | some (.nx, e2, S2) => next e2 S2
      | some (.ct, e2, S2) => next e2 S2
      | some (.bk, e2, S2) => some (.nx, e2, S2)
      | o => o) = some (f, e', S')) (hf : FinS g xa W Dd ι H f e' S')
    (hn : ∀ ι2 H2 e2 S2 σ2, Pre ι ι2 → Ex H H2 → Sim g ι2 S2 H2 → Er g xa ι2 H2 e2 σ2 → next e2 S2 = some (f, e', S') → FinS g xa W Dd ι2 H2 f e' S' → Nx σ2 H2) :
    tS g xa W b { Dd with nx := Nx, ct := Nx, bk := Dd.nx } σ H := by
  split at hm
  · rename_i e2 S2 q
    exact ⟨ι, S, e1, _, e2, S2, hs, he, q, fun ι' H' p x s σ' r => hn ι' H' e2 S2 σ' p x s r hm (hf.mono p x)⟩
  · rename_i e2 S2 q
    exact ⟨ι, S, e1, _, e2, S2, hs, he, q, fun ι' H' p x s σ' r => hn ι' H' e2 S2 σ' p x s r hm (hf.mono p x)⟩
  · rename_i q
    cases hm
    exact ⟨ι, S, e1, _, _, _, hs, he, q, fun ι' H' p x s σ' r => hf ι' H' p x s σ' r⟩
  · rename_i o q1 q2 q3
    refine ⟨ι, S, e1, f, e', S', hs, he, hm, ?_⟩
    cases f with
    | nx => exact absurd hm (q1 _ _)
    | ct => exact absurd hm (q2 _ _)
    | bk => exact absurd hm (q3 _ _)
    | rt d => exact fun ι' H' p x s => hf ι' H' p x s
    | ex c fs => exact fun ι' H' p x s => hf ι' H' p x s
theorem sm_for {tg iter : Expr} {body : List Stmt} {m : MM Itm} {t : Tg} {b : MS} (hp : PassesOwn (model X.prog X.w) X.A X.env X.xe) (hc : X.calm = true) (hi : PI X tg iter (tI g xa W m)) (hg : PG X tg (tGt g xa t)) (hb : PSs X body (tS g xa W b))
    (hs : ∀ x, foldedSetIterable iter X.env x = pure x := by intro _; rfl) : PS X (.For tg iter body [] pos) (tS g xa W (forS m t b)) := (ps_for hp hc hi hg hb hs).viaM fun Dd σ H h => by
  obtain ⟨ι, S, e, f, e', S', hs, he, hm, hf⟩ := h
  refine stepS hs he hm hf fun it S1 ι1 H1 J h1 p1 x1 s1 e1 wk f1 => ?_
  refine ⟨fun i m σ2 H2 => ∃ ι2 S2 e2, Pre ι1 ι2 ∧ Ex H1 H2 ∧ Sim g ι2 S2 H2 ∧ Er g xa ι2 H2 e2 σ2 ∧ loopI it.get t b m i e2 S2 = some (f, e', S'), ⟨it.n, ι1, S1, e, Pre.refl _, Ex.refl _, s1, e1, h1⟩, ?_⟩
  rintro i m σ2 H2 ⟨ι2, S2, e2, p2, x2, s2, r2, q⟩
  have w := wk i ι2 H2 S2 p2 x2 s2
  have stop : it.get i S2 = some none → (J.stop i H2 ∧ Dd.nx σ2 H2) := fun z => by
    refine ⟨w.1 z, ?_⟩
    have q' : some (Fl.nx, e2, S2) = some (f, e', S') := by
      cases m with
      | zero => unfold loopI at q; rw [z] at q; exact q
      | succ k => unfold loopI at q; rw [z] at q; exact q
    cases q'
    exact (f1.mono p2 x2).nx s2 r2
  cases hget : it.get i S2 with
  | none =>
    cases m with
    | zero => unfold loopI at q; rw [hget] at q; cases q
    | succ k => unfold loopI at q; rw [hget] at q; cases q
  | some o => cases o with
    | none => exact .inl (stop hget)
    | some d =>
      cases m with
      | zero => unfold loopI at q; rw [hget] at q; cases q
      | succ k =>
        unfold loopI at q
        rw [hget] at q
        dsimp only at q
        obtain ⟨w1, w2⟩ := w.2 d hget
        refine .inr ⟨w1, fun σ3 H3 => ∃ ι3 S3 e3, Pre ι1 ι3 ∧ Ex H1 H3 ∧ Sim g ι3 S3 H3 ∧ Er g xa ι3 H3 e3 σ3 ∧ loopI it.get t b k (i + 1) e3 S3 = some (f, e', S'), fun σ3 H3 n3 => ⟨k, Nat.lt_succ_self k, n3⟩, fun v H3 y => ?_⟩
        obtain ⟨x3, s3, r3⟩ := w2 v H3 y
        split at q
        · cases q
        · rename_i e3 ht
          refine ⟨ι2, S2, e2, e3, d, s3, r2.mono (Pre.refl _) x3, r3, ht, fun σ4 r4 => ?_⟩
          refine turn_end (next := loopI it.get t b k (i + 1)) s3 r4 q (f1.mono p2 (x2.trans x3)) ?_
          intro ι5 H5 e5 S5 σ5 p5 x5 s5 r5 q5 _
          exact ⟨ι5, S5, e5, p2.trans p5, (x2.trans x3).trans x5, s5, r5, q5⟩

/-! ### comprehensions -/
abbrev WF : WX := fun _ _ _ _ => False
def tGc (g : G) (xa : Xa) (own : List Nat) (t : Tg) : TG := fun v σ H Q => ∃ (ι : List Addr) (S : So) (e e' : Sl) (d : D), Sim g ι S H ∧ Er g xa ι H e σ ∧ R g ι H d v ∧ t d S e = some e' ∧ ∀ σ', Er g xa ι H e' σ' → wipe σ' own = wipe σ own → Q σ' H
def tGcs (g : G) (xa : Xa) (own : List Nat) (t : Tgs) : TGs := fun v σ H Q => ∃ (ι : List Addr) (S : So) (e e' : Sl) (d : List D), Sim g ι S H ∧ Er g xa ι H e σ ∧ Rs g ι H d v ∧ t d S e = some e' ∧ ∀ σ', Er g xa ι H e' σ' → wipe σ' own = wipe σ own → Q σ' H
theorem wipe_set {σ : L2.St} {i : Nat} {z : Option V} : ∀ {own : List Nat}, i ∈ own → wipe (σ.set i z) own = wipe σ own := by
  have comm : ∀ (own : List Nat), wipe (σ.set i z) own = (wipe σ own).set i z ∨ wipe (σ.set i z) own = wipe σ own := by
    intro own
    induction own with
    | nil => exact .inl rfl
    | cons v vs ih =>
      unfold wipe
      rcases ih with h | h
      · by_cases hv : v = i
        · subst hv
          rw [h]
          exact .inr (by rw [List.set_set])
        · rw [h]
          exact .inl (by rw [List.set_comm _ _ hv])
      · exact .inr (by rw [h])
  intro own
  induction own with
  | nil => intro h; cases h
  | cons v vs ih =>
    intro h
    unfold wipe
    rcases List.mem_cons.mp h with e | e
    · subst e
      rcases comm vs with q | q
      · rw [q, List.set_set]
      · rw [q]
    · rw [ih e]
theorem gc_name (i : Nat) {own : List Nat} {x : Str} (hN : X.N.Nodup) (hi : X.N[i]? = some x := by rfl) (ho : i ∈ own := by decide) (hx : Loc X.env.scope x := by first | exact Or.inl rfl | exact Or.inr rfl) (hf : X.fn x = true ∨ X.env.scope.names.lookup x = some .local := by first | exact .inr rfl | exact .inl rfl) : PG X (.Name x pos) (tGc g xa own (nmT i)) :=
  (pg_name (i := i) hN hi hx hf).viaM fun v σ H Q h => by
    obtain ⟨ι, S, e, e', d, hs, he, r, ht, q⟩ := h
    cases ht
    exact q _ (he.set r) (wipe_set ho)
theorem gcs_nil {own : List Nat} : PGs X [] (tGcs g xa own nilT) := pgs_nil.viaM fun v σ H Q h => by
  obtain ⟨ι, S, e, e', d, hs, he, r, ht, q⟩ := h
  cases d with
  | nil => cases ht; cases r; exact ⟨rfl, q _ he rfl⟩
  | cons _ _ => cases ht
theorem gcs_cons {own : List Nat} {e : Expr} {es : List Expr} {t : Tg} {u : Tgs} (h1 : PG X e (tGc g xa own t)) (h2 : PGs X es (tGcs g xa own u))
    (hs : (assignEach (e :: es) X.env).map (·.2) = assign e X.env :: (assignEach es X.env).map (·.2) := by rfl) : PGs X (e :: es) (tGcs g xa own (consT t u)) := (pgs_cons h1 h2 hs).viaM fun v σ H Q h => by
  obtain ⟨ι, S, e, e', d, hs, he, r, ht, q⟩ := h
  cases d with
  | nil => cases ht
  | cons d ds =>
    cases r with
    | cons r1 r2 =>
      have ht' : (t d S e).bind (u ds S) = some e' := ht
      cases h3 : t d S e with
      | none => rw [h3] at ht'; cases ht'
      | some e1 =>
        rw [h3] at ht'
        exact ⟨_, _, rfl, ι, S, e, e1, d, hs, he, r1, h3, fun σ1 he1 w1 => ⟨ι, S, e1, e', ds, hs, he1, r2, ht', fun σ2 r w2 => q σ2 r (w2.trans w1)⟩⟩
theorem gc_tup {own : List Nat} {es : List Expr} {k n : Nat} {t : Tgs} (hc : X.calm = true) (h : PGs X es (tGcs g xa own t)) (hK : X.K = g.K := by rfl)
    (hn : (assignEach es X.env).length = n := by rfl) (hst : (assignEach es X.env).findIdx? (·.1) = none := by rfl) : PG X (.Tuple es k pos) (tGc g xa own (tupT n t)) := ((pg_tup hc h hn hst).orM (pg_lst hc h hn hst)).viaM fun v σ H Q h => by
  obtain ⟨ι, S, e, e', d, hs, he, r, ht, q⟩ := h
  unfold tupT at ht
  split at ht
  · rename_i b ds hsq
    split at ht
    · rename_i hl
      obtain ⟨a, vs, rfl, h2, t1, l1⟩ := seqOf_R hsq hs r
      cases b with
      | true => exact .inl ⟨_, _, rfl, by rw [hK]; exact (t1 rfl).t, by rw [← Rs.length h2]; exact hl, ι, S, e, e', ds, hs, he, h2, ht, q⟩
      | false => exact .inr ⟨_, _, rfl, by rw [hK]; exact l1 rfl, by rw [← Rs.length h2]; exact hl, ι, S, e, e', ds, hs, he, h2, ht, q⟩
    · cases ht
  · cases ht
def wipeE (e : Sl) : List Nat → Sl
  | [] => e
  | v :: vs => (wipeE e vs).set v .no
theorem Er.wipe {e : Sl} {σ : L2.St} (h : Er g xa ι H e σ) : ∀ own, Er g xa ι H (wipeE e own) (L2.wipe σ own)
  | [] => h
  | _ :: vs => (Er.wipe h vs).clear
/-- the list that is made stands at n0 -/
def compI (get : Nat → So → Option (Option D)) (t : Tg) (tt : MM Bool) (te : MM D) (n0 : Nat) (e : Sl) : Nat → Nat → So → Option So
  | 0, i, S => match get i S with
    | some none => some S
    | _ => none
  | k + 1, i, S => match get i S with
    | some none => some S
    | some (some x) => match t x S e with
      | none => none
      | some e1 => match tt e1 S with
        | some (.ok true, S2) => match te e1 S2 with
          | some (.ok d, S3) => match S3[n0]? with
            | some (.lst acc) => if acc.length < sizeLine then compI get t tt te n0 e k (i + 1) (S3.set n0 (.lst (acc ++ [d]))) else none
            | _ => none
          | _ => none
        | some (.ok false, S2) => compI get t tt te n0 e k (i + 1) S2
        | _ => none
    | none => none
def compM (own : List Nat) (m : MM Itm) (t : Tg) (tt : MM Bool) (te : MM D) : MM D := bindM m fun it e S =>
  match compI it.get t tt te S.length (wipeE e own) it.n 0 (S ++ [.lst []]) with
  | some S' => some (.ok (.ref S.length), S')
  | none => none
def yesM : MM Bool := retM true
theorem comp_step {m : MM Itm} {own : List Nat} {t : Tg} {tt : MM Bool} {te : MM D} {σ : L2.St} {H : Hp} {Q : VK} (h : tE g xa W (compM own m t tt te) σ H Q) :
    tLc (tI g xa W m) (tGc g xa own t) (tT g xa WF tt) (tE g xa WF te) own σ H Q := by
  obtain ⟨ι, S, e, r, S', hs, he, hm, hf⟩ := h
  refine stepG hs he hm hf fun it S1 ι1 H1 J h1 p1 x1 s1 e1 wk f1 => ?_
  intro Da nD
  split at h1
  case h_2 => cases h1
  rename_i S9 hc
  cases h1
  have xD : Ex H1 (upd H1 Da (.lst [])) := Ex.new nD
  have sD : Sim g (ι1 ++ [Da]) (S1 ++ [.lst []]) (upd H1 Da (.lst [])) := s1.new xD (fun n a q => upd_ne (s1.fresh nD q)) nD ⟨[], upd_same, .nil⟩
  have atD : (ι1 ++ [Da])[S1.length]? = some Da := s1.newAt
  refine ⟨fun i m H2 => ∃ ι2 S2, Pre (ι1 ++ [Da]) ι2 ∧ Ex H1 H2 ∧ Sim g ι2 S2 H2 ∧ compI it.get t tt te S1.length (wipeE e own) m i S2 = some S', ⟨it.n, ι1 ++ [Da], S1 ++ [.lst []], Pre.refl _, xD, sD, hc⟩, ?_⟩
  rintro i m H2 ⟨ι2, S2, p2, x2, s2, q⟩
  have p12 : Pre ι1 ι2 := (Pre.app ι1 [Da]).trans p2
  have w := wk i ι2 H2 S2 p12 x2 s2
  have stop : it.get i S2 = some none → (J.stop i H2 ∧ Q (.ref Da) H2) := fun z => by
    refine ⟨w.1 z, ?_⟩
    have q' : some S2 = some S' := by
      cases m with
      | zero => unfold compI at q; rw [z] at q; exact q
      | succ k => unfold compI at q; rw [z] at q; exact q
    cases q'
    exact f1 ι2 H2 (.ref Da) p12 x2 s2 (.ref (p2 _ _ atD))
  cases hget : it.get i S2 with
  | none =>
    cases m with
    | zero => unfold compI at q; rw [hget] at q; cases q
    | succ k => unfold compI at q; rw [hget] at q; cases q
  | some o => cases o with
    | none => exact .inl (stop hget)
    | some d =>
      cases m with
      | zero => unfold compI at q; rw [hget] at q; cases q
      | succ k =>
        unfold compI at q
        rw [hget] at q
        dsimp only at q
        obtain ⟨w1, w2⟩ := w.2 d hget
        refine .inr ⟨w1, fun H3 => ∃ ι3 S3, Pre (ι1 ++ [Da]) ι3 ∧ Ex H1 H3 ∧ Sim g ι3 S3 H3 ∧ compI it.get t tt te S1.length (wipeE e own) k (i + 1) S3 = some S', fun H3 n3 => ⟨k, Nat.lt_succ_self k, n3⟩, fun v H3 y => ?_⟩
        obtain ⟨x3, s3, r3⟩ := w2 v H3 y
        have x13 := x2.trans x3
        split at q
        · cases q
        · rename_i e3 ht
          refine ⟨ι2, S2, wipeE e own, e3, d, s3, ((e1.mono p12 x13).wipe own), r3, ht, fun σ4 r4 w4 => ⟨?_, ?_⟩⟩
          · have idem : ∀ (own : List Nat) (τ : L2.St), L2.wipe (L2.wipe τ own) own = L2.wipe τ own := by
              intro own τ
              have sub : ∀ (l : List Nat), (∀ v ∈ l, v ∈ own) → L2.wipe (L2.wipe τ l) own = L2.wipe τ own := by
                intro l
                induction l with
                | nil => intro _; rfl
                | cons v vs ih =>
                  intro hv
                  show L2.wipe ((L2.wipe τ vs).set v none) own = _
                  rw [wipe_set (hv v (List.mem_cons_self ..)), ih fun u hu => hv u (List.mem_cons_of_mem _ hu)]
              exact sub own fun _ h => h
            rw [w4, idem]
          · split at q
            · rename_i S5 q5
              refine ⟨ι2, S2, e3, .ok true, S5, s3, r4, q5, fun ι6 H6 b p6 x6 s6 eb => ?_⟩
              cases eb
              rw [if_pos rfl]
              split at q
              · rename_i d7 S7 q7
                refine ⟨ι6, S5, e3, .ok d7, S7, s6, r4.mono p6 x6, q7, fun ι8 H8 u p8 x8 s8 r8 => ?_⟩
                split at q
                · rename_i acc q9
                  split at q
                  · rename_i hl
                    have a8 : ι8[S1.length]? = some Da := p8 _ _ (p6 _ _ (p2 _ _ atD))
                    obtain ⟨vs, h9, r9⟩ := s8.obj _ _ _ a8 q9
                    refine ⟨vs, h9, by rw [← Rs.length r9]; exact hl, ?_⟩
                    have xw : Ex H8 (upd H8 Da (.lst (vs ++ [u]))) := Ex.wr h9 (fun _ z => by cases z) (fun _ _ z => by cases z) fun _ z => by cases z
                    obtain ⟨sw, _⟩ := s8.wr (o' := .lst (acc ++ [d7])) (q := .lst (vs ++ [u])) a8 ⟨_, upd_same, (Rs.mono (Pre.refl _) xw _ _ r9).append (.cons (R.mono (Pre.refl _) xw _ _ r8) .nil)⟩ xw
                    exact ⟨ι8, _, ((p2.trans p6).trans p8), ((x13.trans x6).trans x8).trans xw, sw, q⟩
                  · cases q
                · cases q
              · cases q
            · rename_i S5 q5
              refine ⟨ι2, S2, e3, .ok false, S5, s3, r4, q5, fun ι6 H6 b p6 x6 s6 eb => ?_⟩
              cases eb
              rw [if_neg Bool.false_ne_true]
              exact ⟨ι6, S5, p2.trans p6, x13.trans x6, s6, q⟩
            · cases q
theorem sm_yes : PTs X [] (tT g xa WF yesM) := ⟨fun pins s σ H Q I h => pts_nil.run pins s σ H Q I (by
  obtain ⟨ι, S, e, r, S', hs, he, hm, hf⟩ := h
  cases hm
  exact hf ι H true (Pre.refl _) (Ex.refl _) hs rfl)⟩
theorem sm_one_if {c : Expr} {t : MM Bool} (h : PT X c (tT g xa WF t)) : PTs X [c] (tT g xa WF t) := pts_one h
theorem em_lc {elt tg iter : Expr} {ifs : List Expr} {scope : Scope} {m : MM Itm} {t : Tg} {tt : MM Bool} {te : MM D} (own : List (Str × Nat)) (hc : X.calm = true) (hN : X.N.Nodup) (hi : PI X tg iter (tI g xa W m)) (ok : BlkOk X.N X.env.scope scope own)
    (hg : ∀ (s : Shared) (H : Hp) (C : Addr) (cl : List (Str × Addr)) (fp : List Addr), PG (X.blk s H scope (compEnvC scope cl C X.env) fp) tg (tGc g xa (own.map (·.2)) t)) (ht : ∀ (s : Shared) (H : Hp) (C : Addr) (cl : List (Str × Addr)) (fp : List Addr), PTs (X.blk s H scope (compEnvC scope cl C X.env) fp) ifs (tT g xa WF tt))
    (he : ∀ (s : Shared) (H : Hp) (C : Addr) (cl : List (Str × Addr)) (fp : List Addr), PE (X.blk s H scope (compEnvC scope cl C X.env) fp) elt (tE g xa WF te)) (hs : ∀ x, foldedSetIterable iter X.env x = pure x := by intro _; rfl) :
    PE X (.ListComp elt [⟨tg, iter, ifs, 0⟩] scope pos) (tE g xa W (compM (own.map (·.2)) m t tt te)) :=
  (pe_lc hc hN hi ok hg ht he hs).viaM fun _ _ _ h => comp_step h
theorem sm_setLc (i : Nat) {y : Str} {py spos : Pos} {elt tg iter : Expr} {ifs : List Expr} {scope : Scope} {m : MM Itm} {t : Tg} {tt : MM Bool} {te : MM D} (own : List (Str × Nat)) (hc : X.calm = true) (hN : X.N.Nodup) (hy : X.N[i]? = some y) (hyl : X.env.scope.names.lookup y = some .local)
    (hsw : swapsWith (.ListComp elt [⟨tg, iter, ifs, 0⟩] scope pos) (some (.Name y py)) spos.line X.env = pure true) (hi : PI X tg iter (tI g xa W m)) (ok : BlkOk X.N X.env.scope scope own)
    (hg : ∀ (s : Shared) (H : Hp) (C : Addr) (cl : List (Str × Addr)) (fp : List Addr), PG (X.blk s H scope (compEnvC scope cl C X.env) fp) tg (tGc g xa (own.map (·.2)) t)) (ht : ∀ (s : Shared) (H : Hp) (C : Addr) (cl : List (Str × Addr)) (fp : List Addr), PTs (X.blk s H scope (compEnvC scope cl C X.env) fp) ifs (tT g xa WF tt))
    (he : ∀ (s : Shared) (H : Hp) (C : Addr) (cl : List (Str × Addr)) (fp : List Addr), PE (X.blk s H scope (compEnvC scope cl C X.env) fp) elt (tE g xa WF te)) (hs : ∀ x, foldedSetIterable iter X.env x = pure x := by intro _; rfl) :
    PS X (.Assign [.Name y py] (.ListComp elt [⟨tg, iter, ifs, 0⟩] scope pos) spos) (tS g xa W (asgS (compM (own.map (·.2)) m t tt te) (nmT i))) :=
  (ps_setLc (i := i) hc hN hy hyl hsw hi ok hg ht he hs).viaM fun Dd σ H h => by
    obtain ⟨ι, S, e, f, e', S', hs, he, hm, hf⟩ := h
    refine comp_step (stepS hs he hm hf fun a S1 ι1 H1 v h1 p1 x1 s1 e1 r1 f1 => ?_)
    cases h1
    exact f1 ι1 H1 (Pre.refl _) (Ex.refl _) s1 _ (e1.set r1)
end
end DD

set_option Elab.async false
set_option linter.all false
set_option maxRecDepth 100000
namespace DD
open PySem PySem.Spec PyProof.Rows L2

section
variable {X : Cx} {g : G} {xa : Xa} {W : WX} {pos : Pos} {ι : List Addr} {H : Hp}
theorem Op2.or {r r' : R2} {f : F2} (p : D → D → So → Bool) (h : ∀ ι S S' H a b d x y Q, p a b S = true → Sim g ι S H → R g ι H a x → R g ι H b y → f a b S = some (d, S') → Does g (ρD g) ι H d S' Q → r x y H Q)
    (h' : ∀ ι S S' H a b d x y Q, p a b S = false → Sim g ι S H → R g ι H a x → R g ι H b y → f a b S = some (d, S') → Does g (ρD g) ι H d S' Q → r' x y H Q) : Op2 g (fun x y H Q => r x y H Q ∨ r' x y H Q) f := fun ι S S' H a b d x y Q s ra rb hf hd => by
  cases q : p a b S with
  | true => exact .inl (h ι S S' H a b d x y Q q s ra rb hf hd)
  | false => exact .inr (h' ι S S' H a b d x y Q q s ra rb hf hd)
/-- a new object -/
theorem Does.new {S : So} {o : O} {ho : HO} {Q : VK} {p : Addr} (h : Does g (ρD g) ι H (.ref S.length) (S ++ [o]) Q) (s : Sim g ι S H) (np : H p = none) (r : OR g (ι ++ [p]) (upd H p ho) o p) : Q (.ref p) (upd H p ho) :=
  h (ι ++ [p]) _ _ (Pre.app ι [p]) (Ex.new np) (s.new (Ex.new np) (fun n a q => upd_ne (s.fresh np q)) np r) (.ref s.newAt)
theorem Does.lst {S : So} {xs : List D} {vs : List V} {Q : VK} {p : Addr} (h : Does g (ρD g) ι H (.ref S.length) (S ++ [.lst xs]) Q) (s : Sim g ι S H) (np : H p = none) (r : Rs g ι H xs vs) : Q (.ref p) (upd H p (.lst vs)) :=
  h.new s np ⟨vs, upd_same, Rs.mono (Pre.app ι [p]) (Ex.new np) _ _ r⟩
theorem Does.tup {S : So} {xs : List D} {vs : List V} {Q : VK} {p : Addr} (h : Does g (ρD g) ι H (.tup xs) S Q) (s : Sim g ι S H) (np : H p = none) (r : Rs g ι H xs vs) : Q (.ref p) (upd H p (.tup vs)) :=
  h ι _ _ (Pre.refl _) (Ex.new np) (s.tup np) (.tup (.inl upd_same) (Rs.mono (Pre.refl _) (Ex.new np) _ _ r))

/-! ### + -/
def fAdd : F2 := fun a b S => match a, b with
  | .int i, .int j => some (.int (i + j), S)
  | .str x, .str y => if x.length + y.length ≤ sizeLine then some (.str (x ++ y), S) else none
  | .tup xs, .tup ys => if xs.length + ys.length ≤ sizeLine then some (.tup (xs ++ ys), S) else none
  | .ref n, .ref m => match S[n]?, S[m]? with
    | some (.lst xs), some (.lst ys) => if xs.length + ys.length ≤ sizeLine then some (.ref S.length, S ++ [.lst (xs ++ ys)]) else none
    | _, _ => none
  | _, _ => none
def rAddM (K : PySem.W.Frag) : R2 := fun x y H Q => (rI0 (fun i j => .int (i + j)) x y H Q ∨ (∃ i j, x = .str i ∧ y = .str j ∧ i.length + j.length ≤ sizeLine ∧ Q (.str (i ++ j)) H)) ∨ rCatA K x y H Q ∨ rCat x y H Q
theorem op_addM (hK : X.K = g.K) : OpR X (binaryOp .Add) (rAddM g.K) := by
  rw [← hK]
  exact ((op_add.or op_add_str).or (op_catA.or op_cat))
theorem f_add : Op2 g (rAddM g.K) fAdd := fun ι S S' H a b d x y Q s ra rb hf hd => by
  unfold fAdd at hf
  split at hf
  · cases hf; cases ra; cases rb
    exact .inl (.inl ⟨_, _, rfl, rfl, hd.here s (.int _)⟩)
  · split at hf
    · rename_i hl
      cases hf; cases ra; cases rb
      exact .inl (.inr ⟨_, _, rfl, rfl, hl, hd.here s (.str _)⟩)
    · cases hf
  · rename_i xs ys
    split at hf
    · rename_i hl
      cases hf
      cases ra with
      | tup h1 h2 =>
        cases rb with
        | tup h3 h4 =>
          refine .inr (.inl ⟨_, _, _, _, rfl, rfl, h1.t, h3.t, by rw [← Rs.length h2, ← Rs.length h4]; exact hl, fun e => ?_, fun _ e => ?_, fun _ _ p np => hd.tup s np (h2.append h4)⟩)
          · subst e
            cases h2
            exact hd.here s (.tup h3 h4)
          · subst e
            cases h4
            exact hd.here s (.tup h1 (by rw [List.append_nil]; exact h2))
    · cases hf
  · split at hf
    · rename_i xs ys q1 q2
      split at hf
      · rename_i hl
        cases hf
        cases ra with
        | ref h1 =>
          cases rb with
          | ref h2 =>
            obtain ⟨vs, e1, r1⟩ := lst_here s h1 q1
            obtain ⟨us, e2, r2⟩ := lst_here s h2 q2
            exact .inr (.inr ⟨_, _, _, _, rfl, rfl, e1, e2, by rw [← Rs.length r1, ← Rs.length r2]; exact hl, fun p np => hd.lst s np (r1.append r2)⟩)
      · cases hf
    · cases hf
  · cases hf
theorem em_add {a b : Expr} {ma mb : MM D} (ha : PE X a (tE g xa W ma)) (hb : PE X b (tE g xa W mb)) (hK : X.K = g.K := by rfl) : PE X (.BinOp a .Add b pos) (tE g xa W (mOp2 fAdd ma mb)) := em_op (op_addM hK) f_add ha hb

/-! ### ints -/
theorem f_int0 {k : Int → Int → V} {f : Int → Int → D} (hk : ∀ i j ι H, R g ι H (f i j) (k i j)) : Op2 g (rI0 k) (fun a b S => match a, b with
    | .int i, .int j => some (f i j, S)
    | _, _ => none) := fun ι S S' H a b d x y Q s ra rb hf hd => by
  dsimp only at hf
  split at hf
  · cases hf; cases ra; cases rb
    exact ⟨_, _, rfl, rfl, hd.here s (hk _ _ _ _)⟩
  · cases hf
def fSub : F2 := fun a b S => match a, b with
    | .int i, .int j => some (.int (i - j), S)
    | _, _ => none
theorem em_sub {a b : Expr} {ma mb : MM D} (ha : PE X a (tE g xa W ma)) (hb : PE X b (tE g xa W mb)) : PE X (.BinOp a .Sub b pos) (tE g xa W (mOp2 fSub ma mb)) := em_op op_sub (f_int0 (f := fun i j => .int (i - j)) fun _ _ _ _ => .int _) ha hb
instance {i j : Int} : Decidable (CMulW i j) := inferInstanceAs (Decidable (_ < _))
instance {i j : Int} : Decidable (CDivW i j) := inferInstanceAs (Decidable (_ ∧ _))
instance {i j : Int} : Decidable (CPow i j) := inferInstanceAs (Decidable (_ ∧ _ ∧ _))
theorem f_intC {C : Int → Int → Prop} [∀ i j, Decidable (C i j)] {k : Int → Int → Int} : Op2 g (rI C fun i j => .int (k i j)) (fun a b S => match a, b with
    | .int i, .int j => if C i j then some (.int (k i j), S) else none
    | _, _ => none) := fun ι S S' H a b d x y Q s ra rb hf hd => by
  dsimp only at hf
  split at hf
  · split at hf
    · rename_i hc
      cases hf; cases ra; cases rb
      exact ⟨_, _, rfl, rfl, hc, hd.here s (.int _)⟩
    · cases hf
  · cases hf
instance {i j : Int} : Decidable (CMul i j) := inferInstanceAs (Decidable (_ ∨ _))
def fMul : F2 := fun a b S => match a, b with
    | .int i, .int j => if CMul i j ∨ CMulW i j then some (.int (i * j), S) else none
    | _, _ => none
def fDiv : F2 := fun a b S => match a, b with
    | .int i, .int j => if CDivW i j then some (.int (i / j), S) else none
    | _, _ => none
def fMod : F2 := fun a b S => match a, b with
    | .int i, .int j => if 0 < j then some (.int (i % j), S) else none
    | _, _ => none
def fPow : F2 := fun a b S => match a, b with
    | .int i, .int j => if CPow i j then some (.int (i ^ j.toNat), S) else none
    | _, _ => none
theorem f_mul : Op2 g (fun x y H Q => rI CMul (fun i j => .int (i * j)) x y H Q ∨ rI CMulW (fun i j => .int (i * j)) x y H Q) fMul := fun ι S S' H a b d x y Q s ra rb hf hd => by
  unfold fMul at hf
  split at hf
  · split at hf
    · rename_i hc
      cases hf; cases ra; cases rb
      rcases hc with hc | hc
      · exact .inl ⟨_, _, rfl, rfl, hc, hd.here s (.int _)⟩
      · exact .inr ⟨_, _, rfl, rfl, hc, hd.here s (.int _)⟩
    · cases hf
  · cases hf
theorem em_mul {a b : Expr} {ma mb : MM D} (ha : PE X a (tE g xa W ma)) (hb : PE X b (tE g xa W mb)) : PE X (.BinOp a .Mult b pos) (tE g xa W (mOp2 fMul ma mb)) := em_op (op_mul.or op_mulW) f_mul ha hb
theorem em_div {a b : Expr} {ma mb : MM D} (ha : PE X a (tE g xa W ma)) (hb : PE X b (tE g xa W mb)) : PE X (.BinOp a .FloorDiv b pos) (tE g xa W (mOp2 fDiv ma mb)) := em_op op_fdivW (f_intC (C := CDivW) (k := fun i j => i / j)) ha hb
theorem em_mod {a b : Expr} {ma mb : MM D} (ha : PE X a (tE g xa W ma)) (hb : PE X b (tE g xa W mb)) : PE X (.BinOp a .Mod b pos) (tE g xa W (mOp2 fMod ma mb)) := em_op op_mod (f_intC (C := fun _ j => 0 < j) (k := fun i j => i % j)) ha hb
theorem em_pow {a b : Expr} {ma mb : MM D} (ha : PE X a (tE g xa W ma)) (hb : PE X b (tE g xa W mb)) : PE X (.BinOp a .Pow b pos) (tE g xa W (mOp2 fPow ma mb)) := em_op op_pow (f_intC (C := CPow) (k := fun i j => i ^ j.toNat)) ha hb
def fNeg : F1 := fun a S => match a with
  | .int i => some (.int (-i), S)
  | _ => none
theorem em_neg {a : Expr} {ma : MM D} (ha : PE X a (tE g xa W ma)) : PE X (.UnaryOp .USub a pos) (tE g xa W (mOp1 fNeg ma)) := em_un un_neg (fun ι S S' H a d x Q s ra hf hd => by
  unfold fNeg at hf
  split at hf
  · cases hf; cases ra
    exact ⟨_, rfl, hd.here s (.int _)⟩
  · cases hf) ha

/-! ### order -/
def fOrd (p : Int → Int → Bool) (q : List Nat → List Nat → Bool) : F2 := fun a b S => match a, b with
  | .int i, .int j => some (.bl (p i j), S)
  | .str x, .str y => some (.bl (q x.cps.toList y.cps.toList), S)
  | _, _ => none
def rOrd (p : Int → Int → Bool) (q : List Nat → List Nat → Bool) : R2 := fun x y H Q => rI0 (fun i j => .bl (p i j)) x y H Q ∨ ∃ i j, x = .str i ∧ y = .str j ∧ Q (.bl (q i.cps.toList j.cps.toList)) H
theorem f_ord {p : Int → Int → Bool} {q : List Nat → List Nat → Bool} : Op2 g (rOrd p q) (fOrd p q) := fun ι S S' H a b d x y Q s ra rb hf hd => by
  unfold fOrd at hf
  split at hf
  · cases hf; cases ra; cases rb
    exact .inl ⟨_, _, rfl, rfl, hd.here s (.bl _)⟩
  · cases hf; cases ra; cases rb
    exact .inr ⟨_, _, rfl, rfl, hd.here s (.bl _)⟩
  · cases hf
abbrev pLt : Int → Int → Bool := fun i j => decide (i < j)
abbrev pLe : Int → Int → Bool := fun i j => decide (i ≤ j)
abbrev pGt : Int → Int → Bool := fun i j => decide (j < i)
abbrev pGe : Int → Int → Bool := fun i j => decide (j ≤ i)
abbrev qLt : List Nat → List Nat → Bool := fun i j => decide (i < j)
abbrev qLe : List Nat → List Nat → Bool := fun i j => !decide (j < i)
abbrev qGt : List Nat → List Nat → Bool := fun i j => decide (j < i)
abbrev qGe : List Nat → List Nat → Bool := fun i j => !decide (i < j)
theorem op_ltM : OpR X (compareOp .Lt) (rOrd pLt qLt) := op_lt.or op_lt_str
theorem op_leM : OpR X (compareOp .LtE) (rOrd pLe qLe) := op_le.or op_le_str
theorem op_gtM : OpR X (compareOp .Gt) (rOrd pGt qGt) := op_gt.or op_gt_str
theorem op_geM : OpR X (compareOp .GtE) (rOrd pGe qGe) := op_ge.or op_ge_str

/-! ### data -/
mutual
def toPy (S : So) : Nat → D → Option PyData
  | _, .non => some .none
  | _, .bl b => some (.bool b)
  | _, .int i => some (.int i)
  | _, .str x => some (.str x)
  | n, .tup xs => (toPys S n xs).map .tuple
  | n, .rol xs => (toPys S n xs).map .list
  | 0, .ref _ => none
  | n + 1, .ref m => match S[m]? with
    | some (.lst xs) => (toPys S n xs).map .list
    | _ => none
  | _, .glo _ => none
  | _, .ty _ => none
termination_by n d => (n, sizeOf d)
def toPys (S : So) : Nat → List D → Option (List PyData)
  | _, [] => some []
  | n, d :: ds => match toPy S n d, toPys S n ds with
    | some p, some ps => some (p :: ps)
    | _, _ => none
termination_by n ds => (n, sizeOf ds)
end

section
variable {g : G} {ι : List Addr} {H : Hp} {S : So}
mutual
theorem toPy_R (s : Sim g ι S H) : ∀ (n : Nat) (d : D) (v : V) (p : PyData), toPy S n d = some p → R g ι H d v → Dp g.K H v p
  | n, .non, v, p, h, r => by unfold toPy at h; cases h; cases r; exact .non
  | n, .bl b, v, p, h, r => by unfold toPy at h; cases h; cases r; exact .bl b
  | n, .int i, v, p, h, r => by unfold toPy at h; cases h; cases r; exact .int i
  | n, .str x, v, p, h, r => by unfold toPy at h; cases h; cases r; exact .str x
  | n, .tup xs, v, p, h, r => by
    unfold toPy at h
    cases q : toPys S n xs with
    | none => rw [q] at h; cases h
    | some ps =>
      rw [q] at h
      cases h
      cases r with
      | tup h1 h2 => exact .tup h1.t (toPys_R s n xs _ ps q h2)
  | n, .rol xs, v, p, h, r => by
    unfold toPy at h
    cases q : toPys S n xs with
    | none => rw [q] at h; cases h
    | some ps =>
      rw [q] at h
      cases h
      cases r with
      | rol h1 h2 => exact .lst h1.seq (toPys_R s n xs _ ps q h2)
  | 0, .ref m, v, p, h, r => by unfold toPy at h; cases h
  | n + 1, .ref m, v, p, h, r => by
    unfold toPy at h
    split at h
    · rename_i xs e
      cases q : toPys S n xs with
      | none => rw [q] at h; cases h
      | some ps =>
        rw [q] at h
        cases h
        cases r with
        | ref h1 =>
          obtain ⟨vs, h2, h3⟩ := lst_here s h1 e
          exact .lst (SqL.of h2) (toPys_R s n xs _ ps q h3)
    · cases h
  | n, .glo x, v, p, h, r => by unfold toPy at h; cases h
  | n, .ty x, v, p, h, r => by unfold toPy at h; cases h
termination_by n d => (n, sizeOf d)
theorem toPys_R (s : Sim g ι S H) : ∀ (n : Nat) (ds : List D) (vs : List V) (ps : List PyData), toPys S n ds = some ps → Rs g ι H ds vs → DpAll g.K H vs ps
  | n, [], vs, ps, h, r => by unfold toPys at h; cases h; cases r; exact .nil
  | n, d :: ds, vs, ps, h, r => by
    unfold toPys at h
    split at h
    · rename_i p ps' e1 e2
      cases h
      cases r with
      | cons r1 r2 => exact .cons (toPy_R s n d _ p e1 r1) (toPys_R s n ds _ ps' e2 r2)
    · cases h
termination_by n ds => (n, sizeOf ds)
end
end
section
variable {X : Cx} {g : G} {xa : Xa} {W : WX} {pos : Pos} {ι : List Addr} {H : Hp}
/-- data, nested lists at most nine deep -/
abbrev py (d : D) (S : So) : Option PyData := toPy S 9 d
def rEqM (K : PySem.W.Frag) : R2 := fun x y H Q => rEq x y H Q ∨ rEqD K x y H Q
def rNeM (K : PySem.W.Frag) : R2 := fun x y H Q => rNe x y H Q ∨ rNeD K x y H Q
def eqD (k : Bool → Bool) : F2 := fun a b S => match py a S, py b S with
  | some p, some q => if SeqAt.shaped p = true ∧ SeqAt.shaped q = true then some (.bl (k (PyData.eqv p q)), S) else none
  | _, _ => none
def fEq : F2 := fun a b S => match a, b with
  | .str x, .str y => some (.bl (decide (x = y)), S)
  | a, b => eqD id a b S
def fNe : F2 := fun a b S => match a, b with
  | .str x, .str y => some (.bl (!decide (x = y)), S)
  | a, b => eqD (!·) a b S
theorem f_eq : Op2 g (rEqM g.K) fEq := fun ι S S' H a b d x y Q s ra rb hf hd => by
  unfold fEq at hf
  split at hf
  · cases hf; cases ra; cases rb
    refine .inl ⟨rfl, ?_⟩
    have e : ∀ u v : Str, decide (V.str u = V.str v) = decide (u = v) := fun u v => by simp
    rw [e]
    exact hd.here s (.bl _)
  · unfold eqD at hf
    split at hf
    · rename_i p q e1 e2
      split at hf
      · rename_i hc
        cases hf
        exact .inr ⟨p, q, toPy_R s 9 a x p e1 ra, toPy_R s 9 b y q e2 rb, hc.1, hc.2, hd.here s (.bl _)⟩
      · cases hf
    · cases hf
theorem f_ne : Op2 g (rNeM g.K) fNe := fun ι S S' H a b d x y Q s ra rb hf hd => by
  unfold fNe at hf
  split at hf
  · cases hf; cases ra; cases rb
    refine .inl ⟨rfl, ?_⟩
    have e : ∀ u v : Str, decide (V.str u = V.str v) = decide (u = v) := fun u v => by simp
    rw [e]
    exact hd.here s (.bl _)
  · unfold eqD at hf
    split at hf
    · rename_i p q e1 e2
      split at hf
      · rename_i hc
        cases hf
        exact .inr ⟨p, q, toPy_R s 9 a x p e1 ra, toPy_R s 9 b y q e2 rb, hc.1, hc.2, hd.here s (.bl _)⟩
      · cases hf
    · cases hf
theorem op_eqM (hK : X.K = g.K) (hu : X.A.units + 64 < cLine) : OpR X (compareOp .Eq) (rEqM g.K) := by rw [← hK]; exact op_eq.or (op_eqD hu)
theorem op_neM (hK : X.K = g.K) (hu : X.A.units + 64 < cLine) : OpR X (compareOp .NotEq) (rNeM g.K) := by rw [← hK]; exact op_ne.or (op_neD hu)
/-- is, is not of None and of bools -/
def fIs (neg : Bool) : F2 := fun a b S => match a, b with
  | .bl i, .bl j => some (.bl (neg ^^ decide (i = j)), S)
  | .non, .non => some (.bl (neg ^^ true), S)
  | .bl _, .non => some (.bl (neg ^^ false), S)
  | .int _, .non => some (.bl (neg ^^ false), S)
  | .str _, .non => some (.bl (neg ^^ false), S)
  | .tup _, .non => some (.bl (neg ^^ false), S)
  | .ref _, .non => some (.bl (neg ^^ false), S)
  | _, _ => none
def rIsM : R2 := fun x y H Q => rIsB x y H Q ∨ (y = .non ∧ Q (.bl (decide (x = .non))) H)
def rIsNotM : R2 := fun x y H Q => rNotB x y H Q ∨ (y = .non ∧ Q (.bl (!decide (x = .non))) H)
theorem op_isM : OpR X (compareOp .Is) rIsM := op_isBl.or op_isN
theorem op_isNotM : OpR X (compareOp .IsNot) rIsNotM := op_notBl.or op_notN
theorem f_is : Op2 g rIsM (fIs false) := fun ι S S' H a b d x y Q s ra rb hf hd => by
  unfold fIs at hf
  split at hf <;> first | (cases hf; done) | skip
  · cases hf; cases ra; cases rb
    exact .inl ⟨_, _, rfl, rfl, hd.here s (by rw [Bool.false_xor]; exact .bl _)⟩
  all_goals (cases hf; cases rb; cases ra; exact .inr ⟨rfl, hd.here s (.bl _)⟩)
theorem f_isNot : Op2 g rIsNotM (fIs true) := fun ι S S' H a b d x y Q s ra rb hf hd => by
  unfold fIs at hf
  split at hf <;> first | (cases hf; done) | skip
  · cases hf; cases ra; cases rb
    exact .inl ⟨_, _, rfl, rfl, hd.here s (by rw [Bool.true_xor]; exact .bl _)⟩
  all_goals (cases hf; cases rb; cases ra; exact .inr ⟨rfl, hd.here s (.bl _)⟩)

/-! ### displays, items, slices -/
def fTup : FA := fun ds S => if ds.length ≤ sizeLine then some (.tup ds, S) else none
def fLst : FA := fun ds S => if ds.length ≤ sizeLine then some (.ref S.length, S ++ [.lst ds]) else none
theorem em_tup {es : List Expr} {m : MM (List D)} {x1 : Nat} (h : PA X es (tA g xa W m)) : PE X (.Tuple es x1 pos) (tE g xa W (mOpA fTup m)) := (pe_tup h).viaM fun σ H Q h => by
  refine opA_step (r := fun xs H1 Q => xs.length ≤ sizeLine ∧ ∀ p, H1 p = none → Q (.ref p) (upd H1 p (.tup xs))) (fun ι S S' H a d x Q s r hf hd => ?_) h
  unfold fTup at hf
  split at hf
  · rename_i hl
    cases hf
    exact ⟨by rw [← Rs.length r]; exact hl, fun p np => hd.tup s np r⟩
  · cases hf
theorem em_lst {es : List Expr} {m : MM (List D)} (h : PA X es (tA g xa W m)) : PE X (.List es pos) (tE g xa W (mOpA fLst m)) := (pe_lst h).viaM fun σ H Q h => by
  refine opA_step (r := fun xs H1 Q => xs.length ≤ sizeLine ∧ ∀ p, H1 p = none → Q (.ref p) (upd H1 p (.lst xs))) (fun ι S S' H a d x Q s r hf hd => ?_) h
  unfold fLst at hf
  split at hf
  · rename_i hl
    cases hf
    exact ⟨by rw [← Rs.length r]; exact hl, fun p np => hd.lst s np r⟩
  · cases hf
def fIx : F2 := fun a b S => match a, b with
  | .str z, .int i => if z.length ≤ sizeLine then (atI z.cps.toList i).map fun c => (.str ⟨#[c]⟩, S) else none
  | a, .int i => match seqOf a S with
    | some (_, xs) => (atI xs i).map fun d => (d, S)
    | none => none
  | _, _ => none
theorem atI_R {xs : List D} {vs : List V} {i : Int} {d : D} (r : Rs g ι H xs vs) (h : atI xs i = some d) : ∃ v, atI vs i = some v ∧ R g ι H d v := by
  unfold atI at h ⊢
  rw [← Rs.length r]
  cases e : ixN xs.length i with
  | none => rw [e] at h; cases h
  | some j =>
    rw [e] at h
    obtain ⟨v, h1, h2⟩ := Rs.get r h
    exact ⟨v, h1, h2⟩
theorem f_ix : Op2 g (rIx g.K) fIx := fun ι S S' H a b d x y Q s ra rb hf hd => by
  unfold fIx at hf
  split at hf
  · rename_i z i
    split at hf
    · rename_i hl
      cases e : atI z.cps.toList i with
      | none => rw [e] at hf; cases hf
      | some c =>
        rw [e] at hf
        cases hf; cases ra; cases rb
        exact .inr (.inr ⟨_, _, c, rfl, rfl, hl, e, hd.here s (.str _)⟩)
    · cases hf
  · rename_i i _
    split at hf
    · rename_i k xs e
      cases e2 : atI xs i with
      | none => rw [e2] at hf; cases hf
      | some c =>
        rw [e2] at hf
        cases hf
        obtain ⟨p, vs, rfl, r, t1, l1⟩ := seqOf_R e s ra
        obtain ⟨v, h1, h2⟩ := atI_R r e2
        cases rb
        cases k with
        | true => exact .inr (.inl ⟨_, _, _, _, rfl, rfl, (t1 rfl).t, h1, hd.here s h2⟩)
        | false => exact .inl ⟨_, _, _, _, rfl, rfl, l1 rfl, h1, hd.here s h2⟩
    · cases hf
  · cases hf
theorem ix_seqM (hK : X.K = g.K) : IxR X (rIx g.K) := by rw [← hK]; exact ix_seq
theorem em_ix {a b : Expr} {ma mb : MM D} (ha : PE X a (tE g xa W ma)) (hb : PE X b (tE g xa W mb)) (hK : X.K = g.K := by rfl) (hs : PlainIx b := by exact fun _ _ => rfl) : PE X (.Subscript a b pos) (tE g xa W (mOp2 fIx ma mb)) :=
  (pe_ix (ix_seqM hK) ha hb hs).viaM fun _ _ _ h => op2_step f_ix h
/-- a slice's part -/
def mNoPart : MM (Option Int) := retM none
def mPart (m : MM D) : MM (Option Int) := bindM m fun d _ S => match d with
  | .int i => some (.ok (some i), S)
  | _ => none
theorem om_none : PO X none (tO g xa W mNoPart) := po_none.viaM fun σ H Q h => by
  obtain ⟨ι, S, e, r, S', hs, he, hm, hf⟩ := h
  cases hm
  exact hf ι H none (Pre.refl _) (Ex.refl _) hs rfl
theorem om_some {e : Expr} {m : MM D} (h : PE X e (tE g xa W m)) : PO X (some e) (tO g xa W (mPart m)) := (po_some h).viaM fun σ H Q h => by
  obtain ⟨ι, S, e, r, S', hs, he, hm, hf⟩ := h
  refine stepG hs he hm hf fun d S1 ι1 H1 v h1 p1 x1 s1 e1 r1 f1 => ?_
  split at h1
  · cases h1; cases r1
    exact ⟨_, rfl, f1 ι1 H1 _ (Pre.refl _) (Ex.refl _) s1 rfl⟩
  · cases h1
def cutD (xs : List D) (lo hi : Option Int) : List D := (xs.drop (HT.sIx xs.length 0 lo)).take (HT.sIx xs.length xs.length hi - HT.sIx xs.length 0 lo)
theorem cutD_R {xs : List D} {vs : List V} {lo hi : Option Int} (r : Rs g ι H xs vs) : Rs g ι H (cutD xs lo hi) (cutV vs lo hi) := by
  unfold cutD cutV
  rw [← Rs.length r]
  exact (r.drop _).take _
def fSl (a : D) (lo hi : Option Int) (S : So) : Option (D × So) := match a with
  | .str z => if z.length ≤ sizeLine then some (.str (cutS z lo hi), S) else none
  | .tup xs => some (.tup (cutD xs lo hi), S)
  | a => match seqOf a S with
    | some (_, xs) => some (.ref S.length, S ++ [.lst (cutD xs lo hi)])
    | none => none
def mSl (ma : MM D) (ml mh : MM (Option Int)) : MM D := bindM ma fun a => bindM ml fun l => bindM mh fun h => liftF (fSl a l h)
def rSlM (K : PySem.W.Frag) : V → Option Int → Option Int → Hp → VK → Prop := fun x lo hi H Q => rSlA K x lo hi H Q ∨ rSlL K x lo hi H Q ∨ rSlS x lo hi H Q
theorem sl_M (hK : X.K = g.K) : SlR X (rSlM g.K) := by rw [← hK]; exact sl_tupA.or (sl_list.or sl_str)
theorem cut_whole {xs : List V} {lo hi : Option Int} (h : HT.sIx xs.length 0 lo = 0 ∧ HT.sIx xs.length xs.length hi = xs.length) : cutV xs lo hi = xs := by
  unfold cutV
  rw [h.1, h.2]
  simp
theorem cutD_whole {xs : List D} {lo hi : Option Int} (h : HT.sIx xs.length 0 lo = 0 ∧ HT.sIx xs.length xs.length hi = xs.length) : cutD xs lo hi = xs := by
  unfold cutD
  rw [h.1, h.2]
  simp
theorem f_sl {a d : D} {lo hi : Option Int} {S S' : So} {x : V} {Q : VK} (s : Sim g ι S H) (ra : R g ι H a x) (hf : fSl a lo hi S = some (d, S')) (hd : Does g (ρD g) ι H d S' Q) : rSlM g.K x lo hi H Q := by
  unfold fSl at hf
  split at hf
  · split at hf
    · rename_i hl
      cases hf; cases ra
      exact .inr (.inr ⟨_, rfl, hl, hd.here s (.str _)⟩)
    · cases hf
  · rename_i xs
    cases hf
    cases ra with
    | tup h1 h2 =>
      refine .inl ⟨_, _, rfl, h1.t, fun w => ?_, fun _ p np => hd.tup s np (cutD_R h2)⟩
      rw [← Rs.length h2] at w
      exact hd.here s (by rw [cutD_whole w]; exact .tup h1 h2)
  · rename_i hn1 hn2
    split at hf
    · rename_i k xs e
      cases hf
      obtain ⟨p, vs, rfl, r, t1, l1⟩ := seqOf_R e s ra
      have hk : k = false := by
        have := seqOf_kind e
        cases a with
        | tup ys => exact absurd rfl (hn2 ys)
        | _ => exact this
      exact .inr (.inl ⟨_, _, rfl, l1 hk, fun q nq => hd.lst s nq (cutD_R r)⟩)
    · cases hf
theorem em_slice {a : Expr} {lo hi : Option Expr} {p2 : Pos} {ma : MM D} {ml mh : MM (Option Int)} (ha : PE X a (tE g xa W ma)) (hl : PO X lo (tO g xa W ml)) (hh : PO X hi (tO g xa W mh)) (hK : X.K = g.K := by rfl) :
    PE X (.Subscript a (.Slice lo hi none p2) pos) (tE g xa W (mSl ma ml mh)) := (pe_slice (sl_M hK) ha hl hh).viaM fun σ H Q h => by
  obtain ⟨ι, S, e, r, S', hs, he, hm, hf⟩ := h
  refine stepG hs he hm hf fun d S1 ι1 H1 v h1 p1 x1 s1 e1 r1 f1 => ?_
  refine stepG s1 e1 h1 f1 fun l S2 ι2 H2 v2 h2 p2 x2 s2 e2 r2 f2 => ?_
  refine stepG s2 e2 h2 f2 fun u S3 ι3 H3 v3 h3 p3 x3 s3 e3 r3 f3 => ?_
  obtain ⟨d', h4, rfl⟩ := liftF_some h3
  cases r2
  cases r3
  exact f_sl s3 (R.mono p3 x3 _ _ (R.mono p2 x2 _ _ r1)) h4 f3

/-! ### builtins -/
theorem em_callB {x : Str} {p : Pos} {a : Expr} {es : List Expr} {id : String} {r : List V → Hp → VK → Prop} {f : FA} {m : MM (List D)} (hc : CallR X (.builtin id) r) (hf : OpA g r f) (hm : X.mg x = none) (ha : PA X (a :: es) (tA g xa W m)) (hv : bootBuiltins x = some (.builtin id) := by decide +kernel) (hg : Gl X x := by rfl) (hn : x ≠ "__name__" := by decide) (hdb : (x == ("__debug__" : Str)) = false := by decide)
    (he : starEach (a :: es) X.env = (false, eval a X.env) :: starEach es X.env := by rfl) (hpl : (backTo pos (starEach es X.env)).any (·.1) = false := by rfl) : PE X (.Call (.Name x p) (a :: es) [] pos) (tE g xa W (mOpA f m)) :=
  (pe_callB hc hg hm hv ha hn hdb he hpl).viaM fun _ _ _ h => opA_step hf h
theorem em_callTy {x : Str} {p : Pos} {a : Expr} {es : List Expr} {T : String} {r : List V → Hp → VK → Prop} {f : FA} {m : MM (List D)} (hc : CallR X (.type T) r) (hf : OpA g r f) (hm : X.mg x = none) (ha : PA X (a :: es) (tA g xa W m)) (hv : bootBuiltins x = some (.type T) := by decide +kernel) (hg : Gl X x := by rfl) (hn : x ≠ "__name__" := by decide) (hdb : (x == ("__debug__" : Str)) = false := by decide)
    (he : starEach (a :: es) X.env = (false, eval a X.env) :: starEach es X.env := by rfl) (hpl : (backTo pos (starEach es X.env)).any (·.1) = false := by rfl) : PE X (.Call (.Name x p) (a :: es) [] pos) (tE g xa W (mOpA f m)) :=
  (pe_callTy hc hg hm hv ha hn hdb he hpl).viaM fun _ _ _ h => opA_step hf h
def fAbs : FA := fun ds S => match ds with
  | [.int i] => some (.int (if i < 0 then -i else i), S)
  | _ => none
theorem f_abs : OpA g (fun xs H Q => ∃ i, xs = [.int i] ∧ Q (.int (if i < 0 then -i else i)) H) fAbs := fun ι S S' H a d x Q s r hf hd => by
  unfold fAbs at hf
  split at hf
  · cases hf
    cases r with
    | cons r1 r2 => cases r2; cases r1; exact ⟨_, rfl, hd.here s (.int _)⟩
  · cases hf
def fInt : FA := fun ds S => match ds with
  | [.int i] => some (.int i, S)
  | [.bl b] => some (.int (if b then 1 else 0), S)
  | _ => none
theorem f_int : OpA g (fun xs H Q => (∃ i, xs = [.int i] ∧ Q (.int i) H) ∨ ∃ k, xs = [.bl k] ∧ Q (.int (if k then 1 else 0)) H) fInt := fun ι S S' H a d x Q s r hf hd => by
  unfold fInt at hf
  split at hf
  · cases hf
    cases r with
    | cons r1 r2 => cases r2; cases r1; exact .inl ⟨_, rfl, hd.here s (.int _)⟩
  · cases hf
    cases r with
    | cons r1 r2 => cases r2; cases r1; exact .inr ⟨_, rfl, hd.here s (.int _)⟩
  · cases hf
def fLen : FA := fun ds S => match ds with
  | [.str x] => if x.length ≤ sizeLine then some (.int x.length, S) else none
  | [a] => match seqOf a S with
    | some (_, xs) => some (.int xs.length, S)
    | none => none
  | _ => none
theorem f_len : OpA g (fun xs H Q => ∃ x n, xs = [x] ∧ LenV g.K x H n ∧ Q (.int n) H) fLen := fun ι S S' H a d x Q s r hf hd => by
  unfold fLen at hf
  split at hf
  · split at hf
    · rename_i hl
      cases hf
      cases r with
      | cons r1 r2 => cases r2; cases r1; exact ⟨_, _, rfl, ⟨hl, rfl⟩, hd.here s (.int _)⟩
    · cases hf
  · split at hf
    · rename_i k xs e
      cases hf
      cases r with
      | cons r1 r2 =>
        cases r2
        obtain ⟨p, vs, rfl, r, t1, l1⟩ := seqOf_R e s r1
        refine ⟨_, xs.length, rfl, ?_, hd.here s (.int _)⟩
        cases k with
        | true => exact .inr ⟨vs, (t1 rfl).t, Rs.length r⟩
        | false => exact .inl ⟨vs, l1 rfl, Rs.length r⟩
    · cases hf
  · cases hf
theorem call_lenM (hK : X.K = g.K) : CallR X (.builtin "len") (fun xs H Q => ∃ x n, xs = [x] ∧ LenV g.K x H n ∧ Q (.int n) H) := by rw [← hK]; exact call_len
def fList : FA := fun ds S => match ds with
  | [a] => match seqOf a S with
    | some (_, xs) => some (.ref S.length, S ++ [.lst xs])
    | none => none
  | _ => none
theorem f_list : OpA g (fun xs H Q => ∃ p ys, xs = [.ref p] ∧ (SqL g.K H p ys ∨ SqT g.K H p ys) ∧ ∀ l, H l = none → Q (.ref l) (upd H l (.lst ys))) fList := fun ι S S' H a d x Q s r hf hd => by
  unfold fList at hf
  split at hf
  · split at hf
    · rename_i k xs e
      cases hf
      cases r with
      | cons r1 r2 =>
        cases r2
        obtain ⟨p, vs, rfl, r, t1, l1⟩ := seqOf_R e s r1
        refine ⟨_, vs, rfl, ?_, fun l nl => hd.lst s nl r⟩
        cases k with
        | true => exact .inr (t1 rfl).t
        | false => exact .inl (l1 rfl)
    · cases hf
  · cases hf
theorem call_listM (hK : X.K = g.K) : CallR X (.type "list") (fun xs H Q => ∃ p ys, xs = [.ref p] ∧ (SqL g.K H p ys ∨ SqT g.K H p ys) ∧ ∀ l, H l = none → Q (.ref l) (upd H l (.lst ys))) := by rw [← hK]; exact call_list_of
def fTuple : FA := fun ds S => match ds with
  | [a] => match seqOf a S with
    | some (_, xs) => some (.tup xs, S)
    | none => none
  | _ => none
theorem f_tuple : OpA g (fun xs H Q => ∃ p ys, xs = [.ref p] ∧ ((SqL g.K H p ys ∧ ∀ l, H l = none → Q (.ref l) (upd H l (.tup ys))) ∨ (SqT g.K H p ys ∧ Q (.ref p) H))) fTuple := fun ι S S' H a d x Q s r hf hd => by
  unfold fTuple at hf
  split at hf
  · split at hf
    · rename_i k xs e
      cases hf
      cases r with
      | cons r1 r2 =>
        cases r2
        obtain ⟨p, vs, rfl, r, t1, l1⟩ := seqOf_R e s r1
        refine ⟨_, vs, rfl, ?_⟩
        cases k with
        | true => exact .inr ⟨(t1 rfl).t, hd.here s (.tup (t1 rfl) r)⟩
        | false => exact .inl ⟨l1 rfl, fun l nl => hd.tup s nl r⟩
    · cases hf
  · cases hf
theorem call_tupleM (hK : X.K = g.K) : CallR X (.type "tuple") (fun xs H Q => ∃ p ys, xs = [.ref p] ∧ ((SqL g.K H p ys ∧ ∀ l, H l = none → Q (.ref l) (upd H l (.tup ys))) ∨ (SqT g.K H p ys ∧ Q (.ref p) H))) := by rw [← hK]; exact call_tuple_of
def fStr : FA := fun ds S => match ds with
  | [.int i] => if i.natAbs.log2 < 1920 then some (.str (toString i), S) else none
  | _ => none
theorem f_str : OpA g (fun xs H Q => ∃ i : Int, xs = [.int i] ∧ i.natAbs.log2 < 1920 ∧ Q (.str (toString i)) H) fStr := fun ι S S' H a d x Q s r hf hd => by
  unfold fStr at hf
  split at hf
  · split at hf
    · rename_i hl
      cases hf
      cases r with
      | cons r1 r2 => cases r2; cases r1; exact ⟨_, rfl, hl, hd.here s (.str _)⟩
    · cases hf
  · cases hf

/-! ### methods of built-in types -/
abbrev FM := D → List D → So → Option (D × So)
def OpM (g : G) (r : V → List V → Hp → VK → Prop) (f : FM) : Prop := ∀ (ι : List Addr) (S S' : So) (H : Hp) (a : D) (b : List D) (d : D) (x : V) (y : List V) (Q : VK), Sim g ι S H → R g ι H a x → Rs g ι H b y → f a b S = some (d, S') → Does g (ρD g) ι H d S' Q → r x y H Q
def mMeth (ty : D → So → Bool) (f : FM) (mo : MM D) (ma : MM (List D)) : MM D := bindM mo fun a e S => if ty a S = true then bindM ma (fun ds => liftF (f a ds)) e S else none
theorem em_bm {o a : Expr} {es : List Expr} {name : Str} {T id : String} {apos : Pos} {mo : MM D} {ma : MM (List D)} {ty : D → So → Bool} {f : FM} {r : V → List V → Hp → VK → Prop} (pa : PlainAttrs T) (slot : Slot T name id) (hty : typeOf (.builtin id) = pure (.type "method_descriptor")) (hm : MtR X id r)
    (hT : ∀ (ι : List Addr) (S : So) (H : Hp) (a : D) (x : V), Sim g ι S H → R g ι H a x → ty a S = true → tyV X.K T x H) (hf : OpM g r f) (ho : PE X o (tE g xa W mo)) (ha : PA X (a :: es) (tA g xa W ma))
    (hbase : attributeBase o name X.env (eval o X.env) = eval o X.env := by rfl)
    (hfew : ((backTo pos (starEach (a :: es) X.env)).all (fun x => !x.1) && (backToKw pos (keywordEach [] X.env)).all (fun x => x.1.isSome)
      && decide ((a :: es).length + ([] : List Keyword).length + (if ([] : List Keyword).isEmpty then 0 else 1) < 30)) = true := by rfl)
    (hline : (apos.endLine == pos.line) = true := by rfl) (hs : starEach (a :: es) X.env = (false, eval a X.env) :: starEach es X.env := by rfl) (hplain : (backTo pos (starEach es X.env)).any (·.1) = false := by rfl) :
    PE X (.Call (.Attribute o name apos) (a :: es) [] pos) (tE g xa W (mMeth ty f mo ma)) :=
  (pe_bm pa slot hty hm ho ha hbase hfew hline hs hplain).viaM fun σ H Q h => by
    obtain ⟨ι, S, e, r, S', hs, he, hm, hf'⟩ := h
    refine stepG hs he hm hf' fun d S1 ι1 H1 v h1 p1 x1 s1 e1 r1 f1 => ?_
    split at h1
    · rename_i hty
      refine ⟨hT ι1 S1 H1 d v s1 r1 hty, ?_⟩
      refine stepG s1 e1 h1 f1 fun ds S2 ι2 H2 vs h2 p2 x2 s2 e2 r2 f2 => ?_
      obtain ⟨d', h3, rfl⟩ := liftF_some h2
      exact hf ι2 S2 S' H2 d ds d' v vs Q s2 (R.mono p2 x2 _ _ r1) r2 h3 f2
    · cases h1
def isL (a : D) (S : So) : Bool := match a with
  | .ref n => match S[n]? with
    | some (.lst _) => true
    | _ => false
  | _ => false
theorem isL_ty {K : PySem.W.Frag} {a : D} {S : So} {x : V} (s : Sim g ι S H) (r : R g ι H a x) (h : isL a S = true) : tyV K "list" x H := by
  unfold isL at h
  split at h
  · split at h
    · rename_i xs e
      cases r with
      | ref q =>
        obtain ⟨vs, h1, _⟩ := lst_here s q e
        exact .inl ⟨rfl, vs, SqL.of h1⟩
    · cases h
  · cases h
def isS (a : D) (_ : So) : Bool := match a with
  | .str _ => true
  | _ => false
theorem isS_ty {K : PySem.W.Frag} {a : D} {S : So} {x : V} (r : R g ι H a x) (h : isS a S = true) : tyV K "str" x H := by
  unfold isS at h
  split at h
  · cases r; rfl
  · cases h
def fAppend : FM := fun a ds S => match a, ds with
  | .ref n, [y] => match S[n]? with
    | some (.lst xs) => if xs.length < sizeLine then some (.non, S.set n (.lst (xs ++ [y]))) else none
    | _ => none
  | _, _ => none
/-- a list of the store is rewritten -/
theorem Does.wr {S : So} {n : Nat} {a : Addr} {xs : List D} {vs ws : List V} {d : D} {v : V} {Q : VK} (h : Does g (ρD g) ι H d (S.set n (.lst xs)) Q) (s : Sim g ι S H) (q : ι[n]? = some a) (e : H a = some (.lst ws)) (r : Rs g ι H xs vs) (rd : R g ι H d v) : Q v (upd H a (.lst vs)) := by
  have xw : Ex H (upd H a (.lst vs)) := Ex.wr e (fun _ z => by cases z) (fun _ _ z => by cases z) fun _ z => by cases z
  obtain ⟨sw, _⟩ := s.wr (o' := .lst xs) (q := .lst vs) q ⟨vs, upd_same, Rs.mono (Pre.refl _) xw _ _ r⟩ xw
  exact h ι _ v (Pre.refl _) xw sw (R.mono (Pre.refl _) xw _ _ rd)
theorem f_append : OpM g rAppend fAppend := fun ι S S' H a b d x y Q s ra rb hf hd => by
  unfold fAppend at hf
  split at hf
  · rename_i n y'
    split at hf
    · rename_i xs e
      split at hf
      · rename_i hl
        cases hf
        cases ra with
        | ref q =>
          cases rb with
          | cons r1 r2 =>
            cases r2
            obtain ⟨vs, h1, h2⟩ := lst_here s q e
            exact ⟨_, vs, _, rfl, rfl, h1, by rw [← Rs.length h2]; exact hl, hd.wr s q h1 (h2.append (.cons r1 .nil)) .non⟩
      · cases hf
    · cases hf
  · cases hf
theorem em_append {o a : Expr} {apos : Pos} {mo : MM D} {ma : MM (List D)} (ho : PE X o (tE g xa W mo)) (ha : PA X [a] (tA g xa W ma))
    (hbase : attributeBase o "append" X.env (eval o X.env) = eval o X.env := by rfl)
    (hfew : ((backTo pos (starEach [a] X.env)).all (fun x => !x.1) && (backToKw pos (keywordEach [] X.env)).all (fun x => x.1.isSome)
      && decide ([a].length + ([] : List Keyword).length + (if ([] : List Keyword).isEmpty then 0 else 1) < 30)) = true := by rfl)
    (hline : (apos.endLine == pos.line) = true := by rfl) (hs : starEach [a] X.env = (false, eval a X.env) :: starEach [] X.env := by rfl) (hplain : (backTo pos (starEach [] X.env)).any (·.1) = false := by rfl) :
    PE X (.Call (.Attribute o "append" apos) [a] [] pos) (tE g xa W (mMeth isL fAppend mo ma)) :=
  em_bm PySem.F.plainAttrs_list PySem.F.slot_list_append PySem.F.type_list_append mt_append (fun _ _ _ _ _ s r h => isL_ty s r h) f_append ho ha hbase hfew hline hs hplain
/-- a[i] = v -/
def fSet (a i v : D) (S : So) : Option So := match a, i with
  | .ref n, .int k => match S[n]? with
    | some (.lst xs) => (ixN xs.length k).map fun j => S.set n (.lst (xs.set j v))
    | _ => none
  | _, _ => none
def setS (mv mo mi : MM D) : MS := bindS mv fun v => bindS mo fun o => bindS mi fun i e S => (fSet o i v S).map fun S' => (.nx, e, S')
theorem sm_setix {o i e : Expr} {p' : Pos} {mv mo mi : MM D} (he : PE X e (tE g xa W mv)) (ho : PE X o (tE g xa W mo)) (hi : PE X i (tE g xa W mi))
    (hs : swapsWithSole [.Subscript o i p'] e pos.line X.env = pure false := by rfl) (hw : swappedStores [.Subscript o i p'] e X.env = pure none := by rfl)
    (h1 : (assignEach [.Subscript o i p'] X.env).map (·.2) = [assign (.Subscript o i p') X.env] := by rfl)
    (hA : ∀ v, assign (.Subscript o i p') X.env v = (do
      let ov ← holding [v] (eval o X.env)
      let iv ← holding [v, ov] (eval i X.env)
      standAt p'
      holding [v, ov, iv] (setItem ov iv v)
      release [v, ov, iv] []) := by intro _; rfl) : PS X (.Assign [.Subscript o i p'] e pos) (tS g xa W (setS mv mo mi)) :=
  (ps_asg he (pg_sub ho hi set_list hA) hs hw h1).viaM fun Dd σ H h => by
    obtain ⟨ι, S, e, f, e', S', hs, he, hm, hf⟩ := h
    refine stepS hs he hm hf fun v S1 ι1 H1 vv h1 p1 x1 s1 e1 r1 f1 => ?_
    refine stepS s1 e1 h1 f1 fun o S2 ι2 H2 ov h2 p2 x2 s2 e2 r2 f2 => ?_
    refine stepS s2 e2 h2 f2 fun i S3 ι3 H3 iv h3 p3 x3 s3 e3 r3 f3 => ?_
    cases hq : fSet o i v S3 with
    | none => rw [hq] at h3; cases h3
    | some S4 =>
      rw [hq] at h3
      cases h3
      unfold fSet at hq
      split at hq
      · rename_i n k
        split at hq
        · rename_i xs q
          cases hj : ixN xs.length k with
          | none => rw [hj] at hq; cases hq
          | some j =>
            rw [hj] at hq
            cases hq
            have r2' := R.mono p3 x3 _ _ r2
            have r1' := R.mono p3 x3 _ _ (R.mono p2 x2 _ _ r1)
            cases r2' with
            | ref qa =>
              cases r3
              obtain ⟨vs, h4, h5⟩ := lst_here s3 qa q
              refine ⟨_, vs, k, j, rfl, rfl, h4, by rw [← Rs.length h5]; exact hj, ?_⟩
              have xw : Ex H3 (upd H3 _ (.lst (vs.set j vv))) := Ex.wr h4 (fun _ z => by cases z) (fun _ _ z => by cases z) fun _ z => by cases z
              obtain ⟨sw, _⟩ := s3.wr (o' := .lst (xs.set j v)) (q := .lst (vs.set j vv)) qa ⟨_, upd_same, Rs.mono (Pre.refl _) xw _ _ (h5.set r1' j)⟩ xw
              exact f3 ι3 _ (Pre.refl _) xw sw σ (e3.mono (Pre.refl _) xw)
        · cases hq
      · cases hq
end
end
end DD

set_option Elab.async false
set_option linter.all false
set_option maxRecDepth 100000
namespace DD
open PySem PySem.Spec PyProof.Rows L2

/-! ### defs -/
abbrev FnD := List D → So → Option (Re D × So)
abbrev GK (K : PySem.W.Frag) (mg : Str → Option Value) : G := ⟨K, mg⟩
/-- what a call promises, by a run φ -/
def spM (g : G) (φ : FnD) : Sp := fun vs H Q E => ∃ (ι : List Addr) (S : So) (ds : List D) (r : Re D) (S' : So), Sim g ι S H ∧ Rs g ι H ds vs ∧ φ ds S = some (r, S') ∧ match r with
  | .ok d => Does g (ρD g) ι H d S' Q
  | .ex c fs => ∀ (ι' : List Addr) (H' : Hp) (C dd : Addr) (gs : List (Str × V)), Pre ι ι' → Ex H H' → Sim g ι' S' H' → g.mg c = some (.ref C) → H' dd = some (.xd gs) → Fs g ι' H' fs gs → E (.ref C) (some dd) H'
/-- the def at f runs as φ, where no guard stands -/
structure FnG (P : Program) (w : World) (K : PySem.W.Frag) (mg : Str → Option Value) (base : Heap) (k : Nat) (f : Addr) (fd : FuncData) (ps : List Str) (φ : FnD) : Prop where
  len : ∀ ds S r, φ ds S = some r → ds.length = ps.length
  run : ∀ (A : Around) (outer : List Env) (s : Shared) (H : Hp) (args : Args) (us : List Value) (vs : List V) (Q : VK) (E : XK), Room k A → A.guards = some [] → Env0 P w K mg base A outer s H →
    BindsTo s fd args (ps.zip us) → Vals vs us → spM (GK K mg) φ vs H Q E → codeAny (model P w) A (.call (.ref f) args) (CR (L2.CX P w) outer P w H s Q E) s
theorem FnG.mono {P : Program} {w : World} {K : PySem.W.Frag} {mg : Str → Option Value} {base : Heap} {j k : Nat} {f : Addr} {fd : FuncData} {ps : List Str} {φ : FnD} (F : FnG P w K mg base j f fd ps φ) (h : j ≤ k) : FnG P w K mg base k f fd ps φ :=
  ⟨F.len, fun A outer s H args us vs Q E hr => F.run A outer s H args us vs Q E (hr.mono h)⟩
def startE (n : Nat) (ds : List D) : Sl := ds.map Sv.v ++ List.replicate (n - ds.length) Sv.no
/-- a def of np parameters and n names in all, by its body's run -/
def fnM (np n : Nat) (m : MS) : FnD := fun ds S => if ds.length = np then match m (startE n ds) S with
  | some (.nx, _, S') => some (.ok .non, S')
  | some (.rt d, _, S') => some (.ok d, S')
  | some (.ex c fs, _, S') => some (.ex c fs, S')
  | _ => none else none
section
variable {P : Program} {w : World} {K : PySem.W.Frag} {mg : Str → Option Value} {base : Heap}
theorem er_start {g : G} {xa : Xa} {ι : List Addr} {H : Hp} {ds : List D} {vs : List V} (N : List Str) (r : Rs g ι H ds vs) : Er g xa ι H (startE N.length ds) (L2.start N vs) := by
  have hl := Rs.length r
  refine ⟨by simp [startE, L2.start, hl], fun i y z e1 e2 => ?_⟩
  by_cases hi : i < ds.length
  · unfold startE at e1
    rw [List.getElem?_append_left (by simpa using hi), List.getElem?_map, List.getElem?_eq_getElem hi] at e1
    cases e1
    obtain ⟨v, h1, h2⟩ := Rs.get r (List.getElem?_eq_getElem hi)
    unfold L2.start at e2
    rw [List.getElem?_append_left (by simpa [← hl] using hi), List.getElem?_map, h1] at e2
    cases e2
    exact ⟨v, rfl, h2⟩
  · unfold startE at e1
    rw [List.getElem?_append_right (by simpa using Nat.le_of_not_lt hi), List.getElem?_replicate] at e1
    split at e1
    · cases e1; trivial
    · cases e1
abbrev xa0 : Xa := ⟨0, .none, none⟩
theorem fng_of {x qual : Str} {st : Stmt} {f : Addr} {fd : FuncData} {N ps : List Str} {k : Nat} {m : MS} (F : Fun K x qual st f fd) (Sc : FnScope N ps (defScope st))
    (hb : ∀ (cdv : Value) (A : Around) (outer : List Env) (s : Shared) (H : Hp) (E : XK), Room k (A.deeper (envOfC qual (defScope st) s.heap.objs.size f cdv)) → A.guards = some [] →
      PSs (cxOf (L2.CX P w) P w K mg base N qual (defScope st) f cdv A outer s H E) (defBody st) (tS (GK K mg) xa0 (fun cls d _ H => E cls d H) m)) :
    FnG P w K mg base (k + 1) f fd ps (fnM ps.length N.length m) := by
  obtain ⟨oc, od, kV, doc, pm, an, cdv, ct, osl, rfl, lk, hcd⟩ := F.ex
  have lenOf : ∀ (ds : List D) (S : So) (r : Re D × So), fnM ps.length N.length m ds S = some r → ds.length = ps.length := fun ds S r h => by
    unfold fnM at h
    split at h
    · assumption
    · cases h
  refine ⟨lenOf, fun A outer s H args us vs Q E hr hG e0 hbnd rv hsp => ?_⟩
  obtain ⟨ι, S, ds, r, S', hs, rs, hφ, hf⟩ := hsp
  have hl : vs.length = ps.length := by rw [← Rs.length rs]; exact lenOf _ _ _ hφ
  have inK : K.In s.heap := e0.mod.kin.keeps fun b o q => (e0.bs b o q).1
  have noLim : s.heap.NoLimit := e0.mod.nolimit.keeps fun b o q => (e0.bs b o q).1
  have kinds : ∀ y ∈ ps.zip us, (defScope st).names.lookup y.1 = some .local ∨ ((defScope st).names.lookup y.1 = some .cell ∧ ((cellsFrom (s.heap.objs.size + 1) (defScope st).names []).lookup y.1).isSome = true) := by
    rintro ⟨n, v⟩ hy
    rcases Sc.par n (List.of_mem_zip hy).1 with q | q
    · exact .inl q
    · exact .inr ⟨q, PySem.W.cellsFrom_some _ _ _ (.inl q)⟩
  refine codeAny_call_function hr.depth (inK _ _ lk) rfl Sc.co Sc.gen rfl (PySem.W.codeRec_of inK hcd) (hbnd _ _ _ _ ?_)
  refine wpAny_newFunctionEnv_cells Sc.kind kinds fun env he s1 x => ?_
  subst he
  refine ⟨noLim.keeps x.toInCall.keep, codeAny_func ?_⟩
  have I := inv_start (CX := L2.CX P w) (qual := qual) (f := f) (cd := cdv) (E := E) Sc hr.hd e0 hl rv x
  unfold fnM at hφ
  rw [if_pos (by rw [Rs.length rs, hl])] at hφ
  have main : tS (GK K mg) xa0 (fun cls d _ H => E cls d H) m { nx := fun _ H' => Q .non H', rt := Q } (L2.start N vs) H := by
    split at hφ
    · rename_i e1 S1 q
      cases hφ
      exact ⟨ι, S, _, _, e1, _, hs, er_start N rs, q, fun ι' H' p x s σ' _ => hf ι' H' .non p x s .non⟩
    · rename_i d e1 S1 q
      cases hφ
      exact ⟨ι, S, _, _, e1, _, hs, er_start N rs, q, fun ι' H' p x s v rv => hf ι' H' v p x s rv⟩
    · rename_i c fs e1 S1 q
      cases hφ
      exact ⟨ι, S, _, _, e1, _, hs, er_start N rs, q, fun ι' H' p x s σ' C dd gs _ h1 h2 h3 => hf ι' H' C dd gs p x s h1 h2 h3⟩
    · cases hφ
  refine wpAny_mono ((hb cdv A outer s H E (hr.deeper _) hG).run [] s1 (L2.start N vs) H _ I main) (fun fl s' hq => ?_) fun e s' hq => hq
  cases fl with
  | ret u =>
    obtain ⟨v, σ', H', J, q1, q2⟩ := hq
    exact ⟨v, H', J.os, J.bare, J.base, J.hok, q1, q2⟩
  | next =>
    obtain ⟨σ', H', J, q2⟩ := hq
    exact ⟨.non, H', J.os, J.bare, J.base, J.hok, rfl, q2⟩
  | brk =>
    obtain ⟨σ', H', _, q2⟩ := hq
    exact False.elim q2
  | cont =>
    obtain ⟨σ', H', _, q2⟩ := hq
    exact False.elim q2
end
theorem passM {X : Cx} {E : XK} {W : WX} {σ : L2.St} {pins : List (Addr × Obj)} {H : Hp} {s s' : Shared} {e : Value} (tk : Takes X W) (I : Inv X pins σ H s) (hE : ∀ cls d H', E cls d H' → W cls d σ H') (c : L2.CX X.prog X.w X.stack H s E e s') : X.xe e s' := tk e s' (XE.of_call I hE c)

section
variable {X : Cx} {W : WX} {pos : Pos} {k : Nat} {f : Addr} {fd : FuncData} {ps : List Str} {φ : FnD} {xa : Xa}
abbrev gX (X : Cx) : G := ⟨X.K, X.mg⟩
/-- the callee runs -/
theorem run_fng {pins : List (Addr × Obj)} {σ : L2.St} {H : Hp} {s : Shared} {Q : VK} {us : List Value} {vs : List V} (F : FnG X.prog X.w X.K X.mg X.base k f fd ps φ) (hr : Room k X.A) (hG : X.A.guards = some []) (hb : Binds X.K fd ps []) (tk : Takes X W)
    (I : Inv X pins σ H s) (r : Vals vs us) (h : spM (gX X) φ vs H Q (fun cls d H' => W cls d σ H')) : wpAny (model X.prog X.w) X.A (call (.ref f) us) (EP X pins σ Q) X.xe s := by
  have hl : us.length = ps.length := by
    obtain ⟨ι, S, ds, r', S', hs, rs, hφ, hf⟩ := id h
    rw [← r.length, ← Rs.length rs]
    exact F.len _ _ _ hφ
  have b := hb s us I.kIn (by rw [List.append_nil]; exact hl)
  rw [List.append_nil] at b
  refine wpAny_call (codeAny_mono (F.run X.A X.stack s H ⟨us, []⟩ us vs Q _ hr hG I.env0 b r h) fun r s' hq => ?_)
  cases r with
  | error e => exact passM tk I (fun _ _ _ z => z) hq
  | ok fl => cases fl <;> first | exact I.after hq | exact False.elim hq
def mCall (φ : FnD) (m : MM (List D)) : MM D := bindM m fun ds _ S => φ ds S
theorem call_step {m : MM (List D)} {σ : L2.St} {H : Hp} {Q : VK} (h : tE (gX X) xa W (mCall φ m) σ H Q) : tA (gX X) xa W m σ H fun vs H1 => spM (gX X) φ vs H1 Q (fun cls d H' => W cls d σ H') := by
  obtain ⟨ι, S, e, r, S', hs, he, hm, hf⟩ := h
  refine stepG hs he hm hf fun ds S1 ι1 H1 vs h1 p1 x1 s1 e1 r1 f1 => ?_
  refine ⟨ι1, S1, ds, r, S', s1, r1, h1, ?_⟩
  cases r with
  | ok d => exact f1
  | ex c fs => exact fun ι' H' C dd gs p x s h1 h2 h3 => f1 ι' H' C dd gs p x s h1 h2 h3
theorem em_call {x : Str} {p : Pos} {e : Expr} {es : List Expr} {m : MM (List D)} (F : FnG X.prog X.w X.K X.mg X.base k f fd ps φ) (hr : Room k X.A) (hG : X.A.guards = some []) (tk : Takes X W) (hm : X.mg x = some (.ref f)) (hk : PySem.W.keepIn X.K (.ref f) = true) (hb : Binds X.K fd ps [])
    (ha : PA X (e :: es) (tA (gX X) xa W m)) (hg : Gl X x := by rfl) (hdb : (x == ("__debug__" : Str)) = false := by decide) (he : starEach (e :: es) X.env = (false, eval e X.env) :: starEach es X.env := by rfl) (hpl : (backTo pos (starEach es X.env)).any (·.1) = false := by rfl) :
    PE X (.Call (.Name x p) (e :: es) [] pos) (tE (gX X) xa W (mCall φ m)) := by
  refine ⟨fun pins s σ H Q I h => wpAny_Call_Name_kw (ld_glob I hg hm ?_ hdb)⟩
  refine PySem.W.callWith_K (h₀ := X.base) I.ok.mod.kin hk (thn (ha.run pos pins s σ H _ I (call_step h)) fun us s1 ⟨vs, H1, I1, r, q⟩ => ⟨I1.kIn, ?_⟩) he hpl
  exact run_fng F hr hG hb tk I1 r q
theorem em_call0 {x : Str} {p : Pos} (F : FnG X.prog X.w X.K X.mg X.base k f fd ps φ) (hr : Room k X.A) (hG : X.A.guards = some []) (tk : Takes X W) (hm : X.mg x = some (.ref f)) (hk : PySem.W.keepIn X.K (.ref f) = true) (hb : Binds X.K fd ps []) (hg : Gl X x := by rfl) (hdb : (x == ("__debug__" : Str)) = false := by decide) :
    PE X (.Call (.Name x p) [] [] pos) (tE (gX X) xa W (mCall φ mNil)) := by
  refine ⟨fun pins s σ H Q I h => wpAny_Call_Name_kw (ld_glob I hg hm ?_ hdb)⟩
  obtain ⟨ι, S, e, r, S', hs, he, hm, hf⟩ := h
  refine PySem.W.callWith_K0 I.kIn hk (run_fng (us := []) (vs := []) F hr hG hb tk I .nil ⟨ι, S, [], r, S', hs, .nil, hm, ?_⟩)
  cases r with
  | ok d => exact hf
  | ex c fs => exact fun ι' H' C dd gs p x s h1 h2 h3 => hf ι' H' C dd gs p x s h1 h2 h3
end
end DD

set_option Elab.async false
set_option linter.all false
set_option maxRecDepth 100000
namespace DD
open PySem PySem.Spec PyProof.Rows L2

abbrev TyN := String ⊕ Str
/-- what is known of the classes -/
structure Tab where
  kit : TyN → TyN → Option Bool
  catches : Str → Str → Option Bool
  attr : Str → Str → Bool
  ins : Str → Bool
  exc : Str → Bool
  xattr : Str → Str → Bool
def ValOf (g : G) (t : TyN) (v : Value) : Prop := match t with
  | .inl n => v = .type n
  | .inr x => ∃ C, g.mg x = some (.ref C) ∧ v = .ref C
/-- what isinstance asks of an instance's class -/
structure InsK (K : PySem.W.Frag) (C : Addr) : Prop where
  cl : Cls K C
  ha : PySem.W.findIn K (.ref C) "__class__" = some (some (.builtin "object.__class__"))
  hn : PySem.W.specialIn K (.builtin "object.__class__") "__get__" = some (some (.builtin "getset_descriptor.__get__"))
  ht : PySem.W.takesIn K (.builtin "object.__class__") = some true
  hm : PySem.W.mroIn K C (.type "object") = some true
structure Facts (g : G) (T : Tab) : Prop where
  kit : ∀ t c b tv cv, T.kit t c = some b → ValOf g t tv → ValOf g c cv → PySem.W.kitOne g.K tv cv = some b
  attr : ∀ c f C, T.attr c f = true → g.mg c = some (.ref C) → Cls g.K C ∧ NoAttr g.K C f
  ins : ∀ c C, T.ins c = true → g.mg c = some (.ref C) → InsK g.K C
  exc : ∀ c C, T.exc c = true → g.mg c = some (.ref C) → ExcC g.K C
  xattr : ∀ c f C, T.xattr c f = true → g.mg c = some (.ref C) → XfC g.K C ∧ PySem.W.findIn g.K (.ref C) f = some none

def tyOf (T : Tab) (d : D) (S : So) : Option TyN := match d with
  | .non => some (.inl "NoneType")
  | .bl _ => some (.inl "bool")
  | .int _ => some (.inl "int")
  | .str _ => some (.inl "str")
  | .tup _ => some (.inl "tuple")
  | .rol _ => some (.inl "list")
  | .ref n => match S[n]? with
    | some (.lst _) => some (.inl "list")
    | some (.dct _) => some (.inl "dict")
    | some (.ins c _) => if T.ins c = true then some (.inr c) else none
    | _ => none
  | _ => none
def clsN (d : D) : Option TyN := match d with
  | .ty n => some (.inl n)
  | .glo x => some (.inr x)
  | _ => none
def kitAll (T : Tab) (t : TyN) : List D → Option Bool
  | [] => some false
  | c :: cs => match clsN c with
    | some n => match T.kit t n, kitAll T t cs with
      | some b, some r => some (b || r)
      | _, _ => none
    | none => none
def fIsi (T : Tab) : FA := fun ds S => match ds with
  | [x, .tup cs] => match tyOf T x S with
    | some t => (kitAll T t cs).map fun b => (.bl b, S)
    | none => none
  | [x, c] => match tyOf T x S, clsN c with
    | some t, some n => (T.kit t n).map fun b => (.bl b, S)
    | _, _ => none
  | _ => none
section
variable {X : Cx} {g : G} {xa : Xa} {W : WX} {pos : Pos} {ι : List Addr} {H : Hp} {T : Tab}
theorem frz_ty {a : Addr} {xs : List V} (q : SqF g.K H a xs) : TyX g.K H (.ref a) (.type "list") := by
  rcases q with ⟨o, q⟩ | ⟨o, its, n, h1, h2, _⟩
  · exact .base (.frz q)
  · exact .kList h1 h2
theorem tup_ty {a : Addr} {xs : List V} (q : SqU g.K H a xs) : TyX g.K H (.ref a) (.type "tuple") := by
  rcases q with q | ⟨o, its, n, h1, h2, _⟩
  · exact .base (.tup q)
  · exact .kTuple h1 h2
theorem tyOf_R (F : Facts g T) {d : D} {S : So} {v : V} {t : TyN} (s : Sim g ι S H) (r : R g ι H d v) (h : tyOf T d S = some t) : ∃ tv, ValOf g t tv ∧ TyX g.K H v tv := by
  unfold tyOf at h
  split at h
  · cases h; cases r; exact ⟨_, rfl, .base .non⟩
  · cases h; cases r; exact ⟨_, rfl, .base (.bl _)⟩
  · cases h; cases r; exact ⟨_, rfl, .base (.int _)⟩
  · cases h; cases r; exact ⟨_, rfl, .base (.str _)⟩
  · cases h
    cases r with
    | tup h1 h2 => exact ⟨_, rfl, tup_ty h1⟩
  · cases h
    cases r with
    | rol h1 h2 => exact ⟨_, rfl, frz_ty h1⟩
  · rename_i n
    cases r with
    | ref q =>
      split at h
      · rename_i xs e
        cases h
        obtain ⟨vs, h1, _⟩ := lst_here s q e
        exact ⟨_, rfl, .base (.lst h1)⟩
      · rename_i kvs e
        cases h
        obtain ⟨vs, h1, _⟩ := s.obj _ _ _ q e
        exact ⟨_, rfl, .base (.dK h1)⟩
      · rename_i c fs e
        split at h
        · rename_i hc
          cases h
          obtain ⟨C, dx, gs, h1, h2, _⟩ := s.obj _ _ _ q e
          have k := F.ins c C hc h2
          exact ⟨.ref C, ⟨C, h2, rfl⟩, .base (.ins h1 k.cl k.ha k.hn k.ht k.hm)⟩
        · cases h
      · cases h
  · cases h
theorem cls_R {d : D} {v : V} {n : TyN} (r : R g ι H d v) (h : clsN d = some n) (hc : ∃ tv, ValOf g n tv) : ∃ cv, ValOf g n cv ∧ ClsV v cv := by
  unfold clsN at h
  split at h
  · cases h; cases r; exact ⟨_, rfl, .ty _⟩
  · cases h
    cases r with
    | glo h1 h2 =>
      obtain ⟨tv, C, h3, _⟩ := hc
      rw [h1] at h3
      cases h3
      cases v with
      | ref a => cases h2; exact ⟨_, ⟨_, h1, rfl⟩, .own _⟩
      | non => cases h2
      | bl _ => cases h2
      | int _ => obtain ⟨_, q⟩ := h2; cases q
      | str _ => obtain ⟨_, q⟩ := h2; cases q
      | byt _ => obtain ⟨_, q⟩ := h2; cases q
      | flt _ => obtain ⟨_, q⟩ := h2; cases q
      | ty _ => cases h2
  · cases h
/-- a class that is named is one -/
def Named (g : G) (T : Tab) : Prop := ∀ t n b, T.kit t n = some b → ∃ cv, ValOf g n cv
theorem kitAll_R (F : Facts g T) (nm : Named g T) {t : TyN} {tv : Value} (ht : ValOf g t tv) : ∀ {cs : List D} {vs : List V} {b : Bool}, Rs g ι H cs vs → kitAll T t cs = some b → ∃ us, Paired ClsV vs us ∧ PySem.W.kitAny g.K tv us = some b
  | [], _, b, r, h => by
    cases r
    cases h
    exact ⟨[], .nil, kitAny_nil⟩
  | c :: cs, _, b, r, h => by
    cases r with
    | cons r1 r2 =>
      unfold kitAll at h
      split at h
      · rename_i n e1
        split at h
        · rename_i b1 b2 e2 e3
          cases h
          obtain ⟨cv, h1, h2⟩ := cls_R r1 e1 (nm t n b1 e2)
          obtain ⟨us, h3, h4⟩ := kitAll_R F nm ht r2 e3
          refine ⟨cv :: us, .cons h2 h3, kitAny_cons (F.kit t n b1 tv cv e2 ht h1) (fun z => ?_) fun z => ?_⟩
          · subst z; rw [Bool.false_or]; exact h4
          · subst z; rfl
        · cases h
      · cases h
theorem f_isi (F : Facts g T) (nm : Named g T) : OpA g (fun xs H Q => rIsi g.K xs H Q ∨ rIsiT g.K xs H Q ∨ rIsiK g.K xs H Q) (fIsi T) := fun ι S S' H a d x Q s r hf hd => by
  unfold fIsi at hf
  split at hf
  · rename_i y cs
    cases r with
    | cons r1 r =>
      cases r with
      | cons r2 r =>
        cases r
        split at hf
        · rename_i t et
          cases hk : kitAll T t cs with
          | none => rw [hk] at hf; cases hf
          | some b =>
            rw [hk] at hf
            cases hf
            obtain ⟨tv, h1, h2⟩ := tyOf_R F s r1 et
            cases r2 with
            | tup q1 q2 =>
              obtain ⟨us, h3, h4⟩ := kitAll_R F nm h1 q2 hk
              rcases q1 with q1 | ⟨o, its, n, k1, k2, k3, _, k4⟩
              · exact .inr (.inl ⟨_, _, _, tv, us, b, rfl, q1, h3, h2, h4, hd.here s (.bl _)⟩)
              · have e : its.toList = us := ClsV.all h3 k4
                obtain ⟨oc, od, dt, sl⟩ := o
                dsimp only at k2 k3
                subst k2 k3 e
                exact .inr (.inr ⟨_, _, od, its.toList, n, sl, tv, b, rfl, by rw [Array.toArray_toList]; exact k1, h2, h4, hd.here s (.bl _)⟩)
        · cases hf
  · rename_i y c hn
    cases r with
    | cons r1 r =>
      cases r with
      | cons r2 r =>
        cases r
        split at hf
        · rename_i t n et en
          cases hk : T.kit t n with
          | none => rw [hk] at hf; cases hf
          | some b =>
            rw [hk] at hf
            cases hf
            obtain ⟨tv, h1, h2⟩ := tyOf_R F s r1 et
            obtain ⟨cv, h3, h4⟩ := cls_R r2 en (nm t n b hk)
            exact .inl ⟨_, _, tv, cv, b, rfl, h4, h2, F.kit t n b tv cv hk h1 h3, hd.here s (.bl _)⟩
        · cases hf
  · cases hf
end
end DD

set_option Elab.async false
set_option linter.all false
set_option maxRecDepth 100000
namespace DD
open PySem PySem.Spec PyProof.Rows L2
section
variable {X : Cx} {g : G} {xa : Xa} {W : WX} {pos : Pos} {ι : List Addr} {H : Hp} {T : Tab}
/-! ### isinstance, repr, join, all, any -/
theorem call_isiM (hK : X.K = g.K) : CallR X (.builtin "isinstance") (fun xs H Q => rIsi g.K xs H Q ∨ rIsiT g.K xs H Q ∨ rIsiK g.K xs H Q) := by
  rw [← hK]; exact call_isi.or (call_isiT.or call_isiK)
/-- a built-in class as a value -/
theorem em_ty {x : Str} {n : String} (hm : X.mg x = none) (hv : bootBuiltins x = some (.type n) := by decide +kernel) (hg : Gl X x := by rfl) (hn : x ≠ "__name__" := by decide) (hd : (x == ("__debug__" : Str)) = false := by decide) : PE X (.Name x pos) (tE g xa W (retM (.ty n))) :=
  em_const (pe_bltn (v := .ty n) hg hm hv rfl hn hd) fun _ _ => .ty n
def okShow (p : PyData) : Bool := p.showable && (!p.hasDict && (decide (p.depth ≤ 64) && decide (p.shown.length ≤ sizeLine)))
def fRepr : FA := fun ds S => match ds with
  | [a] => match py a S with
    | some p => if okShow p = true then some (.str p.shown, S) else none
    | none => none
  | _ => none
def rRepr (K : PySem.W.Frag) : List V → Hp → VK → Prop := fun xs H Q => ∃ x p, xs = [x] ∧ Dp K H x p ∧ okShow p = true ∧ Q (.str p.shown) H
theorem call_reprM (hG : X.A.guards = some []) (hu : X.A.units + 66 < cLine) : CallR X (.builtin "repr") (rRepr X.K) := by
  intro pins s σ H xs us Q I r h
  obtain ⟨x, p, rfl, hd, ok, q⟩ := h
  obtain ⟨u, rfl, ru⟩ := vals1 r
  unfold okShow at ok
  simp only [Bool.and_eq_true, Bool.not_eq_true', decide_eq_true_eq] at ok
  obtain ⟨o1, o2, o3, o4⟩ := ok
  obtain ⟨as, rd⟩ := Dp.reads I p x u hd ru
  cases hd with
  | non => cases ru; exact PySem.P.repr_of_none ⟨V.str _, H, I.tok _, ⟨_, rfl⟩, by rw [PyData.shown_none] at q; exact q⟩
  | bl b =>
    cases ru
    rw [PyData.shown_bool] at q
    cases b with
    | true => exact PySem.P.repr_of_bool (b := true) ⟨V.str _, H, I.tok _, ⟨_, rfl⟩, q⟩
    | false => exact PySem.P.repr_of_bool (b := false) ⟨V.str _, H, I.tok _, ⟨_, rfl⟩, q⟩
  | int i =>
    obtain ⟨t, rfl⟩ := ru
    rw [PyData.shown_int] at q
    exact PySem.P.repr_of_int (by simpa [PyData.showable] using o1) ⟨V.str _, H, I.tok _, ⟨_, rfl⟩, q⟩
  | str z =>
    obtain ⟨t, rfl⟩ := ru
    rw [PyData.shown_str] at q o4
    exact PySem.P.repr_of_str ⟨V.str _, H, I.tok _, ⟨_, rfl⟩, q⟩ o4
  | lst h1 h2 =>
    cases ru
    exact repr_of_reads' rd o1 (PyData.noDict_hsm o2) hG (by omega) (fun _ _ e => e) (fun h' u tk hk => ⟨V.str _, H, I.kept (t' := tk) hk, ⟨u, rfl⟩, q⟩) o4
  | tup h1 h2 =>
    cases ru
    exact repr_of_reads' rd o1 (PyData.noDict_hsm o2) hG (by omega) (fun _ _ e => e) (fun h' u tk hk => ⟨V.str _, H, I.kept (t' := tk) hk, ⟨u, rfl⟩, q⟩) o4
theorem f_repr : OpA g (rRepr g.K) fRepr := fun ι S S' H a d x Q s r hf hd => by
  unfold fRepr at hf
  split at hf
  · split at hf
    · rename_i p e
      split at hf
      · rename_i ok
        cases hf
        cases r with
        | cons r1 r2 => cases r2; exact ⟨_, p, rfl, toPy_R s 9 _ _ p e r1, ok, hd.here s (.str _)⟩
      · cases hf
    · cases hf
  · cases hf
theorem call_reprG (hK : X.K = g.K) (hG : X.A.guards = some []) (hu : X.A.units + 66 < cLine) : CallR X (.builtin "repr") (rRepr g.K) := by rw [← hK]; exact call_reprM hG hu
def strsOf : List D → Option (List Str)
  | [] => some []
  | .str x :: r => (strsOf r).map (x :: ·)
  | _ => none
theorem strsOf_R : ∀ {ds : List D} {vs : List V} {xs : List Str}, Rs g ι H ds vs → strsOf ds = some xs → vs = xs.map V.str
  | [], _, _, r, h => by cases h; cases r; rfl
  | d :: ds, _, xs, r, h => by
    cases d with
    | str z =>
      cases r with
      | cons r1 r2 =>
        have h' : (strsOf ds).map (z :: ·) = some xs := h
        cases e : strsOf ds with
        | none => rw [e] at h'; cases h'
        | some ys =>
          rw [e] at h'
          cases h'
          cases r1
          rw [strsOf_R r2 e]
          rfl
    | _ => cases h
def fJoin : FM := fun a ds S => match a, ds with
  | .str z, [b] => match seqOf b S with
    | some (_, xs) => match strsOf xs with
      | some ys => if (ys.map (·.length)).sum + ys.length * z.length ≤ 16777216 then some (.str (Txt.join z ys), S) else none
      | none => none
    | none => none
  | _, _ => none
theorem f_join : OpM g (fun x xs H Q => ∃ a p, ∃ ys : List Str, x = .str a ∧ xs = [.ref p] ∧ (SqL g.K H p (ys.map V.str) ∨ SqT g.K H p (ys.map V.str)) ∧ (ys.map (·.length)).sum + ys.length * a.length ≤ 16777216 ∧ Q (.str (Txt.join a ys)) H) fJoin := fun ι S S' H a b d x y Q s ra rb hf hd => by
  unfold fJoin at hf
  split at hf
  · split at hf
    · rename_i k xs e
      split at hf
      · rename_i ys e2
        split at hf
        · rename_i hl
          cases hf
          cases ra
          cases rb with
          | cons r1 r2 =>
            cases r2
            obtain ⟨p, vs, rfl, r, t1, l1⟩ := seqOf_R e s r1
            have ev := strsOf_R r e2
            subst ev
            refine ⟨_, p, ys, rfl, rfl, ?_, hl, hd.here s (.str _)⟩
            cases k with
            | true => exact .inr (t1 rfl).t
            | false => exact .inl (l1 rfl)
        · cases hf
      · cases hf
    · cases hf
  · cases hf
theorem mt_joinM (hK : X.K = g.K) : MtR X "str.join" (fun x xs H Q => ∃ a p, ∃ ys : List Str, x = .str a ∧ xs = [.ref p] ∧ (SqL g.K H p (ys.map V.str) ∨ SqT g.K H p (ys.map V.str)) ∧ (ys.map (·.length)).sum + ys.length * a.length ≤ 16777216 ∧ Q (.str (Txt.join a ys)) H) := by rw [← hK]; exact mt_join
def blsOf : List D → Option (List Bool)
  | [] => some []
  | .bl x :: r => (blsOf r).map (x :: ·)
  | _ => none
theorem blsOf_R : ∀ {ds : List D} {vs : List V} {xs : List Bool}, Rs g ι H ds vs → blsOf ds = some xs → vs = xs.map V.bl
  | [], _, _, r, h => by cases h; cases r; rfl
  | d :: ds, _, xs, r, h => by
    cases d with
    | bl z =>
      cases r with
      | cons r1 r2 =>
        have h' : (blsOf ds).map (z :: ·) = some xs := h
        cases e : blsOf ds with
        | none => rw [e] at h'; cases h'
        | some ys =>
          rw [e] at h'
          cases h'
          cases r1
          rw [blsOf_R r2 e]
          rfl
    | _ => cases h
def fAllB (k : List Bool → Bool) : FA := fun ds S => match ds with
  | [b] => match seqOf b S with
    | some (false, xs) => match blsOf xs with
      | some ys => some (.bl (k ys), S)
      | none => none
    | _ => none
  | _ => none
theorem f_allB {k : List Bool → Bool} : OpA g (fun vs H Q => ∃ (a : Addr) (bs : List Bool), vs = [V.ref a] ∧ SqL g.K H a (bs.map V.bl) ∧ Q (.bl (k bs)) H) (fAllB k) := fun ι S S' H a d x Q s r hf hd => by
  unfold fAllB at hf
  split at hf
  · split at hf
    · rename_i xs e
      split at hf
      · rename_i ys e2
        cases hf
        cases r with
        | cons r1 r2 =>
          cases r2
          obtain ⟨p, vs, rfl, r, t1, l1⟩ := seqOf_R e s r1
          have ev := blsOf_R r e2
          subst ev
          exact ⟨p, ys, rfl, l1 rfl, hd.here s (.bl _)⟩
      · cases hf
    · cases hf
  · cases hf
abbrev fAll : FA := fAllB fun bs => bs.all id
abbrev fAny : FA := fAllB fun bs => bs.any id
theorem call_allM (hK : X.K = g.K) (hc : X.calm = true) : CallR X (.builtin "all") (fun vs H Q => ∃ (a : Addr) (bs : List Bool), vs = [V.ref a] ∧ SqL g.K H a (bs.map V.bl) ∧ Q (.bl (bs.all id)) H) := by rw [← hK]; exact cr_all hc
theorem call_anyM (hK : X.K = g.K) (hc : X.calm = true) : CallR X (.builtin "any") (fun vs H Q => ∃ (a : Addr) (bs : List Bool), vs = [V.ref a] ∧ SqL g.K H a (bs.map V.bl) ∧ Q (.bl (bs.any id)) H) := by rw [← hK]; exact cr_any hc
/-! ### attributes -/
def fFld (T : Tab) (f : Str) : F1 := fun a S => match a with
  | .ref n => match S[n]? with
    | some (.ins c fs) => if T.attr c f = true then (fs.lookup f).map fun d => (d, S) else none
    | _ => none
  | _ => none
theorem em_fld {e : Expr} {f : Str} {m : MM D} (F : Facts g T) (he : PE X e (tE g xa W m)) (hK : X.K = g.K := by rfl) (hb : attributeBase e f X.env (eval e X.env) = eval e X.env := by rfl) : PE X (.Attribute e f pos) (tE g xa W (mOp1 (fFld T f) m)) :=
  (pe_fld he hb).viaM fun σ H Q h => by
    refine op1_step (r := fun x H1 Q => ∃ a C dx fs v, x = .ref a ∧ H1 a = some (.ins C dx fs) ∧ Cls X.K C ∧ NoAttr X.K C f ∧ fs.lookup f = some v ∧ Q v H1) (fun ι S S' H a d x Q s r hf hd => ?_) h
    unfold fFld at hf
    split at hf
    · split at hf
      · rename_i c fs e
        split at hf
        · rename_i ha
          cases hl : fs.lookup f with
          | none => rw [hl] at hf; cases hf
          | some z =>
            rw [hl] at hf
            cases hf
            cases r with
            | ref q =>
              obtain ⟨C, dx, gs, h1, h2, h3⟩ := s.obj _ _ _ q e
              obtain ⟨v, h4, h5⟩ := h3.look hl
              obtain ⟨k1, k2⟩ := F.attr c f C ha h2
              rw [hK]
              exact ⟨_, C, dx, gs, v, rfl, h1, k1, k2, h4, hd.here s h5⟩
        · cases hf
      · cases hf
    · cases hf
/-- o.f = e -/
def fldS (T : Tab) (f : Str) (mv mo : MM D) : MS := bindS mv fun v => bindS mo fun o e S => match o with
  | .ref n => match S[n]? with
    | some (.ins c fs) => if T.attr c f = true ∧ fs.length < 1000 then some (.nx, e, S.set n (.ins c (putD f v fs))) else none
    | _ => none
  | _ => none
theorem sm_fld {o e : Expr} {f : Str} {p' : Pos} {mv mo : MM D} (F : Facts g T) (he : PE X e (tE g xa W mv)) (ho : PE X o (tE g xa W mo)) (hK : X.K = g.K := by rfl) (hs : swapsWith e (some (.Attribute o f p')) pos.line X.env = pure false := by rfl) :
    PS X (.Assign [.Attribute o f p'] e pos) (tS g xa W (fldS T f mv mo)) := (ps_fld ho he hs).viaM fun Dd σ H h => by
  obtain ⟨ι, S, e, f', e', S', hs, he, hm, hf⟩ := h
  refine stepS hs he hm hf fun v S1 ι1 H1 vv h1 p1 x1 s1 e1 r1 f1 => ?_
  refine stepS s1 e1 h1 f1 fun o S2 ι2 H2 ov h2 p2 x2 s2 e2 r2 f2 => ?_
  split at h2
  · split at h2
    · rename_i c fs q
      split at h2
      · rename_i hc
        cases h2
        cases r2 with
        | ref qa =>
          obtain ⟨C, dx, gs, h3, h4, h5⟩ := s2.obj _ _ _ qa q
          obtain ⟨k1, k2⟩ := F.attr c f C hc.1 h4
          rw [hK]
          refine ⟨_, C, dx, gs, rfl, h3, k1, k2, by rw [← h5.length]; exact hc.2, ?_⟩
          have xw : Ex H2 (upd H2 _ (.ins C dx (putF f vv gs))) := Ex.wr h3 (fun _ z => by cases z) (fun _ _ z => by cases z) fun _ z => by cases z
          obtain ⟨sw, _⟩ := s2.wr (o' := .ins c (putD f v fs)) (q := .ins C dx (putF f vv gs)) qa ⟨C, dx, _, upd_same, h4, (h5.mono (Pre.refl _) xw).put (R.mono (Pre.refl _) xw _ _ (R.mono p2 x2 _ _ r1))⟩ xw
          exact f2 ι2 _ (Pre.refl _) xw sw σ (e2.mono (Pre.refl _) xw)
      · cases h2
    · cases h2
  · cases h2
end

/-! ### own instances made -/
section
variable {X : Cx} {W : WX} {pos : Pos} {k : Nat} {f C : Addr} {fd : FuncData} {ps : List Str} {φ : FnD} {xa : Xa}
theorem guards_make {A : Around} {args : Args} (h : A.guards = some []) : (A.under (.builtin "type.__call__" args)).guards = some [] := by
  have e : pushGuards (Code.builtin "type.__call__" args).guards A.guards = A.guards := by
    first | rfl | simp [Code.guards, Code.isGuard, guardIds, pushGuards]
  exact e.trans h
def makeF (c : Str) (φ : FnD) : FnD := fun ds S => match φ (.ref S.length :: ds) (S ++ [.ins c []]) with
  | some (.ok .non, S') => some (.ok (.ref S.length), S')
  | some (.ex c fs, S') => some (.ex c fs, S')
  | _ => none
theorem run_makeM {x : Str} {pins : List (Addr × Obj)} {σ : L2.St} {H : Hp} {s : Shared} {Q : VK} {us : List Value} {vs : List V} (M : Mk X.K C f) (F : FnG X.prog X.w X.K X.mg X.base k f fd ps φ) (hr : Room (k + 1) X.A) (hG : X.A.guards = some []) (hm : X.mg x = some (.ref C)) (hb : Binds X.K fd ps []) (tk : Takes X W)
    (I : Inv X pins σ H s) (r : Vals vs us) (h : spM (gX X) (makeF x φ) vs H Q (fun cls d H' => W cls d σ H')) : wpAny (model X.prog X.w) X.A (call (.ref C) us) (EP X pins σ Q) X.xe s := by
  obtain ⟨ι, S, ds, re, S', hs, rs, hφ, hf⟩ := h
  have nx : H (s.heap.objs.size + 1) = none := I.hok.fresh (Nat.le_succ _)
  have nd : H s.heap.objs.size = none := I.hok.fresh (Nat.le_refl _)
  have ne : s.heap.objs.size ≠ s.heap.objs.size + 1 := Nat.ne_of_lt (Nat.lt_succ_self _)
  have I2 := Inv.made (C := C) I
  have sD : Sim (gX X) ι S (upd H s.heap.objs.size (.own (s.heap.objs.size + 1))) := hs.tup nd
  have nx2 : upd H s.heap.objs.size (.own (s.heap.objs.size + 1)) (s.heap.objs.size + 1) = none := by rw [upd_ne (Ne.symm ne)]; exact nx
  have xD : Ex H (upd H s.heap.objs.size (.own (s.heap.objs.size + 1))) := Ex.new nd
  have xN := xD.trans (Ex.new (o := .ins C s.heap.objs.size []) nx2)
  have sN : Sim (gX X) (ι ++ [s.heap.objs.size + 1]) (S ++ [.ins x []]) (upd (upd H s.heap.objs.size (.own (s.heap.objs.size + 1))) (s.heap.objs.size + 1) (.ins C s.heap.objs.size [])) :=
    sD.new (Ex.new nx2) (fun n a q => upd_ne (sD.fresh nx2 q)) nx2 ⟨C, _, [], upd_same, hm, .nil⟩
  have aN : (ι ++ [s.heap.objs.size + 1])[S.length]? = some (s.heap.objs.size + 1) := hs.newAt
  have pN := Pre.app ι [s.heap.objs.size + 1]
  have r2 : Vals (V.ref (s.heap.objs.size + 1) :: vs) (Value.ref (s.heap.objs.size + 1) :: us) := .cons rfl r
  unfold makeF at hφ
  have lenA : (Value.ref (s.heap.objs.size + 1) :: us).length = ps.length := by
    rw [← r2.length]
    cases q : φ (.ref S.length :: ds) (S ++ [.ins x []]) with
    | none => rw [q] at hφ; cases hφ
    | some z =>
      have := F.len _ _ _ q
      rw [← this]
      simp [Rs.length rs]
  have bnd := hb ({ s with heap := (s.heap.push PySem.W.emptyDict).push (PySem.W.instObj C s.heap.objs.size) }) (Value.ref (s.heap.objs.size + 1) :: us) I2.kIn (by rw [List.append_nil]; exact lenA)
  rw [List.append_nil] at bnd
  have sp : spM (gX X) φ (V.ref (s.heap.objs.size + 1) :: vs) (upd (upd H s.heap.objs.size (.own (s.heap.objs.size + 1))) (s.heap.objs.size + 1) (.ins C s.heap.objs.size [])) (fun v H2 => v = .non ∧ Q (.ref (s.heap.objs.size + 1)) H2) (fun cls d H' => W cls d σ H') := by
    split at hφ
    · rename_i S2 q
      cases hφ
      refine ⟨_, _, _, _, _, sN, .cons (.ref aN) (Rs.mono pN xN _ _ rs), q, fun ι' H' v p x s r => ?_⟩
      cases r
      exact ⟨rfl, hf ι' H' _ (pN.trans p) (xN.trans x) s (.ref (p _ _ aN))⟩
    · rename_i c fs S2 q
      cases hφ
      exact ⟨_, _, _, _, _, sN, .cons (.ref aN) (Rs.mono pN xN _ _ rs), q, fun ι' H' C' dd gs p x s => hf ι' H' C' dd gs (pN.trans p) (xN.trans x) s⟩
    · cases hφ
  refine wpAny_call (make_map (f := f) I.kIn M.makes M.init (beq_iff_eq.mp M.fn) (codeAny_mono (F.run _ X.stack _ _ ⟨Value.ref (s.heap.objs.size + 1) :: us, []⟩ _ _ _ _ (hr.make C us []) (guards_make hG) (I2.env0.make C us []) bnd r2 sp) fun res s' hq => ?_))
  cases res with
  | error e => exact passM tk I2 (fun _ _ _ z => z) hq
  | ok fl => cases fl with
    | ret u =>
      obtain ⟨v, H', I3, rv, ev, q3⟩ := I2.after hq
      subst ev
      exact ⟨rv, ⟨V.ref (s.heap.objs.size + 1), H', I3, rfl, q3⟩⟩
    | next => exact False.elim hq
    | brk => exact False.elim hq
    | cont => exact False.elim hq
theorem em_make {x : Str} {p : Pos} {e : Expr} {es : List Expr} {m : MM (List D)} (M : Mk X.K C f) (F : FnG X.prog X.w X.K X.mg X.base k f fd ps φ) (hr : Room (k + 1) X.A) (hG : X.A.guards = some []) (tk : Takes X W) (hm : X.mg x = some (.ref C)) (hb : Binds X.K fd ps [])
    (ha : PA X (e :: es) (tA (gX X) xa W m)) (hg : Gl X x := by rfl) (hdb : (x == ("__debug__" : Str)) = false := by decide) (he : starEach (e :: es) X.env = (false, eval e X.env) :: starEach es X.env := by rfl) (hpl : (backTo pos (starEach es X.env)).any (·.1) = false := by rfl) :
    PE X (.Call (.Name x p) (e :: es) [] pos) (tE (gX X) xa W (mCall (makeF x φ) m)) := by
  refine ⟨fun pins s σ H Q I h => wpAny_Call_Name_kw (ld_glob I hg hm ?_ hdb)⟩
  refine PySem.W.callWith_K (h₀ := X.base) I.ok.mod.kin M.kp (thn (ha.run pos pins s σ H _ I (call_step h)) fun us s1 ⟨vs, H1, I1, r, q⟩ => ⟨I1.kIn, ?_⟩) he hpl
  exact run_makeM M F hr hG hm hb tk I1 r q
/-- o.m(e, ..), the class of o is named c -/
def mMth (c m : Str) (φ : FnD) (mo : MM D) (ma : MM (List D)) : MM D := bindM mo fun o e S => match o with
  | .ref n => match S[n]? with
    | some (.ins c' fs) => if c' = c ∧ fs.lookup m = none then bindM ma (fun ds _ S => φ (.ref n :: ds) S) e S else none
    | _ => none
  | _ => none
theorem em_meth {c m : Str} {o e : Expr} {es : List Expr} {apos : Pos} {mo : MM D} {ma : MM (List D)} {pl : Sem Bool} (he : PE X o (tE (gX X) xa W mo)) (cl : Cls X.K C) (hm : Meth X.K C m f) (hC : X.mg c = some (.ref C)) (F : FnG X.prog X.w X.K X.mg X.base k f fd ps φ) (hr : Room k X.A) (hG : X.A.guards = some []) (tk : Takes X W) (hb : Binds X.K fd ps []) (ha : PA X (e :: es) (tA (gX X) xa W ma))
    (hst : starEach (e :: es) X.env = (false, eval e X.env) :: starEach es X.env := by rfl) (hpl : (backTo pos (starEach es X.env)).any (·.1) = false := by rfl)
    (ht : eval (.Call (.Attribute o m apos) (e :: es) [] pos) X.env = (do
      let ov ← eval o X.env
      standAt apos.atName
      let (f, first) ← holding [ov] (getMethod ov m pl)
      callWith pos f first (backTo pos (starEach (e :: es) X.env)) (backToKw pos (keywordEach [] X.env))) := by rfl) :
    PE X (.Call (.Attribute o m apos) (e :: es) [] pos) (tE (gX X) xa W (mMth c m φ mo ma)) := by
  refine ⟨fun pins s σ H Q I h => ?_⟩
  obtain ⟨ι, S, ev, r, S', hs, hev, hmm, hf⟩ := h
  refine PySem.W.methodCall_KW (pl := pl) (thn (he.run pins s σ H (fun v H1 => ∃ a dx fs, v = .ref a ∧ H1 a = some (.ins C dx fs) ∧ fs.lookup m = none ∧ tA (gX X) xa W ma σ H1 fun vs H2 => spM (gX X) φ (.ref a :: vs) H2 Q (fun cls d H' => W cls d σ H')) I (stepG hs hev hmm hf fun d S1 ι1 H1 v h1 p1 x1 s1 e1 r1 f1 => ?_)) fun u s1 hu => ?_) ht
  · split at h1
    · rename_i n
      split at h1
      · rename_i c' fs q
        split at h1
        · rename_i hcc
          obtain ⟨hc1, hl⟩ := hcc
          subst hc1
          cases r1 with
          | ref qa =>
            obtain ⟨C', dx, gs, h3, h4, h5⟩ := s1.obj _ _ _ qa q
            have eC : C' = C := by
              have z : X.mg c' = some (.ref C') := h4
              rw [hC] at z
              cases z
              rfl
            subst eC
            refine ⟨_, dx, gs, rfl, h3, h5.look_none hl, ?_⟩
            refine stepG s1 e1 h1 f1 fun ds S2 ι2 H2 vs h6 p2 x2 s2 e2 r2 f2 => ?_
            refine ⟨ι2, S2, _, r, S', s2, .cons (.ref (p2 _ _ qa)) r2, h6, ?_⟩
            cases r with
            | ok d => exact f2
            | ex c fs => exact fun ι' H' C dd gs p x s h1 h2 h3 => f2 ι' H' C dd gs p x s h1 h2 h3
        · cases h1
      · cases h1
    · cases h1
  · obtain ⟨v, H1, I1, rx, a, dx, fs, rfl, ea, l, q⟩ := hu
    obtain rfl : u = Value.ref a := rx
    refine getmeth_ok I1 ea cl hm l ?_
    refine PySem.W.callWith_K (first := [.ref a]) (h₀ := X.base) I.ok.mod.kin hm.kp (thn (ha.run pos pins s1 σ H1 _ I1 q) fun us s2 ⟨vs, H2, I2, r, q2⟩ => ⟨I2.kIn, ?_⟩) hst hpl
    exact run_fng (us := .ref a :: us) (vs := .ref a :: vs) F hr hG hb tk I2 (.cons rfl r) q2
end
end DD

set_option Elab.async false
set_option linter.all false
set_option maxRecDepth 100000
set_option maxHeartbeats 2000000
namespace DD
open PySem PySem.Spec PyProof.Rows L2 PySem.HandSPX PySem.W
section
variable {M : Model} {prog : Program} {w : World} {A : Around} {E : Value → Shared → Prop} {R : Result → Shared → Prop} {h : Heap} {g : Array GenState} {d : Drawn} {t : Nat} {os : OsState}
variable {nm q : Str} {C N : Addr} {bs bm bmB : List Value} {hdct : Bool} {sn : List Str} {sub : List Value} {ab : Bool} {col : Option Bool} {dd : Option Addr} {k0 k1 k2 k3 k5 : Option Value} {B newId initId : String} {kw : List (Str × Value)} {rest : List Value}

theorem kchk_new (F : ExcBaseFacts B newId initId bmB) (hT : ∀ X : String, bm.contains (.type X) = bmB.contains (.type X)) {Q : Unit → Shared → Prop}
    (hC : h.get? C = some (excClassObj nm q C N bs bm hdct sn sub ab col dd k0 k1 k2 k3 k5 newId)) (hq : Q () ⟨h, g, d, t, os⟩) : wpAny M A
      (checkBuiltinCall newId ⟨.ref C :: rest, kw⟩) Q E ⟨h, g, d, t, os⟩ := by
  have isB : (Value.ref C :: bm).contains (.type B) = true := by
    rw [List.contains_cons, hT, F.hasB, Bool.or_true]
  have noS := F.noStar
  simp only [checkBuiltinCall, F.newKind, F.newSplit, F.newRow]
  repeat (first
    | refine wpAny_loadPart_at hC ?_
    | (refine wpAny_isSubtype_exc hC ?_; rw [isB])
    | refine wpAny_staticBase_exc hC ?_
    | refine wpAny_madeBy_exc hC ?_
    | simp only [bne_self_eq_false, Bool.false_eq_true, if_false]
    | wp_step)
  exact hq
theorem kchk_call {Q : Unit → Shared → Prop} (hC : h.get? C = some (excClassObj nm q C N bs bm hdct sn sub ab col dd k0 k1 k2 k3 k5 newId))
    (hq : Q () ⟨h, g, d, t, os⟩) : wpAny M A
      (checkBuiltinCall "type.__call__" ⟨.ref C :: rest, kw⟩) Q E ⟨h, g, d, t, os⟩ := by
  have f3 := tc_sub
  have isT : (⟨h, g, d, t, os⟩ : Shared).TypeIs (.ref C) "type" := ⟨_, hC, rfl⟩
  simp only [checkBuiltinCall, tc_kind, tc_split]
  repeat (any_goals (first
    | assumption
    | with_reducible refine wpAny_loadPart_at hC ?_
    | with_reducible refine wpAny_onRaise ?_
    | with_reducible refine wpAny_map ?_
    | wp_step))
theorem knew (F : ExcBaseFacts B newId initId bmB) (hT : ∀ X : String, bm.contains (.type X) = bmB.contains (.type X))
    (hC : h.get? C = some (excClassObj nm q C N bs bm hdct sn sub ab col dd k0 k1 k2 k3 k5 newId))
    (hq : R (.ok (.ret (.ref (h.objs.size + 1)))) ⟨(h.push (kdv_tup rest)).push (excO C h.objs.size), g, d, t, os⟩) (hrest : rest.length ≤ sizeLine) :
    codeAny (model prog w) A
      (.builtin newId ⟨.ref C :: rest, kw⟩) R ⟨h, g, d, t, os⟩ := by
  have ends := F.ends
  have isB : (Value.ref C :: bm).contains (.type B) = true := by
    rw [List.contains_cons, hT, F.hasB, Bool.or_true]
  have isA : (Value.ref C :: bm).contains (.type "AttributeError") = false := by
    rw [List.contains_cons, hT, F.noAttr]; rfl
  have isN : (Value.ref C :: bm).contains (.type "NameError") = false := by
    rw [List.contains_cons, hT, F.noName]; rfl
  refine codeAny_builtinAt F.entry ?_
  unfold Builtin.«BaseException.__new__»
  refine PySem.wpAt_bind ?_
  show PySem.wpAt _ _ _ (stack >>= _) _ _ _
  refine PySem.wpAt_bind (PySem.wpAt_stack fun p below => PySem.wpAt_of_wpAny ?_)
  wp_walk
  refine PySem.wpAt_of_wpAny ?_
  rw [F.owner]
  repeat (first
    | with_reducible refine wpAny_madeHere_exc F.canon hC ?_
    | with_reducible refine wpAny_loadPart_at hC ?_
    | (with_reducible refine wpAny_isSubtype_exc hC ?_; first | rw [isB] | rw [isA] | rw [isN])
    | wp_step)
  show R _ _
  rw [Heap.size_push]
  exact hq
theorem ktype_call (F : ExcBaseFacts B newId initId bmB) (hT : ∀ X : String, bm.contains (.type X) = bmB.contains (.type X)) {fI : Addr} {Q : Fin → Shared → Prop}
    (hC : h.get? C = some (excClassObj nm q C N bs bm hdct sn sub ab col dd k0 k1 k2 k3 k5 newId))
    (hi : W.Looks (model prog w) h (typeLookup (.ref C) "__init__") (some (.ref fI)))
    (hb : ∀ self, W.Looks (model prog w) h (bindSpecial (.ref fI) self) (.ref fI, [self])) (hrest : rest.length ≤ sizeLine)
    (hq : codeAny (model prog w) A (.call (.ref fI) ⟨.ref (h.objs.size + 1) :: rest, kw⟩)
      (fun r s' => match r with | .ok (.ret v) => v = .none ∧ Q (.done (.ret (.ref (h.objs.size + 1)))) s' | .ok _ => False | .error e => E e s')
      ⟨(h.push (kdv_tup rest)).push (excO C h.objs.size), g, d, t, os⟩) :
    wpAny (model prog w) A
      (Builtin.«type.__call__» ⟨.ref C :: rest, kw⟩) Q E ⟨h, g, d, t, os⟩ := by
  repeat (first
    | with_reducible refine wpAny_loadPart_at hC ?_
    | with_reducible refine wpAny_madeBy_exc hC ?_
    | wp_step)
  refine codeAny_call_builtin_code (Code.quiet_builtin _ F.quiet) (kchk_new F hT hC ?_)
  refine knew F hT hC ?_ hrest
  show wpAny _ _ _ _ _ _
  have up : ∀ b o, h.get? b = some o → ((h.push (kdv_tup rest)).push (excO C h.objs.size)).get? b = some o := fun b o e =>
    Heap.get?_push_of_some _ (Heap.get?_push_of_some _ e)
  have hC₁ := up _ _ hC
  have here : ((h.push (kdv_tup rest)).push (excO C h.objs.size)).get? (h.objs.size + 1) = some (excO C h.objs.size) := by heap_get
  have isC : (Value.ref C :: bm).contains (.ref C) = true := by simp
  have i1 := hi.keeps up
  have b1 := (hb (.ref (h.objs.size + 1))).keeps up
  unfold isInstance
  repeat (first
    | with_reducible refine wpAny_loadPart_at here ?_
    | (with_reducible refine wpAny_isSubtype_exc hC₁ ?_; rw [isC])
    | wp_step)
  show wpAny _ _ (typeLookup (.ref C) _) _ _ _
  refine i1.at ?_
  refine wpAny_holding (wpAny_bind (b1.at ?_))
  refine wpAny_bind (wpAny_call (codeAny_mono hq fun r s' z => ?_))
  rcases r with e | (v | _ | _ | _) <;> first | exact z | exact z.elim | skip
  obtain ⟨rfl, z⟩ := z
  first
    | exact wpAny_pure (wpAny_pure z)
    | (wp_walk; exact z)
theorem kcall_own (F : ExcBaseFacts B newId initId bmB) (hT : ∀ X : String, bm.contains (.type X) = bmB.contains (.type X)) {fI : Addr}
    (hC : h.get? C = some (excClassObj nm q C N bs bm hdct sn sub ab col dd k0 k1 k2 k3 k5 newId))
    (hi : W.Looks (model prog w) h (typeLookup (.ref C) "__init__") (some (.ref fI)))
    (hb : ∀ self, W.Looks (model prog w) h (bindSpecial (.ref fI) self) (.ref fI, [self])) (hrest : rest.length ≤ sizeLine)
    (hq : codeAny (model prog w) (A.under (.builtin "type.__call__" ⟨.ref C :: rest, kw⟩)) (.call (.ref fI) ⟨.ref (h.objs.size + 1) :: rest, kw⟩) (W.InitBack (h.objs.size + 1) R)
      ⟨(h.push (kdv_tup rest)).push (excO C h.objs.size), g, d, t, os⟩) :
    codeAny (model prog w) A
      (.call (.ref C) ⟨rest, kw⟩) R ⟨h, g, d, t, os⟩ := by
  have f1 := tc_lookup
  have f2 := tc_bind (.ref C)
  have isT : (⟨h, g, d, t, os⟩ : Shared).TypeIs (.ref C) "type" := ⟨_, hC, rfl⟩
  refine codeAny_of_tree ?_
  show wpAny _ _ (callAny (.ref C) _) _ _ _
  repeat (any_goals (first
    | assumption
    | with_reducible refine wpAny_loadPart_at hC ?_
    | wp_step))
  refine ⟨rfl, ?_⟩
  refine codeAny_call_builtin_at (Code.quiet_builtin _ (by decide +kernel)) entry_typeCall (kchk_call hC (ktype_call F hT hC hi hb hrest ?_))
  refine codeAny_mono hq fun r s' z => ?_
  rcases r with e | (v | _ | _ | _) <;> exact z
end
end DD

set_option Elab.async false
set_option linter.all false
set_option maxRecDepth 100000
namespace DD
open PySem PySem.Spec PyProof.Rows L2
/-! ### errors of own classes: made, kept as values, read -/
def stk {α : Type} : List Str → List α → List (Str × α) → List (Str × α)
  | f :: fs, v :: vs, acc => stk fs vs ((f, v) :: acc)
  | _, _, acc => acc
theorem Fs.stk {g : G} {ι : List Addr} {H : Hp} : ∀ (fs : List Str) {ds : List D} {vs : List V} {a : List (Str × D)} {b : List (Str × V)}, Rs g ι H ds vs → Fs g ι H a b → Fs g ι H (DD.stk fs ds a) (DD.stk fs vs b)
  | [], _, _, _, _, r, h => by cases r <;> exact h
  | f :: fs, _, _, _, _, r, h => by
    cases r with
    | nil => exact h
    | cons r1 r2 => exact Fs.stk fs r2 (.cons r1 h)
/-- what the __init__ of an own error class does: it keeps its arguments in the fields fns -/
def spX (K : PySem.W.Frag) (C : Addr) (fns : List Str) : Sp := fun vs H Q _ => ∃ (a : Addr) (ys : List V), vs = .ref a :: ys ∧ ys.length = fns.length ∧ H a = some (exo a C none) ∧
  ∀ d, H d = none → d ≠ a → Q .non (upd (upd H d (L2.exd d (stk fns ys []))) a (exo a C (some d)))
/-- an own error class -/
structure XI (P : Program) (w : World) (K : PySem.W.Frag) (mg : Str → Option Value) (base : Heap) (k : Nat) (C : Addr) (fns : List Str) (fI : Addr) (fd : FuncData) : Prop where
  T : OexC K C
  iC : PySem.W.findIn K (.ref C) "__init__" = some (some (.ref fI))
  tI : PySem.W.typeIn K (.ref fI) = some (.type "function")
  F : FnOk P w K mg base CX0 k fI fd (("self" : Str) :: fns) (spX K C fns)
section
variable {P : Program} {w : World} {K : PySem.W.Frag} {mg : Str → Option Value} {base : Heap}
theorem xi1 {f qual : Str} {st : Stmt} {C fI : Addr} {fd : FuncData} {p1 p2 p3 p4 : Pos} (F : Fun K "__init__" qual st fI fd) (Sc : FnScope ["self", f] ["self", f] (defScope st)) (hb : defBody st = [.Assign [.Attribute (.Name "self" p1) f p2] (.Name f p3) p4])
    (T : OexC K C) (hno : PySem.W.findIn K (.ref C) f = some none) (hv : Vis (defScope st) "self") (hv2 : Vis (defScope st) f) (hd : (f == ("__debug__" : Str)) = false) (hcd : (f == ("__classdict__" : Str)) = false) : FnOk P w K mg base CX0 1 fI fd ["self", f] (spX K C [f]) := by
  refine F.ok (k := 0) Sc (fun vs H Q E h => ?_) fun cdv A outer s H vs Q E hr h => ?_
  · obtain ⟨a, ys, rfl, hl, _⟩ := h
    simp at hl ⊢
    exact hl
  · obtain ⟨a, ys, rfl, hl, e, q⟩ := h
    obtain ⟨y, rfl⟩ : ∃ y, ys = [y] := by
      cases ys with
      | nil => cases hl
      | cons y r => cases r with
        | nil => exact ⟨y, rfl⟩
        | cons _ _ => cases hl
    rw [hb]
    refine ⟨_, pss_one (ps_ost (pe_var (i := 0) rfl hv) (pe_var (i := 1) rfl hv2 hd hcd)), ?_⟩
    exact ⟨y, rfl, .ref a, rfl, a, C, rfl, T, hno, .inl ⟨e, fun dx n ne => q dx n ne⟩⟩
theorem xi2 {f g qual : Str} {st : Stmt} {C fI : Addr} {fd : FuncData} {p1 p2 p3 p4 q1 q2 q3 q4 : Pos} (F : Fun K "__init__" qual st fI fd) (Sc : FnScope ["self", f, g] ["self", f, g] (defScope st)) (hb : defBody st = [.Assign [.Attribute (.Name "self" p1) f p2] (.Name f p3) p4, .Assign [.Attribute (.Name "self" q1) g q2] (.Name g q3) q4])
    (T : OexC K C) (hno : PySem.W.findIn K (.ref C) f = some none) (hno2 : PySem.W.findIn K (.ref C) g = some none) (hv : Vis (defScope st) "self") (hv2 : Vis (defScope st) f) (hv3 : Vis (defScope st) g) (hd : (f == ("__debug__" : Str)) = false) (hcd : (f == ("__classdict__" : Str)) = false) (hd2 : (g == ("__debug__" : Str)) = false) (hcd2 : (g == ("__classdict__" : Str)) = false) :
    FnOk P w K mg base CX0 1 fI fd ["self", f, g] (spX K C [f, g]) := by
  refine F.ok (k := 0) Sc (fun vs H Q E h => ?_) fun cdv A outer s H vs Q E hr h => ?_
  · obtain ⟨a, ys, rfl, hl, _⟩ := h
    simp at hl ⊢
    exact hl
  · obtain ⟨a, ys, rfl, hl, e, q⟩ := h
    obtain ⟨y, z, rfl⟩ : ∃ y z, ys = [y, z] := by
      cases ys with
      | nil => cases hl
      | cons y r => cases r with
        | nil => cases hl
        | cons z r => cases r with
          | nil => exact ⟨y, z, rfl⟩
          | cons _ _ => cases hl
    rw [hb]
    refine ⟨_, pss_cons (ps_ost (pe_var (i := 0) rfl hv) (pe_var (i := 1) rfl hv2 hd hcd)) (pss_one (ps_ost (pe_var (i := 0) rfl hv) (pe_var (i := 2) rfl hv3 hd2 hcd2))), ?_⟩
    refine ⟨y, rfl, .ref a, rfl, a, C, rfl, T, hno, .inl ⟨e, fun dx n ne => ?_⟩⟩
    refine ⟨z, rfl, .ref a, rfl, a, C, rfl, T, hno2, .inr ⟨dx, [(f, y)], upd_same, by rw [upd_ne ne]; exact upd_same, by simp, ?_⟩⟩
    have e2 : upd (upd (upd H dx (L2.exd dx [(f, y)])) a (exo a C (some dx))) dx (L2.exd dx ((g, z) :: [(f, y)])) = upd (upd H dx (L2.exd dx (stk [f, g] [y, z] []))) a (exo a C (some dx)) := by
      funext b
      by_cases hb1 : b = dx
      · subst hb1
        rw [upd_same, upd_ne ne, upd_same]
        rfl
      · by_cases hb2 : b = a
        · subst hb2
          rw [upd_ne hb1, upd_same, upd_same]
        · rw [upd_ne hb1, upd_ne hb2, upd_ne hb1, upd_ne hb2, upd_ne hb1]
    rw [e2]
    exact q dx n ne
end
section
variable {X : Cx} {W : WX} {pos : Pos} {k : Nat} {C fI : Addr} {fd : FuncData} {fns : List Str} {xa : Xa}
def xmkF (c : Str) (fns : List Str) : FnD := fun ds S => if ds.length = fns.length then some (.ok (.ref S.length), S ++ [.exi c (stk fns ds [])]) else none
theorem run_xmk {x : Str} {pins : List (Addr × Obj)} {σ : L2.St} {H : Hp} {s : Shared} {Q : VK} {us rest : List Value} {kw : List (Str × Value)} {vs : List V} (M : XI X.prog X.w X.K X.mg X.base k C fns fI fd) (hr : Room (k + 1) X.A) (hm : X.mg x = some (.ref C)) (tk : Takes X W)
    (hb : ∀ (s : Shared) (v : Value), X.K.In s.heap → us.length = fns.length → BindsTo s fd ⟨v :: rest, kw⟩ ((("self" : Str) :: fns).zip (v :: us))) (hrl : rest.length ≤ sizeLine)
    (I : Inv X pins σ H s) (r : Vals vs us) (h : spM (gX X) (xmkF x fns) vs H Q (fun cls d H' => W cls d σ H')) : wpAny (model X.prog X.w) X.A (call (.ref C) rest kw) (EP X pins σ Q) X.xe s := by
  obtain ⟨ι, S, ds, re, S', hs, rs, hφ, hf⟩ := h
  unfold xmkF at hφ
  split at hφ
  case isFalse => cases hφ
  rename_i hl
  cases hφ
  obtain ⟨nm, q, N, bs, bm, sn, sub, ab, col, dd, k0, k1, k2, k3, k5, hC, hbm⟩ := M.T.cls
  obtain ⟨hp, g, dr, tk', os⟩ := s
  have hsz : hp.objs.size ≤ hp.objs.size + 1 := Nat.le_succ _
  have hn : H (hp.objs.size + 1) = none := I.hok.fresh hsz
  have kk : ∀ b o, hp.get? b = some o → ((hp.push (PySem.W.kdv_tup rest)).push (PySem.HandSPX.excO C hp.objs.size)).get? b = some o := fun b o e => Heap.get?_push_of_some _ (Heap.get?_push_of_some _ e)
  have hget : ((hp.push (PySem.W.kdv_tup rest)).push (PySem.HandSPX.excO C hp.objs.size)).get? (hp.objs.size + 1) = some (PySem.HandSPX.excO C hp.objs.size) := by heap_get
  have I2 : Inv X pins σ (upd H (hp.objs.size + 1) (exo (hp.objs.size + 1) C none)) ⟨(hp.push (PySem.W.kdv_tup rest)).push (PySem.HandSPX.excO C hp.objs.size), g, dr, tk', os⟩ :=
    I.laid (t' := tk') (a := hp.objs.size + 1) (o := exo (hp.objs.size + 1) C none) (h' := (hp.push (PySem.W.kdv_tup rest)).push (PySem.HandSPX.excO C hp.objs.size)) kk hsz (exo_ok hget)
  have r2 : Vals (V.ref (hp.objs.size + 1) :: vs) (Value.ref (hp.objs.size + 1) :: us) := .cons rfl r
  have lv : vs.length = fns.length := by rw [← Rs.length rs, hl]
  have sp : spX X.K C fns (V.ref (hp.objs.size + 1) :: vs) (upd H (hp.objs.size + 1) (exo (hp.objs.size + 1) C none)) (fun v H2 => v = .non ∧ Q (.ref (hp.objs.size + 1)) H2) (fun _ _ _ => False) := by
    refine ⟨_, vs, rfl, lv, upd_same, fun d nd ne => ⟨rfl, ?_⟩⟩
    have nd0 : H d = none := by rw [upd_ne ne] at nd; exact nd
    have same : ∀ b, b ≠ d → b ≠ hp.objs.size + 1 → (upd (upd (upd H (hp.objs.size + 1) (exo (hp.objs.size + 1) C none)) d (L2.exd d (stk fns vs []))) (hp.objs.size + 1) (exo (hp.objs.size + 1) C (some d))) b = H b := fun b h1 h2 => by rw [upd_ne h2, upd_ne h1, upd_ne h2]
    have ex : Ex H (upd (upd (upd H (hp.objs.size + 1) (exo (hp.objs.size + 1) C none)) d (L2.exd d (stk fns vs []))) (hp.objs.size + 1) (exo (hp.objs.size + 1) C (some d))) :=
      ⟨fun b x e => by rw [same b (ne_of_none e nd0) (ne_of_none e hn)]; exact e, fun b u x e => by rw [same b (ne_of_none e nd0) (ne_of_none e hn)]; exact e, fun b x e => by rw [same b (ne_of_none e nd0) (ne_of_none e hn)]; exact e, fun b x e => by rw [same b (ne_of_none e nd0) (ne_of_none e hn)]; exact e⟩
    refine hf (ι ++ [hp.objs.size + 1]) _ _ (Pre.app ι _) ex (hs.new ex (fun n a e => ?_) hn ⟨C, d, _, upd_same, by rw [upd_ne ne]; exact upd_same, hm, ?_⟩) (.ref hs.newAt)
    · exact same a (hs.fresh nd0 e) (hs.fresh hn e)
    · exact Fs.stk fns (Rs.mono (Pre.app ι _) ex _ _ rs) .nil
  have ul : us.length = fns.length := by rw [← r.length, lv]
  have bnd := hb ⟨(hp.push (PySem.W.kdv_tup rest)).push (PySem.HandSPX.excO C hp.objs.size), g, dr, tk', os⟩ (.ref (hp.objs.size + 1)) I2.kIn ul
  refine wpAny_call (kcall_own F.excBase_ValueError (fun Y => PySem.HandSPX.refsVE_contains Y bm hbm) (I.kIn _ _ hC) (PySem.W.looks_findIn I.kIn M.iC) (fun self => PySem.W.bind_fn I.kIn self M.tI) hrl
    (codeAny_mono (M.F.run _ X.stack _ _ ⟨Value.ref (hp.objs.size + 1) :: rest, kw⟩ (Value.ref (hp.objs.size + 1) :: us) _ _ (fun _ _ _ => False) (hr.make C rest kw) (I2.env0.make C rest kw) bnd r2 sp) fun res s' hq => ?_))
  cases res with
  | error e => exact False.elim hq
  | ok fl => cases fl with
    | ret u =>
      obtain ⟨v, H', I3, rv, ev, q3⟩ := I2.after hq
      subst ev
      exact ⟨rv, ⟨V.ref (hp.objs.size + 1), H', I3, rfl, q3⟩⟩
    | next => exact False.elim hq
    | brk => exact False.elim hq
    | cont => exact False.elim hq
theorem em_xmk {x : Str} {p : Pos} {e : Expr} {es : List Expr} {m : MM (List D)} (M : XI X.prog X.w X.K X.mg X.base k C fns fI fd) (hr : Room (k + 1) X.A) (tk : Takes X W) (hm : X.mg x = some (.ref C)) (hb : Binds X.K fd (("self" : Str) :: fns) [])
    (ha : PA X (e :: es) (tA (gX X) xa W m)) (hlen : fns.length ≤ sizeLine := by decide +kernel) (hg : Gl X x := by rfl) (hdb : (x == ("__debug__" : Str)) = false := by decide) (he : starEach (e :: es) X.env = (false, eval e X.env) :: starEach es X.env := by rfl) (hpl : (backTo pos (starEach es X.env)).any (·.1) = false := by rfl) :
    PE X (.Call (.Name x p) (e :: es) [] pos) (tE (gX X) xa W (mCall (xmkF x fns) m)) := by
  refine ⟨fun pins s σ H Q I h => wpAny_Call_Name_kw (ld_glob I hg hm ?_ hdb)⟩
  refine PySem.W.callWith_K (h₀ := X.base) I.ok.mod.kin M.T.kC (thn (ha.run pos pins s σ H _ I (call_step h)) fun us s1 ⟨vs, H1, I1, r, q⟩ => ⟨I1.kIn, ?_⟩) he hpl
  have ul : us.length = fns.length := by
    obtain ⟨ι, S, ds, r', S', hs, rs, hφ, hf⟩ := id q
    unfold xmkF at hφ
    split at hφ
    · rename_i hl; rw [← r.length, ← Rs.length rs, hl]
    · cases hφ
  refine run_xmk M hr hm tk (rest := us) (fun s v hk hl => ?_) (by omega) I1 r q
  have b := hb s (v :: us) hk (by simpa using hl)
  rwa [List.append_nil] at b
/-- C(k = e, ..), the names in the fields' order -/
theorem em_xmkK {x : Str} {p : Pos} {kws : List Keyword} {m : MM (List D)} (M : XI X.prog X.w X.K X.mg X.base k C fns fI fd) (hr : Room (k + 1) X.A) (tk : Takes X W) (hm : X.mg x = some (.ref C))
    (hb : ∀ (s : Shared) (v : Value) (us : List Value), us.length = fns.length → BindsTo s fd ⟨[v], fns.zip us⟩ ((("self" : Str) :: fns).zip (v :: us)))
    (hkw : PK X kws (tA (gX X) xa W m)) (hg : Gl X x := by rfl) (hall : (backToKw pos (keywordEach kws X.env)).all (·.1.isSome) = true := by rfl) (hks : (backToKw pos (keywordEach kws X.env)).filterMap (·.1) = fns := by rfl) (hdb : (x == ("__debug__" : Str)) = false := by decide)
    (hpl : ((backTo pos (starEach [] X.env)).any (·.1) || (backToKw pos (keywordEach kws X.env)).any (·.1.isNone)) = false := by rfl) :
    PE X (.Call (.Name x p) [] kws pos) (tE (gX X) xa W (mCall (xmkF x fns) m)) := by
  refine ⟨fun pins s σ H Q I h => wpAny_Call_Name_kw (ld_glob I hg hm ?_ hdb)⟩
  refine PySem.W.callWith_KW0 (h₀ := X.base) I.ok.mod.kin M.T.kC hall ?_ hpl
  refine thn (hkw.run pos pins s σ H _ I (call_step h)) fun us s1 ⟨vs, H1, I1, r, q⟩ => ⟨I1.kIn, ?_⟩
  rw [hks]
  exact run_xmk (rest := []) M hr hm tk (fun s v hk hl => hb s v us hl) (Nat.zero_le _) I1 r q
theorem km_nil : PK X [] (tA (gX X) xa W mNil) := ⟨fun pos pins s σ H Q I h => pk_nil.run pos pins s σ H Q I (by
  obtain ⟨ι, S, e, r, S', hs, he, hm, hf⟩ := h
  cases hm
  exact hf ι H [] (Pre.refl ι) (Ex.refl H) hs .nil)⟩
theorem km_cons {nm : Option Str} {kpos : Pos} {e : Expr} {es : List Keyword} {m : MM D} {k : MM (List D)} (h : PE X e (tE (gX X) xa W m)) (hr : PK X es (tA (gX X) xa W k)) : PK X (⟨nm, e, kpos⟩ :: es) (tA (gX X) xa W (mCons m k)) := ⟨fun pos pins s σ H Q I h' => (pk_cons h hr).run pos pins s σ H Q I (by
  obtain ⟨ι, S, e, r, S', hs, he, hm, hf⟩ := h'
  refine stepG hs he hm hf fun d S1 ι1 H1 v h1 p1 x1 s1 e1 r1 f1 => ?_
  refine stepG s1 e1 h1 f1 fun ds S2 ι2 H2 vs h2 p2 x2 s2 e2 r2 f2 => ?_
  cases h2
  exact f2 ι2 H2 (v :: vs) (Pre.refl ι2) (Ex.refl H2) s2 (.cons (R.mono p2 x2 _ _ r1) r2))⟩
end
/-! ### what is asked of an error that is held -/
section
variable {X : Cx} {g : G} {xa : Xa} {W : WX} {pos : Pos} {ι : List Addr} {H : Hp} {T : Tab}
theorem exi_inst {pins : List (Addr × Obj)} {σ : L2.St} {s : Shared} {a C d : Addr} {gs : List (Str × V)} (I : Inv X pins σ H s) (e : H a = some (exo a C (some d))) (ed : H d = some (L2.exd d gs)) :
    ∃ (oe : Obj) (od : Obj), PySem.W.InstAt s.heap a oe C (some od) ∧ ∀ f, ∃ u, PySem.W.lookIn f od = some u ∧ RelO (gs.lookup f) u := by
  obtain ⟨t1, ho⟩ := exo_at I.hok e
  obtain ⟨mA, hns, hr⟩ := exd_at I.hok ed
  obtain ⟨od, h1, hl⟩ := lookIn_ns hns
  exact ⟨_, od, ⟨ho, rfl, rfl, h1⟩, fun f => ⟨mA f, by rw [hl], hr f⟩⟩
def rIsiX (K : PySem.W.Frag) : List V → Hp → VK → Prop := fun xs H Q => ∃ (a C d : Addr) (gs : List (Str × V)) (c : V) (cv : Value) (b : Bool), xs = [.ref a, c] ∧ H a = some (exo a C (some d)) ∧ H d = some (L2.exd d gs) ∧ ExcC K C ∧ ClsV c cv ∧ PySem.W.kitOne K (.ref C) cv = some b ∧ Q (.bl b) H
theorem call_isiX (hK : X.K = g.K) : CallR X (.builtin "isinstance") (rIsiX g.K) := by
  rw [← hK]
  intro pins s σ H xs us Q I r h
  obtain ⟨a, C, d, gs, c, cv, b, rfl, ea, ed, E, hc, e, q⟩ := h
  cases r with
  | cons rx rr =>
    cases rr with
    | cons rt rr =>
      cases rr
      cases rx
      obtain ⟨oe, od, J, _⟩ := exi_inst I ea ed
      have ec := ClsV.eq hc rt
      subst ec
      have hcl : (PySem.W.clsIn X.K C).isSome = true := by
        obtain ⟨cd, hc, _⟩ := PySem.W.any_some E.hd
        rw [hc]; rfl
      exact PySem.W.kia_one (PySem.W.kitx_exc hcl E.hg E.hk E.hs E.ha E.hn E.ht E.hm) I.kIn J e (fun z => nomatch z) fun tk => ⟨.bl b, H, I.kept (t' := tk) fun _ _ z => z, rfl, q⟩
theorem f_isiA (F : Facts g T) (nm : Named g T) {f' : FA} (hf' : f' = fun ds S => match ds with
    | [.ref n, c] => match S[n]? with
      | some (.exi cn _) => match clsN c with
        | some nn => if T.exc cn = true then (T.kit (.inr cn) nn).map fun b => (.bl b, S) else none
        | none => none
      | _ => fIsi T ds S
    | _ => fIsi T ds S) : OpA g (fun xs H Q => rIsiX g.K xs H Q ∨ rIsi g.K xs H Q ∨ rIsiT g.K xs H Q ∨ rIsiK g.K xs H Q) f' := fun ι S S' H a d x Q s r hf hd => by
  subst hf'
  dsimp only at hf
  split at hf
  · rename_i n c
    split at hf
    · rename_i cn fs e
      split at hf
      · rename_i nn en
        split at hf
        · rename_i hx
          cases hk : T.kit (.inr cn) nn with
          | none => rw [hk] at hf; cases hf
          | some b =>
            rw [hk] at hf
            cases hf
            cases r with
            | cons r1 r =>
              cases r with
              | cons r2 r =>
                cases r
                cases r1 with
                | ref q =>
                  obtain ⟨C, dd, gs, h1, h2, h3, h4⟩ := s.obj _ _ _ q e
                  obtain ⟨cv, h5, h6⟩ := cls_R r2 en (nm _ _ b hk)
                  exact .inl ⟨_, C, dd, gs, _, cv, b, rfl, h1, h2, F.exc cn C hx h3, h6, F.kit _ _ b _ cv hk ⟨C, h3, rfl⟩ h5, hd.here s (.bl _)⟩
        · cases hf
      · cases hf
    · exact .inr (f_isi F nm ι S S' H _ d x Q s r hf hd)
  · exact .inr (f_isi F nm ι S S' H _ d x Q s r hf hd)
def fIsiA (T : Tab) : FA := fun ds S => match ds with
    | [.ref n, c] => match S[n]? with
      | some (.exi cn _) => match clsN c with
        | some nn => if T.exc cn = true then (T.kit (.inr cn) nn).map fun b => (.bl b, S) else none
        | none => none
      | _ => fIsi T ds S
    | _ => fIsi T ds S
theorem f_isiB (F : Facts g T) (nm : Named g T) : OpA g (fun xs H Q => rIsiX g.K xs H Q ∨ rIsi g.K xs H Q ∨ rIsiT g.K xs H Q ∨ rIsiK g.K xs H Q) (fIsiA T) := f_isiA F nm rfl
theorem call_isiB (hK : X.K = g.K) : CallR X (.builtin "isinstance") (fun xs H Q => rIsiX g.K xs H Q ∨ rIsi g.K xs H Q ∨ rIsiT g.K xs H Q ∨ rIsiK g.K xs H Q) := (call_isiX hK).or (call_isiM hK)
/-- e.f, e an error that is held -/
def fXfld (T : Tab) (f : Str) : F1 := fun a S => match a with
  | .ref n => match S[n]? with
    | some (.exi c fs) => if T.xattr c f = true then (fs.lookup f).map fun d => (d, S) else none
    | _ => none
  | _ => none
theorem em_xfld {e : Expr} {f : Str} {m : MM D} (F : Facts g T) (he : PE X e (tE g xa W m)) (hK : X.K = g.K := by rfl) (hb : attributeBase e f X.env (eval e X.env) = eval e X.env := by rfl) : PE X (.Attribute e f pos) (tE g xa W (mOp1 (fXfld T f) m)) := by
  refine ⟨fun pins s σ H Q I h => ?_⟩
  have h2 := op1_step (r := fun x H1 Q => ∃ (a C d : Addr) (gs : List (Str × V)) (v : V), x = .ref a ∧ H1 a = some (exo a C (some d)) ∧ H1 d = some (L2.exd d gs) ∧ XfC g.K C ∧ PySem.W.findIn g.K (.ref C) f = some none ∧ gs.lookup f = some v ∧ Q v H1) (f := fXfld T f) (fun ι S S' H a d x Q s r hf hd => ?_) h
  · refine attr_of hb (thn (he.run pins s σ H _ I h2) fun u s1 ⟨x, H1, I1, rx, a, C, d, gs, v, ex, ea, ed, k1, k2, l, q⟩ => ?_)
    subst ex
    obtain rfl : u = Value.ref a := rx
    obtain ⟨oe, od, J, hl⟩ := exi_inst I1 ea ed
    obtain ⟨u1, h3, h4⟩ := hl f
    rw [← hK] at k1 k2
    obtain ⟨u, hu, ru⟩ := RelO.some_of (v := v) (o := u1) (by rw [← l]; exact h4)
    subst hu
    exact HandSPX.exc_get I1.kIn J k1.ga k1.gg k1.exC (PySem.W.findObj_own k1.hdC k2 rfl h3) (handed_of ru) ⟨v, H1, I1.tok _, ru, q⟩
  · unfold fXfld at hf
    split at hf
    · split at hf
      · rename_i c fs e
        split at hf
        · rename_i ha
          cases hl : fs.lookup f with
          | none => rw [hl] at hf; cases hf
          | some z =>
            rw [hl] at hf
            cases hf
            cases r with
            | ref q =>
              obtain ⟨C, dx, gs, h1, h2, h3, h4⟩ := s.obj _ _ _ q e
              obtain ⟨v, h5, h6⟩ := h4.look hl
              obtain ⟨k1, k2⟩ := F.xattr c f C ha h3
              exact ⟨_, C, dx, gs, v, rfl, h1, h2, k1, k2, h5, hd.here s h6⟩
        · cases hf
      · cases hf
    · cases hf
end
end DD

set_option Elab.async false
set_option linter.all false
set_option maxRecDepth 100000
namespace DD
open PySem PySem.Spec PyProof.Rows L2
/-! ### the end of a law -/
section
variable {P : Program} {w : World} {K : PySem.W.Frag} {mg mb : Str → Option Value} {k : Nat} {fa a : Addr} {fd : FuncData} {x : Str} {φ : FnD} {vs : List Value} {ns : List Int} {H : Hp}
theorem rs_ints {g : G} {ι : List Addr} : ∀ ns : List Int, Rs g ι H (ns.map D.int) (ns.map V.int)
  | [] => .nil
  | n :: r => .cons (.int n) (rs_ints r)
/-- from an abstract heap that holds the script alone, or nothing -/
theorem law_core {s1 : Shared} (KX : K.In s1.heap) (hns : s1.heap.Ns mainGlobals mg) (hb : s1.heap.Ns builtinsNs mb) (hbb : ∀ x : Str, x ≠ "__name__" → mb x = bootBuiltins x) (hlim : s1.heap.NoLimit) (hg : s1.gens = #[])
    (ha : s1.heap.get? a = some { cls := .type "list", data := .seq vs.toArray }) (hr : Room k callerA)
    (F : ∀ base : Heap, K.In base → base.Ns mainGlobals mg → FnG P w K mg base k fa fd [x] φ) (hbind : ∀ (s : Shared) (u : Value), BindsTo s fd ⟨[u], []⟩ [(x, u)]) (hφ : ∃ S', φ [.rol (ns.map .int)] [] = some (.ok (.bl true), S'))
    (hO : Only H) (hS : SqF K H a (ns.map V.int)) (hok : HOk P w H s1.heap) (hA : ∀ b, H b ≠ none → b = a) (hK : H a ≠ none → K.lookup a = none) :
    codeAny (model P w) callerA (.call (.ref fa) ⟨[.ref a], []⟩)
      (fun r s' => r = .ok (.ret (.bool true)) ∧ OldK s1.heap s'.heap ∧ s'.os = s1.os ∧ AllBare s'.gens) s1 := by
  have only : ∀ {b : Addr} {u : HO}, H b = some u → b = a := fun {b u} z => hA b (by rw [z]; simp)
  have low : ∀ {b : Addr} {o : Obj}, s1.heap.get? b = some o → H b = none → (hidT s1.heap H).get? b = some o := fun e n => hidT_get e n
  have noDict : ∀ {b : Addr} {o : Obj} {es : Array DictEntry} {ep : Nat}, s1.heap.get? b = some o → o.data = .dict es ep → H b = none := by
    intro b o es ep e d
    cases q : H b with
    | none => rfl
    | some u =>
      have e' := only q
      subst e'
      rw [ha] at e
      cases e
      exact nomatch (show Data.seq vs.toArray _ = Data.dict es ep from d)
  have noK : ∀ {b : Addr} {o : Obj}, K.lookup b = some o → H b = none := by
    intro b o e
    cases q : H b with
    | none => rfl
    | some u =>
      have e' := only q
      subst e'
      rw [hK (by rw [q]; simp)] at e
      cases e
  have nsUp : ∀ {b : Addr} {m : Str → Option Value}, s1.heap.Ns b m → (hidT s1.heap H).Ns b m := fun {b m} ⟨o, es, ep, e, d, r⟩ =>
    ⟨o, es, ep, low e (noDict e d), d, r⟩
  have inB : K.In (hidT s1.heap H) := fun b o e => low (KX b o e) (noK e)
  have md : Mod K mg (hidT s1.heap H) := ⟨inB, nsUp hns, ⟨mb, nsUp hb, hbb⟩, by obtain ⟨mc, h1, h2⟩ := hlim; exact ⟨mc, nsUp h1, h2⟩⟩
  have env : Env0 P w K mg (hidT s1.heap H) callerA [] s1 H :=
    ⟨rfl, md, fun b o e => of_hidT e, Nat.le_of_eq (hidT_size _ _), trivial, fun b hb => (nomatch (show b ∈ ([] : List Addr) from hb)), hok, .of_eq hg⟩
  obtain ⟨S', hφ⟩ := hφ
  have sim : Sim (GK K mg) [] [] H := ⟨rfl, List.nodup_nil, fun n a o e _ => by simp at e⟩
  have sp : spM (GK K mg) φ [V.ref a] H (fun v _ => v = .bl true) (fun _ _ _ => False) := by
    refine ⟨[], [], _, _, S', sim, .cons (.rol hS (rs_ints ns)) .nil, hφ, fun ι' H' v p x s r => ?_⟩
    cases r
    rfl
  refine codeAny_mono ((F _ inB (nsUp hns)).run callerA [] s1 H ⟨[.ref a], []⟩ [.ref a] [.ref a] _ _ hr rfl env (hbind s1 (.ref a)) (.cons rfl .nil) sp) fun r s' h => ?_
  cases r with
  | error e =>
    obtain ⟨_, _, _, _, _, _, _, _, _, _, _, _, z⟩ := h
    exact z.elim
  | ok fl =>
    cases fl with
    | ret u =>
      obtain ⟨v, H', os, bare, un, hok', rv, q⟩ := h
      have q' : v = .bl true := q
      subst q'
      obtain rfl : u = Value.bool true := rv
      refine ⟨rfl, OldK.of_keep fun b o e => ?_, os, bare⟩
      cases z : H b with
      | none => exact un.keep b o e z (fun m => nomatch (show b ∈ ([] : List Addr) from m)) (by simp)
      | some u =>
        rcases hO b with y | ⟨ob, xs, y⟩
        · rw [z] at y
          cases y
        · obtain ⟨e1, _⟩ := hok b _ y
          obtain ⟨e2, _⟩ := hok' b _ (un.frzs b ob _ y)
          rw [e] at e1
          cases e1
          exact e2
    | next => exact False.elim h
    | brk => exact False.elim h
    | cont => exact False.elim h
theorem law_callD {s1 : Shared} (KX : K.In s1.heap) (hns : s1.heap.Ns mainGlobals mg) (hb : s1.heap.Ns builtinsNs mb) (hbb : ∀ x : Str, x ≠ "__name__" → mb x = bootBuiltins x) (hlim : s1.heap.NoLimit) (hg : s1.gens = #[])
    (ha : s1.heap.get? a = some { cls := .type "list", data := .seq vs.toArray }) (hi : IntsAre vs ns) (hl : ns.length ≤ sizeLine) (hr : Room k callerA)
    (F : ∀ base : Heap, K.In base → base.Ns mainGlobals mg → FnG P w K mg base k fa fd [x] φ) (hbind : ∀ (s : Shared) (u : Value), BindsTo s fd ⟨[u], []⟩ [(x, u)]) (hφ : ∃ S', φ [.rol (ns.map .int)] [] = some (.ok (.bl true), S')) :
    codeAny (model P w) callerA (.call (.ref fa) ⟨[.ref a], []⟩)
      (fun r s' => r = .ok (.ret (.bool true)) ∧ OldK s1.heap s'.heap ∧ s'.os = s1.os ∧ AllBare s'.gens) s1 := by
  have rv := vals_ints hi
  cases hk : K.lookup a with
  | some o =>
    have e := KX a o hk
    rw [ha] at e
    cases e
    exact law_core (H := fun _ => none) KX hns hb hbb hlim hg ha hr F hbind hφ (fun _ => .inl rfl) (.inr ⟨_, vs.toArray, _, hk, rfl, rfl, rfl, by rw [List.size_toArray, hi.length]; exact hl, by simpa using rv⟩)
      (fun b u z => nomatch (show (none : Option HO) = some u from z)) (fun b z => (z rfl).elim) fun z => (z rfl).elim
  | none =>
    have same : ∀ {b : Addr} {u : HO}, (if b = a then some (HO.frz { cls := .type "list", data := .seq vs.toArray } (.lst (ns.map V.int))) else none) = some u → b = a ∧ u = HO.frz { cls := .type "list", data := .seq vs.toArray } (.lst (ns.map V.int)) := by
      intro b u z
      by_cases e : b = a
      · rw [if_pos e] at z; exact ⟨e, (Option.some.inj z).symm⟩
      · rw [if_neg e] at z; cases z
    refine law_core (H := fun b => if b = a then some (.frz { cls := .type "list", data := .seq vs.toArray } (.lst (ns.map V.int))) else none) KX hns hb hbb hlim hg ha hr F hbind hφ (fun b => ?_) (.inl ⟨_, if_pos rfl⟩) (fun b u z => ?_) (fun b z => ?_) fun _ => hk
    · by_cases e : b = a
      · exact .inr ⟨_, _, if_pos e⟩
      · exact .inl (if_neg e)
    · obtain ⟨e, rfl⟩ := same z
      subst e
      exact ⟨ha, by rw [List.length_map]; exact hl, vs, _, rv, ha⟩
    · by_cases e : b = a
      · exact e
      · exact (z (if_neg e)).elim
end
theorem walk_D {l : PySem.W.OpenLaw} {n k : Nat} {q : Program} {loose : List Str} {XP : (Str → Option Value) → Heap → Prop} {YP : World → Heap → Prop} {d : DefRec} {x : Str} (hn : l.most = some n) (hn2 : n ≤ sizeLine) (hdf : d.params.defaults = []) (hr : Room k callerA)
    (F : ∀ (w : World) (mg : Str → Option Value) (fa : Addr) (h : Heap), YP w h → h.Ns mainGlobals mg → mg d.name = some (.ref fa) → ∃ (K : PySem.W.Frag) (fd : FuncData) (φ : FnD), K.In h ∧ (∀ (s : Shared) (u : Value), BindsTo s fd ⟨[u], []⟩ [(x, u)]) ∧
      (∀ ns : List Int, ns.length ≤ n → (∀ z ∈ ns, Builtin.Int.intBits z ≤ 1048576) → ∃ S', φ [.rol (ns.map .int)] [] = some (.ok (.bl true), S')) ∧
      ∀ base : Heap, K.In base → base.Ns mainGlobals mg → FnG l.prog w K mg base k fa fd [x] φ) :
    PySem.W.WalkO q loose XP YP l.row.toRowW d [] (fun f vs => PySem.call f vs) := by
  refine Att.attach_callB hn hdf fun w s0 s1 mg mb fa o pm cd doc a vs ns G Y ho hd hcd hmg hobj hints hlen hbits hg => ?_
  obtain ⟨K, fd, φ, KX, hb, hφ, hF⟩ := F w mg fa _ Y G.T.g hmg
  exact law_callD KX G.T.g G.T.b G.T.builtins G.T.nolimit hg hobj hints (Nat.le_trans hlen hn2) hr hF hb (hφ ns hlen hbits)
end DD

set_option Elab.async false
set_option linter.all false
set_option maxRecDepth 100000
namespace DD
open PySem PySem.Spec PyProof.Rows L2
/-! ### in -/
def fIn : F2 := fun a b S => match py a S, py b S with
  | some p, some (.list qs) => if SeqAt.shaped p = true ∧ SeqAt.shaped (.list qs) = true then some (.bl (qs.any fun z => PyData.eqv z p), S) else none
  | _, _ => none
section
variable {X : Cx} {g : G}
theorem f_in : Op2 g (rInD g.K) fIn := fun ι S S' H a b d x y Q s ra rb hf hd => by
  unfold fIn at hf
  split at hf
  · rename_i p qs e1 e2
    split at hf
    · rename_i hc
      cases hf
      exact ⟨p, qs, toPy_R s 9 a x p e1 ra, toPy_R s 9 b y _ e2 rb, hc.1, hc.2, hd.here s (.bl _)⟩
    · cases hf
  · cases hf
theorem op_inM (hK : X.K = g.K) (hu : X.A.units + 66 < cLine) : OpR X (compareOp .In) (rInD g.K) := by rw [← hK]; exact op_inD (by omega)
theorem op_eqN (hK : X.K = g.K) (hu : X.A.units + 66 < cLine) : OpR X (compareOp .Eq) (rEqM g.K) := op_eqM hK (by omega)
theorem op_neN (hK : X.K = g.K) (hu : X.A.units + 66 < cLine) : OpR X (compareOp .NotEq) (rNeM g.K) := op_neM hK (by omega)
end
/-! ### facts of the written part, as one Bool -/
open He (ga ma eqO eqO_ok ba)
def valK (K : PySem.W.Frag) : TyN → Value
  | .inl n => .type n
  | .inr x => .ref (ga K x)
def isSm (a : Option Bool) : Bool := match a with
  | some b => b
  | none => false
def oexB (K : PySem.W.Frag) (C : Addr) : Bool := match K.lookup C with
  | some ⟨.type t, _, .cls cd, sl⟩ => match cd.mro, sl.toList with
    | .ref c :: bm, [_, _, _, _, some (.builtin n), _] => decide (t = "type") && (decide (c = C) && (cd.hasDict && (!cd.hasDel && (decide (n = "ValueError.__new__") && PySem.HandSPX.refsVE bm))))
    | _, _ => false
  | _ => false
theorem oexB_ok {K : PySem.W.Frag} {C : Addr} (h : oexB K C = true) : ∃ nm q N bs bm sn sub ab col dd k0 k1 k2 k3 k5, K.lookup C = some (excClassObj nm q C N bs bm true sn sub ab col dd k0 k1 k2 k3 k5 "ValueError.__new__") ∧ PySem.HandSPX.refsVE bm = true := by
  unfold oexB at h
  split at h
  · rename_i t dd cd sl e
    split at h
    · rename_i c bm k0 k1 k2 k3 n k5 e1 e2
      simp only [Bool.and_eq_true, decide_eq_true_eq, Bool.not_eq_true'] at h
      obtain ⟨rfl, rfl, h3, h4, rfl, h5⟩ := h
      obtain ⟨nm, bs, mro, ns, qn, hd, sn, sub, ab, col, del⟩ := cd
      dsimp only at e1 h3 h4
      subst e1 h3 h4
      obtain ⟨l⟩ := sl
      dsimp only at e2
      subst e2
      exact ⟨nm, qn, ns, bs, bm, sn, sub, ab, col, dd, k0, k1, k2, k3, k5, e, h5⟩
    · cases h
  · cases h
/-- an own error class x with the fields fns -/
def clsB (K : PySem.W.Frag) (p : Str × List Str) : Bool :=
  oexB K (ga K p.1) && (eqO (PySem.W.findIn K (.ref (ga K p.1)) "__setattr__") (some (some (.builtin "object.__setattr__"))) && (decide (PySem.W.typeIn K (.ref (ga K p.1)) = some (.type "type")) && (PySem.W.keepIn K (.ref (ga K p.1)) &&
    (xfB K (ga K p.1) && (eqO (PySem.W.findIn K (.ref (ga K p.1)) "__class__") (some (some (.builtin "object.__class__"))) && (eqO (PySem.W.specialIn K (.builtin "object.__class__") "__get__") (some (some (.builtin "getset_descriptor.__get__"))) &&
    (decide (PySem.W.takesIn K (.builtin "object.__class__") = some true) && (decide (PySem.W.mroIn K (ga K p.1) (.type "object") = some true) && (p.2.all (fun f => eqO (PySem.W.findIn K (.ref (ga K p.1)) f) (some none)) &&
    (eqO (PySem.W.findIn K (.ref (ga K p.1)) "__init__") (some (some (.ref (ma K (ga K p.1) "__init__")))) && (decide (PySem.W.typeIn K (.ref (ma K (ga K p.1) "__init__")) = some (.type "function")) && eqO (PySem.W.nsIn K mainGlobals p.1) (some (some (.ref (ga K p.1)))))))))))))))
structure ClsK (K : PySem.W.Frag) (x : Str) (fns : List Str) : Prop where
  T : OexC K (ga K x)
  E : ExcC K (ga K x)
  F : XfC K (ga K x)
  no : ∀ f ∈ fns, PySem.W.findIn K (.ref (ga K x)) f = some none
  iC : PySem.W.findIn K (.ref (ga K x)) "__init__" = some (some (.ref (ma K (ga K x) "__init__")))
  tI : PySem.W.typeIn K (.ref (ma K (ga K x) "__init__")) = some (.type "function")
  glo : PySem.W.nsIn K mainGlobals x = some (some (.ref (ga K x)))
theorem clsB_ok {K : PySem.W.Frag} {p : Str × List Str} (h : clsB K p = true) : ClsK K p.1 p.2 := by
  unfold clsB at h
  simp only [Bool.and_eq_true, decide_eq_true_eq, List.all_eq_true] at h
  obtain ⟨h1, h2, h3, h4, h5, h6, h7, h8, h9, h10, h11, h12, h13⟩ := h
  have xf := xfB_ok h5
  exact ⟨⟨oexB_ok h1, eqO_ok h2, xf.exC, h3, h4⟩, ⟨xf.ga, xf.gg, xf.exC, xf.hdC, eqO_ok h6, eqO_ok h7, h8, h9⟩, xf, fun f hf => eqO_ok (h10 f hf), eqO_ok h11, h12, eqO_ok h13⟩
/-- all facts: own error classes, what isinstance says, names that are the module's, names that are free -/
structure Ask where
  xcs : List (Str × List Str)
  kits : List (TyN × TyN × Bool)
  glos : List Str
  free : List Str
def Ask.ok (q : Ask) (K : PySem.W.Frag) : Bool := q.xcs.all (clsB K) && (q.kits.all (fun t => decide (PySem.W.kitOne K (valK K t.1) (valK K t.2.1) = some t.2.2)) &&
  (q.glos.all (fun x => eqO (PySem.W.nsIn K mainGlobals x) (some (some (.ref (ga K x))))) && q.free.all (fun x => eqO (PySem.W.nsIn K mainGlobals x) (some none))))
def kitL : List (TyN × TyN × Bool) → TyN → TyN → Option Bool
  | [], _, _ => none
  | (t, c, b) :: r, t', c' => if t = t' ∧ c = c' then some b else kitL r t' c'
theorem kitL_mem {t c : TyN} {b : Bool} : ∀ {l : List (TyN × TyN × Bool)}, kitL l t c = some b → (t, c, b) ∈ l
  | (t', c', b') :: r, h => by
    unfold kitL at h
    split at h
    · rename_i e
      obtain ⟨rfl, rfl⟩ := e
      cases h
      exact List.mem_cons_self ..
    · exact List.mem_cons_of_mem _ (kitL_mem h)
def xcL (l : List (Str × List Str)) (c : Str) : Option (List Str) := l.lookup c
def Ask.tab (q : Ask) : Tab where
  kit := kitL q.kits
  catches := fun _ _ => none
  attr := fun _ _ => false
  ins := fun _ => false
  exc := fun c => (q.xcs.lookup c).isSome
  xattr := fun c f => match q.xcs.lookup c with
    | some l => l.contains f
    | none => false
theorem lookup_mem {α : Type} {x : Str} {y : α} : ∀ {l : List (Str × α)}, l.lookup x = some y → (x, y) ∈ l
  | (k, v) :: r, h => by
    cases q : (x == k) with
    | true =>
      simp only [List.lookup, q] at h
      cases h
      rw [beq_iff_eq.mp q]
      exact List.mem_cons_self ..
    | false =>
      simp only [List.lookup, q] at h
      exact List.mem_cons_of_mem _ (lookup_mem h)
section
variable {q : Ask} {K : PySem.W.Frag} {h : Heap} {mg : Str → Option Value}
theorem Ask.cls (c : q.ok K = true) {p : Str × List Str} (m : p ∈ q.xcs) : ClsK K p.1 p.2 := clsB_ok (List.all_eq_true.mp (ba c).1 p m)
theorem Ask.glo (c : q.ok K = true) (X : K.In h) (G : h.Ns mainGlobals mg) {x : Str} (m : x ∈ q.glos) : mg x = some (.ref (ga K x)) := PySem.W.mg_of X G (eqO_ok (List.all_eq_true.mp (ba (ba (ba c).2).2).1 x m))
theorem Ask.fre (c : q.ok K = true) (X : K.In h) (G : h.Ns mainGlobals mg) {x : Str} (m : x ∈ q.free) : mg x = none := PySem.W.mg_none_of X G (eqO_ok (List.all_eq_true.mp (ba (ba (ba c).2).2).2 x m))
/-- each class that is asked for is the module's -/
def Ask.closed (q : Ask) : Bool := q.kits.all fun t => (match t.1 with
  | .inl _ => true
  | .inr x => q.glos.contains x) && match t.2.1 with
  | .inl _ => true
  | .inr x => q.glos.contains x
theorem valOf_val (c : q.ok K = true) (X : K.In h) (G : h.Ns mainGlobals mg) {t : TyN} (m : (match t with | .inl _ => true | .inr x => q.glos.contains x) = true) {v : Value} (hv : ValOf (GK K mg) t v) : v = valK K t := by
  cases t with
  | inl n => exact hv
  | inr x =>
    obtain ⟨C, h1, rfl⟩ := hv
    have e := Ask.glo c X G (x := x) (by simpa using m)
    have z := h1.symm.trans e
    cases z
    rfl
theorem val_valOf (c : q.ok K = true) (X : K.In h) (G : h.Ns mainGlobals mg) {t : TyN} (m : (match t with | .inl _ => true | .inr x => q.glos.contains x) = true) : ValOf (GK K mg) t (valK K t) := by
  cases t with
  | inl n => rfl
  | inr x => exact ⟨_, Ask.glo c X G (x := x) (by simpa using m), rfl⟩
theorem Ask.facts (c : q.ok K = true) (hc : q.closed = true) (X : K.In h) (G : h.Ns mainGlobals mg) : Facts (GK K mg) q.tab := by
  have gl : ∀ {p : Str × List Str}, p ∈ q.xcs → mg p.1 = some (.ref (ga K p.1)) := fun m => PySem.W.mg_of X G (Ask.cls c m).glo
  refine ⟨fun t cc b tv cv hk h1 h2 => ?_, fun _ _ _ z => (by cases z), fun _ _ z => (by cases z), fun x C hx h1 => ?_, fun x f C hx h1 => ?_⟩
  · have m := kitL_mem hk
    have m2 := List.all_eq_true.mp hc _ m
    obtain ⟨m3, m4⟩ := ba m2
    have e1 := valOf_val c X G (t := t) m3 h1
    have e2 := valOf_val c X G (t := cc) m4 h2
    subst e1 e2
    exact of_decide_eq_true (List.all_eq_true.mp (ba (ba c).2).1 _ m)
  · have hx' : (q.xcs.lookup x).isSome = true := hx
    obtain ⟨l, e⟩ := Option.isSome_iff_exists.mp hx'
    have m := lookup_mem e
    have z := h1.symm.trans (gl m)
    cases z
    exact (Ask.cls c m).E
  · have hx' : (match q.xcs.lookup x with
      | some l => l.contains f
      | none => false) = true := hx
    split at hx'
    · rename_i l e
      have m := lookup_mem e
      have z := h1.symm.trans (gl m)
      cases z
      exact ⟨(Ask.cls c m).F, (Ask.cls c m).no f (by simpa using hx')⟩
    · cases hx'
theorem Ask.named (c : q.ok K = true) (hc : q.closed = true) (X : K.In h) (G : h.Ns mainGlobals mg) : Named (GK K mg) q.tab := fun t n b hk => by
  have m2 := List.all_eq_true.mp hc _ (kitL_mem hk)
  exact ⟨_, val_valOf c X G (t := n) (ba m2).2⟩
end
/-! ### the head's own look -/
open He (FnW DefD)
abbrev Seen : Type := Bool × List FnW
def seenB (q : Ask) (fn : List DefD) (K : PySem.W.Frag) : Seen := (fn.all (DefD.ok K) && q.ok K, fn.map fun d => He.fnW K d.at_)
def seenG (n : Nat) (q : Ask) (fn : List DefD) (get : Addr → Option Obj) : Seen := seenB q fn (He.frG get (He.asD get n))
structure Told (q : Ask) (fn : List DefD) (K : PySem.W.Frag) : Prop where
  e : seenB q fn K = (true, fn.map DefD.val)
def hookB (n : Nat) (q : Ask) (fn : List DefD) : PySem.W.Hook := {
  α := Seen
  val := fun _ => (true, fn.map DefD.val)
  obs := fun s => seenG n q fn s.heap.get?
  says := fun _ h => ∃ K : PySem.W.Frag, K.In h ∧ Told q fn K
  keeps := fun _ _ _ z up => z.elim fun K hz => ⟨K, PySem.W.Frag.In.keeps hz.1 up, hz.2⟩
  of := fun _ _ z => ⟨_, He.frG_in, ⟨z⟩⟩ }
theorem seenG_eq {n : Nat} {q : Ask} {fn : List DefD} {get : Addr → Option Obj} {s : Shared} (h : ∀ a, get a = s.heap.get? a) : seenG n q fn get = (hookB n q fn).obs s := by
  obtain rfl : get = s.heap.get? := funext h
  rfl
section
variable {q : Ask} {fn : List DefD} {K : PySem.W.Frag}
theorem Told.ask (c : Told q fn K) : q.ok K = true := (ba (show (fn.all (DefD.ok K) && q.ok K) = true from congrArg Prod.fst c.e)).2
theorem Told.def_ (c : Told q fn K) (i : Nat) {d : DefD} (h : fn[i]? = some d := by rfl) : ∃ fd, FunD K d.name d.qual d.params d.body d.scope (d.dvs K) (d.kws K) (He.fAd K d.at_) fd := by
  have c1 := (ba (show (fn.all (DefD.ok K) && q.ok K) = true from congrArg Prod.fst c.e)).1
  have e : (fn.map fun d => He.fnW K d.at_)[i]? = (fn.map DefD.val)[i]? := congrArg (fun z : Seen => z.2[i]?) c.e
  rw [List.getElem?_map, List.getElem?_map, h] at e
  exact DefD.funD (Option.some.inj e) (List.all_eq_true.mp c1 d (List.mem_of_getElem? h))
end
end DD

set_option Elab.async false
set_option linter.all false
set_option maxRecDepth 100000
namespace DD
open PySem PySem.Spec PyProof.Rows L2
/-! ### calls by name -/
structure FnN (P : Program) (w : World) (K : PySem.W.Frag) (mg : Str → Option Value) (base : Heap) (k : Nat) (x : Str) (ps : List Str) (φ : FnD) : Prop where
  ex : ∃ f fd, FnG P w K mg base k f fd ps φ ∧ mg x = some (.ref f) ∧ PySem.W.keepIn K (.ref f) = true ∧ Binds K fd ps []
theorem FnN.none {P : Program} {w : World} {K : PySem.W.Frag} {mg : Str → Option Value} {base : Heap} {k : Nat} {x : Str} {ps : List Str} {φ : FnD} (F : FnN P w K mg base k x ps φ) : FnN P w K mg base 0 x ps (fun _ _ => none) := by
  obtain ⟨f, fd, h1, h2, h3, h4⟩ := F.ex
  exact ⟨f, fd, ⟨fun _ _ _ z => (by cases z), fun A outer s H args us vs Q E _ _ _ _ _ h => by obtain ⟨_, _, _, _, _, _, _, z, _⟩ := h; cases z⟩, h2, h3, h4⟩
structure XiN (P : Program) (w : World) (K : PySem.W.Frag) (mg : Str → Option Value) (base : Heap) (x : Str) (fns : List Str) : Prop where
  ex : ∃ C fI fd, XI P w K mg base 1 C fns fI fd ∧ mg x = some (.ref C) ∧ Binds K fd (("self" : Str) :: fns) [] ∧
    ∀ (s : Shared) (v : Value) (us : List Value), us.length = fns.length → BindsTo s fd ⟨[v], fns.zip us⟩ ((("self" : Str) :: fns).zip (v :: us))
section
variable {X : Cx} {W : WX} {pos : Pos} {k : Nat} {ps fns : List Str} {φ : FnD} {xa : Xa}
theorem em_callN {x : Str} {p : Pos} {e : Expr} {es : List Expr} {m : MM (List D)} (F : FnN X.prog X.w X.K X.mg X.base k x ps φ) (hr : Room k X.A) (hG : X.A.guards = some []) (tk : Takes X W)
    (ha : PA X (e :: es) (tA (gX X) xa W m)) (hg : Gl X x := by rfl) (hdb : (x == ("__debug__" : Str)) = false := by decide) (he : starEach (e :: es) X.env = (false, eval e X.env) :: starEach es X.env := by rfl) (hpl : (backTo pos (starEach es X.env)).any (·.1) = false := by rfl) :
    PE X (.Call (.Name x p) (e :: es) [] pos) (tE (gX X) xa W (mCall φ m)) := by
  obtain ⟨f, fd, h1, h2, h3, h4⟩ := F.ex
  exact em_call h1 hr hG tk h2 h3 h4 ha hg hdb he hpl
theorem em_callN0 {x : Str} {p : Pos} (F : FnN X.prog X.w X.K X.mg X.base k x ps φ) (hr : Room k X.A) (hG : X.A.guards = some []) (tk : Takes X W) (hg : Gl X x := by rfl) (hdb : (x == ("__debug__" : Str)) = false := by decide) :
    PE X (.Call (.Name x p) [] [] pos) (tE (gX X) xa W (mCall φ mNil)) := by
  obtain ⟨f, fd, h1, h2, h3, h4⟩ := F.ex
  exact em_call0 h1 hr hG tk h2 h3 h4 hg hdb
theorem em_xmkN {x : Str} {p : Pos} {e : Expr} {es : List Expr} {m : MM (List D)} (M : XiN X.prog X.w X.K X.mg X.base x fns) (hr : Room 2 X.A) (tk : Takes X W)
    (ha : PA X (e :: es) (tA (gX X) xa W m)) (hlen : fns.length ≤ sizeLine := by decide +kernel) (hg : Gl X x := by rfl) (hdb : (x == ("__debug__" : Str)) = false := by decide) (he : starEach (e :: es) X.env = (false, eval e X.env) :: starEach es X.env := by rfl) (hpl : (backTo pos (starEach es X.env)).any (·.1) = false := by rfl) :
    PE X (.Call (.Name x p) (e :: es) [] pos) (tE (gX X) xa W (mCall (xmkF x fns) m)) := by
  obtain ⟨C, fI, fd, h1, h2, h3, h4⟩ := M.ex
  exact em_xmk h1 hr tk h2 h3 ha hlen hg hdb he hpl
theorem em_xmkKN {x : Str} {p : Pos} {kws : List Keyword} {m : MM (List D)} (M : XiN X.prog X.w X.K X.mg X.base x fns) (hr : Room 2 X.A) (tk : Takes X W)
    (hkw : PK X kws (tA (gX X) xa W m)) (hg : Gl X x := by rfl) (hall : (backToKw pos (keywordEach kws X.env)).all (·.1.isSome) = true := by rfl) (hks : (backToKw pos (keywordEach kws X.env)).filterMap (·.1) = fns := by rfl) (hdb : (x == ("__debug__" : Str)) = false := by decide)
    (hpl : ((backTo pos (starEach [] X.env)).any (·.1) || (backToKw pos (keywordEach kws X.env)).any (·.1.isNone)) = false := by rfl) :
    PE X (.Call (.Name x p) [] kws pos) (tE (gX X) xa W (mCall (xmkF x fns) m)) := by
  obtain ⟨C, fI, fd, h1, h2, h3, h4⟩ := M.ex
  exact em_xmkK h1 hr tk h2 h4 hkw hg hall hks hdb hpl
theorem em_globN {x : Str} {a : Addr} (h : X.mg x = some (.ref a)) (hg : Gl X x := by rfl) (hd : (x == ("__debug__" : Str)) = false := by decide) : PE X (.Name x pos) (tE (gX X) xa W (retM (.glo x))) :=
  em_glob (v := .ref a) hg h h rfl hd
end
/-- a statement of a class's body -/
def inClass (st : Stmt) (j : Nat) : Stmt := match st with
  | .ClassDef _ _ _ body _ _ _ _ _ _ _ => body.getD j st
  | _ => st
end DD
namespace DD
open PySem PySem.Spec PyProof.Rows L2
section
variable {P : Program} {w : World} {K : PySem.W.Frag} {mg : Str → Option Value} {base : Heap}
theorem em_globE {X : Cx} {W : WX} {pos : Pos} {xa : Xa} {x : Str} (h : ∃ a, X.mg x = some (.ref a)) (hg : Gl X x := by rfl) (hd : (x == ("__debug__" : Str)) = false := by decide) : PE X (.Name x pos) (tE (gX X) xa W (retM (.glo x))) := by
  obtain ⟨a, h⟩ := h
  exact em_globN h hg hd
theorem FnN.mono {j k : Nat} {x : Str} {ps : List Str} {φ : FnD} (F : FnN P w K mg base j x ps φ) (h : j ≤ k) : FnN P w K mg base k x ps φ := by
  obtain ⟨f, fd, h1, h2, h3, h4⟩ := F.ex
  exact ⟨f, fd, h1.mono h, h2, h3, h4⟩
theorem fnn {x : Str} {st : Stmt} {fd : FuncData} {N ps : List Str} {k : Nat} {m : MS} (FD : FunD K x x (defArgs st) (defBody st) (defScope st) [] [] (He.ga K x) fd) (Sc : FnScope N ps (defScope st)) (hm : mg x = some (.ref (He.ga K x)))
    (hb : ∀ (kV doc pm : Value) (an : Option Addr) (cdv ct : Value) (us : List Value), us.length = ps.length → bindArgs (PySem.W.fnOf x x (defArgs st) (defBody st) (defScope st) .none kV doc pm an cdv ct) ⟨us, []⟩ = pure (ps.zip us))
    (body : ∀ (cdv : Value) (A : Around) (outer : List Env) (s : Shared) (H : Hp) (E : XK), Room k (A.deeper (envOfC x (defScope st) s.heap.objs.size (He.ga K x) cdv)) → A.guards = some [] →
      PSs (cxOf (L2.CX P w) P w K mg base N x (defScope st) (He.ga K x) cdv A outer s H E) (defBody st) (tS (GK K mg) xa0 (fun cls d _ H => E cls d H) m)) :
    FnN P w K mg base (k + 1) x ps (fnM ps.length N.length m) := by
  have F := He5.fun_of FD
  exact ⟨_, _, fng_of F Sc body, hm, F.kp, FD.bindsN hb⟩
end
end DD
namespace DD
open PySem PySem.Spec PyProof.Rows L2
section
variable {P : Program} {w : World} {K : PySem.W.Frag} {mg : Str → Option Value} {base : Heap}
theorem binds_eq {x qual : Str} {params : Arguments} {body : List Stmt} {scope : Scope} {kws : List (Str × V)} {f : Addr} {fd : FuncData} {a : Args} {r : List (Str × Value)} (F : FunD K x qual params body scope [] kws f fd)
    (h : ∀ (kV doc pm : Value) (an : Option Addr) (cdv ct : Value), bindArgs (PySem.W.fnOf x qual params body scope .none kV doc pm an cdv ct) a = pure r) (s : Shared) : BindsTo s fd a r := by
  obtain ⟨oc, od, dV, kV, doc, pm, an, cdv, ct, osl, rfl, lk, hcd, hD, hK⟩ := F.ex
  rcases hD with ⟨_, rfl⟩ | ⟨e, _⟩
  · exact .of_eq (h kV doc pm an cdv ct)
  · exact absurd rfl e
theorem xin1 {x f qual : Str} {st : Stmt} {fd : FuncData} {p1 p2 p3 p4 : Pos} (FD : FunD K "__init__" qual (defArgs st) (defBody st) (defScope st) [] [] (He.ma K (He.ga K x) "__init__") fd) (c : ClsK K x [f]) (hm : mg x = some (.ref (He.ga K x)))
    (Sc : FnScope ["self", f] ["self", f] (defScope st)) (hb : defBody st = [.Assign [.Attribute (.Name "self" p1) f p2] (.Name f p3) p4]) (hv : Vis (defScope st) "self") (hv2 : Vis (defScope st) f) (hd : (f == ("__debug__" : Str)) = false) (hcd : (f == ("__classdict__" : Str)) = false)
    (b1 : ∀ (kV doc pm : Value) (an : Option Addr) (cdv ct u v : Value), bindArgs (PySem.W.fnOf "__init__" qual (defArgs st) (defBody st) (defScope st) .none kV doc pm an cdv ct) ⟨[u, v], []⟩ = pure [(("self" : Str), u), (f, v)])
    (b2 : ∀ (kV doc pm : Value) (an : Option Addr) (cdv ct u v : Value), bindArgs (PySem.W.fnOf "__init__" qual (defArgs st) (defBody st) (defScope st) .none kV doc pm an cdv ct) ⟨[u], [(f, v)]⟩ = pure [(("self" : Str), u), (f, v)]) : XiN P w K mg base x [f] := by
  refine ⟨_, _, fd, ⟨c.T, c.iC, c.tI, xi1 (He5.fun_of FD) Sc hb c.T (c.no f (by simp)) hv hv2 hd hcd⟩, hm, ?_, fun s v us hl => ?_⟩
  · exact FD.bindsN fun kV doc pm an cdv ct us hl => match us, hl with | [u, v], _ => b1 kV doc pm an cdv ct u v
  · match us, hl with
    | [u], _ => exact binds_eq FD (fun kV doc pm an cdv ct => b2 kV doc pm an cdv ct v u) s
theorem xin2 {x f g qual : Str} {st : Stmt} {fd : FuncData} {p1 p2 p3 p4 q1 q2 q3 q4 : Pos} (FD : FunD K "__init__" qual (defArgs st) (defBody st) (defScope st) [] [] (He.ma K (He.ga K x) "__init__") fd) (c : ClsK K x [f, g]) (hm : mg x = some (.ref (He.ga K x)))
    (Sc : FnScope ["self", f, g] ["self", f, g] (defScope st)) (hb : defBody st = [.Assign [.Attribute (.Name "self" p1) f p2] (.Name f p3) p4, .Assign [.Attribute (.Name "self" q1) g q2] (.Name g q3) q4]) (hv : Vis (defScope st) "self") (hv2 : Vis (defScope st) f) (hv3 : Vis (defScope st) g)
    (hd : (f == ("__debug__" : Str)) = false) (hcd : (f == ("__classdict__" : Str)) = false) (hd2 : (g == ("__debug__" : Str)) = false) (hcd2 : (g == ("__classdict__" : Str)) = false)
    (b1 : ∀ (kV doc pm : Value) (an : Option Addr) (cdv ct u v y : Value), bindArgs (PySem.W.fnOf "__init__" qual (defArgs st) (defBody st) (defScope st) .none kV doc pm an cdv ct) ⟨[u, v, y], []⟩ = pure [(("self" : Str), u), (f, v), (g, y)])
    (b2 : ∀ (kV doc pm : Value) (an : Option Addr) (cdv ct u v y : Value), bindArgs (PySem.W.fnOf "__init__" qual (defArgs st) (defBody st) (defScope st) .none kV doc pm an cdv ct) ⟨[u], [(f, v), (g, y)]⟩ = pure [(("self" : Str), u), (f, v), (g, y)]) : XiN P w K mg base x [f, g] := by
  refine ⟨_, _, fd, ⟨c.T, c.iC, c.tI, xi2 (He5.fun_of FD) Sc hb c.T (c.no f (by simp)) (c.no g (by simp)) hv hv2 hv3 hd hcd hd2 hcd2⟩, hm, ?_, fun s v us hl => ?_⟩
  · exact FD.bindsN fun kV doc pm an cdv ct us hl => match us, hl with | [u, v, y], _ => b1 kV doc pm an cdv ct u v y
  · match us, hl with
    | [u, y], _ => exact binds_eq FD (fun kV doc pm an cdv ct => b2 kV doc pm an cdv ct v u y) s
end
end DD
namespace DD
open PySem PySem.Spec PyProof.Rows L2
/-- of a def nothing is asked (the bottom of a recursion) -/
theorem fnn0 {P : Program} {w : World} {K : PySem.W.Frag} {mg : Str → Option Value} {base : Heap} {x : Str} {st : Stmt} {fd : FuncData} {ps : List Str} (FD : FunD K x x (defArgs st) (defBody st) (defScope st) [] [] (He.ga K x) fd) (hm : mg x = some (.ref (He.ga K x)))
    (hb : ∀ (kV doc pm : Value) (an : Option Addr) (cdv ct : Value) (us : List Value), us.length = ps.length → bindArgs (PySem.W.fnOf x x (defArgs st) (defBody st) (defScope st) .none kV doc pm an cdv ct) ⟨us, []⟩ = pure (ps.zip us)) : FnN P w K mg base 0 x ps (fun _ _ => none) :=
  ⟨_, _, ⟨fun _ _ _ z => (by cases z), fun A outer s H args us vs Q E _ _ _ _ _ h => by obtain ⟨_, _, _, _, _, _, _, z, _⟩ := h; cases z⟩, hm, (He5.fun_of FD).kp, FD.bindsN hb⟩
end DD

set_option Elab.async false
set_option linter.all false
set_option maxRecDepth 100000
namespace DD
open PySem PySem.Spec PyProof.Rows L2
/-! ### reasoning about runs -/
def okM {α : Type} (m : MM α) (e : Sl) (S : So) (P : α → So → Prop) : Prop := ∃ a S', m e S = some (.ok a, S') ∧ P a S'
def okS (m : MS) (e : Sl) (S : So) (P : Fl → Sl → So → Prop) : Prop := ∃ f e' S', m e S = some (f, e', S') ∧ P f e' S'
def okF {α : Type} (o : Option (α × So)) (P : α → So → Prop) : Prop := ∃ d S', o = some (d, S') ∧ P d S'
def okC (o : Option (Re D × So)) (P : D → So → Prop) : Prop := ∃ d S', o = some (.ok d, S') ∧ P d S'
section
variable {α β : Type} {e : Sl} {S : So}
theorem okM.imp {m : MM α} {P Q : α → So → Prop} (h : okM m e S P) (i : ∀ a S', P a S' → Q a S') : okM m e S Q := by
  obtain ⟨a, S', h1, h2⟩ := h; exact ⟨a, S', h1, i _ _ h2⟩
theorem okS.imp {m : MS} {P Q : Fl → Sl → So → Prop} (h : okS m e S P) (i : ∀ f e' S', P f e' S' → Q f e' S') : okS m e S Q := by
  obtain ⟨a, e', S', h1, h2⟩ := h; exact ⟨a, e', S', h1, i _ _ _ h2⟩
theorem okC.imp {o : Option (Re D × So)} {P Q : D → So → Prop} (h : okC o P) (i : ∀ a S', P a S' → Q a S') : okC o Q := by
  obtain ⟨a, S', h1, h2⟩ := h; exact ⟨a, S', h1, i _ _ h2⟩
@[simp] theorem okF_some {d : α} {P : α → So → Prop} : okF (some (d, S)) P ↔ P d S := ⟨fun ⟨_, _, h, p⟩ => by cases h; exact p, fun p => ⟨_, _, rfl, p⟩⟩
@[simp] theorem okF_none {P : α → So → Prop} : okF (none : Option (α × So)) P ↔ False := ⟨fun ⟨_, _, h, _⟩ => (by cases h), fun h => h.elim⟩
@[simp] theorem okF_ite {c : Prop} [Decidable c] {o : Option (α × So)} {P : α → So → Prop} : okF (if c then o else none) P ↔ c ∧ okF o P := by
  by_cases h : c <;> simp [h]
@[simp] theorem okC_some {d : D} {P : D → So → Prop} : okC (some (.ok d, S)) P ↔ P d S := ⟨fun ⟨_, _, h, p⟩ => by cases h; exact p, fun p => ⟨_, _, rfl, p⟩⟩
@[simp] theorem okM_ret {a : α} {P : α → So → Prop} : okM (retM a) e S P ↔ P a S := ⟨fun ⟨_, _, h, p⟩ => by cases h; exact p, fun p => ⟨_, _, rfl, p⟩⟩
@[simp] theorem okM_bind {m : MM α} {k : α → MM β} {P : β → So → Prop} : okM (bindM m k) e S P ↔ okM m e S fun a S1 => okM (k a) e S1 P := by
  constructor
  · rintro ⟨b, S', h, p⟩
    rcases bindM_some h with ⟨a, S1, h1, h2⟩ | ⟨c, fs, _, z⟩
    · exact ⟨a, S1, h1, b, S', h2, p⟩
    · cases z
  · rintro ⟨a, S1, h1, b, S', h2, p⟩
    exact ⟨b, S', by unfold bindM; rw [h1]; exact h2, p⟩
@[simp] theorem okM_lift {o : So → Option (α × So)} {P : α → So → Prop} : okM (liftF o) e S P ↔ okF (o S) P := by
  constructor
  · rintro ⟨a, S', h, p⟩
    obtain ⟨d, h1, h2⟩ := liftF_some h
    cases h2
    exact ⟨_, S', h1, p⟩
  · rintro ⟨d, S', h, p⟩
    exact ⟨d, S', by unfold liftF; rw [h], p⟩
@[simp] theorem okM_var {i : Nat} {P : D → So → Prop} : okM (mVar i) e S P ↔ ∃ d, e[i]? = some (.v d) ∧ P d S := by
  constructor
  · rintro ⟨d, S', h, p⟩
    obtain ⟨d', h1, z, rfl⟩ := mVar_some h
    cases z
    exact ⟨_, h1, p⟩
  · rintro ⟨d, h, p⟩
    exact ⟨d, S, by unfold mVar; rw [h], p⟩
@[simp] theorem okM_op2 {f : F2} {a b : MM D} {P : D → So → Prop} : okM (mOp2 f a b) e S P ↔ okM a e S fun x S1 => okM b e S1 fun y S2 => okF (f x y S2) P := by unfold mOp2; simp
@[simp] theorem okM_op1 {f : F1} {a : MM D} {P : D → So → Prop} : okM (mOp1 f a) e S P ↔ okM a e S fun x S1 => okF (f x S1) P := by unfold mOp1; simp
@[simp] theorem okM_opA {f : FA} {a : MM (List D)} {P : D → So → Prop} : okM (mOpA f a) e S P ↔ okM a e S fun x S1 => okF (f x S1) P := by unfold mOpA; simp
@[simp] theorem okM_nil {P : List D → So → Prop} : okM mNil e S P ↔ P [] S := okM_ret
@[simp] theorem okM_cons {m : MM D} {k : MM (List D)} {P : List D → So → Prop} : okM (mCons m k) e S P ↔ okM m e S fun d S1 => okM k e S1 fun ds S2 => P (d :: ds) S2 := by unfold mCons; simp
@[simp] theorem okM_call {φ : FnD} {m : MM (List D)} {P : D → So → Prop} : okM (mCall φ m) e S P ↔ okM m e S fun ds S1 => okC (φ ds S1) P := by unfold mCall; simp; rfl
@[simp] theorem okM_asB {d : D} {P : Bool → So → Prop} : okM (asB d) e S P ↔ ∃ b, d = .bl b ∧ P b S := by
  constructor
  · rintro ⟨b, S', h, p⟩
    obtain ⟨b', h1, z, rfl⟩ := asB_some h
    cases z
    exact ⟨_, h1, p⟩
  · rintro ⟨b, rfl, p⟩
    exact ⟨b, S, rfl, p⟩
@[simp] theorem okM_tst {m : MM D} {P : Bool → So → Prop} : okM (mTst m) e S P ↔ okM m e S fun d S1 => ∃ b, d = .bl b ∧ P b S1 := by unfold mTst; simp
@[simp] theorem okM_not {m : MM Bool} {P : Bool → So → Prop} : okM (mNot m) e S P ↔ okM m e S fun b S1 => P (!b) S1 := by unfold mNot; simp
theorem okM_ite {c : Bool} {m k : MM α} {P : α → So → Prop} : okM (if c then m else k) e S P ↔ if c then okM m e S P else okM k e S P := by cases c <;> simp
@[simp] theorem okM_and {m k : MM Bool} {P : Bool → So → Prop} : okM (mAnd m k) e S P ↔ okM m e S fun b S1 => if b then okM k e S1 P else P false S1 := by unfold mAnd; simp [okM_ite]
@[simp] theorem okM_or {m k : MM Bool} {P : Bool → So → Prop} : okM (mOr m k) e S P ↔ okM m e S fun b S1 => if b then P true S1 else okM k e S1 P := by unfold mOr; simp [okM_ite]
@[simp] theorem okM_andV {m k : MM D} {P : D → So → Prop} : okM (mAndV m k) e S P ↔ okM m e S fun d S1 => ∃ b, d = .bl b ∧ if b then okM k e S1 P else P (.bl false) S1 := by unfold mAndV; simp [okM_ite]
@[simp] theorem okM_orV {m k : MM D} {P : D → So → Prop} : okM (mOrV m k) e S P ↔ okM m e S fun d S1 => ∃ b, d = .bl b ∧ if b then P (.bl true) S1 else okM k e S1 P := by unfold mOrV; simp [okM_ite]
@[simp] theorem okM_notV {m : MM D} {P : D → So → Prop} : okM (mNotV m) e S P ↔ okM m e S fun d S1 => ∃ b, d = .bl b ∧ P (.bl (!b)) S1 := by unfold mNotV; simp
@[simp] theorem okM_if {t : MM Bool} {m k : MM D} {P : D → So → Prop} : okM (mIf t m k) e S P ↔ okM t e S fun b S1 => if b then okM m e S1 P else okM k e S1 P := by unfold mIf; simp [okM_ite]
theorem okS_bind {m : MM α} {k : α → MS} {P : Fl → Sl → So → Prop} (h : okM m e S fun a S1 => okS (k a) e S1 P) : okS (bindS m k) e S P := by
  obtain ⟨a, S1, h1, f, e', S', h2, p⟩ := h
  exact ⟨f, e', S', by unfold bindS; rw [h1]; exact h2, p⟩
/-- behind a statement -/
def nxt (k : MS) (P : Fl → Sl → So → Prop) : Fl → Sl → So → Prop := fun f e S => match f with
  | .nx => okS k e S P
  | f => P f e S
@[simp] theorem nxt_nx {k : MS} {P : Fl → Sl → So → Prop} : nxt k P .nx e S ↔ okS k e S P := Iff.rfl
@[simp] theorem nxt_rt {k : MS} {P : Fl → Sl → So → Prop} {d : D} : nxt k P (.rt d) e S ↔ P (.rt d) e S := Iff.rfl
@[simp] theorem nxt_bk {k : MS} {P : Fl → Sl → So → Prop} : nxt k P .bk e S ↔ P .bk e S := Iff.rfl
@[simp] theorem nxt_ct {k : MS} {P : Fl → Sl → So → Prop} : nxt k P .ct e S ↔ P .ct e S := Iff.rfl
theorem okS_seq {m k : MS} {P : Fl → Sl → So → Prop} (h : okS m e S (nxt k P)) : okS (seqS m k) e S P := by
  obtain ⟨f, e1, S1, h1, h2⟩ := h
  cases f with
  | nx =>
    obtain ⟨f, e', S', h3, p⟩ := h2
    exact ⟨f, e', S', by unfold seqS; rw [h1]; exact h3, p⟩
  | _ => exact ⟨_, e1, S1, by unfold seqS; rw [h1], h2⟩
theorem okS_nx {P : Fl → Sl → So → Prop} (h : P .nx e S) : okS nxS e S P := ⟨_, _, _, rfl, h⟩
theorem okS_fl {f : Fl} {P : Fl → Sl → So → Prop} (h : P f e S) : okS (fS f) e S P := ⟨_, _, _, rfl, h⟩
theorem okS_if {t : MM Bool} {m k : MS} {P : Fl → Sl → So → Prop} (h : okM t e S fun b S1 => if b then okS m e S1 P else okS k e S1 P) : okS (ifS t m k) e S P := by
  refine okS_bind (h.imp fun b S1 q => ?_)
  cases b
  · simpa using q
  · simpa using q
theorem okS_ifT {t : MM Bool} {m k : MS} {P : Fl → Sl → So → Prop} (h : okM t e S fun b S1 => b = true ∧ okS m e S1 P) : okS (ifS t m k) e S P :=
  okS_if (h.imp fun b S1 q => by rw [if_pos q.1]; exact q.2)
theorem okS_ifF {t : MM Bool} {m k : MS} {P : Fl → Sl → So → Prop} (h : okM t e S fun b S1 => b = false ∧ okS k e S1 P) : okS (ifS t m k) e S P :=
  okS_if (h.imp fun b S1 q => by rw [if_neg (by rw [q.1]; decide)]; exact q.2)
theorem okS_asg {m : MM D} {i : Nat} {P : Fl → Sl → So → Prop} (h : okM m e S fun d S1 => P .nx (e.set i (.v d)) S1) : okS (asgS m (nmT i)) e S P :=
  okS_bind (h.imp fun d S1 q => ⟨_, _, _, rfl, q⟩)
theorem okS_ret {m : MM D} {P : Fl → Sl → So → Prop} (h : okM m e S fun d S1 => P (.rt d) e S1) : okS (retS m) e S P := okS_bind (h.imp fun d S1 q => ⟨_, _, _, rfl, q⟩)
theorem okS_expr {m : MM D} {P : Fl → Sl → So → Prop} (h : okM m e S fun _ S1 => P .nx e S1) : okS (exprS m) e S P := okS_bind (h.imp fun d S1 q => ⟨_, _, _, rfl, q⟩)
theorem okS_par {m : MM (List D)} {i j : Nat} {P : Fl → Sl → So → Prop} (h : okM m e S fun ds S1 => ∃ a b, ds = [a, b] ∧ P .nx ((e.set i (.v a)).set j (.v b)) S1) : okS (parS i j m) e S P :=
  okS_bind (h.imp fun d S1 q => by obtain ⟨a, b, rfl, q⟩ := q; exact ⟨_, _, _, rfl, q⟩)
theorem okS_setix {mv mo mi : MM D} {P : Fl → Sl → So → Prop} (h : okM mv e S fun v S1 => okM mo e S1 fun o S2 => okM mi e S2 fun i S3 => ∃ S4, fSet o i v S3 = some S4 ∧ P .nx e S4) : okS (setS mv mo mi) e S P :=
  okS_bind (h.imp fun v S1 q => okS_bind (q.imp fun o S2 q => okS_bind (q.imp fun i S3 q => by obtain ⟨S4, h4, q⟩ := q; exact ⟨_, _, _, by dsimp only; rw [h4]; rfl, q⟩)))
/-- what a turn ends with -/
def turnP (I : Sl → So → Prop) (P : Fl → Sl → So → Prop) : Fl → Sl → So → Prop := fun f e S => match f with
  | .nx => I e S
  | .ct => I e S
  | .bk => P .nx e S
  | f => P f e S
@[simp] theorem turnP_nx {I : Sl → So → Prop} {P : Fl → Sl → So → Prop} : turnP I P .nx e S ↔ I e S := Iff.rfl
@[simp] theorem turnP_ct {I : Sl → So → Prop} {P : Fl → Sl → So → Prop} : turnP I P .ct e S ↔ I e S := Iff.rfl
@[simp] theorem turnP_bk {I : Sl → So → Prop} {P : Fl → Sl → So → Prop} : turnP I P .bk e S ↔ P .nx e S := Iff.rfl
@[simp] theorem turnP_rt {I : Sl → So → Prop} {P : Fl → Sl → So → Prop} {d : D} : turnP I P (.rt d) e S ↔ P (.rt d) e S := Iff.rfl
theorem okS_for {m : MM Itm} {t : Tg} {b : MS} {P : Fl → Sl → So → Prop} (h : okM m e S fun it S1 => ∃ I : Nat → Sl → So → Prop, I 0 e S1 ∧ ∀ i e2 S2, I i e2 S2 →
    (it.get i S2 = some none ∧ P .nx e2 S2) ∨ (i < it.n ∧ ∃ d e3, it.get i S2 = some (some d) ∧ t d S2 e2 = some e3 ∧ okS b e3 S2 (turnP (I (i + 1)) P))) : okS (forS m t b) e S P := by
  refine okS_bind (h.imp fun it S1 q => ?_)
  obtain ⟨I, h0, hs⟩ := q
  have key : ∀ (n i : Nat) (e2 : Sl) (S2 : So), it.n - i ≤ n → I i e2 S2 → okS (loopI it.get t b n i) e2 S2 P := by
    intro n
    induction n with
    | zero =>
      intro i e2 S2 hn hI
      rcases hs i e2 S2 hI with ⟨h1, h2⟩ | ⟨h1, _⟩
      · exact ⟨_, _, _, by unfold loopI; rw [h1], h2⟩
      · omega
    | succ n ih =>
      intro i e2 S2 hn hI
      rcases hs i e2 S2 hI with ⟨h1, h2⟩ | ⟨h1, d, e3, h2, h3, f, e4, S4, h4, h5⟩
      · exact ⟨_, _, _, by unfold loopI; rw [h1], h2⟩
      · cases f with
        | nx =>
          obtain ⟨f, e5, S5, h6, h7⟩ := ih (i + 1) e4 S4 (by omega) h5
          exact ⟨f, e5, S5, by unfold loopI; rw [h2]; dsimp only; rw [h3]; dsimp only; rw [h4]; exact h6, h7⟩
        | ct =>
          obtain ⟨f, e5, S5, h6, h7⟩ := ih (i + 1) e4 S4 (by omega) h5
          exact ⟨f, e5, S5, by unfold loopI; rw [h2]; dsimp only; rw [h3]; dsimp only; rw [h4]; exact h6, h7⟩
        | bk => exact ⟨_, e4, S4, by unfold loopI; rw [h2]; dsimp only; rw [h3]; dsimp only; rw [h4], h5⟩
        | rt d => exact ⟨_, e4, S4, by unfold loopI; rw [h2]; dsimp only; rw [h3]; dsimp only; rw [h4], h5⟩
        | ex c fs => exact ⟨_, e4, S4, by unfold loopI; rw [h2]; dsimp only; rw [h3]; dsimp only; rw [h4], h5⟩
  exact key it.n 0 e S1 (by omega) h0
theorem okM_comp {own : List Nat} {m : MM Itm} {t : Tg} {te : MM D} {P : D → So → Prop} (h : okM m e S fun it S1 => ∃ I : Nat → So → Prop, I 0 (S1 ++ [.lst []]) ∧ ∀ i S2, I i S2 →
    (it.get i S2 = some none ∧ P (.ref S1.length) S2) ∨ (i < it.n ∧ ∃ d e3, it.get i S2 = some (some d) ∧ t d S2 (wipeE e own) = some e3 ∧ okM te e3 S2 fun y S3 => ∃ acc, S3[S1.length]? = some (.lst acc) ∧ acc.length < sizeLine ∧ I (i + 1) (S3.set S1.length (.lst (acc ++ [y]))))) : okM (compM own m t yesM te) e S P := by
  unfold compM
  simp only [okM_bind]
  refine h.imp fun it S1 q => ?_
  obtain ⟨I, h0, hs⟩ := q
  have key : ∀ (n i : Nat) (S2 : So), it.n - i ≤ n → I i S2 → ∃ S', compI it.get t yesM te S1.length (wipeE e own) n i S2 = some S' ∧ P (.ref S1.length) S' := by
    intro n
    induction n with
    | zero =>
      intro i S2 hn hI
      rcases hs i S2 hI with ⟨h1, h2⟩ | ⟨h1, _⟩
      · exact ⟨_, by unfold compI; rw [h1], h2⟩
      · omega
    | succ n ih =>
      intro i S2 hn hI
      rcases hs i S2 hI with ⟨h1, h2⟩ | ⟨h1, d, e3, h2, h3, y, S3, h4, acc, h5, h6, h7⟩
      · exact ⟨_, by unfold compI; rw [h1], h2⟩
      · obtain ⟨S', h8, h9⟩ := ih (i + 1) _ (by omega) h7
        exact ⟨S', by unfold compI; rw [h2]; dsimp only; rw [h3]; dsimp only [yesM, retM]; rw [h4]; dsimp only; rw [h5]; dsimp only; rw [if_pos h6]; exact h8, h9⟩
  obtain ⟨S', h1, h2⟩ := key it.n 0 _ (by omega) h0
  exact ⟨_, S', by dsimp only; rw [h1], h2⟩
/-- the end of a def -/
def endP (P : D → So → Prop) : Fl → Sl → So → Prop := fun f _ S => match f with
  | .nx => P .non S
  | .rt d => P d S
  | _ => False
@[simp] theorem endP_nx {P : D → So → Prop} : endP P .nx e S ↔ P .non S := Iff.rfl
@[simp] theorem endP_rt {P : D → So → Prop} {d : D} : endP P (.rt d) e S ↔ P d S := Iff.rfl
theorem okC_fn {np n : Nat} {m : MS} {ds : List D} {P : D → So → Prop} (hl : ds.length = np) (h : okS m (startE n ds) S (endP P)) : okC (fnM np n m ds S) P := by
  obtain ⟨f, e', S', h1, h2⟩ := h
  unfold fnM
  rw [if_pos hl, h1]
  cases f with
  | nx => exact ⟨_, _, rfl, h2⟩
  | rt d => exact ⟨_, _, rfl, h2⟩
  | _ => exact h2.elim
theorem okS_rng {m : MM (List D)} {t : Tg} {b : MS} {P : Fl → Sl → So → Prop} (h : okM m e S fun ds S1 => ∃ j : Nat, ds = [.int j] ∧ (j : Int) < 2 ^ 62 ∧ ∃ I : Nat → Sl → So → Prop, I 0 e S1 ∧ (∀ i e2 S2, i < j → I i e2 S2 → ∃ e3, t (.int i) S2 e2 = some e3 ∧ okS b e3 S2 (turnP (I (i + 1)) P)) ∧ ∀ e2 S2, I j e2 S2 → P .nx e2 S2) :
    okS (forS (mRng1 m) t b) e S P := by
  refine okS_for ?_
  unfold mRng1
  simp only [okM_bind]
  refine h.imp fun ds S1 q => ?_
  obtain ⟨j, rfl, hj, I, h0, hs, hd⟩ := q
  refine ⟨itRng 0 j, S1, ?_, fun i e2 S2 => i ≤ j ∧ I i e2 S2, ⟨Nat.zero_le _, h0⟩, fun i e2 S2 hI => ?_⟩
  · unfold rng1
    simp only [Int.toNat_natCast]
    rw [if_pos ⟨by omega, hj⟩]
  · obtain ⟨hi, hI⟩ := hI
    by_cases hij : i < j
    · obtain ⟨e3, h1, h2⟩ := hs i e2 S2 hij hI
      refine .inr ⟨hij, .int i, e3, by unfold itRng; simp [hij], h1, h2.imp fun f e' S' q => ?_⟩
      cases f with
      | nx => exact ⟨hij, q⟩
      | ct => exact ⟨hij, q⟩
      | _ => exact q
    · have : i = j := by omega
      subst this
      exact .inl ⟨by unfold itRng; simp, hd _ _ hI⟩
theorem okM_compR {own : List Nat} {m : MM (List D)} {t : Tg} {te : MM D} {P : D → So → Prop} (h : okM m e S fun ds S1 => ∃ j : Nat, ds = [.int j] ∧ (j : Int) < 2 ^ 62 ∧ ∃ I : Nat → So → Prop, I 0 (S1 ++ [.lst []]) ∧
    (∀ i S2, i < j → I i S2 → ∃ e3, t (.int i) S2 (wipeE e own) = some e3 ∧ okM te e3 S2 fun y S3 => ∃ acc, S3[S1.length]? = some (.lst acc) ∧ acc.length < sizeLine ∧ I (i + 1) (S3.set S1.length (.lst (acc ++ [y])))) ∧ ∀ S2, I j S2 → P (.ref S1.length) S2) :
    okM (compM own (mRng1 m) t yesM te) e S P := by
  refine okM_comp ?_
  unfold mRng1
  simp only [okM_bind]
  refine h.imp fun ds S1 q => ?_
  obtain ⟨j, rfl, hj, I, h0, hs, hd⟩ := q
  refine ⟨itRng 0 j, S1, ?_, fun i S2 => i ≤ j ∧ I i S2, ⟨Nat.zero_le _, h0⟩, fun i S2 hI => ?_⟩
  · unfold rng1
    simp only [Int.toNat_natCast]
    rw [if_pos ⟨by omega, hj⟩]
  · obtain ⟨hi, hI⟩ := hI
    by_cases hij : i < j
    · obtain ⟨e3, h1, h2⟩ := hs i S2 hij hI
      refine .inr ⟨hij, .int i, e3, by unfold itRng; simp [hij], h1, h2.imp fun y S3 q => ?_⟩
      obtain ⟨acc, h3, h4, h5⟩ := q
      exact ⟨acc, h3, h4, hij, h5⟩
    · have : i = j := by omega
      subst this
      exact .inl ⟨by unfold itRng; simp, hd _ hI⟩
end
end DD

set_option Elab.async false
set_option linter.all false
set_option maxRecDepth 100000
namespace DD
open PySem PySem.Spec PyProof.Rows L2
section
variable {α β : Type} {e : Sl} {S : So}
@[simp] theorem okM_meth {ty : D → So → Bool} {f : FM} {mo : MM D} {ma : MM (List D)} {P : D → So → Prop} : okM (mMeth ty f mo ma) e S P ↔ okM mo e S fun a S1 => ty a S1 = true ∧ okM ma e S1 fun ds S2 => okF (f a ds S2) P := by
  unfold mMeth
  simp only [okM_bind]
  constructor
  · intro h
    refine h.imp fun a S1 q => ?_
    by_cases ht : ty a S1 = true
    · refine ⟨ht, ?_⟩
      obtain ⟨d, S2, h1, p⟩ := q
      dsimp only at h1
      rw [if_pos ht] at h1
      have : okM (bindM ma fun ds => liftF (f a ds)) e S1 P := ⟨d, S2, h1, p⟩
      simpa using this
    · obtain ⟨d, S2, h1, p⟩ := q
      dsimp only at h1
      rw [if_neg ht] at h1
      cases h1
  · intro h
    refine h.imp fun a S1 q => ?_
    obtain ⟨ht, q⟩ := q
    have : okM (bindM ma fun ds => liftF (f a ds)) e S1 P := by simpa using q
    obtain ⟨d, S2, h1, p⟩ := this
    exact ⟨d, S2, by dsimp only; rw [if_pos ht]; exact h1, p⟩
theorem cm {i j : Int} (h : -(2 ^ 64) < j ∧ j < 2 ^ 64) : CMul i j ∨ CMulW i j := .inl (.inr h)
@[simp] theorem okF_mul {i j : Int} {P : D → So → Prop} : okF (fMul (.int i) (.int j) S) P ↔ (CMul i j ∨ CMulW i j) ∧ P (.int (i * j)) S := by unfold fMul; simp
@[simp] theorem okF_div {i j : Int} {P : D → So → Prop} : okF (fDiv (.int i) (.int j) S) P ↔ CDivW i j ∧ P (.int (i / j)) S := by unfold fDiv; simp
@[simp] theorem okF_mod {i j : Int} {P : D → So → Prop} : okF (fMod (.int i) (.int j) S) P ↔ 0 < j ∧ P (.int (i % j)) S := by unfold fMod; simp
@[simp] theorem okF_pow {i j : Int} {P : D → So → Prop} : okF (fPow (.int i) (.int j) S) P ↔ CPow i j ∧ P (.int (i ^ j.toNat)) S := by unfold fPow; simp
@[simp] theorem fAdd_int {i j : Int} : fAdd (.int i) (.int j) S = some (.int (i + j), S) := rfl
@[simp] theorem fSub_int {i j : Int} : fSub (.int i) (.int j) S = some (.int (i - j), S) := rfl
@[simp] theorem fOrd_int {p q} {i j : Int} : fOrd p q (.int i) (.int j) S = some (.bl (p i j), S) := rfl
@[simp] theorem fInt_int {i : Int} : fInt [.int i] S = some (.int i, S) := rfl
@[simp] theorem fAbs_int {i : Int} : fAbs [.int i] S = some (.int (if i < 0 then -i else i), S) := rfl
@[simp] theorem fNeg_int {i : Int} : fNeg (.int i) S = some (.int (-i), S) := rfl
@[simp] theorem fLen_rol {xs : List D} : fLen [.rol xs] S = some (.int xs.length, S) := rfl
theorem fLen_ref {n : Nat} {xs : List D} (h : S[n]? = some (.lst xs)) : fLen [.ref n] S = some (.int xs.length, S) := by
  simp [fLen, seqOf, h]
theorem fIx_ref {n : Nat} {xs : List D} {i : Int} {d : D} (h : S[n]? = some (.lst xs)) (h2 : atI xs i = some d) : fIx (.ref n) (.int i) S = some (d, S) := by
  simp [fIx, seqOf, h, h2]
theorem fIx_rol {xs : List D} {i : Int} {d : D} (h2 : atI xs i = some d) : fIx (.rol xs) (.int i) S = some (d, S) := by
  simp [fIx, seqOf, h2]
theorem atI_ok {xs : List α} {i : Int} (h0 : 0 ≤ i) (h1 : i < xs.length) : ∃ d, atI xs i = some d ∧ xs[i.toNat]? = some d := by
  have h2 : i.toNat < xs.length := by omega
  refine ⟨xs[i.toNat], ?_, List.getElem?_eq_getElem h2⟩
  unfold atI ixN
  rw [if_pos h0, if_pos h1]
  exact List.getElem?_eq_getElem h2
theorem isL_ref {n : Nat} {xs : List D} (h : S[n]? = some (.lst xs)) : isL (.ref n) S = true := by simp [isL, h]
theorem fAppend_ref {n : Nat} {xs : List D} {y : D} (h : S[n]? = some (.lst xs)) (hl : xs.length < sizeLine) : fAppend (.ref n) [y] S = some (.non, S.set n (.lst (xs ++ [y]))) := by
  simp [fAppend, h, hl]
theorem fSet_ref {n : Nat} {xs : List D} {i : Int} {y : D} (h : S[n]? = some (.lst xs)) (h0 : 0 ≤ i) (h1 : i < xs.length) : fSet (.ref n) (.int i) y S = some (S.set n (.lst (xs.set i.toNat y))) := by
  unfold fSet
  simp only [h]
  unfold ixN
  rw [if_pos h0, if_pos h1]
  rfl
@[simp] theorem fEq_int {i j : Int} : fEq (.int i) (.int j) S = some (.bl (i == j), S) := by
  unfold fEq
  dsimp only
  unfold eqD
  have h1 : ∀ k : Int, py (.int k) S = some (.int k) := fun k => by unfold py toPy; rfl
  have h2 : ∀ k : Int, SeqAt.shaped (.int k) = true := fun k => by
    unfold SeqAt.shaped
    simp [PyData.canLay0, PyData.depth]
  rw [h1, h1]
  dsimp only
  rw [if_pos ⟨h2 _, h2 _⟩]
  simp [PyData.eqv]
theorem okM_seqV {i : Nat} {xs : List D} {P : Itm → So → Prop} (h : e[i]? = some (.v (.rol xs))) (hp : P (itFix xs) S) : okM (mSeq (mVar i)) e S P := by
  unfold mSeq
  rw [okM_bind, okM_var]
  exact ⟨_, h, _, _, rfl, hp⟩
theorem okM_seqM {m : MM D} {P : Itm → So → Prop} (h : okM m e S fun d S1 => ∃ xs, d = .tup xs ∧ P (itFix xs) S1) : okM (mSeq m) e S P := by
  unfold mSeq
  rw [okM_bind]
  refine h.imp fun d S1 q => ?_
  obtain ⟨xs, rfl, q⟩ := q
  exact ⟨_, _, rfl, q⟩
theorem line200 : (200 : Nat) < sizeLine := by rw [sizeLine_eq]; decide
end
end DD

set_option Elab.async false
set_option linter.all false
set_option maxRecDepth 100000
namespace DD
open PySem PySem.Spec PyProof.Rows L2
section
variable {e : Sl} {S : So}
/-- if x == j: .. of a chain -/
theorem okS_eqF {i : Nat} {k j : Int} {m rest : MS} {P : Fl → Sl → So → Prop} (he : e[i]? = some (.v (.int k))) (hj : (k == j) = false) (h : okS rest e S P) : okS (seqS (ifS (mTst (mOp2 fEq (mVar i) (retM (.int j)))) m nxS) rest) e S P := by
  refine okS_seq (okS_ifF ?_)
  simp only [okM_tst, okM_op2, okM_var, okM_ret]
  refine ⟨_, he, ?_⟩
  rw [fEq_int, okF_some, hj]
  exact ⟨_, rfl, rfl, okS_nx h⟩
theorem okS_eqT {i : Nat} {k j : Int} {m rest : MS} {P : Fl → Sl → So → Prop} (he : e[i]? = some (.v (.int k))) (hj : (k == j) = true) (h : okS m e S (nxt rest P)) : okS (seqS (ifS (mTst (mOp2 fEq (mVar i) (retM (.int j)))) m nxS) rest) e S P := by
  refine okS_seq (okS_ifT ?_)
  simp only [okM_tst, okM_op2, okM_var, okM_ret]
  refine ⟨_, he, ?_⟩
  rw [fEq_int, okF_some, hj]
  exact ⟨_, rfl, rfl, h⟩
theorem fTup_ok {ds : List D} (h : ds.length ≤ 100) : fTup ds S = some (.tup ds, S) := by
  unfold fTup
  rw [if_pos (by have := line200; omega)]
theorem fLst_ok {ds : List D} (h : ds.length ≤ 100) : fLst ds S = some (.ref S.length, S ++ [.lst ds]) := by
  unfold fLst
  rw [if_pos (by have := line200; omega)]
theorem xmkF_ok {c : Str} {fns : List Str} {ds : List D} (h : ds.length = fns.length) : xmkF c fns ds S = some (.ok (.ref S.length), S ++ [.exi c (stk fns ds [])]) := by
  unfold xmkF
  rw [if_pos h]
theorem fXfld_ok {T : Tab} {f c : Str} {n : Nat} {fs : List (Str × D)} {d : D} (h : S[n]? = some (.exi c fs)) (h2 : T.xattr c f = true) (h3 : fs.lookup f = some d) : fXfld T f (.ref n) S = some (d, S) := by
  unfold fXfld
  simp [h, h2, h3]
theorem fIsiA_ok {T : Tab} {c x : Str} {n : Nat} {fs : List (Str × D)} {b : Bool} (h : S[n]? = some (.exi c fs)) (h2 : T.exc c = true) (h3 : T.kit (.inr c) (.inr x) = some b) : fIsiA T [.ref n, .glo x] S = some (.bl b, S) := by
  unfold fIsiA
  simp [h, clsN, h2, h3]
theorem fIsiA_ty {T : Tab} {c : Str} {x : String} {n : Nat} {fs : List (Str × D)} {b : Bool} (h : S[n]? = some (.exi c fs)) (h2 : T.exc c = true) (h3 : T.kit (.inr c) (.inl x) = some b) : fIsiA T [.ref n, .ty x] S = some (.bl b, S) := by
  unfold fIsiA
  simp [h, clsN, h2, h3]
theorem py_ints {k : Nat} : ∀ js : List Int, toPys S k (js.map .int) = some (js.map .int)
  | [] => by unfold toPys; rfl
  | j :: js => by
    have h : toPy S k (.int j) = some (.int j) := by unfold toPy; rfl
    rw [List.map_cons, List.map_cons]
    unfold toPys
    rw [h, py_ints js]
theorem py_bls {k : Nat} : ∀ js : List Bool, toPys S k (js.map .bl) = some (js.map .bool)
  | [] => by unfold toPys; rfl
  | j :: js => by
    have h : toPy S k (.bl j) = some (.bool j) := by unfold toPy; rfl
    rw [List.map_cons, List.map_cons]
    unfold toPys
    rw [h, py_bls js]
theorem lay_ints : ∀ js : List Int, PyData.canLayAll0 (js.map .int) = true ∧ PyData.depthAll (js.map .int) = 0
  | [] => by simp [PyData.canLayAll0, PyData.depthAll]
  | j :: js => by
    obtain ⟨h1, h2⟩ := lay_ints js
    simp [PyData.canLayAll0, PyData.depthAll, PyData.canLay0, PyData.depth, h1, h2]
theorem lay_bls : ∀ js : List Bool, PyData.canLayAll0 (js.map .bool) = true ∧ PyData.depthAll (js.map .bool) = 0
  | [] => by simp [PyData.canLayAll0, PyData.depthAll]
  | j :: js => by
    obtain ⟨h1, h2⟩ := lay_bls js
    simp [PyData.canLayAll0, PyData.depthAll, PyData.canLay0, PyData.depth, h1, h2]
theorem shaped_int {i : Int} : SeqAt.shaped (.int i) = true := by unfold SeqAt.shaped; simp [PyData.canLay0, PyData.depth]
theorem shaped_ints {js : List Int} : SeqAt.shaped (.list (js.map .int)) = true := by
  unfold SeqAt.shaped
  simp [PyData.canLay0, PyData.depth, lay_ints js]
theorem shaped_bls {js : List Bool} : SeqAt.shaped (.list (js.map .bool)) = true := by
  unfold SeqAt.shaped
  simp [PyData.canLay0, PyData.depth, lay_bls js]
theorem py_list {n : Nat} {xs : List D} {ps : List PyData} (h : S[n]? = some (.lst xs)) (h2 : toPys S 8 xs = some ps) : py (.ref n) S = some (.list ps) := by
  unfold py toPy
  rw [h]
  dsimp only
  rw [h2]
  rfl
theorem fIn_ints {k : Int} {n : Nat} {js : List Int} (h : S[n]? = some (.lst (js.map .int))) : fIn (.int k) (.ref n) S = some (.bl (js.any fun j => j == k), S) := by
  have h1 : py (.int k) S = some (.int k) := by unfold py toPy; rfl
  unfold fIn
  rw [h1, py_list h (py_ints js)]
  dsimp only
  rw [if_pos ⟨shaped_int, shaped_ints⟩]
  have : ((js.map PyData.int).any fun z => PyData.eqv z (.int k)) = js.any fun j => j == k := by
    rw [List.any_map]
    congr 1
  rw [this]
theorem fNe_bls {n m : Nat} {js : List Bool} (h : S[n]? = some (.lst (js.map .bl))) (h2 : S[m]? = some (.lst (js.map .bl))) : fNe (.ref n) (.ref m) S = some (.bl false, S) := by
  unfold fNe
  dsimp only
  unfold eqD
  rw [py_list h (py_bls js), py_list h2 (py_bls js)]
  dsimp only
  rw [if_pos ⟨shaped_bls, shaped_bls⟩]
  have e : PyData.eqv (.list (js.map .bool)) (.list (js.map .bool)) = true := PySem.SeqAt.eqv_refl _ (by simp [PyData.canLay0, lay_bls js])
  rw [e]
  rfl
theorem fNe_str {x : Str} : fNe (.str x) (.str x) S = some (.bl false, S) := by
  unfold fNe
  simp
theorem fRepr_ok {d : D} {p : PyData} (h : py d S = some p) (h2 : okShow p = true) : fRepr [d] S = some (.str p.shown, S) := by
  unfold fRepr
  dsimp only
  rw [h]
  dsimp only
  rw [if_pos h2]
end
end DD

set_option Elab.async false
set_option linter.all false
set_option maxRecDepth 100000
namespace DD
open PySem PySem.Spec PyProof.Rows L2
/-! ### raise -/
def raiseS (c : Str) (fns : List Str) (m : MM (List D)) : MS := bindS m fun ds e S => if ds.length = fns.length then some (.ex c (stk fns ds []), e, S) else none
section
variable {X : Cx} {W : WX} {pos : Pos} {k : Nat} {fns : List Str} {xa : Xa}
theorem sm_raise {x : Str} {p p2 : Pos} {e : Expr} {es : List Expr} {m : MM (List D)} (M : XiN X.prog X.w X.K X.mg X.base x fns) (hr : Room 2 X.A) (tk : Takes X W) (hc : X.calm = true) (ha : PA X (e :: es) (tA (gX X) xa W m)) (hlen : fns.length ≤ 1000 := by decide)
    (hg : Gl X x := by rfl) (hdb : (x == ("__debug__" : Str)) = false := by decide) (he : starEach (e :: es) X.env = (false, eval e X.env) :: starEach es X.env := by rfl) (hpl : (backTo p2 (starEach es X.env)).any (·.1) = false := by rfl) :
    PS X (.Raise (some (.Call (.Name x p) (e :: es) [] p2)) none pos) (tS (gX X) xa W (raiseS x fns m)) := by
  obtain ⟨C, fI, fd, M, hm, hb, _⟩ := M.ex
  have b0 : Binds X.K fd (("self" : Str) :: fns) [] := hb
  refine (ps_raise hc tk (pmk_oex (ds := []) (dvs := []) M.T M.iC M.tI M.F hr b0 .nil pass0 hg hm ha hdb he hpl)).viaM fun Dd σ H h => ?_
  obtain ⟨ι, S, ev, f, e', S', hs, hev, hmm, hf⟩ := h
  refine stepS hs hev hmm hf fun ds S1 ι1 H1 vs h1 p1 x1 s1 e1 r1 f1 => ?_
  split at h1
  case isFalse => cases h1
  rename_i hl
  cases h1
  have lv : vs.length = fns.length := by rw [← Rs.length r1, hl]
  refine ⟨by omega, fun a na => ⟨a, vs, by simp, lv, upd_same, fun d nd ne => ⟨rfl, d, stk fns vs [], upd_same, by rw [upd_ne ne]; exact upd_same, by rw [upd_ne ne] at nd; exact nd, ?_⟩⟩⟩
  have nd0 : H1 d = none := by rw [upd_ne ne] at nd; exact nd
  have same : ∀ b, b ≠ d → (upd (del (upd (upd (upd H1 a (exo a C none)) d (L2.exd d (stk fns vs []))) a (exo a C (some d))) a) d (.xd (stk fns vs []))) b = H1 b := fun b hb => by
    rw [upd_ne hb]
    by_cases hba : b = a
    · subst hba; rw [del_same, na]
    · rw [del_ne hba, upd_ne hba, upd_ne hb, upd_ne hba]
  have ex : Ex H1 (upd (del (upd (upd (upd H1 a (exo a C none)) d (L2.exd d (stk fns vs []))) a (exo a C (some d))) a) d (.xd (stk fns vs []))) :=
    ⟨fun b x z => by rw [same b (ne_of_none z nd0)]; exact z, fun b u x z => by rw [same b (ne_of_none z nd0)]; exact z, fun b x z => by rw [same b (ne_of_none z nd0)]; exact z, fun b x z => by rw [same b (ne_of_none z nd0)]; exact z⟩
  exact f1 ι1 _ (Pre.refl _) ex (s1.keep ex fun i b z => same b (s1.fresh nd0 z)) σ C d (stk fns vs []) (e1.mono (Pre.refl _) ex) hm upd_same (Fs.stk fns (Rs.mono (Pre.refl _) ex _ _ r1) .nil)
end
/-! ### try .. except C as n -/
def noExn (e : Sl) : Bool := e.all fun y => match y with
  | .exn _ _ => false
  | _ => true
/-- what the clauses catch -/
def Catch (g : G) (ct : Str → Str → Option Bool) : Prop := ∀ c' c b C' C, ct c' c = some b → g.mg c' = some (.ref C') → g.mg c = some (.ref C) → PySem.W.exmOne g.K (.ref C') (.ref C) = some b
def tryS (ct : Str → Str → Option Bool) (c : Str) (i : Nat) (mb ms : MS) : MS := fun e S => match mb e S with
  | some (.ex c' fs, e1, S1) => match ct c' c with
    | some true => if noExn e1 = true then (match ms (e1.set i (.exn c' fs)) S1 with
      | some (.ex _ _, _, _) => none
      | some (f, e2, S2) => if noExn (e2.set i .no) = true then some (f, e2.set i .no, S2) else none
      | none => none) else none
    | some false => some (.ex c' fs, e1, S1)
    | none => none
  | o => o
section
variable {g : G} {xa xa' : Xa} {ι : List Addr} {H : Hp}
theorem Er.swap {e : Sl} {σ : L2.St} (h : Er g xa ι H e σ) (n : noExn e = true) : Er g xa' ι H e σ := ⟨h.1, fun i y z e1 e2 => by
  have q := h.2 i y z e1 e2
  cases y with
  | no => trivial
  | v d => exact q
  | exn c fs =>
    have := List.all_eq_true.mp n _ (List.mem_of_getElem? e1)
    cases this⟩
theorem Er.setX {e : Sl} {σ : L2.St} (h : Er g xa ι H e σ) {i : Nat} {c : Str} {fs : List (Str × D)} {C dd : Addr} {gs : List (Str × V)} (h1 : xa.cls = .ref C) (h2 : g.mg c = some (.ref C)) (h3 : xa.d = some dd) (h4 : H dd = some (.xd gs)) (h5 : Fs g ι H fs gs) :
    Er g xa ι H (e.set i (.exn c fs)) (σ.set i (some (.ref xa.a))) := by
  refine ⟨by simp [h.1], fun j y z e1 e2 => ?_⟩
  by_cases hj : j = i
  · subst hj
    have hl : j < e.length := by have := (List.getElem?_eq_some_iff.mp e1).1; simpa using this
    rw [List.getElem?_set_self hl] at e1
    rw [List.getElem?_set_self (by rw [← h.1]; exact hl)] at e2
    cases e1; cases e2
    exact ⟨rfl, ⟨C, h1, h2⟩, dd, gs, h3, h4, h5⟩
  · rw [List.getElem?_set_ne (Ne.symm hj)] at e1
    rw [List.getElem?_set_ne (Ne.symm hj)] at e2
    exact h.2 j y z e1 e2
end
section
variable {X : Cx} {Wout : WX} {pos : Pos} {xa : Xa}
theorem sm_try {ct : Str → Str → Option Bool} {x n : Str} {i : Nat} {C : Addr} {body suite : List Stmt} {b₀ : Stmt} {np pos' : Pos} {mb ms : MS} (cf : Catch (gX X) ct) (hm : X.mg x = some (.ref C)) (hN : X.N.Nodup) (tk : Takes X Wout)
    (hb : ∀ (W : WX) (pn : List (Addr × Obj)) (xe : Value → Shared → Prop), Takes (X.tr pn xe) W → PassesOwn (model X.prog X.w) X.A X.env xe → PSs (X.tr pn xe) body (tS (gX X) xa W mb))
    (hsu : ∀ (a : Addr) (oe : Obj) (cls : Value) (d : Option Addr) (pn : List (Addr × Obj)), Zc cls d oe → (∃ vs, oe.data = .fields vs) → PSs (X.suite a ((a, oe) :: pn)) (b₀ :: suite) (tS (gX X) ⟨a, cls, d⟩ WF ms))
    (hi : X.N[i]? = some n := by rfl) (hln : X.env.kindOf n = some .local := by rfl) (hg : Gl X x := by rfl) (hdb : (x == ("__debug__" : Str)) = false := by decide) (hs : X.stack = X.env :: X.outer := by rfl) (hf : X.env.frame = some X.env.locals := by rfl) :
    PS X (.Try body [.ExceptHandler (some (.Name x np)) (some n) (b₀ :: suite) pos'] [] [] pos) (tS (gX X) xa Wout (tryS ct x i mb ms)) := by
  refine (ps_try_as (i := i) (tb := fun W => tS (gX X) xa W mb) (ts := fun a cls d => tS (gX X) ⟨a, cls, d⟩ WF ms) (Wout := Wout) hs hf hN hi hln ⟨hg, hdb, .inl hm⟩ tk hb hsu).viaM fun Dd σ H h => ?_
  obtain ⟨ι, S, e, f, e', S', hs, he, hmm, hf⟩ := h
  unfold tryS at hmm
  split at hmm
  · rename_i c' fs e1 S1 q
    refine ⟨ι, S, e, _, e1, S1, hs, he, q, fun ι1 H1 p1 x1 s1 σ1 C' dd gs r1 h1 h2 h3 => ?_⟩
    split at hmm
    · rename_i hct
      split at hmm
      case isFalse => cases hmm
      rename_i hne
      refine ⟨true, cf _ _ _ _ _ hct h1 hm, fun _ a na => ?_, fun z => by cases z⟩
      have er1 : Er (gX X) ⟨a, .ref C', some dd⟩ ι1 H1 (e1.set i (.exn c' fs)) (σ1.set i (some (.ref a))) := (Er.swap r1 hne : Er (gX X) ⟨a, .ref C', some dd⟩ ι1 H1 e1 σ1).setX rfl h1 rfl h2 h3
      split at hmm
      · cases hmm
      · rename_i f2 e2 S2 q2 hnex
        split at hmm
        case isFalse => cases hmm
        rename_i hne2
        cases hmm
        refine ⟨ι1, S1, _, f, e2, S', s1, er1, hnex, fun ι2 H2 p2 x2 s2 => ?_⟩
        have f2' := hf ι2 H2 (p1.trans p2) (x1.trans x2) s2
        have back : ∀ {σ2 : L2.St}, Er (gX X) ⟨a, .ref C', some dd⟩ ι2 H2 e2 σ2 → Er (gX X) xa ι2 H2 (e2.set i .no) (σ2.set i none) := fun r => Er.swap r.clear hne2
        cases f with
        | nx => exact fun σ2 r => f2' _ (back r)
        | bk => exact fun σ2 r => f2' _ (back r)
        | ct => exact fun σ2 r => f2' _ (back r)
        | rt d => exact f2'
        | ex c fs => exact (q2 c fs rfl).elim
      · cases hmm
    · rename_i hct
      cases hmm
      exact ⟨false, cf _ _ _ _ _ hct h1 hm, fun z => (by cases z), fun _ => hf ι1 H1 p1 x1 s1 σ1 C' dd gs r1 h1 h2 h3⟩
    · cases hmm
  · rename_i hno
    refine ⟨ι, S, e, f, e', S', hs, he, hmm, ?_⟩
    cases f with
    | ex c fs => exact absurd hmm (hno c fs e' S')
    | nx => exact fun ι' H' p x s => hf ι' H' p x s
    | bk => exact fun ι' H' p x s => hf ι' H' p x s
    | ct => exact fun ι' H' p x s => hf ι' H' p x s
    | rt d => exact fun ι' H' p x s => hf ι' H' p x s
end
end DD
namespace DD
open PySem PySem.Spec PyProof.Rows L2
/-! ### in an except suite -/
def mXf (T : Tab) (i : Nat) (f : Str) : MM D := fun e S => match e[i]? with
  | some (.exn c fs) => if T.xattr c f = true then (fs.lookup f).map fun d => (.ok d, S) else none
  | _ => none
def kitE (T : Tab) (c : Str) (d : D) : Option Bool := if T.exc c = true then (match d with
  | .tup cs => kitAll T (.inr c) cs
  | d => match clsN d with
    | some n => T.kit (.inr c) n
    | none => none) else none
/-- isinstance(e, c), isinstance(e, (c, ..)) -/
def mIsiE (T : Tab) (i : Nat) (m : MM D) : MM D := fun e S => match e[i]? with
  | some (.exn c _) => bindM m (fun d _ S1 => (kitE T c d).map fun b => (.ok (.bl b), S1)) e S
  | _ => none
section
variable {X : Cx} {g : G} {W : WX} {pos : Pos} {T : Tab} {a : Addr} {oe : Obj} {cls : Value} {d : Option Addr} {pn : List (Addr × Obj)}
theorem Er.exn {xa : Xa} {ι : List Addr} {H : Hp} {e : Sl} {σ : L2.St} (h : Er g xa ι H e σ) {i : Nat} {c : Str} {fs : List (Str × D)} (q : e[i]? = some (.exn c fs)) :
    σ[i]? = some (some (.ref xa.a)) ∧ (∃ C, xa.cls = .ref C ∧ g.mg c = some (.ref C)) ∧ ∃ dd gs, xa.d = some dd ∧ H dd = some (.xd gs) ∧ Fs g ι H fs gs := by
  have hl : i < σ.length := by rw [← h.1]; exact (List.getElem?_eq_some_iff.mp q).1
  obtain ⟨h1, h2, h3⟩ := h.2 i _ σ[i] q (List.getElem?_eq_getElem hl)
  exact ⟨by rw [List.getElem?_eq_getElem hl, h1], h2, h3⟩
theorem em_xfS (i : Nat) {x f : Str} {p : Pos} (F : Facts g T) (hz : Zc cls d oe) (hf : ∃ vs, oe.data = .fields vs) (hN : X.N[i]? = some x := by rfl) (hK : X.K = g.K := by rfl) (hv : Vis X.env.scope x := by first | exact Or.inl rfl | exact Or.inr (Or.inl rfl) | exact Or.inr (Or.inr rfl)) (hd : (x == ("__debug__" : Str)) = false := by decide) (hcd : (x == ("__classdict__" : Str)) = false := by decide)
    (hb : attributeBase (.Name x p) f X.env (eval (.Name x p) X.env) = eval (.Name x p) X.env := by rfl) : PE (X.suite a ((a, oe) :: pn)) (.Attribute (.Name x p) f pos) (tE g ⟨a, cls, d⟩ W (mXf T i f)) := by
  refine ⟨fun pins s σ H Q I h => ?_⟩
  obtain ⟨ι, S, e, r, S', hs, he, hm, hf'⟩ := h
  unfold mXf at hm
  split at hm
  · rename_i c fs q
    split at hm
    · rename_i ha
      cases hl : fs.lookup f with
      | none => rw [hl] at hm; cases hm
      | some z =>
        rw [hl] at hm
        cases hm
        obtain ⟨h1, ⟨C, h2, h3⟩, dd, gs, h4, h5, h6⟩ := he.exn q
        obtain ⟨v, h7, h8⟩ := h6.look hl
        obtain ⟨k1, k2⟩ := F.xattr c f C ha h3
        rw [← hK] at k1 k2
        have h2' : cls = .ref C := h2
        have h4' : d = some dd := h4
        exact (pe_xf (X := X) (te := tVar i) k1 k2 hz hf (pe_var (i := i) hN hv hd hcd) hb).run pins s σ H Q I ⟨.ref a, h1, rfl, h2', dd, gs, v, h4', h5, h7, hf' ι H v (Pre.refl _) (Ex.refl _) hs h8⟩
    · cases hm
  · cases hm
def rIsiS (K : PySem.W.Frag) (a : Addr) (cls : Value) (d : Option Addr) : List V → Hp → VK → Prop := fun xs H Q => ∃ (C dd : Addr) (gs : List (Str × V)) (c : V) (b : Bool), cls = .ref C ∧ d = some dd ∧ H dd = some (.xd gs) ∧ ExcC K C ∧ xs = [.ref a, c] ∧
  ((∃ cv, ClsV c cv ∧ PySem.W.kitOne K (.ref C) cv = some b) ∨ (∃ tp cs us, c = .ref tp ∧ SqU K H tp cs ∧ Paired ClsV cs us ∧ PySem.W.kitAny K (.ref C) us = some b)) ∧ Q (.bl b) H
theorem call_isiS (hz : Zc cls d oe) (hf : ∃ vs, oe.data = .fields vs) : CallR (X.suite a ((a, oe) :: pn)) (.builtin "isinstance") (rIsiS X.K a cls d) := by
  intro pins s σ H xs us Q I r h
  obtain ⟨C, dd, gs, c, b, rfl, rfl, ed, E, rfl, hc, q⟩ := h
  cases r with
  | cons rx rr =>
    cases rr with
    | cons rt rr =>
      cases rr
      cases rx
      obtain ⟨hget, _⟩ := I.pin (a, oe) (List.mem_append.mpr (.inl List.mem_cons_self))
      obtain ⟨vs, hv⟩ := hf
      have hx : ObjOk X.prog X.w H s.heap dd (.xd gs) := I.hok dd _ ed
      obtain ⟨mA, hns, hr⟩ := hx
      obtain ⟨od, ho, hl⟩ := lookIn_ns hns
      have J : PySem.W.InstAt s.heap a oe C (some od) := ⟨hget, hz.1, by unfold PySem.W.notCls; rw [hv] <;> rfl, by rw [hz.2]; exact ho⟩
      have hcl : (PySem.W.clsIn X.K C).isSome = true := by
        obtain ⟨cd, hc, _⟩ := PySem.W.any_some E.hd
        rw [hc]; rfl
      have kx := PySem.W.kitx_exc (x := a) (ox := oe) (od := some od) hcl E.hg E.hk E.hs E.ha E.hn E.ht E.hm
      rcases hc with ⟨cv, hc, e⟩ | ⟨tp, cs, us, rfl, ht, hp, e⟩
      · have ec := ClsV.eq hc rt
        subst ec
        exact PySem.W.kia_one kx I.kIn J e (fun z => nomatch z) fun tk => ⟨.bl b, H, I.kept (t' := tk) fun _ _ z => z, rfl, q⟩
      · cases rt
        rcases ht with ht | ⟨o, its, n, k1, k2, k3, k4, k5⟩
        · obtain ⟨_, its, r5, o, k1, k2, n, k3⟩ := (show ObjOk X.prog X.w H s.heap tp (.tup cs) from I.hok tp _ ht)
          have eu : its = us := ClsV.all hp r5
          subst eu
          obtain ⟨oc, od2, dt, sl⟩ := o
          dsimp only at k2 k3
          subst k2 k3
          exact PySem.W.kia_tup kx I.kIn J k1 e (fun z => nomatch z) fun tk => ⟨.bl b, H, I.kept (t' := tk) fun _ _ z => z, rfl, q⟩
        · have eu : its.toList = us := ClsV.all hp k5
          obtain ⟨oc, od2, dt, sl⟩ := o
          dsimp only at k2 k3
          subst k2 k3 eu
          exact PySem.W.kia_tup kx I.kIn J (by rw [Array.toArray_toList]; exact I.kIn _ _ k1) e (fun z => nomatch z) fun tk => ⟨.bl b, H, I.kept (t' := tk) fun _ _ z => z, rfl, q⟩
theorem em_isiS (i : Nat) {x : Str} {p p2 : Pos} {ce : Expr} {m : MM D} (F : Facts g T) (nm : Named g T) (hz : Zc cls d oe) (hf : ∃ vs, oe.data = .fields vs) (hm : X.mg "isinstance" = none) (hc : PE (X.suite a ((a, oe) :: pn)) ce (tE g ⟨a, cls, d⟩ W m))
    (hN : X.N[i]? = some x := by rfl) (hK : X.K = g.K := by rfl) (hv : Vis X.env.scope x := by first | exact Or.inl rfl | exact Or.inr (Or.inl rfl) | exact Or.inr (Or.inr rfl)) (hd : (x == ("__debug__" : Str)) = false := by decide) (hcd : (x == ("__classdict__" : Str)) = false := by decide) (hg : Gl X "isinstance" := by rfl)
    (h1 : starEach [.Name x p, ce] X.env = (false, eval (.Name x p) X.env) :: starEach [ce] X.env := by rfl) (h2 : starEach [ce] X.env = (false, eval ce X.env) :: starEach [] X.env := by rfl) (hpl : (backTo pos (starEach [ce] X.env)).any (·.1) = false := by rfl) :
    PE (X.suite a ((a, oe) :: pn)) (.Call (.Name "isinstance" p2) [.Name x p, ce] [] pos) (tE g ⟨a, cls, d⟩ W (mIsiE T i m)) := by
  have pa : PA (X.suite a ((a, oe) :: pn)) [.Name x p, ce] (tCons (tVar i) (tCons (tE g ⟨a, cls, d⟩ W m) tNil)) := pa_cons (pe_var (i := i) hN hv hd hcd) (pa_cons hc pa_nil h2) h1
  refine (pe_callB (X := X.suite a ((a, oe) :: pn)) (id := "isinstance") (call_isiS hz hf) hg hm (by decide +kernel) pa (by decide) (by decide) h1 hpl).viaM fun σ H Q h => ?_
  obtain ⟨ι, S, e, r, S', hs, he, hmm, hf'⟩ := h
  unfold mIsiE at hmm
  split at hmm
  case h_2 => cases hmm
  rename_i c fs q
  obtain ⟨q1, ⟨C, q2, q3⟩, dd, gs, q4, q5, q6⟩ := he.exn q
  refine ⟨.ref a, q1, ?_⟩
  refine stepG hs he hmm hf' fun cd S1 ι1 H1 cv k1 p1 x1 s1 e1 r1 f1 => ?_
  cases hk : kitE T c cd with
  | none => rw [hk] at k1; cases k1
  | some b =>
    rw [hk] at k1
    cases k1
    unfold kitE at hk
    split at hk
    case isFalse => cases hk
    rename_i hx
    have E := F.exc c C hx q3
    rw [← hK] at E
    refine ⟨C, dd, gs, cv, b, q2, q4, x1.xd _ _ q5, E, rfl, ?_, f1 ι1 H1 _ (Pre.refl _) (Ex.refl _) s1 (.bl _)⟩
    split at hk
    · rename_i cs
      cases r1 with
      | tup t1 t2 =>
        obtain ⟨us, u1, u2⟩ := kitAll_R F nm (t := .inr c) (tv := .ref C) ⟨C, q3, rfl⟩ t2 hk
        rw [hK]
        exact .inr ⟨_, _, us, rfl, t1, u1, u2⟩
    · split at hk
      · rename_i n en
        obtain ⟨v, v1, v2⟩ := cls_R r1 en (nm _ _ b hk)
        rw [hK]
        exact .inl ⟨v, v2, F.kit _ _ b _ v hk ⟨C, q3, rfl⟩ v1⟩
      · cases hk
end
end DD

set_option Elab.async false
set_option linter.all false
set_option maxRecDepth 100000
namespace DD
open PySem PySem.Spec PyProof.Rows L2
/-! ### == and != by an own __eq__ -/
section
variable {M : Model} {prog : Program} {w : World} {A : Around} {E : Value → Shared → Prop} {s : Shared} {K : PySem.W.Frag} {x C : Addr} {ox : Obj} {od : Option Obj} {f : Addr} {b tb : Value}
theorem bound_ne {args : List Value} {Q : Option Value → Shared → Prop} (X : K.In s.heap) (I : PySem.W.InstAt s.heap x ox C od) (hs : PySem.W.findIn K (.ref C) "__ne__" = some (some (.builtin "object.__ne__")))
    (h : wpAny M A (call (.builtin "object.__ne__") (.ref x :: args)) (fun v => Q (some v)) E s) : wpAny M A (callSpecialIfBound? (.ref x) "__ne__" args) Q E s := by
  simp only [callSpecialIfBound?, bindSpecialIfBound?]
  refine wpAny_holding (wpAny_bind (wpAny_bind (wpAny_bind (I.type.here ((PySem.W.looks_findIn X hs).here ?_)))))
  refine wpAny_bind (wpAny_askSetting (wpAny_ite ?_))
  have go : wpAny M A (call (.builtin "object.__ne__") ([.ref x] ++ args) >>= fun v => pure (some v)) Q E s :=
    wpAny_bind (wpAny_mono h (fun v s' z => wpAny_pure z) fun _ _ z => z)
  split
  · refine wpAny_bind (wpAny_of_eq (PySem.F.cmp_object.ne.bind _) (wpAny_pure ?_))
    exact go
  · refine wpAny_tryCatch (wpAny_bind (wpAny_of_eq (PySem.F.cmp_object.ne.bind _) (wpAny_pure ?_)))
    exact go
theorem ne_own {Q : Value → Shared → Prop} (hu : A.units + 1 < cLine) (X : K.In s.heap) (I : PySem.W.InstAt s.heap x ox C od) (hb : PySem.W.Looks (model prog w) s.heap (typeOf b) tb) (hn : PySem.W.notFirst K C tb = true) (hm : PySem.W.mroIn K C (.type "object") = some true)
    (hne : PySem.W.findIn K (.ref C) "__ne__" = some (some (.builtin "object.__ne__"))) (hs : PySem.W.findIn K (.ref C) "__eq__" = some (some (.ref f))) (hf : PySem.W.isFn K (.ref f) = true)
    (h : wpAny (model prog w) A.in1 (call (.ref f) [.ref x, b]) (fun v s' => ∃ k, v = .bool k ∧ Q (.bool (!k)) s') E s) : wpAny (model prog w) A (richCompare .NotEq (.ref x) b) Q E s := by
  have one : wpAny (model prog w) A (tryCompare (.ref x) "__ne__" b) (fun r s' => ∃ v, r = some v ∧ Q v s') E s := by
    unfold tryCompare
    refine wpAny_bind (bound_ne X I hne (wpAny_call (codeAny_call_builtin PySem.F.cmp_object.ne.plain PySem.F.cmpEntry_ne (PySem.W.check_slot PySem.F.cmpKind_ne PySem.F.cmpSplit_ne (I.type.andThen (PySem.W.looks_mroIn X hm)) (PySem.F.cmpArgs_ne _ _) ?_))))
    unfold Builtin.«object.__ne__»
    refine wpAny_bind (wpAny_of_eq (a := ((Value.ref x : Value), [b])) (by first | rfl | (simp only [slotArgs]; rfl)) ?_)
    refine wpAny_bind (wpAny_cRoomFor (by show A.units + 1 < cLine; exact hu) ?_)
    refine wpAny_bind (PySem.W.ifBound_K X I hs hf (wpAny_mono h (fun v s' z => ?_) fun _ _ z => z))
    obtain ⟨k, rfl, q⟩ := z
    refine wpAny_bind (wpAny_truthy_bool ?_)
    refine wpAny_pure (wpAny_pure ⟨_, rfl, q⟩)
  unfold richCompare
  simp only [oneThing_ref]
  refine wpAny_holding (wpAny_bind (wpAny_cRoomFor (by omega) ?_))
  refine wpAny_bind (I.type.here (wpAny_bind (hb.here ?_)))
  split
  · rename_i q
    have e : PySem.W.subIn K tb (.ref C) = some false := by
      rcases Bool.or_eq_true_iff.mp hn with e | e
      · rw [beq_iff_eq.mp e] at q; simp at q
      · exact beq_iff_eq.mp e
    refine wpAny_bind ((PySem.W.looks_subIn X e).here ?_)
    simp only [Bool.false_eq_true, if_false]
    refine wpAny_bind (wpAny_mono one (fun r s' z => ?_) fun _ _ e => e)
    obtain ⟨v, rfl, hq⟩ := z
    exact wpAny_pure hq
  · refine wpAny_bind (wpAny_pure ?_)
    simp only [Bool.false_eq_true, if_false]
    refine wpAny_bind (wpAny_mono one (fun r s' z => ?_) fun _ _ e => e)
    obtain ⟨v, rfl, hq⟩ := z
    exact wpAny_pure hq
end
end DD
namespace DD
open PySem PySem.Spec PyProof.Rows L2
/-- what == and != ask of the own class at C with an __eq__ at f -/
structure EqC (K : PySem.W.Frag) (C f : Addr) : Prop where
  eq : PySem.W.findIn K (.ref C) "__eq__" = some (some (.ref f))
  fn : PySem.W.isFn K (.ref f) = true
  ne : PySem.W.findIn K (.ref C) "__ne__" = some (some (.builtin "object.__ne__"))
  ob : PySem.W.mroIn K C (.type "object") = some true
section
variable {X : Cx} {W : WX} {k : Nat} {C f : Addr} {fd : FuncData} {ps : List Str} {φ : FnD} {T : Tab} {c : Str}
theorem ins_at {pins : List (Addr × Obj)} {σ : L2.St} {H : Hp} {s : Shared} {a dx : Addr} {fs : List (Str × V)} (I : Inv X pins σ H s) (e : H a = some (.ins C dx fs)) : ∃ od, PySem.W.InstAt s.heap a (PySem.W.instObj C dx) C (some od) := by
  obtain ⟨h1, h2, h3, h4, mA, hns, _⟩ := (show ObjOk X.prog X.w H s.heap a (.ins C dx fs) from I.hok a _ e)
  obtain ⟨od, ho, _⟩ := lookIn_ns hns
  exact ⟨od, h4, rfl, rfl, ho⟩
/-- the callee runs, somewhere below -/
theorem run_fngA {A : Around} {pins : List (Addr × Obj)} {σ : L2.St} {H : Hp} {s : Shared} {Q : VK} {us : List Value} {vs : List V} (F : FnG X.prog X.w X.K X.mg X.base k f fd ps φ) (hr : Room k A) (hG : A.guards = some []) (e0 : Env0 X.prog X.w X.K X.mg X.base A X.stack s H) (hb : Binds X.K fd ps []) (tk : Takes X W)
    (I : Inv X pins σ H s) (r : Vals vs us) (h : spM (gX X) φ vs H Q (fun cls d H' => W cls d σ H')) : wpAny (model X.prog X.w) A (call (.ref f) us) (EP X pins σ Q) X.xe s := by
  have hl : us.length = ps.length := by
    obtain ⟨ι, S, ds, r', S', hs, rs, hφ, hf⟩ := id h
    rw [← r.length, ← Rs.length rs]
    exact F.len _ _ _ hφ
  have b := hb s us I.kIn (by rw [List.append_nil]; exact hl)
  rw [List.append_nil] at b
  refine wpAny_call (codeAny_mono (F.run A X.stack s H ⟨us, []⟩ us vs Q _ hr hG e0 b r h) fun r s' hq => ?_)
  cases r with
  | error e => exact passM tk I (fun _ _ _ z => z) hq
  | ok fl => cases fl <;> first | exact I.after hq | exact False.elim hq
/-- an instance of C, and anything whose type is told -/
def rOwnE (X : Cx) (C : Addr) (φ : FnD) (k : Bool → Bool) : R2 := fun x y H Q => ∃ (a dx : Addr) (fs : List (Str × V)) (tv : Value), x = .ref a ∧ H a = some (.ins C dx fs) ∧ TyX X.K H y tv ∧ PySem.W.notFirst X.K C tv = true ∧
  spM (gX X) φ [x, y] H (fun v H' => ∃ b, v = .bl b ∧ Q (.bl (k b)) H') (fun _ _ _ => False)
theorem op_eqOwn (E : EqC X.K C f) (F : FnG X.prog X.w X.K X.mg X.base k f fd ps φ) (hr : Room k X.A) (hG : X.A.guards = some []) (hb : Binds X.K fd ps []) : OpR X (compareOp .Eq) (rOwnE X C φ id) := by
  intro pins s σ H x y v u Q I rx ry h
  obtain ⟨a, dx, fs, tv, rfl, e, ty, hn, q⟩ := h
  cases rx
  obtain ⟨od, J⟩ := ins_at I e
  obtain ⟨P, Z, p, hx⟩ := kit_of I ry ty
  obtain ⟨m, hF⟩ := I.fr
  show wpAny _ _ (richCompare .Eq (.ref a) u) _ _ _
  refine PySem.W.cmp_K (op := .Eq) (tb := tv) (by have := hr.un; omega) hF I.ok.mod.kin J (Z.ty _ _ I.kIn p) hn E.eq E.fn ?_
  refine wpAny_mono (run_fngA (W := WF) (us := [.ref a, u]) (vs := [.ref a, y]) F hr hG I.env0 hb takes_none5 I (.cons rfl (.cons ry .nil)) q) (fun w s' z => ?_) fun _ _ z => z
  obtain ⟨z', H', I', rz, b, rfl, qz⟩ := z
  cases rz
  exact ⟨.bl b, H', I', rfl, qz⟩
theorem op_neOwn (E : EqC X.K C f) (F : FnG X.prog X.w X.K X.mg X.base k f fd ps φ) (hr : Room (k + 1) X.A) (hG : X.A.guards = some []) (hb : Binds X.K fd ps []) : OpR X (compareOp .NotEq) (rOwnE X C φ (!·)) := by
  intro pins s σ H x y v u Q I rx ry h
  obtain ⟨a, dx, fs, tv, rfl, e, ty, hn, q⟩ := h
  cases rx
  obtain ⟨od, J⟩ := ins_at I e
  obtain ⟨P, Z, p, hx⟩ := kit_of I ry ty
  show wpAny _ _ (richCompare .NotEq (.ref a) u) _ _ _
  refine ne_own (tb := tv) (by have := hr.un; omega) I.kIn J (Z.ty _ _ I.kIn p) hn E.ob E.ne E.eq E.fn ?_
  refine wpAny_mono (run_fngA (W := WF) (us := [.ref a, u]) (vs := [.ref a, y]) F hr.in1 hG I.env0.in1 hb takes_none5 I (.cons rfl (.cons ry .nil)) q) (fun w s' z => ?_) fun _ _ z => z
  obtain ⟨z', H', I', rz, b, rfl, qz⟩ := z
  cases rz
  exact ⟨b, rfl, .bl (!b), H', I', rfl, qz⟩
def fOwn (T : Tab) (c : Str) (φ : FnD) (nf : TyN → Bool) (kk : Bool → Bool) : F2 := fun a b S => match a with
  | .ref n => match S[n]? with
    | some (.ins c' _) => if c' = c then (match tyOf T b S with
      | some t => if nf t = true then (match φ [.ref n, b] S with
        | some (.ok (.bl v), S') => some (.bl (kk v), S')
        | _ => none) else none
      | none => none) else none
    | _ => none
  | _ => none
def NotF (g : G) (c : Str) (nf : TyN → Bool) : Prop := ∀ t tv C, nf t = true → ValOf g t tv → g.mg c = some (.ref C) → PySem.W.notFirst g.K C tv = true
theorem f_own {nf : TyN → Bool} {kk : Bool → Bool} (F : Facts (gX X) T) (hn : NotF (gX X) c nf) (hC : X.mg c = some (.ref C)) : Op2 (gX X) (rOwnE X C φ kk) (fOwn T c φ nf kk) := fun ι S S' H a b d x y Q s ra rb hf hd => by
  unfold fOwn at hf
  split at hf
  · rename_i n
    split at hf
    · rename_i c' fs e
      split at hf
      · rename_i hc
        subst hc
        split at hf
        · rename_i t et
          split at hf
          · rename_i ht
            split at hf
            · rename_i v S2 hφ
              cases hf
              cases ra with
              | ref q =>
                obtain ⟨C', dx, gs, h1, h2, h3⟩ := s.obj _ _ _ q e
                have eC : C' = C := by
                  have z : X.mg c' = some (.ref C') := h2
                  rw [hC] at z
                  cases z
                  rfl
                subst eC
                obtain ⟨tv, t1, t2⟩ := tyOf_R F s rb et
                refine ⟨_, dx, gs, tv, rfl, h1, t2, hn t tv C' ht t1 hC, ι, S, [.ref n, b], .ok (.bl v), S', s, .cons (.ref q) (.cons rb .nil), hφ, fun ι' H' w p x s' r => ?_⟩
                cases r
                exact ⟨v, rfl, hd ι' H' _ p x s' (.bl _)⟩
            · cases hf
          · cases hf
        · cases hf
      · cases hf
    · cases hf
  · cases hf
def altF (f f' : F2) : F2 := fun a b S => match f a b S with
  | some r => some r
  | none => f' a b S
theorem f_alt {g : G} {r r' : R2} {f f' : F2} (h : Op2 g r f) (h' : Op2 g r' f') : Op2 g (fun x y H Q => r x y H Q ∨ r' x y H Q) (altF f f') := fun ι S S' H a b d x y Q s ra rb hf hd => by
  unfold altF at hf
  split at hf
  · rename_i z e
    cases hf
    exact .inl (h ι S S' H a b d x y Q s ra rb e hd)
  · exact .inr (h' ι S S' H a b d x y Q s ra rb hf hd)
end
end DD

set_option Elab.async false
set_option linter.all false
set_option maxRecDepth 100000
namespace DD
open PySem PySem.Spec PyProof.Rows L2
/-! ### comprehensions with two walks -/
theorem wipe_idem (own : List Nat) (τ : L2.St) : L2.wipe (L2.wipe τ own) own = L2.wipe τ own := by
  have sub : ∀ (l : List Nat), (∀ v ∈ l, v ∈ own) → L2.wipe (L2.wipe τ l) own = L2.wipe τ own := by
    intro l
    induction l with
    | nil => intro _; rfl
    | cons v vs ih =>
      intro hv
      show L2.wipe ((L2.wipe τ vs).set v none) own = _
      rw [wipe_set (hv v (List.mem_cons_self ..)), ih fun u hu => hv u (List.mem_cons_of_mem _ hu)]
  exact sub own fun _ h => h
def compJ (get : Nat → So → Option (Option D)) (t : Tg) (m1 : MM Itm) (own1 : List Nat) (t1 : Tg) (te : MM D) (n0 : Nat) (e : Sl) : Nat → Nat → So → Option So
  | 0, i, S => match get i S with
    | some none => some S
    | _ => none
  | k + 1, i, S => match get i S with
    | some none => some S
    | some (some x) => match t x S e with
      | none => none
      | some e1 => match m1 e1 S with
        | some (.ok it1, S2) => match compI it1.get t1 yesM te n0 (wipeE e1 own1) it1.n 0 S2 with
          | some S3 => compJ get t m1 own1 t1 te n0 e k (i + 1) S3
          | none => none
        | _ => none
    | none => none
def comp2M (own own1 : List Nat) (m : MM Itm) (t : Tg) (m1 : MM Itm) (t1 : Tg) (te : MM D) : MM D := bindM m fun it e S =>
  match compJ it.get t m1 own1 t1 te S.length (wipeE e own) it.n 0 (S ++ [.lst []]) with
  | some S' => some (.ok (.ref S.length), S')
  | none => none
section
variable {X : Cx} {g : G} {xa : Xa} {W : WX} {pos : Pos}
theorem comp2_step {m m1 : MM Itm} {own own1 : List Nat} {t t1 : Tg} {te : MM D} {σ : L2.St} {H : Hp} {Q : VK} (h : tE g xa W (comp2M own own1 m t m1 t1 te) σ H Q) :
    tLc2 (tI g xa W m) (tGc g xa own t) (tT g xa WF yesM) (tI g xa WF m1) (tGc g xa own1 t1) (tT g xa WF yesM) (tE g xa WF te) own own1 σ H Q := by
  obtain ⟨ι, S, e, r, S', hs, he, hm, hf⟩ := h
  refine stepG hs he hm hf fun it S1 ι1 H1 J h1 p1 x1 s1 e1 wk f1 => ?_
  intro Da nD
  split at h1
  case h_2 => cases h1
  rename_i S9 hc
  cases h1
  have xD : Ex H1 (upd H1 Da (.lst [])) := Ex.new nD
  have sD : Sim g (ι1 ++ [Da]) (S1 ++ [.lst []]) (upd H1 Da (.lst [])) := s1.new xD (fun n a q => upd_ne (s1.fresh nD q)) nD ⟨[], upd_same, .nil⟩
  have atD : (ι1 ++ [Da])[S1.length]? = some Da := s1.newAt
  refine ⟨fun i m H2 => ∃ ι2 S2, Pre (ι1 ++ [Da]) ι2 ∧ Ex H1 H2 ∧ Sim g ι2 S2 H2 ∧ compJ it.get t m1 own1 t1 te S1.length (wipeE e own) m i S2 = some S', ⟨it.n, ι1 ++ [Da], S1 ++ [.lst []], Pre.refl _, xD, sD, hc⟩, ?_⟩
  rintro i m H2 ⟨ι2, S2, p2, x2, s2, q⟩
  have p12 : Pre ι1 ι2 := (Pre.app ι1 [Da]).trans p2
  have w := wk i ι2 H2 S2 p12 x2 s2
  have stop : it.get i S2 = some none → (J.stop i H2 ∧ Q (.ref Da) H2) := fun z => by
    refine ⟨w.1 z, ?_⟩
    have q' : some S2 = some S' := by
      cases m with
      | zero => unfold compJ at q; rw [z] at q; exact q
      | succ k => unfold compJ at q; rw [z] at q; exact q
    cases q'
    exact f1 ι2 H2 (.ref Da) p12 x2 s2 (.ref (p2 _ _ atD))
  cases hget : it.get i S2 with
  | none =>
    cases m with
    | zero => unfold compJ at q; rw [hget] at q; cases q
    | succ k => unfold compJ at q; rw [hget] at q; cases q
  | some o => cases o with
    | none => exact .inl (stop hget)
    | some d =>
      cases m with
      | zero => unfold compJ at q; rw [hget] at q; cases q
      | succ k =>
        unfold compJ at q
        rw [hget] at q
        dsimp only at q
        obtain ⟨w1, w2⟩ := w.2 d hget
        refine .inr ⟨w1, fun H3 => ∃ ι3 S3, Pre (ι1 ++ [Da]) ι3 ∧ Ex H1 H3 ∧ Sim g ι3 S3 H3 ∧ compJ it.get t m1 own1 t1 te S1.length (wipeE e own) k (i + 1) S3 = some S', fun H3 n3 => ⟨k, Nat.lt_succ_self k, n3⟩, fun v H3 y => ?_⟩
        obtain ⟨x3, s3, r3⟩ := w2 v H3 y
        have x13 := x2.trans x3
        split at q
        · cases q
        · rename_i e3 ht
          refine ⟨ι2, S2, wipeE e own, e3, d, s3, ((e1.mono p12 x13).wipe own), r3, ht, fun σ4 r4 w4 => ⟨?_, ?_⟩⟩
          · rw [w4, wipe_idem]
          · refine ⟨ι2, S2, e3, .ok true, S2, s3, r4, rfl, fun ι6 H6 b p6 x6 s6 eb => ?_⟩
            cases eb
            rw [if_pos rfl]
            split at q
            case h_2 => cases q
            rename_i it1 S5 q5
            split at q
            case h_2 => cases q
            rename_i S7 q7
            refine ⟨ι6, S2, e3, .ok it1, S5, s6, r4.mono p6 x6, q5, fun ι7 H7 J1 p7 x7 s7 wk1 => ?_⟩
            have er7 := (r4.mono p6 x6).mono p7 x7
            refine ⟨fun j k2 H8 => ∃ ι8 S8, Pre ι7 ι8 ∧ Ex H7 H8 ∧ Sim g ι8 S8 H8 ∧ compI it1.get t1 yesM te S1.length (wipeE e3 own1) k2 j S8 = some S7, ⟨it1.n, ι7, S5, Pre.refl _, Ex.refl _, s7, q7⟩, ?_⟩
            rintro j k2 H8 ⟨ι8, S8, p8, x8, s8, q8⟩
            have v1 := wk1 j ι8 H8 S8 p8 x8 s8
            have pAll : Pre (ι1 ++ [Da]) ι8 := ((p2.trans p6).trans p7).trans p8
            have xAll : Ex H1 H8 := ((x13.trans x6).trans x7).trans x8
            have stop1 : it1.get j S8 = some none → (J1.stop j H8 ∧ ∃ ι3 S3, Pre (ι1 ++ [Da]) ι3 ∧ Ex H1 H8 ∧ Sim g ι3 S3 H8 ∧ compJ it.get t m1 own1 t1 te S1.length (wipeE e own) k (i + 1) S3 = some S') := fun z => by
              refine ⟨v1.1 z, ι8, S8, pAll, xAll, s8, ?_⟩
              have q' : some S8 = some S7 := by
                cases k2 with
                | zero => unfold compI at q8; rw [z] at q8; exact q8
                | succ k3 => unfold compI at q8; rw [z] at q8; exact q8
              cases q'
              exact q
            cases hget1 : it1.get j S8 with
            | none =>
              cases k2 with
              | zero => unfold compI at q8; rw [hget1] at q8; cases q8
              | succ k3 => unfold compI at q8; rw [hget1] at q8; cases q8
            | some o1 => cases o1 with
              | none => exact .inl (stop1 hget1)
              | some d1 =>
                cases k2 with
                | zero => unfold compI at q8; rw [hget1] at q8; cases q8
                | succ k3 =>
                  unfold compI at q8
                  rw [hget1] at q8
                  dsimp only at q8
                  obtain ⟨u1, u2⟩ := v1.2 d1 hget1
                  refine .inr ⟨u1, fun H9 => ∃ ι9 S9, Pre ι7 ι9 ∧ Ex H7 H9 ∧ Sim g ι9 S9 H9 ∧ compI it1.get t1 yesM te S1.length (wipeE e3 own1) k3 (j + 1) S9 = some S7, fun H9 n9 => ⟨k3, Nat.lt_succ_self k3, n9⟩, fun v9 H9 y9 => ?_⟩
                  obtain ⟨x9, s9, r9⟩ := u2 v9 H9 y9
                  split at q8
                  · cases q8
                  · rename_i e5 ht1
                    refine ⟨ι8, S8, wipeE e3 own1, e5, d1, s9, ((er7.mono p8 (x8.trans x9)).wipe own1), r9, ht1, fun σ5 r5 w5 => ⟨?_, ?_⟩⟩
                    · rw [w5, wipe_idem]
                    · refine ⟨ι8, S8, e5, .ok true, S8, s9, r5, rfl, fun ιa Ha b pa xa' sa eb => ?_⟩
                      cases eb
                      rw [if_pos rfl]
                      have q9 : (match te e5 S8 with
                        | some (.ok d, S3) => match S3[S1.length]? with
                          | some (.lst acc) => if acc.length < sizeLine then compI it1.get t1 yesM te S1.length (wipeE e3 own1) k3 (j + 1) (S3.set S1.length (.lst (acc ++ [d]))) else none
                          | _ => none
                        | _ => none) = some S7 := q8
                      split at q9
                      · rename_i d7 Sb qb
                        refine ⟨ιa, S8, e5, .ok d7, Sb, sa, r5.mono pa xa', qb, fun ιc Hc u pc xc sc rc => ?_⟩
                        split at q9
                        · rename_i acc qd
                          split at q9
                          · rename_i hl
                            have ac : ιc[S1.length]? = some Da := pc _ _ (pa _ _ (pAll _ _ atD))
                            obtain ⟨vs, h9, rv⟩ := sc.obj _ _ _ ac qd
                            refine ⟨vs, h9, by rw [← Rs.length rv]; exact hl, ?_⟩
                            have xw : Ex Hc (upd Hc Da (.lst (vs ++ [u]))) := Ex.wr h9 (fun _ z => by cases z) (fun _ _ z => by cases z) fun _ z => by cases z
                            obtain ⟨sw, _⟩ := sc.wr (o' := .lst (acc ++ [d7])) (q := .lst (vs ++ [u])) ac ⟨_, upd_same, (Rs.mono (Pre.refl _) xw _ _ rv).append (.cons (R.mono (Pre.refl _) xw _ _ rc) .nil)⟩ xw
                            exact ⟨ιc, _, (p8.trans pa).trans pc, ((((x8.trans x9).trans xa').trans xc).trans xw), sw, q9⟩
                          · cases q9
                        · cases q9
                      · cases q9
theorem em_lc2 {elt tg iter tg1 iter1 : Expr} {scope : Scope} {m m1 : MM Itm} {t t1 : Tg} {te : MM D} (own : List (Str × Nat)) (own1 : List Nat) (hc : X.calm = true) (hN : X.N.Nodup) (hi : PI X tg iter (tI g xa W m)) (ok : BlkOk X.N X.env.scope scope own)
    (hg : ∀ (s : Shared) (H : Hp) (C : Addr) (cl : List (Str × Addr)) (fp : List Addr), PG (X.blk s H scope (compEnvC scope cl C X.env) fp) tg (tGc g xa (own.map (·.2)) t))
    (hi1 : ∀ (s : Shared) (H : Hp) (C : Addr) (cl : List (Str × Addr)) (fp : List Addr), PI (X.blk s H scope (compEnvC scope cl C X.env) fp) tg1 iter1 (tI g xa WF m1))
    (hg1 : ∀ (s : Shared) (H : Hp) (C : Addr) (cl : List (Str × Addr)) (fp : List Addr), PG (X.blk s H scope (compEnvC scope cl C X.env) fp) tg1 (tGc g xa own1 t1))
    (he : ∀ (s : Shared) (H : Hp) (C : Addr) (cl : List (Str × Addr)) (fp : List Addr), PE (X.blk s H scope (compEnvC scope cl C X.env) fp) elt (tE g xa WF te)) (hv : ∀ i ∈ own1, i ∈ own.map (·.2) := by decide) (hs : ∀ x, foldedSetIterable iter X.env x = pure x := by intro _; rfl) (hs1 : ∀ env x, foldedSetIterable iter1 env x = pure x := by intro _ _; rfl) :
    PE X (.ListComp elt [⟨tg, iter, [], 0⟩, ⟨tg1, iter1, [], 0⟩] scope pos) (tE g xa W (comp2M (own.map (·.2)) own1 m t m1 t1 te)) :=
  (pe_lc2 hc hN hi ok hv hg (fun _ _ _ _ _ => sm_yes) hi1 hg1 (fun _ _ _ _ _ => sm_yes) he hs hs1).viaM fun _ _ _ h => comp2_step h
theorem sm_setLc2 (i : Nat) {y : Str} {py spos : Pos} {elt tg iter tg1 iter1 : Expr} {scope : Scope} {m m1 : MM Itm} {t t1 : Tg} {te : MM D} (own : List (Str × Nat)) (own1 : List Nat) (hc : X.calm = true) (hN : X.N.Nodup) (hy : X.N[i]? = some y) (hyl : X.env.scope.names.lookup y = some .local)
    (hsw : swapsWith (.ListComp elt [⟨tg, iter, [], 0⟩, ⟨tg1, iter1, [], 0⟩] scope pos) (some (.Name y py)) spos.line X.env = pure true) (hi : PI X tg iter (tI g xa W m)) (ok : BlkOk X.N X.env.scope scope own)
    (hg : ∀ (s : Shared) (H : Hp) (C : Addr) (cl : List (Str × Addr)) (fp : List Addr), PG (X.blk s H scope (compEnvC scope cl C X.env) fp) tg (tGc g xa (own.map (·.2)) t))
    (hi1 : ∀ (s : Shared) (H : Hp) (C : Addr) (cl : List (Str × Addr)) (fp : List Addr), PI (X.blk s H scope (compEnvC scope cl C X.env) fp) tg1 iter1 (tI g xa WF m1))
    (hg1 : ∀ (s : Shared) (H : Hp) (C : Addr) (cl : List (Str × Addr)) (fp : List Addr), PG (X.blk s H scope (compEnvC scope cl C X.env) fp) tg1 (tGc g xa own1 t1))
    (he : ∀ (s : Shared) (H : Hp) (C : Addr) (cl : List (Str × Addr)) (fp : List Addr), PE (X.blk s H scope (compEnvC scope cl C X.env) fp) elt (tE g xa WF te)) (hv : ∀ i ∈ own1, i ∈ own.map (·.2) := by decide) (hs : ∀ x, foldedSetIterable iter X.env x = pure x := by intro _; rfl) (hs1 : ∀ env x, foldedSetIterable iter1 env x = pure x := by intro _ _; rfl) :
    PS X (.Assign [.Name y py] (.ListComp elt [⟨tg, iter, [], 0⟩, ⟨tg1, iter1, [], 0⟩] scope pos) spos) (tS g xa W (asgS (comp2M (own.map (·.2)) own1 m t m1 t1 te) (nmT i))) :=
  (ps_setLc2 (i := i) hc hN hy hyl hsw hi ok hv hg (fun _ _ _ _ _ => sm_yes) hi1 hg1 (fun _ _ _ _ _ => sm_yes) he hs hs1).viaM fun Dd σ H h => by
    obtain ⟨ι, S, e, f, e', S', hs, he, hm, hf⟩ := h
    refine comp2_step (stepS hs he hm hf fun a S1 ι1 H1 v h1 p1 x1 s1 e1 r1 f1 => ?_)
    cases h1
    exact f1 ι1 H1 (Pre.refl _) (Ex.refl _) s1 _ (e1.set r1)
end
end DD

set_option Elab.async false
set_option linter.all false
set_option maxRecDepth 100000
namespace DD
open PySem PySem.Spec PyProof.Rows L2
/-! ### own classes by name -/
structure MkN (P : Program) (w : World) (K : PySem.W.Frag) (mg : Str → Option Value) (base : Heap) (k : Nat) (x : Str) (ps : List Str) (φ : FnD) : Prop where
  ex : ∃ C f fd, Mk K C f ∧ FnG P w K mg base k f fd ps φ ∧ mg x = some (.ref C) ∧ Binds K fd ps []
structure MthN (P : Program) (w : World) (K : PySem.W.Frag) (mg : Str → Option Value) (base : Heap) (k : Nat) (c m : Str) (ps : List Str) (φ : FnD) : Prop where
  ex : ∃ C f fd, Cls K C ∧ Meth K C m f ∧ FnG P w K mg base k f fd ps φ ∧ mg c = some (.ref C) ∧ Binds K fd ps []
structure EqN (P : Program) (w : World) (K : PySem.W.Frag) (mg : Str → Option Value) (base : Heap) (k : Nat) (c : Str) (ps : List Str) (φ : FnD) : Prop where
  ex : ∃ C f fd, EqC K C f ∧ FnG P w K mg base k f fd ps φ ∧ mg c = some (.ref C) ∧ Binds K fd ps []
section
variable {X : Cx} {W : WX} {pos : Pos} {k : Nat} {ps : List Str} {φ : FnD} {xa : Xa} {T : Tab}
theorem em_makeN {x : Str} {p : Pos} {e : Expr} {es : List Expr} {m : MM (List D)} (M : MkN X.prog X.w X.K X.mg X.base k x ps φ) (hr : Room (k + 1) X.A) (hG : X.A.guards = some []) (tk : Takes X W)
    (ha : PA X (e :: es) (tA (gX X) xa W m)) (hg : Gl X x := by rfl) (hdb : (x == ("__debug__" : Str)) = false := by decide) (he : starEach (e :: es) X.env = (false, eval e X.env) :: starEach es X.env := by rfl) (hpl : (backTo pos (starEach es X.env)).any (·.1) = false := by rfl) :
    PE X (.Call (.Name x p) (e :: es) [] pos) (tE (gX X) xa W (mCall (makeF x φ) m)) := by
  obtain ⟨C, f, fd, h1, h2, h3, h4⟩ := M.ex
  exact em_make h1 h2 hr hG tk h3 h4 ha hg hdb he hpl
theorem em_methN {c m : Str} {o e : Expr} {es : List Expr} {apos : Pos} {mo : MM D} {ma : MM (List D)} {pl : Sem Bool} (M : MthN X.prog X.w X.K X.mg X.base k c m ps φ) (hr : Room k X.A) (hG : X.A.guards = some []) (tk : Takes X W) (he : PE X o (tE (gX X) xa W mo)) (ha : PA X (e :: es) (tA (gX X) xa W ma))
    (hst : starEach (e :: es) X.env = (false, eval e X.env) :: starEach es X.env := by rfl) (hpl : (backTo pos (starEach es X.env)).any (·.1) = false := by rfl)
    (ht : eval (.Call (.Attribute o m apos) (e :: es) [] pos) X.env = (do
      let ov ← eval o X.env
      standAt apos.atName
      let (f, first) ← holding [ov] (getMethod ov m pl)
      callWith pos f first (backTo pos (starEach (e :: es) X.env)) (backToKw pos (keywordEach [] X.env))) := by rfl) :
    PE X (.Call (.Attribute o m apos) (e :: es) [] pos) (tE (gX X) xa W (mMth c m φ mo ma)) := by
  obtain ⟨C, f, fd, h1, h2, h3, h4, h5⟩ := M.ex
  exact em_meth he h1 h2 h4 h3 hr hG tk h5 ha hst hpl ht
theorem em_meth0 {c m : Str} {o : Expr} {apos : Pos} {mo : MM D} {pl : Sem Bool} (M : MthN X.prog X.w X.K X.mg X.base k c m ps φ) (hr : Room k X.A) (hG : X.A.guards = some []) (tk : Takes X W) (he : PE X o (tE (gX X) xa W mo))
    (ht : eval (.Call (.Attribute o m apos) [] [] pos) X.env = (do
      let ov ← eval o X.env
      standAt apos.atName
      let (f, first) ← holding [ov] (getMethod ov m pl)
      callWith pos f first (backTo pos (starEach [] X.env)) (backToKw pos (keywordEach [] X.env))) := by rfl) :
    PE X (.Call (.Attribute o m apos) [] [] pos) (tE (gX X) xa W (mMth c m φ mo mNil)) := by
  obtain ⟨C, f, fd, cl, hm, F, hC, hb⟩ := M.ex
  refine ⟨fun pins s σ H Q I h => ?_⟩
  obtain ⟨ι, S, ev, r, S', hs, hev, hmm, hf⟩ := h
  refine PySem.W.methodCall_KW (pl := pl) (thn (he.run pins s σ H (fun v H1 => ∃ a dx fs, v = .ref a ∧ H1 a = some (.ins C dx fs) ∧ fs.lookup m = none ∧ spM (gX X) φ [.ref a] H1 Q (fun cls d H' => W cls d σ H')) I (stepG hs hev hmm hf fun d S1 ι1 H1 v h1 p1 x1 s1 e1 r1 f1 => ?_)) fun u s1 hu => ?_) ht
  · split at h1
    · rename_i n
      split at h1
      · rename_i c' fs q
        split at h1
        · rename_i hcc
          obtain ⟨hc1, hl⟩ := hcc
          subst hc1
          cases r1 with
          | ref qa =>
            obtain ⟨C', dx, gs, h3, h4, h5⟩ := s1.obj _ _ _ qa q
            have eC : C' = C := by
              have z : X.mg c' = some (.ref C') := h4
              rw [hC] at z
              cases z
              rfl
            subst eC
            refine ⟨_, dx, gs, rfl, h3, h5.look_none hl, ι1, S1, [.ref n], r, S', s1, .cons (.ref qa) .nil, h1, ?_⟩
            cases r with
            | ok d => exact f1
            | ex c fs => exact fun ι' H' C dd gs p x s h1 h2 h3 => f1 ι' H' C dd gs p x s h1 h2 h3
        · cases h1
      · cases h1
    · cases h1
  · obtain ⟨v, H1, I1, rx, a, dx, fs, rfl, ea, l, q⟩ := hu
    obtain rfl : u = Value.ref a := rx
    refine getmeth_ok I1 ea cl hm l ?_
    exact PySem.W.callWith_K0 (first := [.ref a]) I1.kIn hm.kp (run_fng (us := [.ref a]) (vs := [.ref a]) F hr hG hb tk I1 (.cons rfl .nil) q)
theorem em_eqN {a b : Expr} {ma mb : MM D} {c : Str} {nf : TyN → Bool} (M : EqN X.prog X.w X.K X.mg X.base k c ps φ) (F : Facts (gX X) T) (hn : NotF (gX X) c nf) (hr : Room (k + 1) X.A) (hG : X.A.guards = some []) (ha : PE X a (tE (gX X) xa W ma)) (hb : PE X b (tE (gX X) xa W mb)) (hm : behindInMarks .Eq b = false) :
    PE X (.Compare a [.Eq] [b] pos) (tE (gX X) xa W (mOp2 (altF (fOwn T c φ nf id) fEq) ma mb)) := by
  obtain ⟨C, f, fd, h1, h2, h3, h4⟩ := M.ex
  exact em_cmp ((op_eqOwn h1 h2 (hr.mono (Nat.le_succ _)) hG h4).or (op_eqN rfl (by have := hr.un; omega))) (f_alt (f_own F hn h3) f_eq) ha hb hm
theorem em_neN {a b : Expr} {ma mb : MM D} {c : Str} {nf : TyN → Bool} (M : EqN X.prog X.w X.K X.mg X.base k c ps φ) (F : Facts (gX X) T) (hn : NotF (gX X) c nf) (hr : Room (k + 1) X.A) (hG : X.A.guards = some []) (ha : PE X a (tE (gX X) xa W ma)) (hb : PE X b (tE (gX X) xa W mb)) (hm : behindInMarks .NotEq b = false) :
    PE X (.Compare a [.NotEq] [b] pos) (tE (gX X) xa W (mOp2 (altF (fOwn T c φ nf (!·)) fNe) ma mb)) := by
  obtain ⟨C, f, fd, h1, h2, h3, h4⟩ := M.ex
  exact em_cmp ((op_neOwn h1 h2 hr hG h4).or (op_neN rfl (by have := hr.un; omega))) (f_alt (f_own F hn h3) f_ne) ha hb hm
/-! ### texts -/
def strMul (z : Str) (n : Int) : Str := if n < 1 then Str.empty else if (n == 1 || z.length == 0) = true then z else ⟨(List.replicate n.toNat z.cps).foldl (· ++ ·) #[]⟩
def fMulS : F2 := fun a b S => match a, b with
  | .str z, .int n => if (-(2 ^ 60) < n ∧ n < 2 ^ 60) ∧ z.length * n.toNat ≤ 1000000 ∧ (strMul z n).length ≤ sizeLine then some (.str (strMul z n), S) else none
  | _, _ => none
def rMulS : R2 := fun x y H Q => ∃ z n, x = .str z ∧ y = .int n ∧ (-(2 ^ 60) < n ∧ n < 2 ^ 60) ∧ z.length * n.toNat ≤ 1000000 ∧ (strMul z n).length ≤ sizeLine ∧ Q (.str (strMul z n)) H
theorem op_mulS : OpR X (binaryOp .Mult) rMulS := by
  intro pins s σ H x y v u Q I rx ry h
  obtain ⟨z, n, rfl, rfl, ⟨h1, h2⟩, h3, h4, q⟩ := h
  obtain ⟨t, rfl⟩ := rx
  obtain ⟨t', rfl⟩ := ry
  refine PySem.P.mul_str ?_ (fun g1 g2 => ?_) (fun g1 g2 => ?_) ?_
  · have a1 : ¬ n < -(2 ^ 63 : Int) := by omega
    have a2 : ¬ n ≥ 2 ^ 63 := by omega
    rw [decide_eq_false a1, decide_eq_false a2]
    rfl
  · have e : ((z.length : Int)) * n ≤ 1000000 := by
      have e1 : (n.toNat : Int) = n := Int.toNat_of_nonneg (by omega)
      have e2 : ((z.length * n.toNat : Nat) : Int) ≤ ((1000000 : Nat) : Int) := Int.ofNat_le.mpr h3
      rw [Int.natCast_mul, e1] at e2
      exact e2
    have e3 : (z.length : Int) ≤ (2 ^ 63 - 1) / n := Int.le_ediv_of_mul_le (by omega) (by omega)
    omega
  · show decide (z.length * n.toNat > sizeLine) = false
    rw [decide_eq_false_iff_not, sizeLine_eq]
    omega
  · unfold strMul at q h4
    split
    · rename_i hn
      rw [if_pos hn] at q
      exact ⟨by decide, .str Str.empty, H, I.tok _, ⟨_, rfl⟩, q⟩
    · rename_i hn
      rw [if_neg hn] at q h4
      split
      · rename_i hz
        rw [if_pos hz] at q
        exact ⟨.str z, H, I, ⟨_, rfl⟩, q⟩
      · rename_i hz
        rw [if_neg hz] at q h4
        exact ⟨h4, .str _, H, I.tok _, ⟨_, rfl⟩, q⟩
theorem f_mulS {g : G} : Op2 g rMulS fMulS := fun ι S S' H a b d x y Q s ra rb hf hd => by
  unfold fMulS at hf
  split at hf
  · split at hf
    · rename_i hc
      cases hf; cases ra; cases rb
      exact ⟨_, _, rfl, rfl, hc.1, hc.2.1, hc.2.2, hd.here s (.str _)⟩
    · cases hf
  · cases hf
theorem em_mulA {g : G} {a b : Expr} {ma mb : MM D} (ha : PE X a (tE g xa W ma)) (hb : PE X b (tE g xa W mb)) : PE X (.BinOp a .Mult b pos) (tE g xa W (mOp2 (altF fMul fMulS) ma mb)) := em_op ((op_mul.or op_mulW).or op_mulS) (f_alt f_mul f_mulS) ha hb
theorem em_join {g : G} {o a : Expr} {apos : Pos} {mo : MM D} {ma : MM (List D)} (ho : PE X o (tE g xa W mo)) (ha : PA X [a] (tA g xa W ma)) (hK : X.K = g.K := by rfl)
    (hbase : attributeBase o "join" X.env (eval o X.env) = eval o X.env := by rfl)
    (hfew : ((backTo pos (starEach [a] X.env)).all (fun x => !x.1) && (backToKw pos (keywordEach [] X.env)).all (fun x => x.1.isSome)
      && decide ([a].length + ([] : List Keyword).length + (if ([] : List Keyword).isEmpty then 0 else 1) < 30)) = true := by rfl)
    (hline : (apos.endLine == pos.line) = true := by rfl) (hs : starEach [a] X.env = (false, eval a X.env) :: starEach [] X.env := by rfl) (hplain : (backTo pos (starEach [] X.env)).any (·.1) = false := by rfl) :
    PE X (.Call (.Attribute o "join" apos) [a] [] pos) (tE g xa W (mMeth isS fJoin mo ma)) :=
  em_bm PySem.F.plainAttrs_str PySem.F.slot_str_join PySem.F.type_str_join (mt_joinM hK) (fun _ _ _ _ _ s r h => isS_ty r h) f_join ho ha hbase hfew hline hs hplain
end
end DD

set_option Elab.async false
set_option linter.all false
set_option maxRecDepth 100000
namespace DD
open PySem PySem.Spec PyProof.Rows L2
open He (ga ma eqO eqO_ok ba FnW DefD)
/-! ### more facts: own plain classes, clauses, own == -/
structure AskC where
  q : Ask
  own : List (Str × List Str)
  fas : List He.Fa
  exms : List (Str × Str × Bool)
  nfs : List (TyN × Str)
  eqs : List Str
def ownB (K : PySem.W.Frag) (p : Str × List Str) : Bool := (He.Fa.cls p.1).ok K && (p.2.all (fun f => eqO (PySem.W.findIn K (.ref (ga K p.1)) f) (some none)) && (eqO (PySem.W.findIn K (.ref (ga K p.1)) "__class__") (some (some (.builtin "object.__class__"))) &&
  (eqO (PySem.W.specialIn K (.builtin "object.__class__") "__get__") (some (some (.builtin "getset_descriptor.__get__"))) && (decide (PySem.W.takesIn K (.builtin "object.__class__") = some true) && (decide (PySem.W.mroIn K (ga K p.1) (.type "object") = some true) &&
  eqO (PySem.W.nsIn K mainGlobals p.1) (some (some (.ref (ga K p.1)))))))))
structure OwnK (K : PySem.W.Frag) (p : Str × List Str) : Prop where
  ins : InsK K (ga K p.1)
  no : ∀ f ∈ p.2, NoAttr K (ga K p.1) f
  glo : PySem.W.nsIn K mainGlobals p.1 = some (some (.ref (ga K p.1)))
theorem ownB_ok {K : PySem.W.Frag} {p : Str × List Str} (h : ownB K p = true) : OwnK K p := by
  unfold ownB at h
  simp only [Bool.and_eq_true, decide_eq_true_eq, List.all_eq_true] at h
  obtain ⟨h1, h2, h3, h4, h5, h6, h7⟩ := h
  exact ⟨⟨He.cls_ok h1, eqO_ok h3, eqO_ok h4, h5, h6⟩, fun f hf => eqO_ok (h2 f hf), eqO_ok h7⟩
def eqB (K : PySem.W.Frag) (c : Str) : Bool := (He.Fa.meth c "__eq__").ok K && (eqO (PySem.W.findIn K (.ref (ga K c)) "__ne__") (some (some (.builtin "object.__ne__"))) && decide (PySem.W.mroIn K (ga K c) (.type "object") = some true))
theorem eqB_ok {K : PySem.W.Frag} {c : Str} (h : eqB K c = true) : EqC K (ga K c) (ma K (ga K c) "__eq__") := by
  unfold eqB at h
  simp only [Bool.and_eq_true, decide_eq_true_eq] at h
  obtain ⟨h1, h2, h3⟩ := h
  have m := He.meth_ok h1
  exact ⟨m.at_, m.fn, eqO_ok h2, h3⟩
def AskC.ok (a : AskC) (K : PySem.W.Frag) : Bool := a.q.ok K && (a.own.all (ownB K) && (a.fas.all (fun f => f.ok K) && (a.exms.all (fun t => decide (PySem.W.exmOne K (.ref (ga K t.1)) (.ref (ga K t.2.1)) = some t.2.2)) &&
  (a.nfs.all (fun t => PySem.W.notFirst K (ga K t.2) (valK K t.1)) && a.eqs.all (eqB K)))))
def AskC.tab (a : AskC) : Tab := { a.q.tab with
  attr := fun c f => match a.own.lookup c with
    | some l => l.contains f
    | none => false
  ins := fun c => (a.own.lookup c).isSome }
def catL : List (Str × Str × Bool) → Str → Str → Option Bool
  | [], _, _ => none
  | (t, c, b) :: r, t', c' => if t = t' ∧ c = c' then some b else catL r t' c'
theorem catL_mem {t c : Str} {b : Bool} : ∀ {l : List (Str × Str × Bool)}, catL l t c = some b → (t, c, b) ∈ l
  | (t', c', b') :: r, h => by
    unfold catL at h
    split at h
    · rename_i e
      obtain ⟨rfl, rfl⟩ := e
      cases h
      exact List.mem_cons_self ..
    · exact List.mem_cons_of_mem _ (catL_mem h)
def nfL (l : List (TyN × Str)) (c : Str) (t : TyN) : Bool := l.any fun p => decide (p = (t, c))
def AskC.closed (a : AskC) : Bool := a.q.closed && (a.exms.all (fun t => a.q.glos.contains t.1 && a.q.glos.contains t.2.1) && a.nfs.all (fun t => (match t.1 with
  | .inl _ => true
  | .inr x => a.q.glos.contains x) && a.q.glos.contains t.2))
section
variable {a : AskC} {K : PySem.W.Frag} {h : Heap} {mg : Str → Option Value}
theorem AskC.q_ok (c : a.ok K = true) : a.q.ok K = true := (ba c).1
theorem AskC.own_ok (c : a.ok K = true) {p : Str × List Str} (m : p ∈ a.own) : OwnK K p := ownB_ok (List.all_eq_true.mp (ba (ba c).2).1 p m)
theorem AskC.fa_ok (c : a.ok K = true) {f : He.Fa} (m : f ∈ a.fas) : f.ok K = true := List.all_eq_true.mp (ba (ba (ba c).2).2).1 f m
theorem AskC.eq_ok (c : a.ok K = true) {x : Str} (m : x ∈ a.eqs) : EqC K (ga K x) (ma K (ga K x) "__eq__") := eqB_ok (List.all_eq_true.mp (ba (ba (ba (ba (ba c).2).2).2).2).2 x m)
theorem AskC.facts (c : a.ok K = true) (hc : a.closed = true) (X : K.In h) (G : h.Ns mainGlobals mg) : Facts (GK K mg) a.tab := by
  have F := Ask.facts (AskC.q_ok c) (ba hc).1 X G
  refine ⟨F.kit, fun x f C hx h1 => ?_, fun x C hx h1 => ?_, F.exc, F.xattr⟩
  · have hx' : (match a.own.lookup x with
      | some l => l.contains f
      | none => false) = true := hx
    split at hx'
    · rename_i l e
      have k := AskC.own_ok c (lookup_mem e)
      have z := h1.symm.trans (PySem.W.mg_of X G k.glo)
      cases z
      exact ⟨k.ins.cl, k.no f (by simpa using hx')⟩
    · cases hx'
  · have hx' : (a.own.lookup x).isSome = true := hx
    obtain ⟨l, e⟩ := Option.isSome_iff_exists.mp hx'
    have k := AskC.own_ok c (lookup_mem e)
    have z := h1.symm.trans (PySem.W.mg_of X G k.glo)
    cases z
    exact k.ins
theorem AskC.named (c : a.ok K = true) (hc : a.closed = true) (X : K.In h) (G : h.Ns mainGlobals mg) : Named (GK K mg) a.tab := Ask.named (AskC.q_ok c) (ba hc).1 X G
theorem AskC.catch (c : a.ok K = true) (hc : a.closed = true) (X : K.In h) (G : h.Ns mainGlobals mg) : Catch (GK K mg) (catL a.exms) := fun c' c2 b C' C hk h1 h2 => by
  have m := catL_mem hk
  obtain ⟨m1, m2⟩ := ba (List.all_eq_true.mp (ba (ba hc).2).1 _ m)
  have e1 := Ask.glo (AskC.q_ok c) X G (x := c') (by simpa using m1)
  have e2 := Ask.glo (AskC.q_ok c) X G (x := c2) (by simpa using m2)
  have z1 := h1.symm.trans e1
  have z2 := h2.symm.trans e2
  cases z1
  cases z2
  exact of_decide_eq_true (List.all_eq_true.mp (ba (ba (ba (ba c).2).2).2).1 _ m)
theorem AskC.notF (c : a.ok K = true) (hc : a.closed = true) (X : K.In h) (G : h.Ns mainGlobals mg) (x : Str) : NotF (GK K mg) x (nfL a.nfs x) := fun t tv C ht h1 h2 => by
  obtain ⟨p, hp, hd⟩ := List.any_eq_true.mp ht
  have e : p = (t, x) := of_decide_eq_true hd
  subst e
  obtain ⟨m1, m2⟩ := ba (List.all_eq_true.mp (ba (ba hc).2).2 _ hp)
  have e1 := valOf_val (AskC.q_ok c) X G (t := t) m1 h1
  have e2 := Ask.glo (AskC.q_ok c) X G (x := x) (by simpa using m2)
  have z2 := h2.symm.trans e2
  cases z2
  subst e1
  exact List.all_eq_true.mp (ba (ba (ba (ba (ba c).2).2).2).2).1 _ hp
end
/-! ### the head's look, by any Bool -/
def seenC (chk : PySem.W.Frag → Bool) (fn : List DefD) (K : PySem.W.Frag) : Seen := (chk K && fn.all (DefD.ok K), fn.map fun d => He.fnW K d.at_)
def seenCG (n : Nat) (chk : PySem.W.Frag → Bool) (fn : List DefD) (get : Addr → Option Obj) : Seen := seenC chk fn (He.frG get (He.asD get n))
structure ToldC (chk : PySem.W.Frag → Bool) (fn : List DefD) (K : PySem.W.Frag) : Prop where
  e : seenC chk fn K = (true, fn.map DefD.val)
def hookC (n : Nat) (chk : PySem.W.Frag → Bool) (fn : List DefD) : PySem.W.Hook := {
  α := Seen
  val := fun _ => (true, fn.map DefD.val)
  obs := fun s => seenCG n chk fn s.heap.get?
  says := fun _ h => ∃ K : PySem.W.Frag, K.In h ∧ ToldC chk fn K
  keeps := fun _ _ _ z up => z.elim fun K hz => ⟨K, PySem.W.Frag.In.keeps hz.1 up, hz.2⟩
  of := fun _ _ z => ⟨_, He.frG_in, ⟨z⟩⟩ }
theorem seenCG_eq {n : Nat} {chk : PySem.W.Frag → Bool} {fn : List DefD} {get : Addr → Option Obj} {s : Shared} (h : ∀ a, get a = s.heap.get? a) : seenCG n chk fn get = (hookC n chk fn).obs s := by
  obtain rfl : get = s.heap.get? := funext h
  rfl
section
variable {chk : PySem.W.Frag → Bool} {fn : List DefD} {K : PySem.W.Frag}
theorem ToldC.ok (c : ToldC chk fn K) : chk K = true := (ba (show (chk K && fn.all (DefD.ok K)) = true from congrArg Prod.fst c.e)).1
theorem ToldC.def_ (c : ToldC chk fn K) (i : Nat) {d : DefD} (h : fn[i]? = some d := by rfl) : ∃ fd, FunD K d.name d.qual d.params d.body d.scope (d.dvs K) (d.kws K) (He.fAd K d.at_) fd := by
  have c1 := (ba (show (chk K && fn.all (DefD.ok K)) = true from congrArg Prod.fst c.e)).2
  have e : (fn.map fun d => He.fnW K d.at_)[i]? = (fn.map DefD.val)[i]? := congrArg (fun z : Seen => z.2[i]?) c.e
  rw [List.getElem?_map, List.getElem?_map, h] at e
  exact DefD.funD (Option.some.inj e) (List.all_eq_true.mp c1 d (List.mem_of_getElem? h))
end
/-- a method of an own class runs -/
theorem fng_meth {P : Program} {w : World} {K : PySem.W.Frag} {mg : Str → Option Value} {base : Heap} {c m qual : Str} {st : Stmt} {fd : FuncData} {N ps : List Str} {k : Nat} {b : MS} (FD : FunD K m qual (defArgs st) (defBody st) (defScope st) [] [] (ma K (ga K c) m) fd) (Sc : FnScope N ps (defScope st))
    (hb : ∀ (kV doc pm : Value) (an : Option Addr) (cdv ct : Value) (us : List Value), us.length = ps.length → bindArgs (PySem.W.fnOf m qual (defArgs st) (defBody st) (defScope st) .none kV doc pm an cdv ct) ⟨us, []⟩ = pure (ps.zip us))
    (body : ∀ (cdv : Value) (A : Around) (outer : List Env) (s : Shared) (H : Hp) (E : XK), Room k (A.deeper (envOfC qual (defScope st) s.heap.objs.size (ma K (ga K c) m) cdv)) → A.guards = some [] →
      PSs (cxOf (L2.CX P w) P w K mg base N qual (defScope st) (ma K (ga K c) m) cdv A outer s H E) (defBody st) (tS (GK K mg) xa0 (fun cls d _ H => E cls d H) b)) :
    FnG P w K mg base (k + 1) (ma K (ga K c) m) fd ps (fnM ps.length N.length b) ∧ Binds K fd ps [] :=
  ⟨fng_of (He5.fun_of FD) Sc body, FD.bindsN hb⟩
end DD
namespace DD
open PySem PySem.Spec PyProof.Rows L2
section
variable {X : Cx} {W Wout : WX} {pos : Pos} {xa : Xa}
theorem em_gintE {x : Str} {i : Int} (h : ∃ t, X.mg x = some (.int i t)) (hg : Gl X x := by rfl) (hd : (x == ("__debug__" : Str)) = false := by decide) : PE X (.Name x pos) (tE (gX X) xa W (retM (.int i))) := by
  obtain ⟨t, h⟩ := h
  exact em_gint hg h hd
theorem sm_tryE {ct : Str → Str → Option Bool} {x n : Str} {i : Nat} {body suite : List Stmt} {b₀ : Stmt} {np pos' : Pos} {mb ms : MS} (cf : Catch (gX X) ct) (hm : ∃ C, X.mg x = some (.ref C)) (hN : X.N.Nodup) (tk : Takes X Wout)
    (hb : ∀ (W : WX) (pn : List (Addr × Obj)) (xe : Value → Shared → Prop), Takes (X.tr pn xe) W → PassesOwn (model X.prog X.w) X.A X.env xe → PSs (X.tr pn xe) body (tS (gX X) xa W mb))
    (hsu : ∀ (a : Addr) (oe : Obj) (cls : Value) (d : Option Addr) (pn : List (Addr × Obj)), Zc cls d oe → (∃ vs, oe.data = .fields vs) → PSs (X.suite a ((a, oe) :: pn)) (b₀ :: suite) (tS (gX X) ⟨a, cls, d⟩ WF ms))
    (hi : X.N[i]? = some n := by rfl) (hln : X.env.kindOf n = some .local := by rfl) (hg : Gl X x := by rfl) (hdb : (x == ("__debug__" : Str)) = false := by decide) (hs : X.stack = X.env :: X.outer := by rfl) (hf : X.env.frame = some X.env.locals := by rfl) :
    PS X (.Try body [.ExceptHandler (some (.Name x np)) (some n) (b₀ :: suite) pos'] [] [] pos) (tS (gX X) xa Wout (tryS ct x i mb ms)) := by
  obtain ⟨C, hm⟩ := hm
  exact sm_try cf hm hN tk hb hsu hi hln hg hdb hs hf
end
end DD

set_option Elab.async false
set_option linter.all false
set_option maxRecDepth 100000
namespace DD
open PySem PySem.Spec PyProof.Rows L2
/-! ### the draws of the laws k01 to k23: _law_draws(script, many), _law_take(hand, many) -/
def drawsB : MS := (seqS (asgS (mVar 5) (nmT 3)) (seqS (ifS (mTst (mOp2 (fOrd pGt qGt) (mOpA fLen (mCons (mVar 0) mNil)) (retM (.int 0)))) (seqS (asgS (mOp2 fMod (mVar 5) (mOpA fLen (mCons (mVar 0) mNil))) (nmT 6)) (seqS (asgS (mOpA fInt (mCons (mOp2 fIx (mVar 0) (mVar 6)) mNil)) (nmT 3)) (ifS (mAnd (mTst (mOp2 (fOrd pGe qGe) (mVar 3) (mOp2 fPow (retM (.int 10)) (retM (.int 18))))) (mTst (mOp2 (fOrd pGt qGt) (mOp2 fIx (mVar 2) (mVar 6)) (retM (.int 0))))) (seqS (exprS (mMeth isL fAppend (mVar 4) (mCons (mOp2 fMod (mOpA fInt (mCons (mOp2 fIx (mVar 2) (mVar 6)) mNil)) (retM (.int 1000003))) mNil))) (seqS (setS (mOp2 fDiv (mOpA fInt (mCons (mOp2 fIx (mVar 2) (mVar 6)) mNil)) (retM (.int 1000003))) (mVar 2) (mVar 6)) (fS .ct))) nxS))) nxS) (seqS (asgS (mOp2 fMod (mOpA fInt (mCons (mOp2 fAdd (mOp2 fAdd (mOp2 fMul (mVar 3) (retM (.int 48271))) (mOp2 fMul (mVar 5) (retM (.int 69621)))) (retM (.int 11))) mNil)) (retM (.int 2147483647))) (nmT 7)) (seqS (asgS (mOp2 fMod (mOpA fInt (mCons (mOp2 fAdd (mOp2 fDiv (mOp2 fMul (mVar 7) (mVar 7)) (retM (.int 4096))) (mVar 7)) mNil)) (retM (.int 2147483629))) (nmT 7)) (exprS (mMeth isL fAppend (mVar 4) (mCons (mOp2 fMod (mOpA fInt (mCons (mOp2 fAdd (mOp2 fDiv (mOp2 fMul (mVar 7) (mVar 7)) (retM (.int 4096))) (mOp2 fMul (mVar 5) (retM (.int 7919)))) mNil)) (retM (.int 2147483629))) mNil)))))))
def drawsM : MS := (seqS (asgS (compM [3] (mSeq (mVar 0)) (nmT 3) yesM (mOpA fAbs (mCons (mOpA fInt (mCons (mVar 3) mNil)) mNil))) (nmT 2)) (seqS (asgS (mOpA fLst mNil) (nmT 4)) (seqS (forS (mRng1 (mCons (mVar 1) mNil)) (nmT 5) drawsB) (retS (mVar 4)))))
def drawsF : FnD := fnM 2 8 drawsM
def takeM : MS := (seqS (asgS (mOp2 fIx (mVar 0) (retM (.int 1))) (nmT 2)) (seqS (setS (mOp2 fAdd (mVar 2) (retM (.int 1))) (mVar 0) (retM (.int 1))) (seqS (asgS (mOp2 fIx (mVar 0) (retM (.int 0))) (nmT 3)) (seqS (ifS (mTst (mOp2 (fOrd pGe qGe) (mVar 2) (mOpA fLen (mCons (mVar 3) mNil)))) (retS (retM (.int 0))) nxS) (retS (mOp2 fMod (mOp2 fDiv (mOpA fInt (mCons (mOp2 fIx (mVar 3) (mVar 2)) mNil)) (retM (.int 7))) (mVar 1)))))))
def takeF : FnD := fnM 2 4 takeM
theorem line200k : (100000 : Nat) < sizeLine := by rw [sizeLine_eq]; decide
def Draw (x : Int) : Prop := 0 ≤ x ∧ x < 2147483648
/-- the three statements behind cell -/
theorem mix (c : Int) (k n : Nat) {r : D} {s2 s6 s7 : Sv} {S : So} {xs : List D} {P : Fl → Sl → So → Prop} {m : D} (hS : S[1]? = some (.lst xs)) (hl : xs.length < sizeLine)
    (h : ∀ v s, Draw v → P .nx [.v r, .v m, s2, .v (.int c), .v (.ref 1), .v (.int k), s6, s] (S.set 1 (.lst (xs ++ [.int v])))) :
    okS (seqS (asgS (mOp2 fMod (mOpA fInt (mCons (mOp2 fAdd (mOp2 fAdd (mOp2 fMul (mVar 3) (retM (.int 48271))) (mOp2 fMul (mVar 5) (retM (.int 69621)))) (retM (.int 11))) mNil)) (retM (.int 2147483647))) (nmT 7)) (seqS (asgS (mOp2 fMod (mOpA fInt (mCons (mOp2 fAdd (mOp2 fDiv (mOp2 fMul (mVar 7) (mVar 7)) (retM (.int 4096))) (mVar 7)) mNil)) (retM (.int 2147483629))) (nmT 7)) (exprS (mMeth isL fAppend (mVar 4) (mCons (mOp2 fMod (mOpA fInt (mCons (mOp2 fAdd (mOp2 fDiv (mOp2 fMul (mVar 7) (mVar 7)) (retM (.int 4096))) (mOp2 fMul (mVar 5) (retM (.int 7919)))) mNil)) (retM (.int 2147483629))) mNil)))))
      [.v r, .v m, s2, .v (.int c), .v (.ref 1), .v (.int k), s6, s7] S P := by
  have c1 : ∀ a : Int, CDivW a 4096 := fun a => by unfold CDivW; decide
  refine okS_seq (okS_asg ?_)
  simp
  refine ⟨cm (by decide), cm (by decide), ?_⟩
  have hm : ∀ a : Int, 0 ≤ a % 2147483647 ∧ a % 2147483647 < 2147483647 := fun a => ⟨Int.emod_nonneg _ (by decide), Int.emod_lt_of_pos _ (by decide)⟩
  have hm2 : ∀ a : Int, 0 ≤ a % 2147483629 ∧ a % 2147483629 < 2147483629 := fun a => ⟨Int.emod_nonneg _ (by decide), Int.emod_lt_of_pos _ (by decide)⟩
  generalize hq : (c * 48271 + (k : Int) * 69621 + 11) % 2147483647 = q
  have q1 : 0 ≤ q ∧ q < 2147483647 := by rw [← hq]; exact hm _
  refine okS_seq (okS_asg ?_)
  simp
  refine ⟨cm (by omega), c1 _, ?_⟩
  generalize hq2 : (q * q / 4096 + q) % 2147483629 = q2
  have q3 : 0 ≤ q2 ∧ q2 < 2147483629 := by rw [← hq2]; exact hm2 _
  refine okS_expr ?_
  simp
  refine ⟨isL_ref hS, cm (by omega), c1 _, cm (by decide), ?_⟩
  rw [fAppend_ref hS hl]
  simp
  refine h _ _ ?_
  have := hm2 (q2 * q2 / 4096 + (k : Int) * 7919)
  unfold Draw
  omega

/-- one turn of the draws -/
theorem draw_turn (many : Int) (ns rests xs : List Int) (i : Nat) (s3 s5 s6 s7 : Sv) (P : Fl → Sl → So → Prop) (hr : rests.length = ns.length) (h0 : ∀ r ∈ rests, 0 ≤ r) (hx : ∀ x ∈ xs, Draw x) (hl : xs.length < sizeLine)
    (h : ∀ (f : Fl) (s3 s5 s6 s7 : Sv) (rests : List Int) (v : Int), (f = .nx ∨ f = .ct) → rests.length = ns.length → (∀ r ∈ rests, 0 ≤ r) → Draw v →
      P f [.v (.rol (ns.map .int)), .v (.int many), .v (.ref 0), s3, .v (.ref 1), s5, s6, s7] [.lst (rests.map .int), .lst ((xs ++ [v]).map .int)]) :
    okS drawsB [.v (.rol (ns.map .int)), .v (.int many), .v (.ref 0), s3, .v (.ref 1), .v (.int (i : Nat)), s6, s7] [.lst (rests.map .int), .lst (xs.map .int)] P := by
  have fin : ∀ (c : Int) (s3 s6 s7 : Sv) (rests : List Int), rests.length = ns.length → (∀ r ∈ rests, 0 ≤ r) → ∀ v s, Draw v → P .nx [.v (.rol (ns.map .int)), .v (.int many), .v (.ref 0), .v (.int c), .v (.ref 1), .v (.int (i : Nat)), s6, s] ([O.lst (rests.map .int), .lst (xs.map .int)].set 1 (.lst (xs.map .int ++ [.int v]))) := by
    intro c s3 s6 s7 rests hr h0 v s hv
    have := h .nx (.v (.int c)) (.v (.int (i : Nat))) s6 s rests v (.inl rfl) hr h0 hv
    simpa using this
  unfold drawsB
  refine okS_seq (okS_asg ?_)
  simp
  by_cases hn : ns = []
  · subst hn
    refine okS_seq (okS_ifF ?_)
    simp
    refine okS_nx ?_
    simp
    exact mix _ i 0 rfl (by simpa using hl) (fin _ (.v (.int (i : Nat))) s6 s7 rests hr h0)
  · have hpos : 0 < ns.length := List.length_pos_iff.mpr hn
    refine okS_seq (okS_ifT ?_)
    simp [hpos]
    refine okS_seq (okS_asg ?_)
    simp [hpos]
    generalize hj : (i : Int) % (ns.length : Int) = j
    have j1 : 0 ≤ j ∧ j < ns.length := by
      rw [← hj]
      exact ⟨Int.emod_nonneg _ (by omega), Int.emod_lt_of_pos _ (by omega)⟩
    obtain ⟨d1, a1, g1⟩ := atI_ok (xs := ns.map D.int) j1.1 (by simpa using j1.2)
    obtain ⟨d2, a2, g2⟩ := atI_ok (xs := rests.map D.int) j1.1 (by simpa [hr] using j1.2)
    rw [List.getElem?_map] at g1 g2
    obtain ⟨c, g1, rfl⟩ := Option.map_eq_some_iff.mp g1
    obtain ⟨t, g2, rfl⟩ := Option.map_eq_some_iff.mp g2
    refine okS_seq (okS_asg ?_)
    simp [fIx_rol a1]
    have S0 : ([O.lst (rests.map .int), .lst (xs.map .int)] : So)[0]? = some (.lst (rests.map .int)) := rfl
    have S1 : ([O.lst (rests.map .int), .lst (xs.map .int)] : So)[1]? = some (.lst (xs.map .int)) := rfl
    have pw : CPow 10 18 := by unfold CPow; decide
    by_cases hc : (1000000000000000000 : Int) ≤ c
    · by_cases ht : 0 < t
      · refine okS_ifT ?_
        simp [pw, fIx_ref S0 a2, hc, ht]
        refine okS_seq (okS_expr ?_)
        have c1 : CDivW t 1000003 := by unfold CDivW; decide
        simp [fIx_ref S0 a2, isL_ref S1, fAppend_ref S1 (by simpa using hl)]
        refine okS_seq (okS_setix ?_)
        have S0' : ([O.lst (rests.map .int), .lst (xs.map .int ++ [D.int (t % 1000003)])] : So)[0]? = some (.lst (rests.map .int)) := rfl
        simp [fIx_ref S0' a2, c1, fSet_ref S0' j1.1 (by simpa [hr] using j1.2)]
        refine okS_fl ?_
        simp
        have := h .ct (.v (.int c)) (.v (.int (i : Nat))) (.v (.int j)) s7 (rests.set j.toNat (t / 1000003)) (t % 1000003) (.inr rfl) (by simpa using hr) (fun r hm => ?_) ⟨Int.emod_nonneg _ (by decide), by have := Int.emod_lt_of_pos t (b := 1000003) (by decide); omega⟩
        · simpa [List.map_set] using this
        · rcases List.mem_or_eq_of_mem_set hm with q | q
          · exact h0 r q
          · rw [q]; exact Int.ediv_nonneg (by omega) (by decide)
      · refine okS_ifF ?_
        simp [pw, fIx_ref S0 a2, hc, ht]
        refine okS_nx ?_
        simp
        exact mix c i 0 rfl (by simpa using hl) (fin c (.v (.int (i : Nat))) _ s7 rests hr h0)
    · refine okS_ifF ?_
      simp [pw, hc]
      refine okS_nx ?_
      simp
      exact mix c i 0 rfl (by simpa using hl) (fin c (.v (.int (i : Nat))) _ s7 rests hr h0)
/-- the draws of a script -/
theorem ok_draws (many : Nat) (hmany : many ≤ 100000) (ns : List Int) (hn : ns.length ≤ 63) (P : D → So → Prop) (h : ∀ (rs xs : List Int), (∀ x ∈ xs, Draw x) → P (.ref 1) [.lst (rs.map .int), .lst (xs.map .int)]) : okC (drawsF [.rol (ns.map .int), .int (many : Nat)] []) P := by
  unfold drawsF
  refine okC_fn rfl ?_
  unfold drawsM
  refine okS_seq (okS_asg (okM_comp (okM_seqV (xs := ns.map .int) rfl ?_)))
  refine ⟨fun i S => i ≤ ns.length ∧ S = [.lst (((ns.take i).map fun n => if n < 0 then -n else n).map .int)], ⟨Nat.zero_le _, rfl⟩, fun i S2 hI => ?_⟩
  obtain ⟨hi, rfl⟩ := hI
  by_cases hin : i < ns.length
  · refine .inr ⟨by simpa [itFix] using hin, .int ns[i], _, by simp [itFix, hin], rfl, ?_⟩
    simp [startE, wipeE]
    refine ⟨?_, hin, ?_⟩
    · have := line200
      omega
    · rw [List.take_add_one]
      simp [hin]
  · have e : i = ns.length := by omega
    subst e
    refine .inl ⟨by simp [itFix], ?_⟩
    refine okS_seq (okS_asg ?_)
    simp [fLst, startE]
    refine okS_seq (okS_rng (okM_cons.mpr (okM_var.mpr ⟨.int (many : Nat), rfl, okM_nil.mpr ⟨many, rfl, by omega, ?_⟩⟩)))
    refine ⟨fun i e S => i ≤ many ∧ ∃ (s3 s5 s6 s7 : Sv) (rests xs : List Int), e = [.v (.rol (ns.map .int)), .v (.int (many : Nat)), .v (.ref 0), s3, .v (.ref 1), s5, s6, s7] ∧ S = [.lst (rests.map .int), .lst (xs.map .int)] ∧ rests.length = ns.length ∧ (∀ r ∈ rests, 0 ≤ r) ∧ (∀ x ∈ xs, Draw x) ∧ xs.length = i, ?_, ?_, ?_⟩
    · refine ⟨Nat.zero_le _, .no, .no, .no, .no, ns.map fun n => if n < 0 then -n else n, [], rfl, by simp, by simp, fun r hr => ?_, by simp, rfl⟩
      obtain ⟨n, _, rfl⟩ := List.mem_map.mp hr
      split <;> omega
    · rintro i e2 S2 hi ⟨hi2, s3, s5, s6, s7, rests, xs, rfl, rfl, h1, h2, h3, h4⟩
      refine ⟨_, rfl, ?_⟩
      refine draw_turn (many : Nat) ns rests xs i s3 s5 s6 s7 _ h1 h2 h3 (by have := line200k; omega) fun f t3 t5 t6 t7 rests' v hf k1 k2 k3 => ?_
      have q : i + 1 ≤ many ∧ ∃ (s3 s5 s6 s7 : Sv) (rs ys : List Int), [Sv.v (.rol (ns.map .int)), .v (.int (many : Nat)), .v (.ref 0), t3, .v (.ref 1), t5, t6, t7] = [Sv.v (.rol (ns.map .int)), .v (.int (many : Nat)), .v (.ref 0), s3, .v (.ref 1), s5, s6, s7] ∧ [O.lst (rests'.map .int), .lst ((xs ++ [v]).map .int)] = [O.lst (rs.map .int), .lst (ys.map .int)] ∧ rs.length = ns.length ∧ (∀ r ∈ rs, 0 ≤ r) ∧ (∀ x ∈ ys, Draw x) ∧ ys.length = i + 1 := by
        refine ⟨by omega, t3, t5, t6, t7, rests', xs ++ [v], rfl, rfl, k1, k2, fun x hx => ?_, by simp [h4]⟩
        rcases List.mem_append.mp hx with z | z
        · exact h3 x z
        · simp at z; subst z; exact k3
      rcases hf with rfl | rfl
      · exact q
      · exact q
    · rintro e2 S2 ⟨hi2, s3, s5, s6, s7, rests, xs, rfl, rfl, h1, h2, h3, h4⟩
      refine okS_ret ?_
      simp
      have := h rests xs h3
      exact this
def Hand (S : So) : Prop := ∃ (xs : List Int) (at_ : Int), S[2]? = some (.lst [.ref 1, .int at_]) ∧ 0 ≤ at_ ∧ S[1]? = some (.lst (xs.map .int)) ∧ ∀ x ∈ xs, Draw x
def Grow (S T : So) : Prop := S.length ≤ T.length ∧ ∀ n o, n ≠ 2 → S[n]? = some o → T[n]? = some o
theorem Grow.refl (S : So) : Grow S S := ⟨Nat.le_refl _, fun _ _ _ h => h⟩
theorem Grow.trans {S T U : So} (a : Grow S T) (b : Grow T U) : Grow S U := ⟨Nat.le_trans a.1 b.1, fun n o h e => b.2 n o h (a.2 n o h e)⟩
theorem Grow.app (S : So) (o : O) : Grow S (S ++ [o]) := ⟨by simp, fun n x _ e => by rw [List.getElem?_append_left (List.getElem?_eq_some_iff.mp e).1]; exact e⟩
theorem get_app {S : So} {n : Nat} {o x : O} (e : S[n]? = some x) : (S ++ [o])[n]? = some x := by rw [List.getElem?_append_left (List.getElem?_eq_some_iff.mp e).1]; exact e
theorem get_new {S : So} {o : O} : (S ++ [o])[S.length]? = some o := by simp
theorem Hand.app {S : So} {o : O} (h : Hand S) : Hand (S ++ [o]) := by
  obtain ⟨xs, a, h1, h2, h3, h4⟩ := h
  exact ⟨xs, a, get_app h1, h2, get_app h3, h4⟩
theorem Hand.len {S : So} (h : Hand S) : 2 < S.length := by
  obtain ⟨xs, a, h1, h2, h3, h4⟩ := h
  exact (List.getElem?_eq_some_iff.mp h1).1
theorem Hand.set {S : So} {n : Nat} {o : O} (h : Hand S) (h1 : n ≠ 1) (h2 : n ≠ 2) : Hand (S.set n o) := by
  obtain ⟨xs, a, k1, k2, k3, k4⟩ := h
  exact ⟨xs, a, by rw [List.getElem?_set_ne h2]; exact k1, k2, by rw [List.getElem?_set_ne h1]; exact k3, k4⟩
theorem ok_take {S : So} {many : Int} {P : D → So → Prop} (h : Hand S) (hm : 0 < many) (hm2 : many < 2 ^ 63) (hP : ∀ v S', 0 ≤ v → v < many → Hand S' → Grow S S' → S'.length = S.length → P (.int v) S') : okC (takeF [.ref 2, .int many] S) P := by
  obtain ⟨xs, a, h1, h2, h3, h4⟩ := h
  have l2 : 2 < S.length := (List.getElem?_eq_some_iff.mp h1).1
  unfold takeF
  refine okC_fn rfl ?_
  unfold takeM
  simp only [startE, List.map, List.length, List.replicate, List.cons_append, List.nil_append]
  have i1 : atI [D.ref 1, .int a] 1 = some (.int a) := rfl
  refine okS_seq (okS_asg ?_)
  simp [fIx_ref h1 i1]
  refine okS_seq (okS_setix ?_)
  simp [fSet_ref h1 (i := 1) (by decide) (by simp)]
  have g2 : (S.set 2 (.lst [D.ref 1, .int (a + 1)]))[2]? = some (.lst [D.ref 1, .int (a + 1)]) := List.getElem?_set_self l2
  have g1 : (S.set 2 (.lst [D.ref 1, .int (a + 1)]))[1]? = some (.lst (xs.map .int)) := by rw [List.getElem?_set_ne (by decide)]; exact h3
  have hd : Hand (S.set 2 (.lst [D.ref 1, .int (a + 1)])) := ⟨xs, a + 1, g2, by omega, g1, h4⟩
  have gr : Grow S (S.set 2 (.lst [D.ref 1, .int (a + 1)])) := ⟨by simp, fun n o hn e => by rw [List.getElem?_set_ne (Ne.symm hn)]; exact e⟩
  have i0 : atI [D.ref 1, .int (a + 1)] 0 = some (.ref 1) := rfl
  refine okS_seq (okS_asg ?_)
  simp [fIx_ref g2 i0]
  by_cases hc : a < xs.length
  · refine okS_seq (okS_ifF ?_)
    simp [fLen_ref g1]
    refine ⟨by omega, okS_nx ?_⟩
    refine okS_ret ?_
    obtain ⟨d, a1, a2⟩ := atI_ok (xs := xs.map D.int) h2 (by simpa using hc)
    rw [List.getElem?_map] at a2
    obtain ⟨c, a2, rfl⟩ := Option.map_eq_some_iff.mp a2
    have c1 : CDivW c 7 := by unfold CDivW; decide
    simp [fIx_ref g1 a1, c1, hm]
    exact hP _ _ (Int.emod_nonneg _ (by omega)) (Int.emod_lt_of_pos _ hm) hd gr (by simp)
  · refine okS_seq (okS_ifT ?_)
    simp [fLen_ref g1]
    refine ⟨by omega, okS_ret ?_⟩
    simp
    exact hP _ _ (by decide) hm hd gr (by simp)
/-! ### data -/
mutual
inductive Dat (b : Nat) (S : So) : Nat → D → PyData → Prop
  | non {k : Nat} : Dat b S k .non .none
  | bl {k : Nat} (v : Bool) : Dat b S k (.bl v) (.bool v)
  | int {k : Nat} (v : Int) : Dat b S k (.int v) (.int v)
  | str {k : Nat} (v : Str) : Dat b S k (.str v) (.str v)
  | tup {k : Nat} {xs : List D} {ps : List PyData} : Dats b S k xs ps → Dat b S k (.tup xs) (.tuple ps)
  | ref {k m : Nat} {xs : List D} {ps : List PyData} : b ≤ m → S[m]? = some (.lst xs) → Dats b S k xs ps → Dat b S (k + 1) (.ref m) (.list ps)
inductive Dats (b : Nat) (S : So) : Nat → List D → List PyData → Prop
  | nil {k : Nat} : Dats b S k [] []
  | cons {k : Nat} {d : D} {p : PyData} {ds : List D} {ps : List PyData} : Dat b S k d p → Dats b S k ds ps → Dats b S k (d :: ds) (p :: ps)
end
section
variable {b b' : Nat} {S T : So}
mutual
theorem Dat.mono (hb : b' ≤ b) (h : ∀ n xs, b ≤ n → S[n]? = some (.lst xs) → T[n]? = some (.lst xs)) : ∀ {k k' : Nat} {d : D} {p : PyData}, k ≤ k' → Dat b S k d p → Dat b' T k' d p
  | _, _, _, _, _, .non => .non
  | _, _, _, _, _, .bl v => .bl v
  | _, _, _, _, _, .int v => .int v
  | _, _, _, _, _, .str v => .str v
  | _, _, _, _, hk, .tup x => .tup (Dats.mono hb h hk x)
  | _, 0, _, _, hk, .ref _ _ _ => absurd hk (by omega)
  | _, _ + 1, _, _, hk, .ref h1 h2 h3 => .ref (Nat.le_trans hb h1) (h _ _ h1 h2) (Dats.mono hb h (Nat.le_of_succ_le_succ hk) h3)
theorem Dats.mono (hb : b' ≤ b) (h : ∀ n xs, b ≤ n → S[n]? = some (.lst xs) → T[n]? = some (.lst xs)) : ∀ {k k' : Nat} {d : List D} {p : List PyData}, k ≤ k' → Dats b S k d p → Dats b' T k' d p
  | _, _, _, _, _, .nil => .nil
  | _, _, _, _, hk, .cons x y => .cons (Dat.mono hb h hk x) (Dats.mono hb h hk y)
end
mutual
theorem Dat.py : ∀ {k : Nat} {d : D} {p : PyData}, Dat b S k d p → toPy S k d = some p
  | _, _, _, .non => by unfold toPy; rfl
  | _, _, _, .bl v => by unfold toPy; rfl
  | _, _, _, .int v => by unfold toPy; rfl
  | _, _, _, .str v => by unfold toPy; rfl
  | _, _, _, .tup x => by unfold toPy; rw [Dats.py x]; rfl
  | _, _, _, .ref h1 h2 h3 => by unfold toPy; rw [h2]; dsimp only; rw [Dats.py h3]; rfl
theorem Dats.py : ∀ {k : Nat} {d : List D} {p : List PyData}, Dats b S k d p → toPys S k d = some p
  | _, _, _, .nil => by unfold toPys; rfl
  | _, _, _, .cons x y => by unfold toPys; rw [Dat.py x, Dats.py y]
end
theorem Dats.snoc {k : Nat} {d : D} {p : PyData} : ∀ {ds : List D} {ps : List PyData}, Dats b S k ds ps → Dat b S k d p → Dats b S k (ds ++ [d]) (ps ++ [p])
  | _, _, .nil, x => .cons x .nil
  | _, _, .cons y z, x => .cons y (Dats.snoc z x)
theorem Dats.len {k : Nat} : ∀ {ds : List D} {ps : List PyData}, Dats b S k ds ps → ds.length = ps.length
  | _, _, .nil => rfl
  | _, _, .cons _ z => by simp [Dats.len z]
end
end DD

set_option Elab.async false
set_option linter.all false
set_option maxRecDepth 100000
namespace DD
open PySem PySem.Spec PyProof.Rows L2
/-! ### data that is read; walks over any row -/
/-- all objects stay -/
def Keep (S T : So) : Prop := ∀ (n : Nat) (o : O), S[n]? = some o → T[n]? = some o
theorem Keep.refl (S : So) : Keep S S := fun _ _ h => h
theorem Keep.trans {S T U : So} (a : Keep S T) (b : Keep T U) : Keep S U := fun n o h => b n o (a n o h)
theorem Keep.app (S : So) (o : O) : Keep S (S ++ [o]) := fun n x h => get_app h
theorem Keep.len {S T : So} (h : Keep S T) : S.length ≤ T.length := by
  by_cases z : S.length = 0
  · omega
  · have h1 : S.length - 1 < S.length := by omega
    have := h (S.length - 1) _ (List.getElem?_eq_getElem h1)
    have := (List.getElem?_eq_some_iff.mp this).1
    omega
/-- d is read as p -/
def Py (S : So) (d : D) (p : PyData) : Prop := ∃ k, k ≤ 9 ∧ toPy S k d = some p
def Pys (S : So) (ds : List D) (ps : List PyData) : Prop := ∃ k, k ≤ 9 ∧ toPys S k ds = some ps
mutual
theorem toPy_up {S T : So} (h : Keep S T) : ∀ (k k' : Nat) (d : D) (p : PyData), k ≤ k' → toPy S k d = some p → toPy T k' d = some p
  | _, _, .non, _, _, e => by unfold toPy at e ⊢; exact e
  | _, _, .bl _, _, _, e => by unfold toPy at e ⊢; exact e
  | _, _, .int _, _, _, e => by unfold toPy at e ⊢; exact e
  | _, _, .str _, _, _, e => by unfold toPy at e ⊢; exact e
  | k, k', .tup xs, p, hk, e => by
    unfold toPy at e ⊢
    cases q : toPys S k xs with
    | none => rw [q] at e; cases e
    | some ps => rw [q] at e; rw [toPys_up h k k' xs ps hk q]; exact e
  | k, k', .rol xs, p, hk, e => by
    unfold toPy at e ⊢
    cases q : toPys S k xs with
    | none => rw [q] at e; cases e
    | some ps => rw [q] at e; rw [toPys_up h k k' xs ps hk q]; exact e
  | 0, _, .ref _, _, _, e => by unfold toPy at e; cases e
  | k + 1, 0, .ref _, _, hk, e => by omega
  | k + 1, k' + 1, .ref m, p, hk, e => by
    unfold toPy at e ⊢
    split at e
    · rename_i xs q
      rw [h m _ q]
      dsimp only
      cases q2 : toPys S k xs with
      | none => rw [q2] at e; cases e
      | some ps => rw [q2] at e; rw [toPys_up h k k' xs ps (by omega) q2]; exact e
    · cases e
  | _, _, .glo _, _, _, e => by unfold toPy at e; cases e
  | _, _, .ty _, _, _, e => by unfold toPy at e; cases e
termination_by k k' d => (k, sizeOf d)
theorem toPys_up {S T : So} (h : Keep S T) : ∀ (k k' : Nat) (ds : List D) (ps : List PyData), k ≤ k' → toPys S k ds = some ps → toPys T k' ds = some ps
  | _, _, [], _, _, e => by unfold toPys at e ⊢; exact e
  | k, k', d :: ds, ps, hk, e => by
    unfold toPys at e ⊢
    split at e
    · rename_i p ps' e1 e2
      rw [toPy_up h k k' d p hk e1, toPys_up h k k' ds ps' hk e2]
      exact e
    · cases e
termination_by k k' ds => (k, sizeOf ds)
end
theorem Py.up {S T : So} {d : D} {p : PyData} (h : Keep S T) (e : Py S d p) : Py T d p := by
  obtain ⟨k, h1, h2⟩ := e
  exact ⟨k, h1, toPy_up h k k d p (Nat.le_refl _) h2⟩
theorem Py.nine {S : So} {d : D} {p : PyData} (e : Py S d p) : py d S = some p := by
  obtain ⟨k, h1, h2⟩ := e
  exact toPy_up (Keep.refl S) k 9 d p h1 h2
theorem toPys_get {S : So} {k : Nat} : ∀ {ds : List D} {ps : List PyData}, toPys S k ds = some ps → ds.length = ps.length ∧ ∀ (i : Nat) (d : D), ds[i]? = some d → ∃ p, ps[i]? = some p ∧ toPy S k d = some p
  | [], _, e => by unfold toPys at e; cases e; exact ⟨rfl, fun i d h => by simp at h⟩
  | d :: ds, ps, e => by
    unfold toPys at e
    split at e
    · rename_i p ps' e1 e2
      cases e
      obtain ⟨h1, h2⟩ := toPys_get e2
      refine ⟨by simp [h1], fun i x hx => ?_⟩
      cases i with
      | zero => simp at hx; subst hx; exact ⟨p, rfl, e1⟩
      | succ i => exact h2 i x (by simpa using hx)
    · cases e
/-- a row's items -/
def Row (S : So) (d : D) (ps : List PyData) : Prop := ∃ (b : Bool) (xs : List D), seqOf d S = some (b, xs) ∧ xs.length = ps.length ∧ ∀ (i : Nat) (x : D), xs[i]? = some x → ∃ p, ps[i]? = some p ∧ Py S x p
theorem Py.row {S : So} {d : D} {p : PyData} {ps : List PyData} (e : Py S d p) (h : p = .list ps ∨ p = .tuple ps) : Row S d ps := by
  obtain ⟨k, hk, e⟩ := e
  have go : ∀ {k' : Nat} {xs : List D}, k' ≤ 9 → toPys S k' xs = some ps → xs.length = ps.length ∧ ∀ (i : Nat) (x : D), xs[i]? = some x → ∃ p, ps[i]? = some p ∧ Py S x p := fun hk' e' => by
    obtain ⟨h1, h2⟩ := toPys_get e'
    refine ⟨h1, fun i x hx => ?_⟩
    obtain ⟨p, h3, h4⟩ := h2 i x hx
    exact ⟨p, h3, _, hk', h4⟩
  cases d with
  | tup xs =>
    unfold toPy at e
    cases q : toPys S k xs with
    | none => rw [q] at e; cases e
    | some qs =>
      rw [q] at e
      cases e
      rcases h with h | h <;> cases h
      exact ⟨true, xs, rfl, go hk q⟩
  | rol xs =>
    unfold toPy at e
    cases q : toPys S k xs with
    | none => rw [q] at e; cases e
    | some qs =>
      rw [q] at e
      cases e
      rcases h with h | h <;> cases h
      exact ⟨false, xs, rfl, go hk q⟩
  | ref n =>
    cases k with
    | zero => unfold toPy at e; cases e
    | succ k =>
      unfold toPy at e
      split at e
      · rename_i xs q
        cases q2 : toPys S k xs with
        | none => rw [q2] at e; cases e
        | some qs =>
          rw [q2] at e
          cases e
          rcases h with h | h <;> cases h
          exact ⟨false, xs, by unfold seqOf; simp [q], go (by omega) q2⟩
      · cases e
  | non => unfold toPy at e; cases e; rcases h with h | h <;> cases h
  | bl _ => unfold toPy at e; cases e; rcases h with h | h <;> cases h
  | int _ => unfold toPy at e; cases e; rcases h with h | h <;> cases h
  | str _ => unfold toPy at e; cases e; rcases h with h | h <;> cases h
  | glo _ => unfold toPy at e; cases e
  | ty _ => unfold toPy at e; cases e
/-- the built-in type of data -/
def tyP : PyData → String
  | .none => "NoneType"
  | .bool _ => "bool"
  | .int _ => "int"
  | .str _ => "str"
  | .list _ => "list"
  | .tuple _ => "tuple"
  | .dict _ => "dict"
theorem Py.ty {T : Tab} {S : So} {d : D} {p : PyData} (e : Py S d p) : tyOf T d S = some (.inl (tyP p)) := by
  obtain ⟨k, hk, e⟩ := e
  cases d with
  | tup xs =>
    unfold toPy at e
    cases q : toPys S k xs with
    | none => rw [q] at e; cases e
    | some qs => rw [q] at e; cases e; rfl
  | rol xs =>
    unfold toPy at e
    cases q : toPys S k xs with
    | none => rw [q] at e; cases e
    | some qs => rw [q] at e; cases e; rfl
  | ref n =>
    cases k with
    | zero => unfold toPy at e; cases e
    | succ k =>
      unfold toPy at e
      split at e
      · rename_i xs q
        cases q2 : toPys S k xs with
        | none => rw [q2] at e; cases e
        | some qs => rw [q2] at e; cases e; simp [tyOf, q, tyP]
      · cases e
  | non => unfold toPy at e; cases e; rfl
  | bl _ => unfold toPy at e; cases e; rfl
  | int _ => unfold toPy at e; cases e; rfl
  | str _ => unfold toPy at e; cases e; rfl
  | glo _ => unfold toPy at e; cases e
  | ty _ => unfold toPy at e; cases e
end DD

set_option Elab.async false
set_option linter.all false
set_option maxRecDepth 100000
namespace DD
open PySem PySem.Spec PyProof.Rows L2
section
variable {e : Sl} {S : So}
/-- the row's items at later stores -/
def SeqIt (d : D) (xs : List D) (it : Itm) (S1 : So) : Prop := it.n = xs.length ∧ ∀ S2, Keep S1 S2 → ∀ i, it.get i S2 = some xs[i]?
theorem seqI_row {d : D} {S : So} {b : Bool} {xs : List D} (h : seqOf d S = some (b, xs)) : ∃ it, seqI d e S = some (.ok it, S) ∧ SeqIt d xs it S := by
  cases d with
  | tup ys => cases h; exact ⟨_, rfl, rfl, fun _ _ _ => rfl⟩
  | rol ys => cases h; exact ⟨_, rfl, rfl, fun _ _ _ => rfl⟩
  | ref n =>
    unfold seqOf at h
    dsimp only at h
    split at h
    · rename_i ys q
      cases h
      refine ⟨itLst n xs.length, by unfold seqI; simp [q], rfl, fun S2 k i => ?_⟩
      unfold itLst
      dsimp only
      rw [k n _ q]
    · cases h
  | _ => unfold seqOf at h; cases h
theorem seqI_str {z : Str} : ∃ it, seqI (.str z) e S = some (.ok it, S) ∧ SeqIt (.str z) (signs z) it S := ⟨_, rfl, rfl, fun _ _ _ => rfl⟩
/-- for x in a row, where the body keeps the store -/
theorem okS_each {m : MM D} {t : Tg} {b : MS} {P : Fl → Sl → So → Prop} (h : okM m e S fun d S1 => ∃ it xs, seqI d e S1 = some (.ok it, S1) ∧ SeqIt d xs it S1 ∧ ∃ I : Nat → Sl → So → Prop, I 0 e S1 ∧
    (∀ i e2 S2 x, Keep S1 S2 → xs[i]? = some x → I i e2 S2 → ∃ e3, t x S2 e2 = some e3 ∧ okS b e3 S2 (turnP (fun e4 S4 => Keep S2 S4 ∧ I (i + 1) e4 S4) P)) ∧ ∀ e2 S2, Keep S1 S2 → I xs.length e2 S2 → P .nx e2 S2) : okS (forS (mSeq m) t b) e S P := by
  refine okS_for ?_
  unfold mSeq
  rw [okM_bind]
  refine h.imp fun d S1 q => ?_
  obtain ⟨it, xs, h1, ⟨h2, h3⟩, I, h4, h5, h6⟩ := q
  refine ⟨it, S1, h1, fun i e2 S2 => Keep S1 S2 ∧ i ≤ xs.length ∧ I i e2 S2, ⟨Keep.refl _, Nat.zero_le _, h4⟩, ?_⟩
  rintro i e2 S2 ⟨k1, k2, k3⟩
  by_cases hi : i < xs.length
  · obtain ⟨e3, g1, g2⟩ := h5 i e2 S2 xs[i] k1 (List.getElem?_eq_getElem hi) k3
    refine .inr ⟨by omega, xs[i], e3, by rw [h3 S2 k1 i, List.getElem?_eq_getElem hi], g1, g2.imp fun f e4 S4 q => ?_⟩
    cases f with
    | nx => exact ⟨k1.trans q.1, hi, q.2⟩
    | ct => exact ⟨k1.trans q.1, hi, q.2⟩
    | _ => exact q
  · have ei : i = xs.length := by omega
    subst ei
    exact .inl ⟨by rw [h3 S2 k1, List.getElem?_eq_none (Nat.le_refl _)], h6 _ _ k1 k3⟩
/-- [f(x) for x in a row], where f keeps the store: the values are told by V -/
theorem okM_each {own : List Nat} {m : MM D} {t : Tg} {te : MM D} {P : D → So → Prop} (h : okM m e S fun d S1 => ∃ it xs, seqI d e S1 = some (.ok it, S1) ∧ SeqIt d xs it S1 ∧ xs.length < sizeLine ∧ ∃ V : Nat → D → Prop,
    (∀ i x T, Keep S1 T → xs[i]? = some x → ∃ e3, t x T (wipeE e own) = some e3 ∧ okM te e3 T fun y U => Keep T U ∧ V i y) ∧
    ∀ ys T, Keep S1 T → T[S1.length]? = some (.lst ys) → ys.length = xs.length → (∀ (i : Nat) (y : D), ys[i]? = some y → V i y) → P (.ref S1.length) T) : okM (compM own (mSeq m) t yesM te) e S P := by
  refine okM_comp ?_
  unfold mSeq
  rw [okM_bind]
  refine h.imp fun d S1 q => ?_
  obtain ⟨it, xs, h1, ⟨h2, h3⟩, hl, V, h4, h5⟩ := q
  refine ⟨it, S1, h1, fun i T => Keep S1 T ∧ i ≤ xs.length ∧ ∃ acc, T[S1.length]? = some (.lst acc) ∧ acc.length = i ∧ ∀ (j : Nat) (y : D), acc[j]? = some y → V j y, ⟨Keep.app _ _, Nat.zero_le _, [], get_new, rfl, fun j y z => by simp at z⟩, ?_⟩
  rintro i T ⟨k1, k2, acc, k3, k4, k5⟩
  by_cases hi : i < xs.length
  · obtain ⟨e3, g1, g2⟩ := h4 i xs[i] T k1 (List.getElem?_eq_getElem hi)
    refine .inr ⟨by omega, xs[i], e3, by rw [h3 T k1 i, List.getElem?_eq_getElem hi], g1, g2.imp fun y U q => ?_⟩
    have u1 := q.1 _ _ k3
    have lU : S1.length < U.length := (List.getElem?_eq_some_iff.mp u1).1
    refine ⟨acc, u1, by omega, fun n o z => ?_, hi, acc ++ [y], List.getElem?_set_self lU, by simp [k4], fun j z hz => ?_⟩
    · have hn : n < S1.length := (List.getElem?_eq_some_iff.mp z).1
      rw [List.getElem?_set_ne (by omega)]
      exact (k1.trans q.1) n o z
    · by_cases hj : j < acc.length
      · rw [List.getElem?_append_left hj] at hz
        exact k5 j z hz
      · rw [List.getElem?_append_right (by omega)] at hz
        have hj2 : j - acc.length = 0 := by
          have := (List.getElem?_eq_some_iff.mp hz).1
          simp at this
          omega
        rw [hj2] at hz
        simp at hz
        subst hz
        have ej : j = i := by omega
        rw [ej]
        exact q.2
  · have ei : i = xs.length := by omega
    subst ei
    exact .inl ⟨by rw [h3 T k1, List.getElem?_eq_none (Nat.le_refl _)], h5 acc T k1 k3 k4 k5⟩
theorem fAll_ok {n : Nat} {bs : List Bool} (h : S[n]? = some (.lst (bs.map .bl))) : fAll [.ref n] S = some (.bl (bs.all id), S) := by
  have hb : ∀ bs : List Bool, blsOf (bs.map .bl) = some bs := fun bs => by
    induction bs with
    | nil => rfl
    | cons b r ih =>
      show (blsOf (r.map .bl)).map (b :: ·) = _
      rw [ih]; rfl
  unfold fAll fAllB
  simp [seqOf, h, hb]
/-- a list that is told item by item -/
theorem list_of {f : Nat → D} {ys : List D} {n : Nat} (h1 : ys.length = n) (h2 : ∀ (i : Nat) (y : D), ys[i]? = some y → y = f i) : ys = (List.range n).map f := by
  apply List.ext_getElem?
  intro i
  by_cases hi : i < n
  · have hy : ys[i]? = some ys[i] := List.getElem?_eq_getElem (by omega)
    rw [hy, h2 i _ hy]
    simp [hi]
  · rw [List.getElem?_eq_none (by omega), List.getElem?_eq_none (by simp; omega)]
/-- what a table says of the built-in types -/
structure Std (T : Tab) : Prop where
  kit : ∀ p : PyData, (∀ kvs, p ≠ .dict kvs) → ∀ c ∈ ["int", "bool", "str", "list", "tuple"], T.kit (.inl (tyP p)) (.inl c) = some (decide (tyP p = c) || (decide (tyP p = "bool") && decide (c = "int")))
/-- no dict at the top -/
def NoD (p : PyData) : Prop := ∀ kvs, p ≠ .dict kvs
theorem toPy_nodict {S : So} {k : Nat} {d : D} {p : PyData} (h : toPy S k d = some p) : NoD p := fun kvs z => by
  subst z
  cases d with
  | tup xs => unfold toPy at h; cases q : toPys S k xs <;> rw [q] at h <;> cases h
  | rol xs => unfold toPy at h; cases q : toPys S k xs <;> rw [q] at h <;> cases h
  | ref n =>
    cases k with
    | zero => unfold toPy at h; cases h
    | succ k =>
      unfold toPy at h
      split at h
      · rename_i xs q
        cases q2 : toPys S k xs <;> rw [q2] at h <;> cases h
      · cases h
  | _ => unfold toPy at h; cases h
theorem Py.nod {d : D} {p : PyData} (h : Py S d p) : NoD p := by
  obtain ⟨k, _, h⟩ := h
  exact toPy_nodict h
theorem isi_ty {T : Tab} {d : D} {p : PyData} {c : String} (sd : Std T) (h : Py S d p) (hc : c ∈ ["int", "bool", "str", "list", "tuple"]) : fIsiA T [d, .ty c] S = some (.bl (decide (tyP p = c) || (decide (tyP p = "bool") && decide (c = "int"))), S) := by
  have k := sd.kit p h.nod c hc
  have t : tyOf T d S = some (.inl (tyP p)) := h.ty
  have main : fIsi T [d, .ty c] S = some (.bl (decide (tyP p = c) || (decide (tyP p = "bool") && decide (c = "int"))), S) := by
    unfold fIsi
    simp only [t, clsN, k]
    rfl
  unfold fIsiA
  split
  · rename_i n c' e2
    cases e2
    split
    · rename_i cn fs e
      obtain ⟨k', _, h'⟩ := h
      cases k' with
      | zero => unfold toPy at h'; cases h'
      | succ k' => unfold toPy at h'; rw [e] at h'; cases h'
    · exact main
  · exact main
end
end DD

set_option Elab.async false
set_option linter.all false
set_option maxRecDepth 100000
namespace DD
open PySem PySem.Spec PyProof.Rows L2
section
variable {X : Cx} {g : G} {xa : Xa} {W : WX} {pos : Pos} {ι : List Addr} {H : Hp} {T : Tab}
/-! ### tuple(range(n)) -/
def rngD (n : Nat) : List D := (List.range n).map fun (i : Nat) => D.int (i : Int)
def tupRng (d : D) : MM D := fun _ S => match d with
  | .int j => if -(2 ^ 62) ≤ j ∧ j < 2 ^ 62 ∧ j.toNat ≤ 2 ^ 24 then some (.ok (.tup (rngD j.toNat)), S) else none
  | _ => none
def mTupRng (m : MM D) : MM D := bindM m tupRng
theorem Rs_ints : ∀ (ns : List Int), Rs g ι H (ns.map D.int) (ns.map V.int)
  | [] => .nil
  | n :: ns => .cons (.int n) (Rs_ints ns)
theorem em_tupRng {a : Expr} {m : MM D} {p p2 pos2 : Pos} (hc : X.calm = true) (hm : X.mg "tuple" = none) (hm2 : X.mg "range" = none) (ha : PE X a (tE g xa W m)) (hg : Gl X "tuple" := by rfl) (hg2 : Gl X "range" := by rfl)
    (hs : starEach [a] X.env = (false, eval a X.env) :: starEach [] X.env := by rfl) (hs2 : starEach [.Call (.Name "range" p2) [a] [] pos2] X.env = (false, eval (.Call (.Name "range" p2) [a] [] pos2) X.env) :: starEach [] X.env := by rfl) :
    PE X (.Call (.Name "tuple" p) [.Call (.Name "range" p2) [a] [] pos2] [] pos) (tE g xa W (mTupRng m)) :=
  (pe_tupRg hc hg hm (prg_1 hg2 hm2 ha hs) hs2).viaM fun σ H Q h => by
    obtain ⟨ι, S, e, r, S', hs, he, hm, hf'⟩ := h
    refine stepG hs he hm hf' fun d S1 ι1 H1 v h1 p1 x1 s1 e1 r1 f1 => ?_
    unfold tupRng at h1
    split at h1
    · rename_i j
      split at h1
      · rename_i hb
        cases h1
        cases r1
        refine ⟨j, rfl, ⟨by decide, by decide, hb.1, hb.2.1, ?_⟩, fun q nq => ?_⟩
        · have : j - 0 = j := by omega
          rw [this]
          exact hb.2.2
        · have e2 : rgV 0 j = ((List.range j.toNat).map fun (i : Nat) => (i : Int)).map V.int := by
            unfold rgV
            rw [List.map_map]
            simp
          have e3 : rngD j.toNat = ((List.range j.toNat).map fun (i : Nat) => (i : Int)).map D.int := by
            unfold rngD
            rw [List.map_map]
            rfl
          rw [e2]
          have f2 : Does g (ρD g) ι1 H1 (.tup (rngD j.toNat)) S' Q := f1
          refine f2.tup s1 nq ?_
          rw [e3]
          exact Rs_ints _
      · cases h1
    · cases h1
/-- tuple(range(n)) in the logic of runs -/
theorem okM_tupRng {m : MM D} {e : Sl} {S : So} {P : D → So → Prop} (h : okM m e S fun d S1 => ∃ n : Nat, d = .int (n : Nat) ∧ n ≤ 1000000 ∧ P (.tup (rngD n)) S1) : okM (mTupRng m) e S P := by
  unfold mTupRng
  rw [okM_bind]
  refine h.imp fun d S1 q => ?_
  obtain ⟨n, rfl, hn, hP⟩ := q
  refine ⟨_, S1, ?_, hP⟩
  unfold tupRng
  dsimp only
  rw [if_pos ⟨by omega, by omega, by rw [Int.toNat_natCast]; omega⟩, Int.toNat_natCast]
end
end DD

set_option Elab.async false
set_option linter.all false
set_option maxRecDepth 100000
namespace PB
open PySem PySem.Spec PyProof.Rows L2 DD
def m_is_integer (tb : Tab) : MS := (retS (mAndV (mOpA (fIsiA tb) (mCons (mVar 0) (mCons (retM (.ty "int")) mNil))) (mNotV (mOpA (fIsiA tb) (mCons (mVar 0) (mCons (retM (.ty "bool")) mNil))))))
def phi_is_integer (tb : Tab) : FnD := fnM 1 1 (m_is_integer tb)
def m_is_integer_within (tb : Tab) : MS := (retS (mAndV (mCall (phi_is_integer tb) (mCons (mVar 0) mNil)) (mChain (fOrd pLe qLe) (fOrd pLe qLe) (mVar 1) (mVar 0) (mVar 2))))
def phi_is_integer_within (tb : Tab) : FnD := fnM 3 3 (m_is_integer_within tb)
def m_is_row (tb : Tab) : MS := (retS (mOpA (fIsiA tb) (mCons (mVar 0) (mCons (mOpA fTup (mCons (retM (.ty "list")) (mCons (retM (.ty "tuple")) mNil))) mNil))))
def phi_is_row (tb : Tab) : FnD := fnM 1 1 (m_is_row tb)
def m_is_word (tb : Tab) : MS := (seqS (ifS (mOr (mNot (mTst (mOpA (fIsiA tb) (mCons (mVar 0) (mCons (retM (.ty "str")) mNil))))) (mNot (mTst (mChain (fOrd pLe qLe) (fOrd pLe qLe) (retM (.int 1)) (mOpA fLen (mCons (mVar 0) mNil)) (retM (.int 8)))))) (retS (retM (.bl false))) nxS) (seqS (ifS (mNot (mTst (mChain (fOrd pLe qLe) (fOrd pLe qLe) (retM (.str "a")) (mOp2 fIx (mVar 0) (retM (.int 0))) (retM (.str "z"))))) (retS (retM (.bl false))) nxS) (retS (mOpA fAll (mCons (compM [1] (mSeq (mVar 0)) (nmT 1) yesM (mOrV (mChain (fOrd pLe qLe) (fOrd pLe qLe) (retM (.str "a")) (mVar 1) (retM (.str "z"))) (mChain (fOrd pLe qLe) (fOrd pLe qLe) (retM (.str "0")) (mVar 1) (retM (.str "9"))))) mNil)))))
def phi_is_word (tb : Tab) : FnD := fnM 1 2 (m_is_word tb)
def m_are_ascending (tb : Tab) : MS := (retS (mOpA fAll (mCons (compM [1, 2] (mZip (mCons (mVar 0) (mCons (mSl (mVar 0) (mPart (retM (.int 1))) mNoPart) mNil))) (tupT 2 (consT (nmT 1) (consT (nmT 2) nilT))) yesM (mOp2 (fOrd pLt qLt) (mVar 1) (mVar 2))) mNil)))
def phi_are_ascending (tb : Tab) : FnD := fnM 1 3 (m_are_ascending tb)
def m_is_sized_word (tb : Tab) : MS := (seqS (ifS (mOr (mNot (mTst (mCall (phi_is_row tb) (mCons (mVar 0) mNil)))) (mTst (mOp2 fNe (mOpA fLen (mCons (mVar 0) mNil)) (retM (.int 2))))) (retS (retM (.bl false))) nxS) (retS (mAndV (mCall (phi_is_word tb) (mCons (mOp2 fIx (mVar 0) (retM (.int 0))) mNil)) (mCall (phi_is_integer_within tb) (mCons (mOp2 fIx (mVar 0) (retM (.int 1))) (mCons (retM (.int 1)) (mCons (mVar 1) mNil)))))))
def phi_is_sized_word (tb : Tab) : FnD := fnM 2 2 (m_is_sized_word tb)
def b_product_of_1 (tb : Tab) : MS := (asgS (mOp2 fMul (mVar 1) (mVar 2)) (nmT 1))
def m_product_of (tb : Tab) : MS := (seqS (asgS (retM (.int 1)) (nmT 1)) (seqS (forS (mSeq (mVar 0)) (nmT 2) (b_product_of_1 tb)) (retS (mVar 1))))
def phi_product_of (tb : Tab) : FnD := fnM 1 3 (m_product_of tb)
def m_are_sizes (tb : Tab) : MS := (seqS (ifS (mOr (mNot (mTst (mCall (phi_is_row tb) (mCons (mVar 0) mNil)))) (mTst (mOp2 (fOrd pGt qGt) (mOpA fLen (mCons (mVar 0) mNil)) (mVar 1)))) (retS (retM (.bl false))) nxS) (seqS (ifS (mNot (mTst (mOpA fAll (mCons (compM [4] (mSeq (mVar 0)) (nmT 4) yesM (mCall (phi_is_sized_word tb) (mCons (mVar 4) (mCons (mVar 2) mNil)))) mNil)))) (retS (retM (.bl false))) nxS) (retS (mAndV (mCall (phi_are_ascending tb) (mCons (compM [4] (mSeq (mVar 0)) (nmT 4) yesM (mOp2 fIx (mVar 4) (retM (.int 0)))) mNil)) (mOp2 (fOrd pLe qLe) (mCall (phi_product_of tb) (mCons (compM [4] (mSeq (mVar 0)) (nmT 4) yesM (mOp2 fIx (mVar 4) (retM (.int 1)))) mNil)) (mVar 3))))))
def phi_are_sizes (tb : Tab) : FnD := fnM 4 5 (m_are_sizes tb)
def b_combined_1 (tb : Tab) : MS := (asgS (comp2M [3, 4] [4] (mSeq (mVar 1)) (nmT 3) (mSeq (mVar 2)) (nmT 4) (mOp2 fAdd (mVar 3) (mOpA fTup (mCons (mVar 4) mNil)))) (nmT 1))
def m_combined (tb : Tab) : MS := (seqS (asgS (mOpA fLst (mCons (mOpA fTup mNil) mNil)) (nmT 1)) (seqS (forS (mSeq (mVar 0)) (nmT 2) (b_combined_1 tb)) (retS (mVar 1))))
def phi_combined (tb : Tab) : FnD := fnM 1 5 (m_combined tb)
def b_place_number_1 (tb : Tab) : MS := (asgS (mOp2 fAdd (mOp2 fMul (mVar 2) (mVar 4)) (mVar 5)) (nmT 2))
def m_place_number (tb : Tab) : MS := (seqS (asgS (retM (.int 0)) (nmT 2)) (seqS (forS (mZip (mCons (mVar 0) (mCons (mVar 1) mNil))) (tupT 2 (consT (tupT 2 (consT (nmT 3) (consT (nmT 4) nilT))) (consT (nmT 5) nilT))) (b_place_number_1 tb)) (retS (mVar 2))))
def phi_place_number (tb : Tab) : FnD := fnM 2 6 (m_place_number tb)
def m_as_tuples (tb : Tab) : MS := (retS (mOpA fTuple (mCons (compM [1] (mSeq (mVar 0)) (nmT 1) yesM (mIf (mTst (mCall (phi_is_row tb) (mCons (mVar 1) mNil))) (mOpA fTuple (mCons (mVar 1) mNil)) (mVar 1))) mNil)))
def phi_as_tuples (tb : Tab) : FnD := fnM 1 2 (m_as_tuples tb)
def m_are_cells (tb : Tab) : MS := (seqS (ifS (mOr (mNot (mTst (mCall (phi_is_row tb) (mCons (mVar 0) mNil)))) (mTst (mOp2 fNe (mOpA fLen (mCons (mVar 0) mNil)) (mCall (phi_product_of tb) (mCons (compM [2, 3] (mSeq (mVar 1)) (tupT 2 (consT (nmT 2) (consT (nmT 3) nilT))) yesM (mVar 3)) mNil))))) (retS (retM (.bl false))) nxS) (retS (mOpA fAll (mCons (compM [4] (mSeq (mVar 0)) (nmT 4) yesM (mCall (phi_is_integer tb) (mCons (mVar 4) mNil))) mNil))))
def phi_are_cells (tb : Tab) : FnD := fnM 2 5 (m_are_cells tb)
def m_is_sides (tb : Tab) : MS := (retS (mCall (phi_are_sizes tb) (mCons (mVar 0) (mCons (retM (.int 4)) (mCons (retM (.int 6)) (mCons (retM (.int 200)) mNil))))))
def phi_is_sides (tb : Tab) : FnD := fnM 1 1 (m_is_sides tb)
def m_Array_init (tb : Tab) : MS := (seqS (ifS (mNot (mTst (mCall (phi_is_sides tb) (mCons (mVar 1) mNil)))) (raiseS "InvalidSides" ["sides"] (mCons (mVar 1) mNil)) nxS) (seqS (ifS (mNot (mTst (mCall (phi_are_cells tb) (mCons (mVar 2) (mCons (mVar 1) mNil))))) (raiseS "InvalidCells" ["cells"] (mCons (mVar 2) mNil)) nxS) (seqS (fldS tb "sides" (mCall (phi_as_tuples tb) (mCons (mVar 1) mNil)) (mVar 0)) (fldS tb "cells" (mOpA fTuple (mCons (mVar 2) mNil)) (mVar 0)))))
def phi_Array_init (tb : Tab) : FnD := fnM 3 3 (m_Array_init tb)
def m_Array_cell (tb : Tab) : MS := (retS (mOp2 fIx (mOp1 (fFld tb "cells") (mVar 0)) (mCall (phi_place_number tb) (mCons (mOp1 (fFld tb "sides") (mVar 0)) (mCons (mVar 1) mNil)))))
def phi_Array_cell (tb : Tab) : FnD := fnM 2 2 (m_Array_cell tb)
def m_Array_eq (tb : Tab) : MS := (retS (mAndV (mOpA (fIsiA tb) (mCons (mVar 1) (mCons (retM (.glo "Array")) mNil))) (mAndV (mOp2 fEq (mOp1 (fFld tb "sides") (mVar 0)) (mOp1 (fFld tb "sides") (mVar 1))) (mOp2 fEq (mOp1 (fFld tb "cells") (mVar 0)) (mOp1 (fFld tb "cells") (mVar 1))))))
def phi_Array_eq (tb : Tab) : FnD := fnM 2 2 (m_Array_eq tb)
def m_places (tb : Tab) : MS := (retS (mOpA fTuple (mCons (mCall (phi_combined tb) (mCons (compM [1, 2] (mSeq (mVar 0)) (tupT 2 (consT (nmT 1) (consT (nmT 2) nilT))) yesM (mTupRng (mVar 2))) mNil)) mNil)))
def phi_places (tb : Tab) : FnD := fnM 1 3 (m_places tb)
end PB

set_option Elab.async false
set_option linter.all false
set_option maxRecDepth 100000
set_option maxHeartbeats 1000000
namespace PB
open PySem PySem.Spec PyProof.Rows L2 DD
/-- what is asked of a table of facts -/
class Ok (tb : Tab) : Prop where
  std : Std tb
  att_s : tb.attr "Array" "sides" = true
  att_c : tb.attr "Array" "cells" = true
variable {tb : Tab} [ok : Ok tb]
def isIntP (p : PyData) : Bool := decide (tyP p = "int")
def isRowP (p : PyData) : Bool := decide (tyP p = "list") || decide (tyP p = "tuple")
theorem sp_is_integer {d : D} {p : PyData} {S : So} {P : D → So → Prop} (h : Py S d p) (hP : P (.bl (isIntP p)) S) : okC (phi_is_integer tb [d] S) P := by
  unfold phi_is_integer
  refine okC_fn rfl ?_
  unfold m_is_integer
  simp only [startE, List.map, List.length, List.replicate, List.cons_append, List.nil_append]
  refine okS_ret ?_
  simp only [okM_andV, okM_notV, okM_opA, okM_cons, okM_var, okM_ret, okM_nil]
  refine ⟨_, rfl, ?_⟩
  rw [isi_ty ok.std h (by decide), okF_some]
  refine ⟨_, rfl, ?_⟩
  have e : isIntP p = if (decide (tyP p = "int") || (decide (tyP p = "bool") && decide ("int" = "int"))) = true then !(decide (tyP p = "bool") || (decide (tyP p = "bool") && decide ("bool" = "int"))) else false := by
    have nod := h.nod
    cases p <;> first | rfl | decide | (exact absurd rfl (nod _))
  split
  · rename_i hc
    rw [if_pos hc] at e
    refine ⟨_, rfl, ?_⟩
    rw [isi_ty ok.std h (by decide), okF_some]
    refine ⟨_, rfl, ?_⟩
    rw [← e]
    exact hP
  · rename_i hc
    rw [if_neg hc] at e
    rw [e] at hP
    exact hP
theorem isi_row {d : D} {p : PyData} {S : So} (h : Py S d p) : fIsiA tb [d, .tup [.ty "list", .ty "tuple"]] S = some (.bl (isRowP p), S) := by
  have k1 := ok.std.kit p h.nod "list" (by decide)
  have k2 := ok.std.kit p h.nod "tuple" (by decide)
  have t : tyOf tb d S = some (.inl (tyP p)) := h.ty
  have main : fIsi tb [d, .tup [.ty "list", .ty "tuple"]] S = some (.bl (isRowP p), S) := by
    unfold fIsi
    simp only [t, kitAll, clsN, k1, k2]
    show some _ = _
    unfold isRowP
    have nod := h.nod
    cases p <;> first | rfl | (exact absurd rfl (nod _))
  unfold fIsiA
  split
  · rename_i n c' e2
    cases e2
    split
    · rename_i cn fs e
      obtain ⟨k', _, h'⟩ := h
      cases k' with
      | zero => unfold toPy at h'; cases h'
      | succ k' => unfold toPy at h'; rw [e] at h'; cases h'
    · exact main
  · exact main
theorem sp_is_row {d : D} {p : PyData} {S : So} {P : D → So → Prop} (h : Py S d p) (hP : P (.bl (isRowP p)) S) : okC (phi_is_row tb [d] S) P := by
  unfold phi_is_row
  refine okC_fn rfl ?_
  unfold m_is_row
  simp only [startE, List.map, List.length, List.replicate, List.cons_append, List.nil_append]
  refine okS_ret ?_
  simp only [okM_opA, okM_cons, okM_var, okM_ret, okM_nil]
  refine ⟨_, rfl, ?_⟩
  rw [fTup_ok (by simp), okF_some, isi_row h, okF_some]
  exact hP
end PB

set_option Elab.async false
set_option linter.all false
set_option maxRecDepth 100000
set_option maxHeartbeats 1000000
namespace PB
open PySem PySem.Spec PyProof.Rows L2 DD
variable {tb : Tab} [ok : Ok tb]
@[simp] theorem okM_chain {f f' : F2} {a b c : MM D} {e : Sl} {S : So} {P : D → So → Prop} : okM (mChain f f' a b c) e S P ↔ okM a e S fun x S1 => okM b e S1 fun y S2 => okF (f x y S2) fun d S3 => ∃ k, d = .bl k ∧ if k then okM c e S3 (fun w S4 => okF (f' y w S4) P) else P (.bl false) S3 := by
  unfold mChain
  simp [okM_ite]
theorem Py.int_eq {S : So} {d : D} {v : Int} (h : Py S d (.int v)) : d = .int v := by
  obtain ⟨k, _, h⟩ := h
  cases d with
  | int w => unfold toPy at h; cases h; rfl
  | tup xs => unfold toPy at h; cases q : toPys S k xs <;> rw [q] at h <;> cases h
  | rol xs => unfold toPy at h; cases q : toPys S k xs <;> rw [q] at h <;> cases h
  | ref n =>
    cases k with
    | zero => unfold toPy at h; cases h
    | succ k =>
      unfold toPy at h
      split at h
      · rename_i xs q
        cases q2 : toPys S k xs <;> rw [q2] at h <;> cases h
      · cases h
  | _ => unfold toPy at h; cases h
theorem Py.str_eq {S : So} {d : D} {v : Str} (h : Py S d (.str v)) : d = .str v := by
  obtain ⟨k, _, h⟩ := h
  cases d with
  | str w => unfold toPy at h; cases h; rfl
  | tup xs => unfold toPy at h; cases q : toPys S k xs <;> rw [q] at h <;> cases h
  | rol xs => unfold toPy at h; cases q : toPys S k xs <;> rw [q] at h <;> cases h
  | ref n =>
    cases k with
    | zero => unfold toPy at h; cases h
    | succ k =>
      unfold toPy at h
      split at h
      · rename_i xs q
        cases q2 : toPys S k xs <;> rw [q2] at h <;> cases h
      · cases h
  | _ => unfold toPy at h; cases h
def withinP (p : PyData) (lo hi : Int) : Bool := match p with
  | .int v => decide (lo ≤ v) && decide (v ≤ hi)
  | _ => false
theorem sp_within {d : D} {p : PyData} {lo hi : Int} {S : So} {P : D → So → Prop} (h : Py S d p) (hP : P (.bl (withinP p lo hi)) S) : okC (phi_is_integer_within tb [d, .int lo, .int hi] S) P := by
  unfold phi_is_integer_within
  refine okC_fn rfl ?_
  unfold m_is_integer_within
  simp only [startE, List.map, List.length, List.replicate, List.cons_append, List.nil_append]
  refine okS_ret ?_
  simp only [okM_andV, okM_call, okM_cons, okM_var, okM_ret, okM_nil, okM_chain]
  refine ⟨_, rfl, sp_is_integer h ⟨_, rfl, ?_⟩⟩
  cases p with
  | int v =>
    have e := Py.int_eq h
    subst e
    rw [if_pos (by rfl)]
    refine ⟨_, rfl, _, rfl, ?_⟩
    rw [fOrd_int, okF_some]
    refine ⟨_, rfl, ?_⟩
    by_cases h1 : lo ≤ v
    · rw [if_pos (by simpa using h1)]
      refine ⟨_, rfl, ?_⟩
      rw [fOrd_int, okF_some]
      have e : withinP (.int v) lo hi = decide (v ≤ hi) := by simp [withinP, h1]
      rw [e] at hP
      exact hP
    · rw [if_neg (by simpa using h1)]
      have e : withinP (.int v) lo hi = false := by simp [withinP, h1]
      rw [e] at hP
      exact hP
  | none => rw [if_neg (by simp [isIntP, tyP])]; exact hP
  | bool _ => rw [if_neg (by simp [isIntP, tyP])]; exact hP
  | str _ => rw [if_neg (by simp [isIntP, tyP])]; exact hP
  | list _ => rw [if_neg (by simp [isIntP, tyP])]; exact hP
  | tuple _ => rw [if_neg (by simp [isIntP, tyP])]; exact hP
  | dict _ => rw [if_neg (by simp [isIntP, tyP])]; exact hP
/-! ### words -/
def btw (lo hi : Str) (c : Nat) : Bool := qLe lo.cps.toList [c] && qLe [c] hi.cps.toList
def signP (c : Nat) : Bool := btw "a" "z" c || btw "0" "9" c
def wordZ (z : Str) : Bool := (decide (1 ≤ z.length) && decide (z.length ≤ 8)) && ((match z.cps.toList with
  | [] => false
  | c :: _ => btw "a" "z" c) && z.cps.toList.all signP)
def wordP (p : PyData) : Bool := match p with
  | .str z => wordZ z
  | _ => false
theorem fOrd_str {p : Int → Int → Bool} {q : List Nat → List Nat → Bool} {x y : Str} {S : So} : fOrd p q (.str x) (.str y) S = some (.bl (q x.cps.toList y.cps.toList), S) := rfl
theorem ok_btw {e : Sl} {S : So} {lo hi : Str} {m : MM D} {c : Nat} {P : D → So → Prop} (hm : ∀ Q : D → So → Prop, Q (.str ⟨#[c]⟩) S → okM m e S Q) (hP : P (.bl (btw lo hi c)) S) : okM (mChain (fOrd pLe qLe) (fOrd pLe qLe) (retM (.str lo)) m (retM (.str hi))) e S P := by
  rw [okM_chain, okM_ret]
  refine hm _ ?_
  rw [fOrd_str, okF_some]
  refine ⟨_, rfl, ?_⟩
  by_cases h1 : qLe lo.cps.toList [c] = true
  · rw [if_pos h1, okM_ret, fOrd_str, okF_some]
    have e : btw lo hi c = qLe [c] hi.cps.toList := by unfold btw; rw [h1]; rfl
    rw [e] at hP
    exact hP
  · rw [if_neg h1]
    have e : btw lo hi c = false := by unfold btw; simp only [Bool.not_eq_true] at h1; rw [h1]; rfl
    rw [e] at hP
    exact hP
theorem sp_is_word {d : D} {p : PyData} {S : So} {P : D → So → Prop} (h : Py S d p) (hz : ∀ z, p = .str z → z.length ≤ 1000) (hP : ∀ T, Keep S T → P (.bl (wordP p)) T) : okC (phi_is_word tb [d] S) P := by
  unfold phi_is_word
  refine okC_fn rfl ?_
  unfold m_is_word
  simp only [startE, List.map, List.length, List.replicate, List.cons_append, List.nil_append]
  by_cases hs : ∃ z, p = .str z
  · obtain ⟨z, rfl⟩ := hs
    have e := Py.str_eq h
    subst e
    have hl := hz z rfl
    have hl2 : z.length ≤ sizeLine := by have := line200k; omega
    have fl : fLen [.str z] S = some (.int z.length, S) := by unfold fLen; dsimp only; rw [if_pos hl2]
    have test : ∀ Q : Bool → So → Prop, Q (!(decide (1 ≤ z.length) && decide (z.length ≤ 8))) S → okM (mOr (mNot (mTst (mOpA (fIsiA tb) (mCons (mVar 0) (mCons (retM (.ty "str")) mNil))))) (mNot (mTst (mChain (fOrd pLe qLe) (fOrd pLe qLe) (retM (.int 1)) (mOpA fLen (mCons (mVar 0) mNil)) (retM (.int 8)))))) [.v (.str z), .no] S Q := by
      intro Q hQ
      simp only [okM_or, okM_not, okM_tst, okM_opA, okM_cons, okM_var, okM_ret, okM_nil, okM_chain]
      refine ⟨_, rfl, ?_⟩
      rw [isi_ty ok.std h (by decide), okF_some]
      refine ⟨true, rfl, ?_⟩
      rw [if_neg (by decide)]
      refine ⟨_, rfl, ?_⟩
      rw [fl, okF_some, fOrd_int, okF_some]
      refine ⟨_, rfl, ?_⟩
      by_cases h1 : 1 ≤ z.length
      · have h1' : (1 : Int) ≤ (z.length : Int) := by omega
        rw [if_pos (by simpa using h1'), fOrd_int, okF_some]
        refine ⟨_, rfl, ?_⟩
        have e1 : pLe (z.length : Int) 8 = decide (z.length ≤ 8) := by
          unfold pLe
          by_cases h8 : z.length ≤ 8
          · rw [decide_eq_true h8, decide_eq_true (by omega)]
          · rw [decide_eq_false h8, decide_eq_false (by omega)]
        rw [e1]
        rw [decide_eq_true h1, Bool.true_and] at hQ
        exact hQ
      · have h1' : ¬ (1 : Int) ≤ (z.length : Int) := by omega
        rw [if_neg (by simpa using h1')]
        refine ⟨false, rfl, ?_⟩
        rw [decide_eq_false h1, Bool.false_and] at hQ
        exact hQ
    by_cases hw : (decide (1 ≤ z.length) && decide (z.length ≤ 8)) = true
    · refine okS_seq (okS_ifF (test _ ⟨by rw [hw]; rfl, okS_nx ?_⟩))
      obtain ⟨c, r, hc⟩ : ∃ c r, z.cps.toList = c :: r := by
        cases q : z.cps.toList with
        | nil =>
          have : z.length = 0 := by
            show z.cps.size = 0
            rw [← Array.length_toList, q]; rfl
          rw [this] at hw
          exact absurd hw (by decide)
        | cons c r => exact ⟨c, r, rfl⟩
      have ix0 : ∀ Q : D → So → Prop, Q (.str ⟨#[c]⟩) S → okM (mOp2 fIx (mVar 0) (retM (.int 0))) [.v (.str z), .no] S Q := by
        intro Q hQ
        rw [okM_op2, okM_var]
        refine ⟨_, rfl, ?_⟩
        rw [okM_ret]
        have a0 : atI (c :: r) 0 = some c := by
          unfold atI ixN
          simp
        unfold fIx
        dsimp only
        rw [if_pos hl2, hc, a0]
        exact okF_some.mpr hQ
      by_cases h1 : btw "a" "z" c = true
      · refine okS_seq (okS_ifF ?_)
        rw [okM_not, okM_tst]
        refine ok_btw ix0 ⟨_, rfl, by rw [h1]; rfl, okS_nx ?_⟩
        refine okS_ret ?_
        rw [okM_opA]
        refine okM_cons.mpr (okM_each ?_)
        rw [okM_var]
        refine ⟨_, rfl, itFix (DD.signs z), DD.signs z, rfl, ⟨rfl, fun _ _ _ => rfl⟩, ?_, fun i y => ∃ c, z.cps.toList[i]? = some c ∧ y = .bl (signP c), ?_, ?_⟩
        · have : (DD.signs z).length = z.length := by simp [DD.signs]; rfl
          rw [this]
          have := line200
          have : z.length ≤ 8 := by simpa using (Bool.and_eq_true_iff.mp hw).2
          omega
        · intro i x T hk hx
          have hx' : ∃ c, z.cps.toList[i]? = some c ∧ x = .str ⟨#[c]⟩ := by
            unfold DD.signs at hx
            rw [List.getElem?_map] at hx
            obtain ⟨c, h1, h2⟩ := Option.map_eq_some_iff.mp hx
            exact ⟨c, h1, h2.symm⟩
          obtain ⟨c2, hc2, rfl⟩ := hx'
          refine ⟨_, rfl, ?_⟩
          have var1 : ∀ Q : D → So → Prop, Q (.str ⟨#[c2]⟩) T → okM (mVar 1) [.v (.str z), .v (.str ⟨#[c2]⟩)] T Q := fun Q hQ => okM_var.mpr ⟨_, rfl, hQ⟩
          show okM _ [.v (.str z), .v (.str ⟨#[c2]⟩)] T _
          rw [okM_orV]
          refine ok_btw var1 ⟨_, rfl, ?_⟩
          by_cases h2 : btw "a" "z" c2 = true
          · rw [if_pos h2]
            exact ⟨Keep.refl _, c2, hc2, by unfold signP; rw [h2]; rfl⟩
          · rw [if_neg h2]
            refine ok_btw var1 ⟨Keep.refl _, c2, hc2, ?_⟩
            simp only [Bool.not_eq_true] at h2
            unfold signP
            rw [h2]
            rfl
        · intro ys T hk hT hl3 hV
          have hys : ys = (z.cps.toList.map signP).map .bl := by
            apply List.ext_getElem?
            intro i
            have ll : (DD.signs z).length = z.cps.toList.length := by simp [DD.signs]
            by_cases hi : i < ys.length
            · obtain ⟨c2, g1, g2⟩ := hV i ys[i] (List.getElem?_eq_getElem hi)
              rw [List.getElem?_eq_getElem hi, g2]
              simp only [List.getElem?_map, g1, Option.map_some]
            · rw [List.getElem?_eq_none (by omega), List.getElem?_eq_none (by simp only [List.length_map]; omega)]
          rw [hys] at hT
          rw [okM_nil, fAll_ok hT, okF_some]
          have e : wordP (.str z) = (z.cps.toList.map signP).all id := by
            show wordZ z = _
            unfold wordZ
            rw [hw, Bool.true_and, hc]
            simp only [h1, Bool.true_and, List.all_map]
            rfl
          rw [← e]
          exact hP T hk
      · refine okS_seq (okS_ifT ?_)
        rw [okM_not, okM_tst]
        simp only [Bool.not_eq_true] at h1
        refine ok_btw ix0 ⟨_, rfl, by rw [h1]; rfl, okS_ret ?_⟩
        rw [okM_ret]
        have e : wordP (.str z) = false := by
          show wordZ z = false
          unfold wordZ
          rw [hw, hc]
          simp only [h1, Bool.false_and, Bool.and_false]
        rw [e] at hP
        exact hP S (Keep.refl _)
    · refine okS_seq (okS_ifT (test _ ⟨by simp only [Bool.not_eq_true] at hw; rw [hw]; rfl, okS_ret ?_⟩))
      rw [okM_ret]
      have e : wordP (.str z) = false := by
        show wordZ z = false
        unfold wordZ
        simp only [Bool.not_eq_true] at hw
        rw [hw, Bool.false_and]
      rw [e] at hP
      exact hP S (Keep.refl _)
  · have e1 : wordP p = false := by
      cases p <;> first | rfl | (exact absurd ⟨_, rfl⟩ hs)
    have e2 : (decide (tyP p = "str") || (decide (tyP p = "bool") && decide ("str" = "int"))) = false := by
      cases p <;> first | (simp [tyP]; done) | (exact absurd ⟨_, rfl⟩ hs)
    refine okS_seq (okS_ifT ?_)
    simp only [okM_or, okM_not, okM_tst, okM_opA, okM_cons, okM_var, okM_ret, okM_nil]
    refine ⟨_, rfl, ?_⟩
    rw [isi_ty ok.std h (by decide), okF_some, e2]
    refine ⟨false, rfl, ?_⟩
    rw [if_pos (by decide)]
    refine ⟨by decide, okS_ret ?_⟩
    rw [okM_ret]
    rw [e1] at hP
    exact hP S (Keep.refl _)
end PB

set_option Elab.async false
set_option linter.all false
set_option maxRecDepth 100000
set_option maxHeartbeats 1000000
namespace PB
open PySem PySem.Spec PyProof.Rows L2 DD
variable {tb : Tab} [ok : Ok tb]
theorem fNe_int {i j : Int} {S : So} : fNe (.int i) (.int j) S = some (.bl (!(i == j)), S) := by
  have h1 : ∀ k : Int, py (.int k) S = some (.int k) := fun k => by unfold py toPy; rfl
  unfold fNe
  dsimp only
  unfold eqD
  rw [h1, h1]
  dsimp only
  rw [if_pos ⟨shaped_int, shaped_int⟩]
  rfl
/-- a pair, as a list or a tuple -/
def Pair (p a b : PyData) : Prop := p = .list [a, b] ∨ p = .tuple [a, b]
theorem Row.two {S : So} {d : D} {p1 p2 : PyData} (h : Row S d [p1, p2]) : ∃ b x1 x2, seqOf d S = some (b, [x1, x2]) ∧ Py S x1 p1 ∧ Py S x2 p2 := by
  obtain ⟨b, xs, h1, h2, h3⟩ := h
  match xs, h2 with
  | [x1, x2], _ =>
    obtain ⟨q1, g1, g2⟩ := h3 0 x1 rfl
    obtain ⟨q2, g3, g4⟩ := h3 1 x2 rfl
    cases g1
    cases g3
    exact ⟨b, x1, x2, h1, g2, g4⟩
theorem pair_seq {S : So} {d : D} {p a b : PyData} (h : Py S d p) (hp : Pair p a b) : ∃ k x y, seqOf d S = some (k, [x, y]) ∧ Py S x a ∧ Py S y b := Row.two (h.row hp)
theorem fLen_seq {S : So} {d : D} {b : Bool} {xs : List D} (h : seqOf d S = some (b, xs)) : fLen [d] S = some (.int xs.length, S) := by
  unfold fLen
  cases d <;> first | (unfold seqOf at h; cases h; done) | (dsimp only; rw [h])
theorem fIx_seq {S : So} {d : D} {b : Bool} {xs : List D} {i : Int} {x : D} (h : seqOf d S = some (b, xs)) (h2 : atI xs i = some x) : fIx d (.int i) S = some (x, S) := by
  unfold fIx
  cases d <;> first | (unfold seqOf at h; cases h; done) | (dsimp only; rw [h]; dsimp only; rw [h2]; rfl)
theorem fold_take {zs : List Int} {i : Nat} {z : Int} (h : zs[i]? = some z) : (zs.take (i + 1)).foldl (· * ·) 1 = (zs.take i).foldl (· * ·) 1 * z := by
  rw [List.take_add_one, h]
  simp
theorem sp_product {d : D} {zs : List Int} {S : So} {b : Bool} {P : D → So → Prop} (h : seqOf d S = some (b, zs.map .int)) (hz : ∀ z ∈ zs, -(2 ^ 64) < z ∧ z < 2 ^ 64) (hP : P (.int (zs.foldl (· * ·) 1)) S) : okC (phi_product_of tb [d] S) P := by
  unfold phi_product_of
  refine okC_fn rfl ?_
  unfold m_product_of
  simp only [startE, List.map, List.length, List.replicate, List.cons_append, List.nil_append]
  refine okS_seq (okS_asg (okM_ret.mpr ?_))
  refine okS_seq (okS_each (okM_var.mpr ⟨d, rfl, ?_⟩))
  obtain ⟨it, i1, i2⟩ := seqI_row (e := ([.v d, .v (.int 1), .no] : Sl)) h
  refine ⟨it, _, i1, i2, fun i e2 S2 => S2 = S ∧ ∃ s2, e2 = [.v d, .v (.int ((zs.take i).foldl (· * ·) 1)), s2], ⟨rfl, .no, rfl⟩, ?_, ?_⟩
  · rintro i e2 S2 x hk hx ⟨rfl, s2, rfl⟩
    rw [List.getElem?_map] at hx
    obtain ⟨z, g1, rfl⟩ := Option.map_eq_some_iff.mp hx
    refine ⟨_, rfl, ?_⟩
    unfold b_product_of_1
    refine okS_asg ?_
    simp only [okM_op2, okM_var]
    refine ⟨_, rfl, _, rfl, ?_⟩
    rw [okF_mul]
    refine ⟨cm (hz z (List.mem_of_getElem? g1)), Keep.refl _, rfl, .v (.int z), ?_⟩
    rw [fold_take g1]
    rfl
  · rintro e2 S2 hk ⟨rfl, s2, rfl⟩
    refine okS_ret (okM_var.mpr ⟨_, rfl, ?_⟩)
    have e : zs.take (zs.map D.int).length = zs := List.take_of_length_le (by simp)
    rw [e]
    exact hP
/-- a pair of a word and a size from 1 to L -/
def sizedP (L : Int) (p : PyData) : Bool := match p with
  | .list [a, b] => wordP a && withinP b 1 L
  | .tuple [a, b] => wordP a && withinP b 1 L
  | _ => false
/-- texts of at most a thousand signs, at the top and one below -/
def shortP (p : PyData) : Prop := (∀ z, p = .str z → z.length ≤ 1000)
theorem sp_sized {d : D} {p : PyData} {L : Int} {S : So} {P : D → So → Prop} (h : Py S d p) (hs : ∀ ps, (p = .list ps ∨ p = .tuple ps) → ∀ a ∈ ps, shortP a) (hP : ∀ T, Keep S T → P (.bl (sizedP L p)) T) : okC (phi_is_sized_word tb [d, .int L] S) P := by
  unfold phi_is_sized_word
  refine okC_fn rfl ?_
  unfold m_is_sized_word
  simp only [startE, List.map, List.length, List.replicate, List.cons_append, List.nil_append]
  by_cases hr : ∃ ps, p = .list ps ∨ p = .tuple ps
  · obtain ⟨ps, hp⟩ := hr
    have hR : isRowP p = true := by rcases hp with rfl | rfl <;> rfl
    obtain ⟨b, xs, r1, r2, r3⟩ := h.row hp
    have test : ∀ Q : Bool → So → Prop, Q (!(decide (ps.length = 2))) S → okM (mOr (mNot (mTst (mCall (phi_is_row tb) (mCons (mVar 0) mNil)))) (mTst (mOp2 fNe (mOpA fLen (mCons (mVar 0) mNil)) (retM (.int 2))))) [.v d, .v (.int L)] S Q := by
      intro Q hQ
      simp only [okM_or, okM_not, okM_tst, okM_call, okM_opA, okM_op2, okM_cons, okM_var, okM_ret, okM_nil]
      refine ⟨_, rfl, sp_is_row h ⟨_, rfl, ?_⟩⟩
      rw [hR, if_neg (by decide)]
      refine ⟨_, rfl, ?_⟩
      rw [fLen_seq r1, okF_some, fNe_int, okF_some]
      refine ⟨_, rfl, ?_⟩
      have e : ((xs.length : Int) == 2) = decide (ps.length = 2) := by
        rw [r2]
        by_cases h2 : ps.length = 2
        · rw [h2]; rfl
        · rw [decide_eq_false h2]
          simp
          omega
      rw [e]
      exact hQ
    by_cases h2 : ps.length = 2
    · obtain ⟨a, c, rfl⟩ : ∃ a c, ps = [a, c] := by
        match ps, h2 with
        | [a, c], _ => exact ⟨a, c, rfl⟩
      refine okS_seq (okS_ifF (test _ ⟨by rw [decide_eq_true h2]; rfl, okS_nx ?_⟩))
      obtain ⟨k, x, y, q1, q2, q3⟩ := pair_seq (a := a) (b := c) h hp
      refine okS_ret ?_
      simp only [okM_andV, okM_call, okM_op2, okM_cons, okM_var, okM_ret, okM_nil]
      refine ⟨_, rfl, ?_⟩
      rw [fIx_seq q1 (x := x) rfl, okF_some]
      refine sp_is_word q2 (hs _ hp a (by simp)) fun T hT => ⟨_, rfl, ?_⟩
      have e : sizedP L p = (wordP a && withinP c 1 L) := by rcases hp with rfl | rfl <;> rfl
      by_cases hw : wordP a = true
      · rw [if_pos hw]
        refine ⟨_, rfl, ?_⟩
        obtain ⟨k2, x2, y2, u1, u2, u3⟩ := pair_seq (a := a) (b := c) (h.up hT) hp
        rw [fIx_seq u1 (x := y2) rfl, okF_some]
        refine ⟨_, rfl, sp_within u3 ?_⟩
        rw [hw, Bool.true_and] at e
        rw [← e]
        exact hP T hT
      · rw [if_neg hw]
        simp only [Bool.not_eq_true] at hw
        rw [hw, Bool.false_and] at e
        have := hP T hT
        rw [e] at this
        exact this
    · refine okS_seq (okS_ifT (test _ ⟨by rw [decide_eq_false h2]; rfl, okS_ret (okM_ret.mpr ?_)⟩))
      have e : sizedP L p = false := by
        rcases hp with rfl | rfl
        · unfold sizedP
          split
          · rename_i e; cases e; exact absurd rfl h2
          · rename_i e; cases e
          · rfl
        · unfold sizedP
          split
          · rename_i e; cases e
          · rename_i e; cases e; exact absurd rfl h2
          · rfl
      have := hP S (Keep.refl _)
      rw [e] at this
      exact this
  · have hR : isRowP p = false := by
      cases p <;> first | rfl | (exact absurd ⟨_, .inl rfl⟩ hr) | (exact absurd ⟨_, .inr rfl⟩ hr)
    have e : sizedP L p = false := by
      cases p <;> first | rfl | (exact absurd ⟨_, .inl rfl⟩ hr) | (exact absurd ⟨_, .inr rfl⟩ hr)
    refine okS_seq (okS_ifT ?_)
    simp only [okM_or, okM_not, okM_tst, okM_call, okM_opA, okM_op2, okM_cons, okM_var, okM_ret, okM_nil]
    refine ⟨_, rfl, sp_is_row h ⟨_, rfl, ?_⟩⟩
    rw [hR, if_pos (by decide)]
    refine ⟨by decide, okS_ret (okM_ret.mpr ?_)⟩
    have := hP S (Keep.refl _)
    rw [e] at this
    exact this
end PB

set_option Elab.async false
set_option linter.all false
set_option maxRecDepth 100000
set_option maxHeartbeats 1000000
namespace PB
open PySem PySem.Spec PyProof.Rows L2 DD
variable {tb : Tab} [ok : Ok tb]
/-- a comprehension over any walk whose items stay -/
theorem okM_eachG {own : List Nat} {mi : MM Itm} {t : Tg} {te : MM D} {e : Sl} {S : So} {P : D → So → Prop} (h : okM mi e S fun it S1 => ∃ xs, SeqIt .non xs it S1 ∧ xs.length < sizeLine ∧ ∃ V : Nat → D → Prop,
    (∀ i x T, Keep S1 T → xs[i]? = some x → ∃ e3, t x T (wipeE e own) = some e3 ∧ okM te e3 T fun y U => Keep T U ∧ V i y) ∧
    ∀ ys T, Keep S1 T → T[S1.length]? = some (.lst ys) → ys.length = xs.length → (∀ (i : Nat) (y : D), ys[i]? = some y → V i y) → P (.ref S1.length) T) : okM (compM own mi t yesM te) e S P := by
  refine okM_comp (h.imp fun it S1 q => ?_)
  obtain ⟨xs, ⟨h2, h3⟩, hl, V, h4, h5⟩ := q
  refine ⟨fun i T => Keep S1 T ∧ i ≤ xs.length ∧ ∃ acc, T[S1.length]? = some (.lst acc) ∧ acc.length = i ∧ ∀ (j : Nat) (y : D), acc[j]? = some y → V j y, ⟨Keep.app _ _, Nat.zero_le _, [], get_new, rfl, fun j y z => by simp at z⟩, ?_⟩
  rintro i T ⟨k1, k2, acc, k3, k4, k5⟩
  by_cases hi : i < xs.length
  · obtain ⟨e3, g1, g2⟩ := h4 i xs[i] T k1 (List.getElem?_eq_getElem hi)
    refine .inr ⟨by omega, xs[i], e3, by rw [h3 T k1 i, List.getElem?_eq_getElem hi], g1, g2.imp fun y U q => ?_⟩
    have u1 := q.1 _ _ k3
    have lU : S1.length < U.length := (List.getElem?_eq_some_iff.mp u1).1
    refine ⟨acc, u1, by omega, fun n o z => ?_, hi, acc ++ [y], List.getElem?_set_self lU, by simp [k4], fun j z hz => ?_⟩
    · have hn : n < S1.length := (List.getElem?_eq_some_iff.mp z).1
      rw [List.getElem?_set_ne (by omega)]
      exact (k1.trans q.1) n o z
    · by_cases hj : j < acc.length
      · rw [List.getElem?_append_left hj] at hz
        exact k5 j z hz
      · rw [List.getElem?_append_right (by omega)] at hz
        have hj2 : j - acc.length = 0 := by
          have := (List.getElem?_eq_some_iff.mp hz).1
          simp at this
          omega
        rw [hj2] at hz
        simp at hz
        subst hz
        have ej : j = i := by omega
        rw [ej]
        exact q.2
  · have ei : i = xs.length := by omega
    subst ei
    exact .inl ⟨by rw [h3 T k1, List.getElem?_eq_none (Nat.le_refl _)], h5 acc T k1 k3 k4 k5⟩
theorem zip_get : ∀ (xs ys : List D) (i : Nat), ((xs.zip ys).map fun p => D.tup [p.1, p.2])[i]? = match xs[i]?, ys[i]? with
    | some x, some y => some (.tup [x, y])
    | _, _ => none
  | [], ys, i => by simp
  | x :: xs, [], i => by cases i <;> simp <;> (split <;> simp_all)
  | x :: xs, y :: ys, 0 => by simp
  | x :: xs, y :: ys, i + 1 => by simpa using zip_get xs ys i
/-- zip of two lists of the store -/
theorem zip_lists {e : Sl} {S : So} {n m : Nat} {xs ys : List D} (h1 : S[n]? = some (.lst xs)) (h2 : S[m]? = some (.lst ys)) : ∃ it, zipI [.ref n, .ref m] e S = some (.ok it, S) ∧ SeqIt .non ((xs.zip ys).map fun p => .tup [p.1, p.2]) it S := by
  have s1 : ∀ T, Keep S T → seqOf (.ref n) T = some (false, xs) := fun T k => by unfold seqOf; simp [k _ _ h1]
  have s2 : ∀ T, Keep S T → seqOf (.ref m) T = some (false, ys) := fun T k => by unfold seqOf; simp [k _ _ h2]
  refine ⟨⟨min xs.length ys.length, DD.pairAt (.ref n) (.ref m)⟩, ?_, by simp, fun T k i => ?_⟩
  · unfold zipI
    dsimp only
    rw [s1 S (Keep.refl _), s2 S (Keep.refl _)]
    rfl
  · unfold DD.pairAt
    dsimp only
    rw [s1 T k, s2 T k]
    dsimp only
    rw [if_pos rfl]
    rw [zip_get]
    all_goals (cases xs[i]? <;> cases ys[i]? <;> rfl)
def ascP (ws : List Str) : Bool := (ws.zip (ws.drop 1)).all fun p => qLt p.1.cps.toList p.2.cps.toList

theorem sp_asc {n : Nat} {ws : List Str} {S : So} {P : D → So → Prop} (h : S[n]? = some (.lst (ws.map .str))) (hl : ws.length ≤ 1000) (hP : ∀ T, Keep S T → P (.bl (ascP ws)) T) : okC (phi_are_ascending tb [.ref n] S) P := by
  unfold phi_are_ascending
  refine okC_fn rfl ?_
  unfold m_are_ascending
  simp only [startE, List.map, List.length, List.replicate, List.cons_append, List.nil_append]
  refine okS_ret ?_
  rw [okM_opA]
  refine okM_cons.mpr (okM_eachG ?_)
  unfold mZip mSl mPart mNoPart
  simp only [okM_bind, okM_cons, okM_var, okM_ret, okM_nil, okM_lift]
  refine ⟨_, rfl, _, rfl, _, S, rfl, ?_⟩
  have e1 : fSl (.ref n) (some 1) none S = some (.ref S.length, S ++ [.lst ((ws.map D.str).drop 1)]) := by
    unfold fSl
    dsimp only
    have : seqOf (.ref n) S = some (false, ws.map D.str) := by unfold seqOf; simp [h]
    rw [this]
    dsimp only
    have e2 : DD.cutD (ws.map D.str) (some 1) none = (ws.map D.str).drop 1 := by
      cases hx : ws.map D.str with
      | nil => rfl
      | cons x r =>
        unfold DD.cutD
        have e3 : HT.sIx (x :: r).length 0 (some 1) = 1 := by
          have := HT.sIx_nat (x :: r).length 0 1
          rw [show ((1 : Nat) : Int) = 1 from rfl] at this
          rw [this]
          simp
        rw [e3, HT.sIx_none]
        simp
    rw [e2]
  show okF (fSl (.ref n) (some 1) none S) _
  rw [e1, okF_some]
  obtain ⟨it, z1, z2⟩ := zip_lists (e := [Sv.v (D.ref n), .no, .no]) (S := S ++ [.lst ((ws.map D.str).drop 1)]) (get_app h) get_new
  refine ⟨it, _, z1, _, z2, ?_, fun i y => ∃ p, (ws.zip (ws.drop 1))[i]? = some p ∧ y = .bl (qLt p.1.cps.toList p.2.cps.toList), ?_, ?_⟩
  · simp
    have := line200k
    omega
  · intro i x T hk hx
    have hx2 : ∃ p, (ws.zip (ws.drop 1))[i]? = some p ∧ x = .tup [.str p.1, .str p.2] := by
      rw [← List.map_drop, List.zip_map, List.map_map] at hx
      rw [List.getElem?_map] at hx
      obtain ⟨p, g1, g2⟩ := Option.map_eq_some_iff.mp hx
      exact ⟨p, g1, g2.symm⟩
    obtain ⟨p, g1, rfl⟩ := hx2
    refine ⟨_, rfl, ?_⟩
    rw [okM_op2, okM_var]
    refine ⟨_, rfl, ?_⟩
    rw [okM_var]
    refine ⟨_, rfl, ?_⟩
    rw [fOrd_str, okF_some]
    exact ⟨Keep.refl _, p, g1, rfl⟩
  · intro ys T hk hT hl2 hV
    have hys : ys = ((ws.zip (ws.drop 1)).map fun p => qLt p.1.cps.toList p.2.cps.toList).map .bl := by
      apply List.ext_getElem?
      intro i
      by_cases hi : i < ys.length
      · obtain ⟨p, g1, g2⟩ := hV i ys[i] (List.getElem?_eq_getElem hi)
        rw [List.getElem?_eq_getElem hi, g2]
        simp only [List.getElem?_map, g1, Option.map_some]
      · rw [List.getElem?_eq_none (by omega), List.getElem?_eq_none]
        simp at hl2 ⊢
        omega
    rw [hys] at hT
    rw [fAll_ok hT, okF_some]
    have e : ascP ws = (((ws.zip (ws.drop 1)).map fun p => qLt p.1.cps.toList p.2.cps.toList)).all id := by
      unfold ascP
      rw [List.all_map]
      rfl
    rw [← e]
    exact hP T ((Keep.app _ _).trans hk)
end PB

set_option Elab.async false
set_option linter.all false
set_option maxRecDepth 100000
set_option maxHeartbeats 1000000
namespace PB
open PySem PySem.Spec PyProof.Rows L2 DD
variable {tb : Tab} [ok : Ok tb]
def nameP (p : PyData) : Str := match p with
  | .list (.str n :: _) => n
  | .tuple (.str n :: _) => n
  | _ => Str.empty
def sizeP (p : PyData) : Int := match p with
  | .list [_, .int z] => z
  | .tuple [_, .int z] => z
  | _ => 0
def sizesL (most : Nat) (L many : Int) (ps : List PyData) : Bool := decide (ps.length ≤ most) && (ps.all (sizedP L) && (ascP (ps.map nameP) && decide ((ps.map sizeP).foldl (· * ·) 1 ≤ many)))
def sizesP (most : Nat) (L many : Int) (p : PyData) : Bool := match p with
  | .list ps => sizesL most L many ps
  | .tuple ps => sizesL most L many ps
  | _ => false
abbrev sideP : PyData → Bool := sizedP 6
abbrev sidesL : List PyData → Bool := sizesL 4 6 200
abbrev sidesP : PyData → Bool := sizesP 4 6 200
theorem word_str {p : PyData} (h : wordP p = true) : ∃ n, p = .str n := by
  cases p <;> first | exact ⟨_, rfl⟩ | (exact absurd h (by simp [wordP]))
theorem within_int {p : PyData} {lo hi : Int} (h : withinP p lo hi = true) : ∃ z, p = .int z ∧ lo ≤ z ∧ z ≤ hi := by
  cases p with
  | int z => simp [withinP] at h; exact ⟨z, rfl, h.1, h.2⟩
  | _ => exact absurd h (by simp [withinP])
theorem sized_shape {L : Int} {p : PyData} (h : sizedP L p = true) : ∃ n z, Pair p (.str n) (.int z) ∧ wordZ n = true ∧ 1 ≤ z ∧ z ≤ L ∧ nameP p = n ∧ sizeP p = z := by
  unfold sizedP at h
  split at h
  · obtain ⟨h1, h2⟩ := Bool.and_eq_true_iff.mp h
    obtain ⟨n, rfl⟩ := word_str h1
    obtain ⟨z, rfl, h3, h4⟩ := within_int h2
    exact ⟨n, z, .inl rfl, h1, h3, h4, rfl, rfl⟩
  · obtain ⟨h1, h2⟩ := Bool.and_eq_true_iff.mp h
    obtain ⟨n, rfl⟩ := word_str h1
    obtain ⟨z, rfl, h3, h4⟩ := within_int h2
    exact ⟨n, z, .inr rfl, h1, h3, h4, rfl, rfl⟩
  · cases h
theorem side_shape {p : PyData} (h : sideP p = true) : ∃ n z, Pair p (.str n) (.int z) ∧ wordZ n = true ∧ 1 ≤ z ∧ z ≤ 6 ∧ nameP p = n ∧ sizeP p = z := sized_shape h
theorem sized_small {L : Int} {ps : List PyData} (hL : L < 2 ^ 64) (h : ps.all (sizedP L) = true) : ∀ z ∈ ps.map sizeP, -(2 ^ 64) < z ∧ z < 2 ^ 64 := by
  intro z hz
  obtain ⟨p, hp, rfl⟩ := List.mem_map.mp hz
  obtain ⟨n, z, h1, h2, h3, h4, h5, h6⟩ := sized_shape (List.all_eq_true.mp h p hp)
  rw [h6]
  omega
/-- short texts, two below the top -/
def Short2 (p : PyData) : Prop := ∀ ps, (p = .list ps ∨ p = .tuple ps) → ps.length ≤ 1000 ∧ ∀ q ∈ ps, ∀ qs, (q = .list qs ∨ q = .tuple qs) → ∀ a ∈ qs, shortP a
theorem sp_sizes {d : D} {p : PyData} {most : Nat} {L many : Int} (hL : L < 2 ^ 64) {S : So} {P : D → So → Prop} (h : Py S d p) (hs : Short2 p) (hP : ∀ T, Keep S T → P (.bl (sizesP most L many p)) T) : okC (phi_are_sizes tb [d, .int (most : Nat), .int L, .int many] S) P := by
  unfold phi_are_sizes
  refine okC_fn rfl ?_
  unfold m_are_sizes
  simp only [startE, List.map, List.length, List.replicate, List.cons_append, List.nil_append]
  by_cases hr : ∃ ps, p = .list ps ∨ p = .tuple ps
  · obtain ⟨ps, hp⟩ := hr
    have hR : isRowP p = true := by rcases hp with rfl | rfl <;> rfl
    have hE : sizesP most L many p = sizesL most L many ps := by rcases hp with rfl | rfl <;> rfl
    obtain ⟨hl, hs2⟩ := hs ps hp
    obtain ⟨b, xs, r1, r2, r3⟩ := h.row hp
    have test : ∀ Q : Bool → So → Prop, Q (!(decide (ps.length ≤ most))) S → okM (mOr (mNot (mTst (mCall (phi_is_row tb) (mCons (mVar 0) mNil)))) (mTst (mOp2 (fOrd pGt qGt) (mOpA fLen (mCons (mVar 0) mNil)) (mVar 1)))) [.v d, .v (.int (most : Nat)), .v (.int L), .v (.int many), .no] S Q := by
      intro Q hQ
      simp only [okM_or, okM_not, okM_tst, okM_call, okM_opA, okM_op2, okM_cons, okM_var, okM_ret, okM_nil]
      refine ⟨_, rfl, sp_is_row h ⟨_, rfl, ?_⟩⟩
      rw [hR, if_neg (by decide)]
      refine ⟨_, rfl, ?_⟩
      rw [fLen_seq r1, okF_some]
      refine ⟨_, rfl, ?_⟩
      rw [fOrd_int, okF_some]
      refine ⟨_, rfl, ?_⟩
      have e : pGt (xs.length : Int) (most : Nat) = !(decide (ps.length ≤ most)) := by
        unfold pGt
        rw [r2]
        by_cases h4 : ps.length ≤ most
        · rw [decide_eq_true h4, decide_eq_false (by omega)]; rfl
        · rw [decide_eq_false h4, decide_eq_true (by omega)]; rfl
      rw [e]
      exact hQ
    by_cases h4 : ps.length ≤ most
    · refine okS_seq (okS_ifF (test _ ⟨by rw [decide_eq_true h4]; rfl, okS_nx ?_⟩))
      have all1 : ∀ Q : Bool → So → Prop, (∀ T, Keep S T → Q (ps.all (sizedP L)) T) → okM (mTst (mOpA fAll (mCons (compM [4] (mSeq (mVar 0)) (nmT 4) yesM (mCall (phi_is_sized_word tb) (mCons (mVar 4) (mCons (mVar 2) mNil)))) mNil))) [.v d, .v (.int (most : Nat)), .v (.int L), .v (.int many), .no] S Q := by
        intro Q hQ
        rw [okM_tst, okM_opA]
        refine okM_cons.mpr (okM_each (okM_var.mpr ⟨d, rfl, ?_⟩))
        obtain ⟨it, i1, i2⟩ := seqI_row (e := ([.v d, .v (.int (most : Nat)), .v (.int L), .v (.int many), .no] : Sl)) r1
        refine ⟨it, xs, i1, i2, by have := line200k; omega, fun i y => ∃ q, ps[i]? = some q ∧ y = .bl (sizedP L q), ?_, ?_⟩
        · intro i x T hk hx
          obtain ⟨q, g1, g2⟩ := r3 i x hx
          refine ⟨_, rfl, ?_⟩
          simp only [okM_call, okM_cons, okM_var, okM_nil]
          exact ⟨x, rfl, _, rfl, sp_sized (g2.up hk) (fun qs hq => hs2 q (List.mem_of_getElem? g1) qs hq) fun U hU => ⟨hU, q, g1, rfl⟩⟩
        · intro ys T hk hT hl2 hV
          have hys : ys = (ps.map (sizedP L)).map .bl := by
            apply List.ext_getElem?
            intro i
            by_cases hi : i < ys.length
            · obtain ⟨q, g1, g2⟩ := hV i ys[i] (List.getElem?_eq_getElem hi)
              rw [List.getElem?_eq_getElem hi, g2]
              simp only [List.getElem?_map, g1, Option.map_some]
            · rw [List.getElem?_eq_none (by omega), List.getElem?_eq_none (by simp only [List.length_map]; omega)]
          rw [hys] at hT
          rw [okM_nil, fAll_ok hT, okF_some]
          refine ⟨_, rfl, ?_⟩
          have e : (ps.map (sizedP L)).all id = ps.all (sizedP L) := by rw [List.all_map]; rfl
          rw [e]
          exact hQ T hk
      by_cases ha : ps.all (sizedP L) = true
      · refine okS_seq (okS_ifF ?_)
        rw [okM_not]
        refine all1 _ fun T hT => ⟨by rw [ha]; rfl, okS_nx ?_⟩
        obtain ⟨b', xs', r1', r2', r3'⟩ := (h.up hT).row hp
        refine okS_ret ?_
        rw [okM_andV, okM_call]
        refine okM_cons.mpr (okM_each (okM_var.mpr ⟨d, rfl, ?_⟩))
        obtain ⟨it, i1, i2⟩ := seqI_row (e := ([.v d, .v (.int (most : Nat)), .v (.int L), .v (.int many), .no] : Sl)) r1'
        refine ⟨it, xs', i1, i2, by have := line200k; omega, fun i y => ∃ q, ps[i]? = some q ∧ y = .str (nameP q), ?_, ?_⟩
        · intro i x U hk hx
          obtain ⟨q, g1, g2⟩ := r3' i x hx
          obtain ⟨n, z, s1, s2, s3, s4, s5, s6⟩ := sized_shape (List.all_eq_true.mp ha q (List.mem_of_getElem? g1))
          obtain ⟨k, x1, x2, u1, u2, u3⟩ := pair_seq (g2.up hk) s1
          have e := Py.str_eq u2
          subst e
          refine ⟨_, rfl, ?_⟩
          rw [okM_op2, okM_var]
          refine ⟨x, rfl, okM_ret.mpr ?_⟩
          rw [fIx_seq u1 (x := .str n) rfl, okF_some]
          exact ⟨Keep.refl _, q, g1, by rw [s5]⟩
        · intro ys U hk hU hl2 hV
          have hys : ys = (ps.map nameP).map .str := by
            apply List.ext_getElem?
            intro i
            by_cases hi : i < ys.length
            · obtain ⟨q, g1, g2⟩ := hV i ys[i] (List.getElem?_eq_getElem hi)
              rw [List.getElem?_eq_getElem hi, g2]
              simp only [List.getElem?_map, g1, Option.map_some]
            · rw [List.getElem?_eq_none (by omega), List.getElem?_eq_none (by simp only [List.length_map]; omega)]
          rw [hys] at hU
          rw [okM_nil]
          refine sp_asc hU (by simp; omega) fun V hV2 => ⟨_, rfl, ?_⟩
          have hSV := (hT.trans hk).trans hV2
          by_cases hasc : ascP (ps.map nameP) = true
          · rw [if_pos hasc]
            rw [okM_op2, okM_call]
            obtain ⟨b3, xs3, w1, w2, w3⟩ := (h.up hSV).row hp
            refine okM_cons.mpr (okM_each (okM_var.mpr ⟨d, rfl, ?_⟩))
            obtain ⟨it3, y1, y2⟩ := seqI_row (e := ([.v d, .v (.int (most : Nat)), .v (.int L), .v (.int many), .no] : Sl)) w1
            refine ⟨it3, xs3, y1, y2, by have := line200k; omega, fun i y => ∃ q, ps[i]? = some q ∧ y = .int (sizeP q), ?_, ?_⟩
            · intro i x U2 hk2 hx
              obtain ⟨q, g1, g2⟩ := w3 i x hx
              obtain ⟨n, z, s1, s2, s3, s4, s5, s6⟩ := sized_shape (List.all_eq_true.mp ha q (List.mem_of_getElem? g1))
              obtain ⟨k, x1, x2, u1, u2, u3⟩ := pair_seq (g2.up hk2) s1
              have e := Py.int_eq u3
              subst e
              refine ⟨_, rfl, ?_⟩
              rw [okM_op2, okM_var]
              refine ⟨x, rfl, okM_ret.mpr ?_⟩
              rw [fIx_seq u1 (x := .int z) rfl, okF_some]
              exact ⟨Keep.refl _, q, g1, by rw [s6]⟩
            intro ys2 V2 hk2 hV2' hl3 hV3
            have hys2 : ys2 = (ps.map sizeP).map .int := by
              apply List.ext_getElem?
              intro i
              by_cases hi : i < ys2.length
              · obtain ⟨q, g1, g2⟩ := hV3 i ys2[i] (List.getElem?_eq_getElem hi)
                rw [List.getElem?_eq_getElem hi, g2]
                simp only [List.getElem?_map, g1, Option.map_some]
              · rw [List.getElem?_eq_none (by omega), List.getElem?_eq_none (by simp only [List.length_map]; omega)]
            rw [hys2] at hV2'
            have hSV := hSV.trans hk2
            rw [okM_nil]
            refine sp_product (b := false) (zs := ps.map sizeP) (by unfold seqOf; simp [hV2']) (sized_small hL ha) ?_
            rw [okM_var]
            refine ⟨_, rfl, ?_⟩
            rw [fOrd_int, okF_some]
            have e : sizesP most L many p = decide ((ps.map sizeP).foldl (· * ·) 1 ≤ many) := by
              rw [hE]
              unfold sizesL
              rw [decide_eq_true h4, ha, hasc]
              rfl
            have := hP V2 hSV
            rw [e] at this
            exact this
          · rw [if_neg hasc]
            simp only [Bool.not_eq_true] at hasc
            have e : sizesP most L many p = false := by
              rw [hE]
              unfold sizesL
              rw [hasc, Bool.false_and, Bool.and_false, Bool.and_false]
            have := hP V hSV
            rw [e] at this
            exact this
      · refine okS_seq (okS_ifT ?_)
        rw [okM_not]
        simp only [Bool.not_eq_true] at ha
        refine all1 _ fun T hT => ⟨by rw [ha]; rfl, okS_ret (okM_ret.mpr ?_)⟩
        have e : sizesP most L many p = false := by
          rw [hE]
          unfold sizesL
          rw [ha, Bool.false_and, Bool.and_false]
        have := hP T hT
        rw [e] at this
        exact this
    · refine okS_seq (okS_ifT (test _ ⟨by rw [decide_eq_false h4]; rfl, okS_ret (okM_ret.mpr ?_)⟩))
      have e : sizesP most L many p = false := by
        rw [hE]
        unfold sizesL
        rw [decide_eq_false h4, Bool.false_and]
      have := hP S (Keep.refl _)
      rw [e] at this
      exact this
  · have hR : isRowP p = false := by
      cases p <;> first | rfl | (exact absurd ⟨_, .inl rfl⟩ hr) | (exact absurd ⟨_, .inr rfl⟩ hr)
    have e : sizesP most L many p = false := by
      cases p <;> first | rfl | (exact absurd ⟨_, .inl rfl⟩ hr) | (exact absurd ⟨_, .inr rfl⟩ hr)
    refine okS_seq (okS_ifT ?_)
    simp only [okM_or, okM_not, okM_tst, okM_call, okM_opA, okM_op2, okM_cons, okM_var, okM_ret, okM_nil]
    refine ⟨_, rfl, sp_is_row h ⟨_, rfl, ?_⟩⟩
    rw [hR, if_pos (by decide)]
    refine ⟨by decide, okS_ret (okM_ret.mpr ?_)⟩
    have := hP S (Keep.refl _)
    rw [e] at this
    exact this
theorem sp_sides {d : D} {p : PyData} {S : So} {P : D → So → Prop} (h : Py S d p) (hs : Short2 p) (hP : ∀ T, Keep S T → P (.bl (sidesP p)) T) : okC (phi_is_sides tb [d] S) P := by
  unfold phi_is_sides
  refine okC_fn rfl ?_
  unfold m_is_sides
  simp only [startE, List.map, List.length, List.replicate, List.cons_append, List.nil_append]
  refine okS_ret ?_
  simp only [okM_call, okM_cons, okM_var, okM_ret, okM_nil]
  exact ⟨d, rfl, sp_sizes (most := 4) (by decide) h hs hP⟩
end PB

set_option Elab.async false
set_option linter.all false
set_option maxRecDepth 100000
set_option maxHeartbeats 1000000
namespace PB
open PySem PySem.Spec PyProof.Rows L2 DD
variable {tb : Tab} [ok : Ok tb]
theorem map_told {β : Type} {ys : List D} {ps : List PyData} {f : PyData → D} (hl : ys.length = ps.length) (hV : ∀ (i : Nat) (y : D), ys[i]? = some y → ∃ q, ps[i]? = some q ∧ y = f q) : ys = ps.map f := by
  apply List.ext_getElem?
  intro i
  by_cases hi : i < ys.length
  · obtain ⟨q, g1, g2⟩ := hV i ys[i] (List.getElem?_eq_getElem hi)
    rw [List.getElem?_eq_getElem hi, g2]
    simp only [List.getElem?_map, g1, Option.map_some]
  · rw [List.getElem?_eq_none (by omega), List.getElem?_eq_none (by simp only [List.length_map]; omega)]
def manyP (ps : List PyData) : Int := (ps.map sizeP).foldl (· * ·) 1
def cellsP (pc : PyData) (many : Int) : Bool := match pc with
  | .list xs => decide ((xs.length : Int) = many) && xs.all isIntP
  | .tuple xs => decide ((xs.length : Int) = many) && xs.all isIntP
  | _ => false
theorem sp_cells {dc ds : D} {pc p : PyData} {ps : List PyData} {S : So} {P : D → So → Prop} (hc : Py S dc pc) (h : Py S ds p) (hp : p = .list ps ∨ p = .tuple ps) (ha : ps.all sideP = true) (hl4 : ps.length ≤ 1000) (hs : ∀ xs, (pc = .list xs ∨ pc = .tuple xs) → xs.length ≤ 1000)
    (hP : ∀ T, Keep S T → P (.bl (cellsP pc (manyP ps))) T) : okC (phi_are_cells tb [dc, ds] S) P := by
  unfold phi_are_cells
  refine okC_fn rfl ?_
  unfold m_are_cells
  simp only [startE, List.map, List.length, List.replicate, List.cons_append, List.nil_append]
  by_cases hr : ∃ qs, pc = .list qs ∨ pc = .tuple qs
  · obtain ⟨qs, hq⟩ := hr
    have hR : isRowP pc = true := by rcases hq with rfl | rfl <;> rfl
    have hE : cellsP pc (manyP ps) = (decide ((qs.length : Int) = manyP ps) && qs.all isIntP) := by rcases hq with rfl | rfl <;> rfl
    have hl := hs qs hq
    obtain ⟨b, xs, r1, r2, r3⟩ := hc.row hq
    have test : ∀ Q : Bool → So → Prop, (∀ T, Keep S T → Q (!(decide ((qs.length : Int) = manyP ps))) T) → okM (mOr (mNot (mTst (mCall (phi_is_row tb) (mCons (mVar 0) mNil)))) (mTst (mOp2 fNe (mOpA fLen (mCons (mVar 0) mNil)) (mCall (phi_product_of tb) (mCons (compM [2, 3] (mSeq (mVar 1)) (tupT 2 (consT (nmT 2) (consT (nmT 3) nilT))) yesM (mVar 3)) mNil))))) [.v dc, .v ds, .no, .no, .no] S Q := by
      intro Q hQ
      rw [okM_or, okM_not, okM_tst, okM_call]
      refine okM_cons.mpr (okM_var.mpr ⟨dc, rfl, okM_nil.mpr (sp_is_row hc ⟨_, rfl, ?_⟩)⟩)
      rw [hR, if_neg (by decide), okM_tst, okM_op2, okM_opA]
      refine okM_cons.mpr (okM_var.mpr ⟨dc, rfl, okM_nil.mpr ?_⟩)
      rw [fLen_seq r1, okF_some, okM_call]
      obtain ⟨b3, xs3, w1, w2, w3⟩ := h.row hp
      refine okM_cons.mpr (okM_each (okM_var.mpr ⟨ds, rfl, ?_⟩))
      obtain ⟨it3, y1, y2⟩ := seqI_row (e := ([.v dc, .v ds, .no, .no, .no] : Sl)) w1
      refine ⟨it3, xs3, y1, y2, by have := line200k; omega, fun i y => ∃ q, ps[i]? = some q ∧ y = .int (sizeP q), ?_, ?_⟩
      · intro i x U2 hk2 hx
        obtain ⟨q, g1, g2⟩ := w3 i x hx
        obtain ⟨n, z, s1, s2, s3, s4, s5, s6⟩ := side_shape (List.all_eq_true.mp ha q (List.mem_of_getElem? g1))
        obtain ⟨k, x1, x2, u1, u2, u3⟩ := pair_seq (g2.up hk2) s1
        have e := Py.int_eq u3
        subst e
        refine ⟨[.v dc, .v ds, .v x1, .v (.int z), .no], by unfold tupT; rw [u1]; rfl, ?_⟩
        rw [okM_var]
        exact ⟨_, rfl, Keep.refl _, q, g1, by rw [s6]⟩
      intro ys2 V2 hk2 hV2' hl3 hV3
      have hys2 : ys2 = (ps.map sizeP).map .int := by
        rw [List.map_map]
        exact map_told (β := Unit) (by omega) hV3
      rw [hys2] at hV2'
      rw [okM_nil]
      refine sp_product (b := false) (zs := ps.map sizeP) (by unfold seqOf; simp [hV2']) (sized_small (L := 6) (by decide) ha) ?_
      rw [fNe_int, okF_some]
      refine ⟨_, rfl, ?_⟩
      have e : ((xs.length : Int) == (ps.map sizeP).foldl (· * ·) 1) = decide ((qs.length : Int) = manyP ps) := by
        rw [r2]
        rfl
      rw [e]
      exact hQ V2 hk2
    by_cases hm : (qs.length : Int) = manyP ps
    · refine okS_seq (okS_ifF (test _ fun V0 hV0 => ⟨by rw [decide_eq_true hm]; rfl, okS_nx ?_⟩))
      refine okS_ret ?_
      rw [okM_opA]
      obtain ⟨b, xs, r1, r2, r3⟩ := (hc.up hV0).row hq
      refine okM_cons.mpr (okM_each (okM_var.mpr ⟨dc, rfl, ?_⟩))
      obtain ⟨it, i1, i2⟩ := seqI_row (e := ([.v dc, .v ds, .no, .no, .no] : Sl)) r1
      refine ⟨it, xs, i1, i2, by have := line200k; omega, fun i y => ∃ q, qs[i]? = some q ∧ y = .bl (isIntP q), ?_, ?_⟩
      · intro i x T hk hx
        obtain ⟨q, g1, g2⟩ := r3 i x hx
        refine ⟨_, rfl, ?_⟩
        simp only [okM_call, okM_cons, okM_var, okM_nil]
        exact ⟨x, rfl, sp_is_integer (g2.up hk) ⟨Keep.refl _, q, g1, rfl⟩⟩
      · intro ys T hk hT hl2 hV
        have hys : ys = (qs.map isIntP).map .bl := by
          rw [List.map_map]
          exact map_told (β := Unit) (by omega) hV
        rw [hys] at hT
        rw [okM_nil, fAll_ok hT, okF_some]
        have e : (qs.map isIntP).all id = cellsP pc (manyP ps) := by
          rw [hE, decide_eq_true hm, List.all_map]
          rfl
        rw [e]
        exact hP T (hV0.trans hk)
    · refine okS_seq (okS_ifT (test _ fun V0 hV0 => ⟨by rw [decide_eq_false hm]; rfl, okS_ret (okM_ret.mpr ?_)⟩))
      have e : cellsP pc (manyP ps) = false := by rw [hE, decide_eq_false hm, Bool.false_and]
      have := hP V0 hV0
      rw [e] at this
      exact this
  · have hR : isRowP pc = false := by
      cases pc <;> first | rfl | (exact absurd ⟨_, .inl rfl⟩ hr) | (exact absurd ⟨_, .inr rfl⟩ hr)
    have e : cellsP pc (manyP ps) = false := by
      cases pc <;> first | rfl | (exact absurd ⟨_, .inl rfl⟩ hr) | (exact absurd ⟨_, .inr rfl⟩ hr)
    refine okS_seq (okS_ifT ?_)
    simp only [okM_or, okM_not, okM_tst, okM_call, okM_opA, okM_op2, okM_cons, okM_var, okM_ret, okM_nil]
    refine ⟨_, rfl, sp_is_row hc ⟨_, rfl, ?_⟩⟩
    rw [hR, if_pos (by decide)]
    refine ⟨by decide, okS_ret (okM_ret.mpr ?_)⟩
    have := hP S (Keep.refl _)
    rw [e] at this
    exact this
/-- a side as it is kept -/
def sideD (p : PyData) : D := .tup [.str (nameP p), .int (sizeP p)]
theorem fTuple_seq {S : So} {d : D} {b : Bool} {xs : List D} (h : seqOf d S = some (b, xs)) : fTuple [d] S = some (.tup xs, S) := by
  unfold fTuple
  dsimp only
  rw [h]
theorem sp_tuples {d : D} {p : PyData} {ps : List PyData} {S : So} {P : D → So → Prop} (h : Py S d p) (hp : p = .list ps ∨ p = .tuple ps) (ha : ps.all sideP = true) (hl : ps.length ≤ 1000) (hP : ∀ T, Keep S T → P (.tup (ps.map sideD)) T) : okC (phi_as_tuples tb [d] S) P := by
  unfold phi_as_tuples
  refine okC_fn rfl ?_
  unfold m_as_tuples
  simp only [startE, List.map, List.length, List.replicate, List.cons_append, List.nil_append]
  obtain ⟨b, xs, r1, r2, r3⟩ := h.row hp
  refine okS_ret ?_
  rw [okM_opA]
  refine okM_cons.mpr (okM_each (okM_var.mpr ⟨d, rfl, ?_⟩))
  obtain ⟨it, i1, i2⟩ := seqI_row (e := ([.v d, .no] : Sl)) r1
  refine ⟨it, xs, i1, i2, by have := line200k; omega, fun i y => ∃ q, ps[i]? = some q ∧ y = sideD q, ?_, ?_⟩
  · intro i x T hk hx
    obtain ⟨q, g1, g2⟩ := r3 i x hx
    obtain ⟨n, z, s1, s2, s3, s4, s5, s6⟩ := side_shape (List.all_eq_true.mp ha q (List.mem_of_getElem? g1))
    obtain ⟨k, x1, x2, u1, u2, u3⟩ := pair_seq (g2.up hk) s1
    have e := Py.str_eq u2
    have e' := Py.int_eq u3
    subst e e'
    refine ⟨_, rfl, ?_⟩
    rw [okM_if, okM_tst, okM_call]
    refine okM_cons.mpr (okM_var.mpr ⟨x, rfl, okM_nil.mpr (sp_is_row (g2.up hk) ⟨_, rfl, ?_⟩)⟩)
    have hR : isRowP q = true := by rcases s1 with rfl | rfl <;> rfl
    rw [hR, if_pos rfl, okM_opA]
    refine okM_cons.mpr (okM_var.mpr ⟨x, rfl, okM_nil.mpr ?_⟩)
    rw [fTuple_seq u1, okF_some]
    exact ⟨Keep.refl _, q, g1, by unfold sideD; rw [s5, s6]⟩
  · intro ys T hk hT hl2 hV
    have hys : ys = ps.map sideD := map_told (β := Unit) (by omega) hV
    rw [hys] at hT
    rw [okM_nil, fTuple_seq (b := false) (xs := ps.map sideD) (by unfold seqOf; simp [hT]), okF_some]
    exact hP T hk
end PB

set_option Elab.async false
set_option linter.all false
set_option maxRecDepth 100000
set_option maxHeartbeats 1000000
namespace PB
open PySem PySem.Spec PyProof.Rows L2 DD
variable {tb : Tab} [ok : Ok tb]
/-! ### errors in runs -/
def exM {α : Type} (m : MM α) (e : Sl) (S : So) (E : Str → List (Str × D) → So → Prop) : Prop := ∃ c fs S', m e S = some (.ex c fs, S') ∧ E c fs S'
def exC (o : Option (Re D × So)) (E : Str → List (Str × D) → So → Prop) : Prop := ∃ c fs S', o = some (.ex c fs, S') ∧ E c fs S'
def endX (E : Str → List (Str × D) → So → Prop) : Fl → Sl → So → Prop := fun f _ S => match f with
  | .ex c fs => E c fs S
  | _ => False
section
variable {e : Sl} {S : So} {E : Str → List (Str × D) → So → Prop}
theorem exC_fn {np n : Nat} {m : MS} {ds : List D} (hl : ds.length = np) (h : okS m (startE n ds) S (endX E)) : exC (fnM np n m ds S) E := by
  obtain ⟨f, e', S', h1, h2⟩ := h
  unfold fnM
  rw [if_pos hl, h1]
  cases f with
  | ex c fs => exact ⟨c, fs, S', rfl, h2⟩
  | _ => exact h2.elim
theorem okS_raise {c : Str} {fns : List Str} {m : MM (List D)} {P : Fl → Sl → So → Prop} (h : okM m e S fun ds S1 => ds.length = fns.length ∧ P (.ex c (stk fns ds [])) e S1) : okS (raiseS c fns m) e S P := by
  unfold raiseS
  refine okS_bind (h.imp fun ds S1 q => ?_)
  exact ⟨_, _, _, by dsimp only; rw [if_pos q.1], q.2⟩
@[simp] theorem nxt_ex {k : MS} {P : Fl → Sl → So → Prop} {c : Str} {fs : List (Str × D)} : nxt k P (.ex c fs) e S ↔ P (.ex c fs) e S := Iff.rfl
theorem exM_call {φ : FnD} {m : MM (List D)} (h : okM m e S fun ds S1 => exC (φ ds S1) E) : exM (mCall φ m) e S E := by
  obtain ⟨ds, S1, h1, c, fs, S2, h2, h3⟩ := h
  exact ⟨c, fs, S2, by unfold mCall DD.bindM; rw [h1]; exact h2, h3⟩
theorem okS_exprX {m : MM D} {P : Fl → Sl → So → Prop} (h : exM m e S fun c fs S' => P (.ex c fs) e S') : okS (exprS m) e S P := by
  obtain ⟨c, fs, S', h1, h2⟩ := h
  exact ⟨_, _, _, by unfold exprS bindS; rw [h1], h2⟩
theorem exC_make {c : Str} {φ : FnD} {ds : List D} (h : exC (φ (.ref S.length :: ds) (S ++ [.ins c []])) E) : exC (makeF c φ ds S) E := by
  obtain ⟨c', fs, S', h1, h2⟩ := h
  exact ⟨c', fs, S', by unfold makeF; rw [h1], h2⟩
theorem okC_make {c : Str} {φ : FnD} {ds : List D} {P : D → So → Prop} (h : okC (φ (.ref S.length :: ds) (S ++ [.ins c []])) fun d S' => d = .non ∧ P (.ref S.length) S') : okC (makeF c φ ds S) P := by
  obtain ⟨d, S', h1, rfl, h2⟩ := h
  exact ⟨_, S', by unfold makeF; rw [h1], h2⟩
theorem okS_fld {T : Tab} {f : Str} {mv mo : MM D} {P : Fl → Sl → So → Prop} (h : okM mv e S fun v S1 => okM mo e S1 fun o S2 => ∃ n c fs, o = .ref n ∧ S2[n]? = some (.ins c fs) ∧ T.attr c f = true ∧ fs.length < 1000 ∧ P .nx e (S2.set n (.ins c (putD f v fs)))) : okS (fldS T f mv mo) e S P := by
  unfold fldS
  refine okS_bind (h.imp fun v S1 q => okS_bind (q.imp fun o S2 q => ?_))
  obtain ⟨n, c, fs, rfl, h1, h2, h3, p⟩ := q
  exact ⟨_, _, _, by dsimp only; rw [h1]; dsimp only; rw [if_pos ⟨h2, h3⟩], p⟩
theorem fFld_ok {T : Tab} {f c : Str} {n : Nat} {fs : List (Str × D)} {d : D} (h : S[n]? = some (.ins c fs)) (h2 : T.attr c f = true) (h3 : fs.lookup f = some d) : fFld T f (.ref n) S = some (d, S) := by
  unfold fFld
  simp [h, h2, h3]
end
def arrO (ps : List PyData) (zs : List Int) : O := .ins "Array" [("sides", .tup (ps.map sideD)), ("cells", .tup (zs.map .int))]
theorem keep_set {S T : So} {n : Nat} {o : O} (h : Keep S T) (hn : S.length ≤ n) : Keep S (T.set n o) := fun i x e => by
  have hi : i < S.length := (List.getElem?_eq_some_iff.mp e).1
  rw [List.getElem?_set_ne (by omega)]
  exact h i x e
theorem ints_row {S : So} {d : D} {qs : List PyData} {zs : List Int} (h : Row S d qs) (hz : qs = zs.map .int) : ∃ b, seqOf d S = some (b, zs.map .int) := by
  obtain ⟨b, xs, h1, h2, h3⟩ := h
  refine ⟨b, ?_⟩
  have e : xs = zs.map .int := by
    apply List.ext_getElem?
    intro i
    by_cases hi : i < xs.length
    · obtain ⟨q, g1, g2⟩ := h3 i xs[i] (List.getElem?_eq_getElem hi)
      rw [hz, List.getElem?_map] at g1
      obtain ⟨z, g3, rfl⟩ := Option.map_eq_some_iff.mp g1
      rw [List.getElem?_eq_getElem hi, Py.int_eq g2, List.getElem?_map, g3]
      rfl
    · rw [List.getElem?_eq_none (by omega), List.getElem?_eq_none (by rw [h2, hz] at hi; simpa using hi)]
  rw [h1, e]
/-- Array(sides, cells) -/
theorem sp_array {ds dc : D} {p pc : PyData} {ps qs : List PyData} {zs : List Int} {S : So} {P : D → So → Prop} (h : Py S ds p) (hp : p = .list ps ∨ p = .tuple ps) (hs : Short2 p) (hv : sidesP p = true) (hc : Py S dc pc) (hq : pc = .list qs ∨ pc = .tuple qs) (hz : qs = zs.map .int) (hm : (zs.length : Int) = manyP ps) (hl : zs.length ≤ 1000)
    (hP : ∀ T, Keep S T → T[S.length]? = some (arrO ps zs) → P (.ref S.length) T) : okC (makeF "Array" (phi_Array_init tb) [ds, dc] S) P := by
  have hE : sidesP p = sidesL ps := by rcases hp with rfl | rfl <;> rfl
  have ha : ps.all sideP = true := by
    rw [hE] at hv
    unfold sidesL sizesL at hv
    exact (Bool.and_eq_true_iff.mp (Bool.and_eq_true_iff.mp hv).2).1
  have h4 : ps.length ≤ 4 := by
    rw [hE] at hv
    unfold sidesL sizesL at hv
    exact of_decide_eq_true (Bool.and_eq_true_iff.mp hv).1
  have hcell : cellsP pc (manyP ps) = true := by
    have e1 : ((zs.map PyData.int).all isIntP) = true := by
      rw [List.all_map, List.all_eq_true]
      intro z _
      rfl
    subst hz
    rcases hq with rfl | rfl
    · show (decide (((zs.map PyData.int).length : Int) = manyP ps) && (zs.map PyData.int).all isIntP) = true; rw [e1, List.length_map, decide_eq_true hm]; rfl
    · show (decide (((zs.map PyData.int).length : Int) = manyP ps) && (zs.map PyData.int).all isIntP) = true; rw [e1, List.length_map, decide_eq_true hm]; rfl
  refine okC_make ?_
  unfold phi_Array_init
  refine okC_fn rfl ?_
  unfold m_Array_init
  simp only [startE, List.map, List.length, List.replicate, List.cons_append, List.nil_append]
  have k0 : Keep S (S ++ [O.ins "Array" []]) := Keep.app _ _
  have e0 : (S ++ [O.ins "Array" []])[S.length]? = some (.ins "Array" []) := get_new
  refine okS_seq (okS_ifF ?_)
  simp only [okM_not, okM_tst, okM_call, okM_cons, okM_var, okM_nil]
  refine ⟨ds, rfl, sp_sides (h.up k0) hs fun T1 k1 => ⟨_, rfl, by rw [hv]; rfl, okS_nx ?_⟩⟩
  refine okS_seq (okS_ifF ?_)
  simp only [okM_not, okM_tst, okM_call, okM_cons, okM_var, okM_nil]
  refine ⟨dc, rfl, ds, rfl, sp_cells (hc.up (k0.trans k1)) (h.up (k0.trans k1)) hp ha (by omega) (fun xs hx => ?_) fun T2 k2 => ⟨_, rfl, by rw [hcell]; rfl, okS_nx ?_⟩⟩
  · have : xs = qs := by
      rcases hq with rfl | rfl <;> rcases hx with hx | hx <;> cases hx <;> rfl
    rw [this, hz]
    simpa using hl
  · have k02 := (k0.trans k1).trans k2
    refine okS_seq (okS_fld ?_)
    simp only [okM_call, okM_cons, okM_var, okM_nil]
    refine ⟨ds, rfl, sp_tuples (h.up k02) hp ha (by omega) fun T3 k3 => ⟨.ref S.length, rfl, S.length, "Array", [], rfl, k3 _ _ (k2 _ _ (k1 _ _ e0)), ok.att_s, by decide, ?_⟩⟩
    have k03 := k02.trans k3
    have l3 : S.length < T3.length := (List.getElem?_eq_some_iff.mp (k3 _ _ (k2 _ _ (k1 _ _ e0)))).1
    have e3 : (T3.set S.length (.ins "Array" (putD "sides" (.tup (ps.map sideD)) [])))[S.length]? = some (.ins "Array" (putD "sides" (.tup (ps.map sideD)) [])) := List.getElem?_set_self l3
    have k4 : Keep S (T3.set S.length (.ins "Array" (putD "sides" (.tup (ps.map sideD)) []))) := keep_set k03 (Nat.le_refl _)
    refine okS_fld ?_
    simp only [okM_opA, okM_cons, okM_var, okM_nil]
    refine ⟨dc, rfl, ?_⟩
    obtain ⟨b, r1⟩ := ints_row ((hc.up k4).row hq) hz
    rw [fTuple_seq r1, okF_some]
    refine ⟨.ref S.length, rfl, S.length, "Array", _, rfl, e3, ok.att_c, by simp [putD], ?_⟩
    refine ⟨rfl, hP _ (keep_set k4 (Nat.le_refl _)) ?_⟩
    rw [List.getElem?_set_self (by simpa using l3)]
    rfl
/-- Array(..) of what are no sides, of what are no cells -/
theorem sp_array_no {ds dc : D} {p : PyData} {S : So} {E : Str → List (Str × D) → So → Prop} (h : Py S ds p) (hs : Short2 p) (hv : sidesP p = false) (hE : ∀ T, Keep S T → E "InvalidSides" [("sides", ds)] T) : exC (makeF "Array" (phi_Array_init tb) [ds, dc] S) E := by
  refine exC_make ?_
  unfold phi_Array_init
  refine exC_fn rfl ?_
  unfold m_Array_init
  simp only [startE, List.map, List.length, List.replicate, List.cons_append, List.nil_append]
  have k0 : Keep S (S ++ [O.ins "Array" []]) := Keep.app _ _
  refine okS_seq (okS_ifT ?_)
  simp only [okM_not, okM_tst, okM_call, okM_cons, okM_var, okM_nil]
  refine ⟨ds, rfl, sp_sides (h.up k0) hs fun T1 k1 => ⟨_, rfl, by rw [hv]; rfl, okS_raise ?_⟩⟩
  simp only [okM_cons, okM_var, okM_nil]
  exact ⟨ds, rfl, rfl, hE _ (k0.trans k1)⟩
theorem sp_array_noc {ds dc : D} {p pc : PyData} {ps : List PyData} {S : So} {E : Str → List (Str × D) → So → Prop} (h : Py S ds p) (hp : p = .list ps ∨ p = .tuple ps) (hs : Short2 p) (hv : sidesP p = true) (hc : Py S dc pc) (hl : ∀ xs, (pc = .list xs ∨ pc = .tuple xs) → xs.length ≤ 1000) (hn : cellsP pc (manyP ps) = false)
    (hE : ∀ T, Keep S T → E "InvalidCells" [("cells", dc)] T) : exC (makeF "Array" (phi_Array_init tb) [ds, dc] S) E := by
  have hE' : sidesP p = sidesL ps := by rcases hp with rfl | rfl <;> rfl
  have ha : ps.all sideP = true := by
    rw [hE'] at hv
    unfold sidesL sizesL at hv
    exact (Bool.and_eq_true_iff.mp (Bool.and_eq_true_iff.mp hv).2).1
  have h4 : ps.length ≤ 4 := by
    rw [hE'] at hv
    unfold sidesL sizesL at hv
    exact of_decide_eq_true (Bool.and_eq_true_iff.mp hv).1
  refine exC_make ?_
  unfold phi_Array_init
  refine exC_fn rfl ?_
  unfold m_Array_init
  simp only [startE, List.map, List.length, List.replicate, List.cons_append, List.nil_append]
  have k0 : Keep S (S ++ [O.ins "Array" []]) := Keep.app _ _
  refine okS_seq (okS_ifF ?_)
  simp only [okM_not, okM_tst, okM_call, okM_cons, okM_var, okM_nil]
  refine ⟨ds, rfl, sp_sides (h.up k0) hs fun T1 k1 => ⟨_, rfl, by rw [hv]; rfl, okS_nx ?_⟩⟩
  refine okS_seq (okS_ifT ?_)
  simp only [okM_not, okM_tst, okM_call, okM_cons, okM_var, okM_nil]
  refine ⟨dc, rfl, ds, rfl, sp_cells (hc.up (k0.trans k1)) (h.up (k0.trans k1)) hp ha (by omega) hl fun T2 k2 => ⟨_, rfl, by rw [hn]; rfl, okS_raise ?_⟩⟩
  simp only [okM_cons, okM_var, okM_nil]
  exact ⟨dc, rfl, rfl, hE _ ((k0.trans k1).trans k2)⟩
end PB

set_option Elab.async false
set_option linter.all false
set_option maxRecDepth 100000
set_option maxHeartbeats 1000000
namespace PB
open PySem PySem.Spec PyProof.Rows L2 DD
variable {tb : Tab} [ok : Ok tb]
/-! ### rows of places -/
def stepL (rows : List (List Int)) (s : Nat) : List (List Int) := rows.flatMap fun r => (List.range s).map fun (k : Nat) => r ++ [(k : Int)]
def rowsL (ss : List Nat) : List (List Int) := ss.foldl stepL [[]]
/-- where a place stands in the told order -/
def ixL (ss : List Nat) (ks : List Int) : Int := (ss.zip ks).foldl (fun n p => n * (p.1 : Int) + p.2) 0
theorem step_get {rows : List (List Int)} {s : Nat} : ∀ {k : Nat} {r : List Int}, (stepL rows s)[k]? = some r → ∃ q j, rows[q]? = some r.dropLast ∧ j < s ∧ k = q * s + j ∧ r = r.dropLast ++ [(j : Int)] := by
  induction rows with
  | nil => intro k r h; simp [stepL] at h
  | cons r0 rest ih =>
    intro k r h
    have e : stepL (r0 :: rest) s = ((List.range s).map fun (k : Nat) => r0 ++ [(k : Int)]) ++ stepL rest s := by simp [stepL]
    rw [e] at h
    by_cases hk : k < s
    · rw [List.getElem?_append_left (by simpa using hk)] at h
      simp [hk] at h
      subst h
      exact ⟨0, k, by simp, hk, by simp, by simp⟩
    · rw [List.getElem?_append_right (by simpa using Nat.le_of_not_lt hk)] at h
      simp only [List.length_map, List.length_range] at h
      obtain ⟨q, j, h1, h2, h3, h4⟩ := ih h
      refine ⟨q + 1, j, by simpa using h1, h2, ?_, h4⟩
      rw [Nat.add_mul]
      omega
theorem rows_ix : ∀ (n : Nat) (ss : List Nat), ss.length = n → ∀ (k : Nat) (r : List Int), (rowsL ss)[k]? = some r → r.length = ss.length ∧ ixL ss r = (k : Int)
  | 0, ss, hn, k, r, h => by
    have : ss = [] := List.length_eq_zero_iff.mp hn
    subst this
    cases k with
    | zero => simp [rowsL] at h; subst h; exact ⟨rfl, rfl⟩
    | succ k => simp [rowsL] at h
  | n + 1, ss, hn, k, r, h => by
    have hne : ss ≠ [] := fun z => by rw [z] at hn; cases hn
    have es : ss = ss.dropLast ++ [ss.getLast hne] := (List.dropLast_concat_getLast hne).symm
    generalize hs : ss.getLast hne = s at es
    have e1 : rowsL ss = stepL (rowsL ss.dropLast) s := by
      conv => lhs; rw [es]
      unfold rowsL
      rw [List.foldl_append]
      rfl
    rw [e1] at h
    obtain ⟨q, j, h1, h2, h3, h4⟩ := step_get h
    obtain ⟨g1, g2⟩ := rows_ix n ss.dropLast (by rw [List.length_dropLast, hn]; rfl) q r.dropLast h1
    refine ⟨?_, ?_⟩
    · rw [h4, List.length_append, g1, List.length_dropLast, hn]
      rfl
    · rw [h4]
      conv => lhs; rw [es]
      unfold ixL
      rw [List.zip_append (by rw [g1]), List.foldl_append]
      have g2' : (ss.dropLast.zip r.dropLast).foldl (fun n p => n * (p.1 : Int) + p.2) 0 = (q : Int) := g2
      rw [g2']
      simp
      rw [h3]
      simp
theorem step_length (rows : List (List Int)) (s : Nat) : (stepL rows s).length = rows.length * s := by
  induction rows with
  | nil => simp [stepL]
  | cons r rest ih =>
    have e : stepL (r :: rest) s = ((List.range s).map fun (k : Nat) => r ++ [(k : Int)]) ++ stepL rest s := by simp [stepL]
    rw [e, List.length_append, ih]
    simp [Nat.add_mul, Nat.add_comm]
end PB

set_option Elab.async false
set_option linter.all false
set_option maxRecDepth 100000
set_option maxHeartbeats 1000000
namespace PB
open PySem PySem.Spec PyProof.Rows L2 DD
variable {tb : Tab} [ok : Ok tb]
theorem okS_eachG {mi : MM Itm} {t : Tg} {b : MS} {e : Sl} {S : So} {P : Fl → Sl → So → Prop} (h : okM mi e S fun it S1 => ∃ xs, SeqIt .non xs it S1 ∧ ∃ I : Nat → Sl → So → Prop, I 0 e S1 ∧
    (∀ i e2 S2 x, Keep S1 S2 → xs[i]? = some x → I i e2 S2 → ∃ e3, t x S2 e2 = some e3 ∧ okS b e3 S2 (turnP (fun e4 S4 => Keep S2 S4 ∧ I (i + 1) e4 S4) P)) ∧ ∀ e2 S2, Keep S1 S2 → I xs.length e2 S2 → P .nx e2 S2) : okS (forS mi t b) e S P := by
  refine okS_for (h.imp fun it S1 q => ?_)
  obtain ⟨xs, ⟨h2, h3⟩, I, h4, h5, h6⟩ := q
  refine ⟨fun i e2 S2 => Keep S1 S2 ∧ i ≤ xs.length ∧ I i e2 S2, ⟨Keep.refl _, Nat.zero_le _, h4⟩, ?_⟩
  rintro i e2 S2 ⟨k1, k2, k3⟩
  by_cases hi : i < xs.length
  · obtain ⟨e3, g1, g2⟩ := h5 i e2 S2 xs[i] k1 (List.getElem?_eq_getElem hi) k3
    refine .inr ⟨by omega, xs[i], e3, by rw [h3 S2 k1 i, List.getElem?_eq_getElem hi], g1, g2.imp fun f e4 S4 q => ?_⟩
    cases f with
    | nx => exact ⟨k1.trans q.1, hi, q.2⟩
    | ct => exact ⟨k1.trans q.1, hi, q.2⟩
    | _ => exact q
  · have ei : i = xs.length := by omega
    subst ei
    exact .inl ⟨by rw [h3 S2 k1, List.getElem?_eq_none (Nat.le_refl _)], h6 _ _ k1 k3⟩
theorem zip_tups {e : Sl} {S : So} {xs ys : List D} : ∃ it, zipI [.tup xs, .tup ys] e S = some (.ok it, S) ∧ SeqIt .non ((xs.zip ys).map fun p => .tup [p.1, p.2]) it S := by
  refine ⟨⟨min xs.length ys.length, DD.pairAt (.tup xs) (.tup ys)⟩, rfl, by simp, fun T k i => ?_⟩
  unfold DD.pairAt
  dsimp only [seqOf]
  rw [if_pos rfl, zip_get]
  all_goals (cases xs[i]? <;> cases ys[i]? <;> rfl)
def rowD (ks : List Int) : D := .tup (ks.map .int)
theorem ix_take {ss : List Nat} {ks : List Int} {i s : Nat} {k : Int} (h1 : ss[i]? = some s) (h2 : ks[i]? = some k) : ixL (ss.take (i + 1)) (ks.take (i + 1)) = ixL (ss.take i) (ks.take i) * (s : Int) + k := by
  unfold ixL
  have l1 : i < ss.length := (List.getElem?_eq_some_iff.mp h1).1
  have l2 : i < ks.length := (List.getElem?_eq_some_iff.mp h2).1
  rw [List.take_add_one, List.take_add_one, h1, h2, List.zip_append (by simp; omega), List.foldl_append]
  simp
/-- place_number(pairs, place) of a tuple of pairs and a row of numbers -/
theorem sp_place_number {ps : List PyData} {L : Int} {ss : List Nat} {ks : List Int} {S : So} {P : D → So → Prop} (hL : L < 2 ^ 64) (ha : ps.all (sizedP L) = true) (hss : ps.map sizeP = ss.map fun (s : Nat) => (s : Int)) (hlen : ks.length = ss.length) (hP : P (.int (ixL ss ks)) S) :
    okC (phi_place_number tb [.tup (ps.map sideD), rowD ks] S) P := by
  have lps : ps.length = ss.length := by
    have := congrArg List.length hss
    simpa using this
  unfold phi_place_number
  refine okC_fn rfl ?_
  unfold m_place_number
  simp only [startE, List.map, List.length, List.replicate, List.cons_append, List.nil_append]
  refine okS_seq (okS_asg (okM_ret.mpr ?_))
  refine okS_seq (okS_eachG ?_)
  unfold mZip
  simp only [okM_bind, okM_cons, okM_op1, okM_var, okM_nil]
  refine ⟨_, rfl, rowD ks, rfl, ?_⟩
  obtain ⟨it, z1, z2⟩ := zip_tups (e := ([.v (.tup (ps.map sideD)), .v (rowD ks), .v (.int 0), .no, .no, .no] : Sl)) (S := S) (xs := ps.map sideD) (ys := ks.map .int)
  refine ⟨it, S, z1, _, z2, fun i e2 S2 => S2 = S ∧ ∃ s3 s4 s5, e2 = [.v (.tup (ps.map sideD)), .v (rowD ks), .v (.int (ixL (ss.take i) (ks.take i))), s3, s4, s5], ⟨rfl, .no, .no, .no, rfl⟩, ?_, ?_⟩
  · rintro i e2 S2 x hk hx ⟨rfl, s3, s4, s5, rfl⟩
    rw [List.zip_map, List.map_map, List.getElem?_map] at hx
    obtain ⟨⟨p, kk⟩, g1, rfl⟩ := Option.map_eq_some_iff.mp hx
    obtain ⟨g2, g3⟩ := List.getElem?_zip_eq_some.mp g1
    have gs : ss[i]? = some (ss[i]'(by rw [← lps]; exact (List.getElem?_eq_some_iff.mp g2).1)) := List.getElem?_eq_getElem _
    have hi : i < ss.length := by rw [← lps]; exact (List.getElem?_eq_some_iff.mp g2).1
    generalize ss[i]'(by rw [← lps]; exact (List.getElem?_eq_some_iff.mp g2).1) = s at gs
    have esz : sizeP p = (s : Int) := by
      have := congrArg (fun l : List Int => l[i]?) hss
      simp only [List.getElem?_map, g2, gs, Option.map_some] at this
      exact Option.some.inj this
    obtain ⟨nn, z, s1, s2, s3', s4', s5', s6'⟩ := sized_shape (List.all_eq_true.mp ha p (List.mem_of_getElem? g2))
    refine ⟨_, rfl, ?_⟩
    unfold b_place_number_1
    refine okS_asg ?_
    simp only [okM_op2, okM_var]
    refine ⟨_, rfl, .int (sizeP p), rfl, ?_⟩
    rw [okF_mul]
    refine ⟨cm (by rw [s6']; omega), .int kk, rfl, ?_⟩
    rw [fAdd_int, okF_some]
    refine ⟨Keep.refl _, rfl, .v (.str (nameP p)), .v (.int (sizeP p)), .v (.int kk), ?_⟩
    rw [ix_take gs g3, esz]
    rfl
  · rintro e2 S2 hk ⟨rfl, s3, s4, s5, rfl⟩
    have e1 : ((ps.map sideD).zip (ks.map D.int)).length = ss.length := by simp [lps, hlen]
    simp only [List.length_map, e1]
    refine okS_ret ?_
    rw [okM_var]
    refine ⟨_, rfl, ?_⟩
    rw [List.take_of_length_le (Nat.le_refl _), List.take_of_length_le (by rw [hlen]; exact Nat.le_refl _)]
    exact hP
/-- array.cell(place) -/
theorem sp_cell {n k : Nat} {ps : List PyData} {zs : List Int} {ss : List Nat} {ks : List Int} {v : Int} {S : So} {P : D → So → Prop} (h : S[n]? = some (arrO ps zs)) (ha : ps.all sideP = true) (hss : ps.map sizeP = ss.map fun (s : Nat) => (s : Int)) (hr : (rowsL ss)[k]? = some ks) (hv : zs[k]? = some v) (hP : P (.int v) S) :
    okC (phi_Array_cell tb [.ref n, rowD ks] S) P := by
  obtain ⟨hlen, hix⟩ := rows_ix ss.length ss rfl k ks hr
  unfold phi_Array_cell
  refine okC_fn rfl ?_
  unfold m_Array_cell
  simp only [startE, List.map, List.length, List.replicate, List.cons_append, List.nil_append]
  refine okS_ret ?_
  simp only [okM_op2, okM_op1, okM_var, okM_call, okM_cons, okM_nil]
  refine ⟨_, rfl, ?_⟩
  rw [fFld_ok h ok.att_c (d := .tup (zs.map .int)) rfl, okF_some]
  refine ⟨_, rfl, ?_⟩
  rw [fFld_ok h ok.att_s (d := .tup (ps.map sideD)) rfl, okF_some]
  refine ⟨_, rfl, sp_place_number (L := 6) (by decide) ha hss hlen ?_⟩
  rw [hix]
  have hk2 : k < zs.length := (List.getElem?_eq_some_iff.mp hv).1
  have a0 : atI (zs.map D.int) (k : Int) = some (.int v) := by
    obtain ⟨d, a1, a2⟩ := atI_ok (xs := zs.map D.int) (i := (k : Int)) (by omega) (by simp; omega)
    rw [Int.toNat_natCast, List.getElem?_map, hv] at a2
    cases a2
    exact a1
  rw [fIx_seq (b := true) (xs := zs.map .int) rfl a0, okF_some]
  exact hP
end PB

set_option Elab.async false
set_option linter.all false
set_option maxRecDepth 100000
set_option maxHeartbeats 1000000
namespace PB
open PySem PySem.Spec PyProof.Rows L2 DD
variable {tb : Tab} [ok : Ok tb]
/-- one walk of the inner row -/
theorem inner_run {it1 : Itm} {ys : List D} {t1 : Tg} {te : MM D} {n0 : Nat} {e : Sl} {f : D → D} {T0 : So} (hit : SeqIt .non ys it1 T0) (hn : T0.length ≤ n0) (hstep : ∀ (j : Nat) (y : D) (V : So), ys[j]? = some y → Keep T0 V → ∃ e3, t1 y V e = some e3 ∧ okM te e3 V fun z U => U = V ∧ z = f y) :
    ∀ (k j : Nat) (V : So) (acc : List D), j + k = ys.length → Keep T0 V → V[n0]? = some (.lst acc) → acc.length + k < sizeLine → ∃ V', compI it1.get t1 yesM te n0 e k j V = some V' ∧ Keep T0 V' ∧ V'[n0]? = some (.lst (acc ++ (ys.drop j).map f)) := by
  intro k
  induction k with
  | zero =>
    intro j V acc hj hk hV hl
    have ej : j = ys.length := by omega
    subst ej
    exact ⟨V, by unfold compI; rw [hit.2 V hk, List.getElem?_eq_none (Nat.le_refl _)], hk, by simpa using hV⟩
  | succ k ih =>
    intro j V acc hj hk hV hl
    have hjs : j < ys.length := by omega
    have hy : ys[j]? = some ys[j] := List.getElem?_eq_getElem hjs
    obtain ⟨e3, g1, y, U, g2, rfl, rfl⟩ := hstep j ys[j] V hy hk
    have lV : n0 < U.length := (List.getElem?_eq_some_iff.mp hV).1
    obtain ⟨V', q1, q2, q3⟩ := ih (j + 1) (U.set n0 (.lst (acc ++ [f ys[j]]))) (acc ++ [f ys[j]]) (by omega) (keep_set hk hn) (List.getElem?_set_self lV) (by simp; omega)
    refine ⟨V', ?_, q2, ?_⟩
    · unfold compI
      rw [hit.2 U hk, hy]
      dsimp only
      rw [g1]
      dsimp only [yesM, retM]
      rw [g2]
      dsimp only
      rw [hV]
      dsimp only
      rw [if_pos (by omega)]
      exact q1
    · rw [q3, List.append_assoc]
      congr 3
      rw [List.drop_eq_getElem_cons hjs]
      rfl
/-- [g(x, y) for x in a walk for y in a row] -/
theorem okM_comp2 {own own1 : List Nat} {mi m1 : MM Itm} {t t1 : Tg} {te : MM D} {e : Sl} {S : So} {P : D → So → Prop} (h : okM mi e S fun it S1 => ∃ xs, SeqIt .non xs it S1 ∧ ∃ (ys : D → List D) (f : D → D → D), (xs.flatMap ys).length < sizeLine ∧
    (∀ (i : Nat) (x : D) (T : So), Keep S1 T → xs[i]? = some x → ∃ e1 it1, t x T (wipeE e own) = some e1 ∧ m1 e1 T = some (.ok it1, T) ∧ SeqIt .non (ys x) it1 S1 ∧ ∀ (j : Nat) (y : D) (V : So), (ys x)[j]? = some y → Keep S1 V → ∃ e3, t1 y V (wipeE e1 own1) = some e3 ∧ okM te e3 V fun z U => U = V ∧ z = f x y) ∧
    ∀ T, Keep S1 T → T[S1.length]? = some (.lst (xs.flatMap fun x => (ys x).map (f x))) → P (.ref S1.length) T) : okM (comp2M own own1 mi t m1 t1 te) e S P := by
  unfold comp2M
  rw [okM_bind]
  refine h.imp fun it S1 q => ?_
  obtain ⟨xs, ⟨h2, h3⟩, ys, f, hl, h4, h5⟩ := q
  have key : ∀ (k i : Nat) (T : So) (acc : List D), i + k = xs.length → Keep S1 T → T[S1.length]? = some (.lst acc) → acc.length + ((xs.drop i).flatMap ys).length < sizeLine →
      ∃ T', compJ it.get t m1 own1 t1 te S1.length (wipeE e own) k i T = some T' ∧ Keep S1 T' ∧ T'[S1.length]? = some (.lst (acc ++ (xs.drop i).flatMap fun x => (ys x).map (f x))) := by
    intro k
    induction k with
    | zero =>
      intro i T acc hi hk hT hl2
      have ei : i = xs.length := by omega
      subst ei
      exact ⟨T, by unfold compJ; rw [h3 T hk, List.getElem?_eq_none (Nat.le_refl _)], hk, by simpa using hT⟩
    | succ k ih =>
      intro i T acc hi hk hT hl2
      have hix : i < xs.length := by omega
      obtain ⟨e1, it1, g1, g2, gi, g3⟩ := h4 i xs[i] T hk (List.getElem?_eq_getElem hix)
      rw [List.drop_eq_getElem_cons hix, List.flatMap_cons, List.length_append] at hl2
      obtain ⟨V, q1, q2, q3⟩ := inner_run (T0 := S1) (n0 := S1.length) (f := f xs[i]) gi (Nat.le_refl _) g3 (ys xs[i]).length 0 T acc (by omega) hk hT (by omega)
      obtain ⟨T', u1, u2, u3⟩ := ih (i + 1) V _ (by omega) q2 q3 (by rw [List.drop_zero, List.length_append, List.length_map]; omega)
      refine ⟨T', ?_, u2, ?_⟩
      · unfold compJ
        rw [h3 T hk, List.getElem?_eq_getElem hix]
        dsimp only
        rw [g1]
        dsimp only
        rw [g2]
        dsimp only
        rw [gi.1, q1]
        exact u1
      · rw [u3, List.append_assoc]
        congr 3
        rw [List.drop_eq_getElem_cons hix, List.flatMap_cons]
        rfl
  obtain ⟨T', u1, u2, u3⟩ := key it.n 0 (S1 ++ [.lst []]) [] (by omega) (Keep.app _ _) get_new (by simpa using hl)
  refine ⟨_, T', by dsimp only; rw [u1], h5 T' u2 ?_⟩
  rw [u3]
  simp
end PB

set_option Elab.async false
set_option linter.all false
set_option maxRecDepth 100000
set_option maxHeartbeats 1000000
namespace PB
open PySem PySem.Spec PyProof.Rows L2 DD
variable {tb : Tab} [ok : Ok tb]
theorem seqOf_up {S T : So} {d : D} {b : Bool} {xs : List D} (k : Keep S T) (h : seqOf d S = some (b, xs)) : seqOf d T = some (b, xs) := by
  cases d with
  | ref n =>
    unfold seqOf at h ⊢
    dsimp only at h ⊢
    cases e : S[n]? with
    | none => rw [e] at h; cases h
    | some o => rw [e] at h; rw [k _ _ e]; exact h
  | _ => exact h
/-- all rows with a member of each -/
def combS (acc : List (List D)) (r : List D) : List (List D) := acc.flatMap fun m => r.map fun y => m ++ [y]
def combL (rows : List (List D)) : List (List D) := rows.foldl combS [[]]
theorem comb_take {rows : List (List D)} {i : Nat} {r : List D} (h : rows[i]? = some r) : combL (rows.take (i + 1)) = combS (combL (rows.take i)) r := by
  unfold combL
  rw [List.take_add_one, h, List.foldl_append]
  rfl
theorem combS_length (acc : List (List D)) (r : List D) : (combS acc r).length = acc.length * r.length := by
  unfold combS
  induction acc with
  | nil => simp
  | cons a acc ih => rw [List.flatMap_cons, List.length_append, ih, List.length_map, List.length_cons, Nat.succ_mul, Nat.add_comm]
theorem comb_mem : ∀ (n : Nat) (rows : List (List D)), rows.length = n → ∀ m ∈ combL rows, m.length = n
  | 0, rows, hn, m, hm => by
    have : rows = [] := List.length_eq_zero_iff.mp hn
    subst this
    have : m = [] := by simpa [combL] using hm
    rw [this]
    rfl
  | n + 1, rows, hn, m, hm => by
    have hne : rows ≠ [] := fun z => by rw [z] at hn; cases hn
    have es : rows = rows.dropLast ++ [rows.getLast hne] := (List.dropLast_concat_getLast hne).symm
    have e1 : combL rows = combS (combL rows.dropLast) (rows.getLast hne) := by
      conv => lhs; rw [es]
      unfold combL
      rw [List.foldl_append]
      rfl
    rw [e1] at hm
    unfold combS at hm
    obtain ⟨q, hq, hm⟩ := List.mem_flatMap.mp hm
    obtain ⟨y, _, rfl⟩ := List.mem_map.mp hm
    rw [List.length_append, comb_mem n rows.dropLast (by rw [List.length_dropLast, hn]; rfl) q hq]
    rfl
def frD (x y : D) : D := match x with
  | .tup ds => .tup (ds ++ [y])
  | _ => .non
theorem frD_step (acc : List (List D)) (r : List D) : ((acc.map D.tup).flatMap fun x => r.map (frD x)) = (combS acc r).map D.tup := by
  unfold combS
  induction acc with
  | nil => rfl
  | cons a acc ih =>
    rw [List.map_cons, List.flatMap_cons, ih, List.flatMap_cons, List.map_append, List.map_map]
    rfl
theorem flat_const {xs : List D} {r : List D} : (xs.flatMap fun _ => r).length = xs.length * r.length := by
  induction xs with
  | nil => simp
  | cons a acc ih => rw [List.flatMap_cons, List.length_append, ih, List.length_cons, Nat.succ_mul, Nat.add_comm]
theorem seqI_tup {xs : List D} : ∃ it, (∀ e S, seqI (.tup xs) e S = some (.ok it, S)) ∧ ∀ d S, SeqIt d xs it S := ⟨_, fun _ _ => rfl, fun _ _ => ⟨rfl, fun _ _ _ => rfl⟩⟩
/-- combined(rows) -/
theorem sp_combined {d : D} {b : Bool} {rows : List (List D)} {S : So} {P : D → So → Prop} (h : seqOf d S = some (b, rows.map D.tup)) (hl : rows.length ≤ 1000) (hb : ∀ i, (combL (rows.take i)).length < 100000)
    (hP : ∀ T n, Keep S T → T[n]? = some (.lst ((combL rows).map D.tup)) → P (.ref n) T) : okC (phi_combined tb [d] S) P := by
  unfold phi_combined
  refine okC_fn rfl ?_
  unfold m_combined
  simp only [startE, List.map, List.length, List.replicate, List.cons_append, List.nil_append]
  refine okS_seq (okS_asg ?_)
  simp only [okM_opA, okM_cons, okM_nil]
  rw [fTup_ok (by simp), okF_some, DD.fLst_ok (by simp), okF_some]
  have k0 : Keep S (S ++ [O.lst [D.tup []]]) := Keep.app _ _
  have h0 := seqOf_up k0 h
  refine okS_seq (okS_each (okM_var.mpr ⟨d, rfl, ?_⟩))
  obtain ⟨it, i1, i2⟩ := seqI_row (e := ([.v d, .v (.ref S.length), .no, .no, .no] : Sl)) h0
  refine ⟨it, _, i1, i2, fun i e2 S2 => ∃ r s2 s3 s4, e2 = [.v d, .v (.ref r), s2, s3, s4] ∧ S2[r]? = some (.lst ((combL (rows.take i)).map D.tup)), ⟨S.length, .no, .no, .no, rfl, get_new⟩, ?_, ?_⟩
  · rintro i e2 S2 x hk hx ⟨r, s2, s3, s4, rfl, e2⟩
    rw [List.getElem?_map] at hx
    obtain ⟨row, g1, rfl⟩ := Option.map_eq_some_iff.mp hx
    refine ⟨[.v d, .v (.ref r), .v (.tup row), s3, s4], rfl, ?_⟩
    unfold b_combined_1
    refine okS_asg (okM_comp2 ?_)
    unfold mSeq
    rw [okM_bind, okM_var]
    refine ⟨.ref r, rfl, ?_⟩
    have sq : seqOf (.ref r) S2 = some (false, (combL (rows.take i)).map D.tup) := by unfold seqOf; simp [e2]
    obtain ⟨it2, j1, j2⟩ := seqI_row (e := ([.v d, .v (.ref r), .v (.tup row), s3, s4] : Sl)) sq
    refine ⟨it2, S2, j1, _, j2, fun _ => row, frD, ?_, ?_, ?_⟩
    · have := hb (i + 1)
      rw [comb_take g1, combS_length] at this
      have := line200k
      rw [flat_const, List.length_map]
      omega
    · intro k y T hkT hy
      rw [List.getElem?_map] at hy
      obtain ⟨m, v1, rfl⟩ := Option.map_eq_some_iff.mp hy
      have hm : m.length ≤ 1000 := by
        rw [comb_mem _ (rows.take i) rfl m (List.mem_of_getElem? v1)]
        simp
        omega
      obtain ⟨it1, y1, y2⟩ := seqI_tup (xs := row)
      refine ⟨[.v d, .v (.ref r), .v (.tup row), .v (.tup m), .no], it1, rfl, y1 [.v d, .v (.ref r), .v (.tup row), .v (.tup m), .no] T, y2 _ _, fun j y V hj hkV => ?_⟩
      refine ⟨[.v d, .v (.ref r), .v (.tup row), .v (.tup m), .v y], rfl, ?_⟩
      simp only [okM_op2, okM_opA, okM_cons, okM_var, okM_nil]
      refine ⟨_, rfl, _, rfl, ?_⟩
      rw [fTup_ok (by simp), okF_some]
      have ea : fAdd (.tup m) (.tup [y]) V = some (.tup (m ++ [y]), V) := by
        unfold fAdd
        dsimp only
        rw [if_pos (by have := line200k; simp; omega)]
      rw [ea, okF_some]
      exact ⟨rfl, rfl⟩
    · intro T hkT hT
      rw [frD_step, ← comb_take g1] at hT
      exact ⟨hkT, S2.length, .v (.tup row), s3, s4, rfl, hT⟩
  · rintro e2 S2 hk ⟨r, s2, s3, s4, rfl, e2⟩
    rw [List.length_map, List.take_length] at e2
    refine okS_ret (okM_var.mpr ⟨_, rfl, ?_⟩)
    exact hP S2 r (k0.trans hk) e2
theorem rows_take {ss : List Nat} {i s : Nat} (h : ss[i]? = some s) : rowsL (ss.take (i + 1)) = stepL (rowsL (ss.take i)) s := by
  unfold rowsL
  rw [List.take_add_one, h, List.foldl_append]
  rfl
theorem rows_len : ∀ (n : Nat) (ss : List Nat), ss.length = n → (∀ s ∈ ss, s ≤ 6) → (rowsL ss).length ≤ 6 ^ n
  | 0, ss, hn, _ => by
    have : ss = [] := List.length_eq_zero_iff.mp hn
    subst this
    decide
  | n + 1, ss, hn, h6 => by
    have hne : ss ≠ [] := fun z => by rw [z] at hn; cases hn
    have es : ss = ss.dropLast ++ [ss.getLast hne] := (List.dropLast_concat_getLast hne).symm
    have hs := h6 _ (List.getLast_mem hne)
    generalize ss.getLast hne = s at es hs
    have e1 : rowsL ss = stepL (rowsL ss.dropLast) s := by
      conv => lhs; rw [es]
      unfold rowsL
      rw [List.foldl_append]
      rfl
    rw [e1, step_length]
    have := rows_len n ss.dropLast (by rw [List.length_dropLast, hn]; rfl) fun x hx => h6 x (List.dropLast_subset _ hx)
    rw [Nat.pow_succ]
    exact Nat.mul_le_mul this hs
theorem comb_rows (ss : List Nat) : combL (ss.map rngD) = (rowsL ss).map fun r => r.map D.int := by
  have step : ∀ (acc : List (List Int)) (s : Nat), combS (acc.map fun r => r.map D.int) (rngD s) = (stepL acc s).map fun r => r.map D.int := by
    intro acc s
    unfold combS stepL rngD
    induction acc with
    | nil => rfl
    | cons a acc ih =>
      rw [List.map_cons, List.flatMap_cons, ih, List.flatMap_cons, List.map_append, List.map_map, List.map_map]
      congr 1
      apply List.map_congr_left
      intro k _
      simp
  have key : ∀ (ss : List Nat) (acc : List (List Int)), (ss.map rngD).foldl combS (acc.map fun r => r.map D.int) = (ss.foldl stepL acc).map fun r => r.map D.int := by
    intro ss
    induction ss with
    | nil => intro acc; rfl
    | cons s ss ih => intro acc; rw [List.map_cons, List.foldl_cons, step, ih]; rfl
  exact key ss [[]]
/-- places(sides) -/
theorem sp_places {d : D} {p : PyData} {ps : List PyData} {L : Int} {ss : List Nat} {S : So} {P : D → So → Prop} (h : Py S d p) (hp : p = .list ps ∨ p = .tuple ps) (ha : ps.all (sizedP L) = true) (h4 : ps.length ≤ 4) (hss : ps.map sizeP = ss.map fun (s : Nat) => (s : Int)) (h6 : ∀ s ∈ ss, s ≤ 6)
    (hP : ∀ T, Keep S T → P (.tup ((rowsL ss).map rowD)) T) : okC (phi_places tb [d] S) P := by
  have lps : ps.length = ss.length := by
    have := congrArg List.length hss
    simpa using this
  have bound : ∀ i, (rowsL (ss.take i)).length ≤ 1296 := fun i => by
    have hl : (ss.take i).length ≤ 4 := by simp; omega
    have := rows_len _ (ss.take i) rfl fun s hs => h6 s (List.take_subset _ _ hs)
    have e : (6 : Nat) ^ (ss.take i).length ≤ 6 ^ 4 := Nat.pow_le_pow_right (by decide) hl
    have : (6 : Nat) ^ 4 = 1296 := by decide
    omega
  unfold phi_places
  refine okC_fn rfl ?_
  unfold m_places
  simp only [startE, List.map, List.length, List.replicate, List.cons_append, List.nil_append]
  refine okS_ret ?_
  rw [okM_opA]
  refine okM_cons.mpr ?_
  rw [okM_call]
  obtain ⟨b, xs, r1, r2, r3⟩ := h.row hp
  refine okM_cons.mpr (okM_each (okM_var.mpr ⟨d, rfl, ?_⟩))
  obtain ⟨it, i1, i2⟩ := seqI_row (e := ([.v d, .no, .no] : Sl)) r1
  refine ⟨it, xs, i1, i2, by have := line200k; omega, fun i y => ∃ s, ss[i]? = some s ∧ y = .tup (rngD s), ?_, ?_⟩
  · intro i x T hk hx
    obtain ⟨q, g1, g2⟩ := r3 i x hx
    obtain ⟨n, z, t1, t2, t3, t4, t5, t6⟩ := sized_shape (List.all_eq_true.mp ha q (List.mem_of_getElem? g1))
    obtain ⟨kk, x1, x2, u1, u2, u3⟩ := pair_seq (g2.up hk) t1
    have e' := Py.int_eq u3
    subst e'
    have hi : i < ss.length := by rw [← lps]; exact (List.getElem?_eq_some_iff.mp g1).1
    have gs : ss[i]? = some ss[i] := List.getElem?_eq_getElem hi
    have h6i := h6 ss[i] (List.getElem_mem hi)
    generalize ss[i] = s at gs h6i
    have esz : z = (s : Int) := by
      have := congrArg (fun l : List Int => l[i]?) hss
      simp only [List.getElem?_map, g1, gs, Option.map_some] at this
      rw [← t6]
      exact Option.some.inj this
    subst esz
    refine ⟨[.v d, .v x1, .v (.int (s : Nat))], by unfold tupT; rw [u1]; rfl, okM_tupRng (okM_var.mpr ⟨_, rfl, s, rfl, by omega, Keep.refl _, s, gs, rfl⟩)⟩
  · intro ys T hk hT hl2 hV
    have hys : ys = (ss.map rngD).map D.tup := by
      rw [List.map_map]
      apply List.ext_getElem?
      intro i
      by_cases hi : i < ys.length
      · obtain ⟨s, g1, g2⟩ := hV i ys[i] (List.getElem?_eq_getElem hi)
        rw [List.getElem?_eq_getElem hi, g2, List.getElem?_map, g1]
        rfl
      · rw [List.getElem?_eq_none (by omega), List.getElem?_eq_none (by simp only [List.length_map]; omega)]
    rw [hys] at hT
    rw [okM_nil]
    refine sp_combined (b := false) (rows := ss.map rngD) (by unfold seqOf; simp [hT]) (by simp; omega) (fun i => ?_) fun T2 n hk2 hT2 => ?_
    · rw [← List.map_take, comb_rows, List.length_map]
      have := bound i
      omega
    · rw [okM_nil]
      rw [comb_rows, List.map_map] at hT2
      rw [fTuple_seq (b := false) (xs := (rowsL ss).map rowD) (by unfold seqOf; simp only [hT2]; rfl), okF_some]
      exact hP T2 (hk.trans hk2)
end PB

set_option Elab.async false
set_option linter.all false
set_option maxRecDepth 100000
set_option maxHeartbeats 4000000
namespace K02
open PySem PySem.Spec PyProof.Rows L2 DD
def xcs : List (Str × List Str) := [("InvalidSides", ["sides"]), ("InvalidCells", ["cells"]), ("InvalidInputs", ["inputs"]), ("NoFit", ["number"])]
def tB (x : String) : TyN := .inl x
def tO (x : Str) : TyN := .inr x
def base6 : List String := ["NoneType", "bool", "int", "str", "tuple", "list"]
def kits : List (TyN × TyN × Bool) := (base6.flatMap fun t => ["int", "bool", "str", "list", "tuple"].map fun c => (tB t, tB c, decide (t = c) || (decide (t = "bool") && decide (c = "int")))) ++ (base6.map fun t => (tB t, tO ("Array" : Str), false)) ++ [(tO "Array", tO "Array", true)] ++
  (xcs.flatMap fun a => xcs.map fun b => (tO a.1, tO b.1, decide (a.1 = b.1))) ++ xcs.flatMap fun a => [(tO a.1, tO ("DealError" : Str), true), (tO a.1, tB "ValueError", true)]
def top (i : Nat) : Stmt := PySem.Challenge.pw_dealtarrays_k02_sides_and_arrays.main.body.getD i (.Pass ⟨0, 0, 0, 0⟩)
def frees : List Str := ["int", "isinstance", "bool", "tuple", "list", "str", "len", "all", "zip", "range", "abs", "repr", "ValueError"]
def globs : List Str := ["Array", "InvalidSides", "InvalidCells", "NoFit", "InvalidInputs", "DealError"]
abbrev Z (mg : Str → Option Value) : Prop := ∀ (i : Nat) (x : Str), frees[i]? = some x → mg x = none
abbrev Gs (mg : Str → Option Value) : Prop := ∀ (i : Nat) (x : Str), globs[i]? = some x → ∃ a, mg x = some (.ref a)
def intc : List (Str × Int) := [("LONGEST_WORD", 8), ("MOST_CELLS", 200), ("MOST_PLACES", 6), ("MOST_SIDES", 4)]
abbrev Gi (mg : Str → Option Value) : Prop := ∀ (i : Nat) (x : Str) (v : Int), intc[i]? = some (x, v) → ∃ t, mg x = some (.int v t)
def ask : Ask := ⟨xcs, kits, ["DealError", "Array", "InvalidSides", "InvalidCells", "InvalidInputs", "NoFit", "is_integer", "is_integer_within", "is_row", "is_word", "are_ascending", "are_sizes", "product_of", "combined", "place_number", "as_tuples", "_is_sized_word", "places", "is_sides", "_are_cells", "_law_draws", "_law_take", "_law_places", "_law_many", "_law_drawn_sides", "_law_number", "_law_no_sides", "_law_no_cells", "_law_refusal", "_law_is_unlike", "law"], frees⟩
def askc : AskC := ⟨ask, [("Array", ["sides", "cells"])], [.cls "Array", .mkr "Array", .meth "Array" "cell"] ++ intc.map (fun p => .int p.1 p.2), xcs.map (fun p => (p.1, "DealError", true)), (base6.map fun t => (tB t, ("Array" : Str))) ++ [(tO "Array", ("Array" : Str))], ["Array"]⟩
def tb : Tab := askc.tab
section
variable {P : Program} {w : World} {K : PySem.W.Frag} {mg : Str → Option Value} {base : Heap}
abbrev m_is_integer : MS := PB.m_is_integer tb
abbrev phi_is_integer : FnD := PB.phi_is_integer tb
abbrev s_is_integer : Stmt := top 2
theorem sc_is_integer : FnScope ["value"] ["value"] (defScope s_is_integer) := ⟨rfl, rfl, rfl, by decide +kernel, rfl, by decide +kernel, by decide +kernel⟩
theorem d_is_integer (hF : Facts (GK K mg) tb) (hN : Named (GK K mg) tb) (hC : Catch (GK K mg) (catL askc.exms)) (hNF : ∀ x, NotF (GK K mg) x (nfL askc.nfs x)) (z : Z mg) (gl : Gs mg) (gi : Gi mg) {fd : FuncData} (FD : FunD K "is_integer" "is_integer" (defArgs s_is_integer) (defBody s_is_integer) (defScope s_is_integer) [] [] (He.ga K "is_integer") fd) (hm : mg "is_integer" = some (.ref (He.ga K "is_integer"))) : FnN P w K mg base (0 + 1) "is_integer" ["value"] phi_is_integer := by
  have hN0 : (["value"] : List Str).Nodup := by decide +kernel
  refine fnn (st := s_is_integer) (N := ["value"]) (m := m_is_integer) (k := 0) FD sc_is_integer hm (fun _ _ _ _ _ _ us hl => match us, hl with | [_], _ => rfl) fun cdv A outer s H E hr hG0 => ?_
  have hu : (A.deeper (envOfC "is_integer" (defScope s_is_integer) s.heap.objs.size (He.ga K "is_integer") cdv)).units + 66 < cLine := by have := hr.un; omega
  have hG : (A.deeper (envOfC "is_integer" (defScope s_is_integer) s.heap.objs.size (He.ga K "is_integer") cdv)).guards = some [] := hG0
  exact (sm_one (sm_ret (em_and (em_callB (call_isiB rfl) (f_isiB hF hN) (z 1 _ rfl) (am_cons (em_var 0) (am_cons (em_ty (z 0 _ rfl)) am_nil))) (em_one (em_not (em_callB (call_isiB rfl) (f_isiB hF hN) (z 1 _ rfl) (am_cons (em_var 0) (am_cons (em_ty (z 2 _ rfl)) am_nil))))))))
abbrev m_is_integer_within : MS := PB.m_is_integer_within tb
abbrev phi_is_integer_within : FnD := PB.phi_is_integer_within tb
abbrev s_is_integer_within : Stmt := top 3
theorem sc_is_integer_within : FnScope ["value", "low", "high"] ["value", "low", "high"] (defScope s_is_integer_within) := ⟨rfl, rfl, rfl, by decide +kernel, rfl, by decide +kernel, by decide +kernel⟩
theorem d_is_integer_within (hF : Facts (GK K mg) tb) (hN : Named (GK K mg) tb) (hC : Catch (GK K mg) (catL askc.exms)) (hNF : ∀ x, NotF (GK K mg) x (nfL askc.nfs x)) (z : Z mg) (gl : Gs mg) (gi : Gi mg) (h_is_integer : FnN P w K mg base 1 "is_integer" ["value"] phi_is_integer) {fd : FuncData} (FD : FunD K "is_integer_within" "is_integer_within" (defArgs s_is_integer_within) (defBody s_is_integer_within) (defScope s_is_integer_within) [] [] (He.ga K "is_integer_within") fd) (hm : mg "is_integer_within" = some (.ref (He.ga K "is_integer_within"))) : FnN P w K mg base (1 + 1) "is_integer_within" ["value", "low", "high"] phi_is_integer_within := by
  have hN0 : (["value", "low", "high"] : List Str).Nodup := by decide +kernel
  refine fnn (st := s_is_integer_within) (N := ["value", "low", "high"]) (m := m_is_integer_within) (k := 1) FD sc_is_integer_within hm (fun _ _ _ _ _ _ us hl => match us, hl with | [_, _, _], _ => rfl) fun cdv A outer s H E hr hG0 => ?_
  have hu : (A.deeper (envOfC "is_integer_within" (defScope s_is_integer_within) s.heap.objs.size (He.ga K "is_integer_within") cdv)).units + 66 < cLine := by have := hr.un; omega
  have hG : (A.deeper (envOfC "is_integer_within" (defScope s_is_integer_within) s.heap.objs.size (He.ga K "is_integer_within") cdv)).guards = some [] := hG0
  exact (sm_one (sm_ret (em_and (em_callN h_is_integer (hr.mono (by decide)) hG (takes_of rfl rfl rfl rfl) (am_cons (em_var 0) am_nil)) (em_one (em_chain op_leM f_ord op_leM f_ord (em_var 1) (em_var 0) (em_var 2))))))
abbrev m_is_row : MS := PB.m_is_row tb
abbrev phi_is_row : FnD := PB.phi_is_row tb
abbrev s_is_row : Stmt := top 4
theorem sc_is_row : FnScope ["value"] ["value"] (defScope s_is_row) := ⟨rfl, rfl, rfl, by decide +kernel, rfl, by decide +kernel, by decide +kernel⟩
theorem d_is_row (hF : Facts (GK K mg) tb) (hN : Named (GK K mg) tb) (hC : Catch (GK K mg) (catL askc.exms)) (hNF : ∀ x, NotF (GK K mg) x (nfL askc.nfs x)) (z : Z mg) (gl : Gs mg) (gi : Gi mg) {fd : FuncData} (FD : FunD K "is_row" "is_row" (defArgs s_is_row) (defBody s_is_row) (defScope s_is_row) [] [] (He.ga K "is_row") fd) (hm : mg "is_row" = some (.ref (He.ga K "is_row"))) : FnN P w K mg base (0 + 1) "is_row" ["value"] phi_is_row := by
  have hN0 : (["value"] : List Str).Nodup := by decide +kernel
  refine fnn (st := s_is_row) (N := ["value"]) (m := m_is_row) (k := 0) FD sc_is_row hm (fun _ _ _ _ _ _ us hl => match us, hl with | [_], _ => rfl) fun cdv A outer s H E hr hG0 => ?_
  have hu : (A.deeper (envOfC "is_row" (defScope s_is_row) s.heap.objs.size (He.ga K "is_row") cdv)).units + 66 < cLine := by have := hr.un; omega
  have hG : (A.deeper (envOfC "is_row" (defScope s_is_row) s.heap.objs.size (He.ga K "is_row") cdv)).guards = some [] := hG0
  exact (sm_one (sm_ret (em_callB (call_isiB rfl) (f_isiB hF hN) (z 1 _ rfl) (am_cons (em_var 0) (am_cons (em_tup (am_cons (em_ty (z 4 _ rfl)) (am_cons (em_ty (z 3 _ rfl)) am_nil))) am_nil)))))
abbrev m_is_word : MS := PB.m_is_word tb
abbrev phi_is_word : FnD := PB.phi_is_word tb
abbrev s_is_word : Stmt := top 5
theorem sc_is_word : FnScope ["value", "sign"] ["value"] (defScope s_is_word) := ⟨rfl, rfl, rfl, by decide +kernel, rfl, by decide +kernel, by decide +kernel⟩
theorem d_is_word (hF : Facts (GK K mg) tb) (hN : Named (GK K mg) tb) (hC : Catch (GK K mg) (catL askc.exms)) (hNF : ∀ x, NotF (GK K mg) x (nfL askc.nfs x)) (z : Z mg) (gl : Gs mg) (gi : Gi mg) {fd : FuncData} (FD : FunD K "is_word" "is_word" (defArgs s_is_word) (defBody s_is_word) (defScope s_is_word) [] [] (He.ga K "is_word") fd) (hm : mg "is_word" = some (.ref (He.ga K "is_word"))) : FnN P w K mg base (0 + 1) "is_word" ["value"] phi_is_word := by
  have hN0 : (["value", "sign"] : List Str).Nodup := by decide +kernel
  refine fnn (st := s_is_word) (N := ["value", "sign"]) (m := m_is_word) (k := 0) FD sc_is_word hm (fun _ _ _ _ _ _ us hl => match us, hl with | [_], _ => rfl) fun cdv A outer s H E hr hG0 => ?_
  have hu : (A.deeper (envOfC "is_word" (defScope s_is_word) s.heap.objs.size (He.ga K "is_word") cdv)).units + 66 < cLine := by have := hr.un; omega
  have hG : (A.deeper (envOfC "is_word" (defScope s_is_word) s.heap.objs.size (He.ga K "is_word") cdv)).guards = some [] := hG0
  exact (sm_cons (sm_if (L2.PW.pt (wm_or (tm_not (tm_val (em_callB (call_isiB rfl) (f_isiB hF hN) (z 1 _ rfl) (am_cons (em_var 0) (am_cons (em_ty (z 5 _ rfl)) am_nil))))) (wm_or1 (tm_not (tm_chain op_leM f_ord op_leM f_ord em_int (em_callB (call_lenM rfl) f_len (z 6 _ rfl) (am_cons (em_var 0) am_nil)) (em_gintE (gi 0 _ _ rfl))))))) (sm_one (sm_ret em_bl)) sm_nil) (sm_cons (sm_if (tm_not (tm_chain op_leM f_ord op_leM f_ord em_str (em_ix (em_var 0) em_int) em_str)) (sm_one (sm_ret em_bl)) sm_nil) (sm_one (sm_ret (em_callB (call_allM rfl rfl) f_allB (z 7 _ rfl) (am_cons (em_lc [("sign", 1)] rfl hN0 (im_seq (em_var 0)) (blkOk_by rfl) (fun _ _ _ _ _ => (gc_name 1 hN0)) (fun _ _ _ _ _ => sm_yes) (fun _ _ _ _ _ => (em_or (em_chain op_leM f_ord op_leM f_ord em_str (em_var 1) em_str) (em_one (em_chain op_leM f_ord op_leM f_ord em_str (em_var 1) em_str))))) am_nil))))))
abbrev m_are_ascending : MS := PB.m_are_ascending tb
abbrev phi_are_ascending : FnD := PB.phi_are_ascending tb
abbrev s_are_ascending : Stmt := top 6
theorem sc_are_ascending : FnScope ["words", "low", "high"] ["words"] (defScope s_are_ascending) := ⟨rfl, rfl, rfl, by decide +kernel, rfl, by decide +kernel, by decide +kernel⟩
theorem d_are_ascending (hF : Facts (GK K mg) tb) (hN : Named (GK K mg) tb) (hC : Catch (GK K mg) (catL askc.exms)) (hNF : ∀ x, NotF (GK K mg) x (nfL askc.nfs x)) (z : Z mg) (gl : Gs mg) (gi : Gi mg) {fd : FuncData} (FD : FunD K "are_ascending" "are_ascending" (defArgs s_are_ascending) (defBody s_are_ascending) (defScope s_are_ascending) [] [] (He.ga K "are_ascending") fd) (hm : mg "are_ascending" = some (.ref (He.ga K "are_ascending"))) : FnN P w K mg base (0 + 1) "are_ascending" ["words"] phi_are_ascending := by
  have hN0 : (["words", "low", "high"] : List Str).Nodup := by decide +kernel
  refine fnn (st := s_are_ascending) (N := ["words", "low", "high"]) (m := m_are_ascending) (k := 0) FD sc_are_ascending hm (fun _ _ _ _ _ _ us hl => match us, hl with | [_], _ => rfl) fun cdv A outer s H E hr hG0 => ?_
  have hu : (A.deeper (envOfC "are_ascending" (defScope s_are_ascending) s.heap.objs.size (He.ga K "are_ascending") cdv)).units + 66 < cLine := by have := hr.un; omega
  have hG : (A.deeper (envOfC "are_ascending" (defScope s_are_ascending) s.heap.objs.size (He.ga K "are_ascending") cdv)).guards = some [] := hG0
  exact (sm_one (sm_ret (em_callB (call_allM rfl rfl) f_allB (z 7 _ rfl) (am_cons (em_lc [("low", 1), ("high", 2)] rfl hN0 (im_zip (z 8 _ rfl) (am_cons (em_var 0) (am_cons (em_slice (em_var 0) (om_some em_int) om_none) am_nil))) (blkOk_by rfl) (fun _ _ _ _ _ => (gc_tup rfl (gcs_cons (gc_name 1 hN0) (gcs_cons (gc_name 2 hN0) gcs_nil)))) (fun _ _ _ _ _ => sm_yes) (fun _ _ _ _ _ => (em_cmp op_ltM f_ord (em_var 1) (em_var 2) rfl))) am_nil))))
abbrev m_is_sized_word : MS := PB.m_is_sized_word tb
abbrev phi_is_sized_word : FnD := PB.phi_is_sized_word tb
abbrev s_is_sized_word : Stmt := top 12
theorem sc_is_sized_word : FnScope ["value", "largest"] ["value", "largest"] (defScope s_is_sized_word) := ⟨rfl, rfl, rfl, by decide +kernel, rfl, by decide +kernel, by decide +kernel⟩
theorem d_is_sized_word (hF : Facts (GK K mg) tb) (hN : Named (GK K mg) tb) (hC : Catch (GK K mg) (catL askc.exms)) (hNF : ∀ x, NotF (GK K mg) x (nfL askc.nfs x)) (z : Z mg) (gl : Gs mg) (gi : Gi mg) (h_is_row : FnN P w K mg base 1 "is_row" ["value"] phi_is_row) (h_is_word : FnN P w K mg base 1 "is_word" ["value"] phi_is_word) (h_is_integer_within : FnN P w K mg base 2 "is_integer_within" ["value", "low", "high"] phi_is_integer_within) {fd : FuncData} (FD : FunD K "_is_sized_word" "_is_sized_word" (defArgs s_is_sized_word) (defBody s_is_sized_word) (defScope s_is_sized_word) [] [] (He.ga K "_is_sized_word") fd) (hm : mg "_is_sized_word" = some (.ref (He.ga K "_is_sized_word"))) : FnN P w K mg base (2 + 1) "_is_sized_word" ["value", "largest"] phi_is_sized_word := by
  have hN0 : (["value", "largest"] : List Str).Nodup := by decide +kernel
  refine fnn (st := s_is_sized_word) (N := ["value", "largest"]) (m := m_is_sized_word) (k := 2) FD sc_is_sized_word hm (fun _ _ _ _ _ _ us hl => match us, hl with | [_, _], _ => rfl) fun cdv A outer s H E hr hG0 => ?_
  have hu : (A.deeper (envOfC "_is_sized_word" (defScope s_is_sized_word) s.heap.objs.size (He.ga K "_is_sized_word") cdv)).units + 66 < cLine := by have := hr.un; omega
  have hG : (A.deeper (envOfC "_is_sized_word" (defScope s_is_sized_word) s.heap.objs.size (He.ga K "_is_sized_word") cdv)).guards = some [] := hG0
  exact (sm_cons (sm_if (L2.PW.pt (wm_or (tm_not (tm_val (em_callN h_is_row (hr.mono (by decide)) hG (takes_of rfl rfl rfl rfl) (am_cons (em_var 0) am_nil)))) (wm_or1 (tm_cmp (op_neN rfl hu) f_ne (em_callB (call_lenM rfl) f_len (z 6 _ rfl) (am_cons (em_var 0) am_nil)) em_int rfl)))) (sm_one (sm_ret em_bl)) sm_nil) (sm_one (sm_ret (em_and (em_callN h_is_word (hr.mono (by decide)) hG (takes_of rfl rfl rfl rfl) (am_cons (em_ix (em_var 0) em_int) am_nil)) (em_one (em_callN h_is_integer_within (hr.mono (by decide)) hG (takes_of rfl rfl rfl rfl) (am_cons (em_ix (em_var 0) em_int) (am_cons em_int (am_cons (em_var 1) am_nil)))))))))
abbrev b_product_of_1 : MS := PB.b_product_of_1 tb
abbrev m_product_of : MS := PB.m_product_of tb
abbrev phi_product_of : FnD := PB.phi_product_of tb
abbrev s_product_of : Stmt := top 8
theorem sc_product_of : FnScope ["numbers", "found", "number"] ["numbers"] (defScope s_product_of) := ⟨rfl, rfl, rfl, by decide +kernel, rfl, by decide +kernel, by decide +kernel⟩
theorem d_product_of (hF : Facts (GK K mg) tb) (hN : Named (GK K mg) tb) (hC : Catch (GK K mg) (catL askc.exms)) (hNF : ∀ x, NotF (GK K mg) x (nfL askc.nfs x)) (z : Z mg) (gl : Gs mg) (gi : Gi mg) {fd : FuncData} (FD : FunD K "product_of" "product_of" (defArgs s_product_of) (defBody s_product_of) (defScope s_product_of) [] [] (He.ga K "product_of") fd) (hm : mg "product_of" = some (.ref (He.ga K "product_of"))) : FnN P w K mg base (0 + 1) "product_of" ["numbers"] phi_product_of := by
  have hN0 : (["numbers", "found", "number"] : List Str).Nodup := by decide +kernel
  refine fnn (st := s_product_of) (N := ["numbers", "found", "number"]) (m := m_product_of) (k := 0) FD sc_product_of hm (fun _ _ _ _ _ _ us hl => match us, hl with | [_], _ => rfl) fun cdv A outer s H E hr hG0 => ?_
  have hu : (A.deeper (envOfC "product_of" (defScope s_product_of) s.heap.objs.size (He.ga K "product_of") cdv)).units + 66 < cLine := by have := hr.un; omega
  have hG : (A.deeper (envOfC "product_of" (defScope s_product_of) s.heap.objs.size (He.ga K "product_of") cdv)).guards = some [] := hG0
  exact (sm_cons (sm_set 1 hN0 em_int) (sm_cons (sm_for PassesOwn.leaving rfl (im_seq (em_var 0)) (gm_name 2 hN0) (sm_one (sm_set 1 hN0 (em_mul (em_var 1) (em_var 2))))) (sm_one (sm_ret (em_var 1)))))
abbrev m_are_sizes : MS := PB.m_are_sizes tb
abbrev phi_are_sizes : FnD := PB.phi_are_sizes tb
abbrev s_are_sizes : Stmt := top 7
theorem sc_are_sizes : FnScope ["value", "most", "largest", "many", "pair"] ["value", "most", "largest", "many"] (defScope s_are_sizes) := ⟨rfl, rfl, rfl, by decide +kernel, rfl, by decide +kernel, by decide +kernel⟩
theorem d_are_sizes (hF : Facts (GK K mg) tb) (hN : Named (GK K mg) tb) (hC : Catch (GK K mg) (catL askc.exms)) (hNF : ∀ x, NotF (GK K mg) x (nfL askc.nfs x)) (z : Z mg) (gl : Gs mg) (gi : Gi mg) (h_is_row : FnN P w K mg base 1 "is_row" ["value"] phi_is_row) (h_is_sized_word : FnN P w K mg base 3 "_is_sized_word" ["value", "largest"] phi_is_sized_word) (h_are_ascending : FnN P w K mg base 1 "are_ascending" ["words"] phi_are_ascending) (h_product_of : FnN P w K mg base 1 "product_of" ["numbers"] phi_product_of) {fd : FuncData} (FD : FunD K "are_sizes" "are_sizes" (defArgs s_are_sizes) (defBody s_are_sizes) (defScope s_are_sizes) [] [] (He.ga K "are_sizes") fd) (hm : mg "are_sizes" = some (.ref (He.ga K "are_sizes"))) : FnN P w K mg base (3 + 1) "are_sizes" ["value", "most", "largest", "many"] phi_are_sizes := by
  have hN0 : (["value", "most", "largest", "many", "pair"] : List Str).Nodup := by decide +kernel
  refine fnn (st := s_are_sizes) (N := ["value", "most", "largest", "many", "pair"]) (m := m_are_sizes) (k := 3) FD sc_are_sizes hm (fun _ _ _ _ _ _ us hl => match us, hl with | [_, _, _, _], _ => rfl) fun cdv A outer s H E hr hG0 => ?_
  have hu : (A.deeper (envOfC "are_sizes" (defScope s_are_sizes) s.heap.objs.size (He.ga K "are_sizes") cdv)).units + 66 < cLine := by have := hr.un; omega
  have hG : (A.deeper (envOfC "are_sizes" (defScope s_are_sizes) s.heap.objs.size (He.ga K "are_sizes") cdv)).guards = some [] := hG0
  exact (sm_cons (sm_if (L2.PW.pt (wm_or (tm_not (tm_val (em_callN h_is_row (hr.mono (by decide)) hG (takes_of rfl rfl rfl rfl) (am_cons (em_var 0) am_nil)))) (wm_or1 (tm_cmp op_gtM f_ord (em_callB (call_lenM rfl) f_len (z 6 _ rfl) (am_cons (em_var 0) am_nil)) (em_var 1) rfl)))) (sm_one (sm_ret em_bl)) sm_nil) (sm_cons (sm_if (tm_not (tm_val (em_callB (call_allM rfl rfl) f_allB (z 7 _ rfl) (am_cons (em_lc [("pair", 4)] rfl hN0 (im_seq (em_var 0)) (blkOk_by rfl) (fun _ _ _ _ _ => (gc_name 4 hN0)) (fun _ _ _ _ _ => sm_yes) (fun _ _ _ _ _ => (em_callN h_is_sized_word (hr.mono (by decide)) hG takes_none5 (am_cons (em_var 4) (am_cons (em_var 2) am_nil))))) am_nil)))) (sm_one (sm_ret em_bl)) sm_nil) (sm_one (sm_ret (em_and (em_callN h_are_ascending (hr.mono (by decide)) hG (takes_of rfl rfl rfl rfl) (am_cons (em_lc [("pair", 4)] rfl hN0 (im_seq (em_var 0)) (blkOk_by rfl) (fun _ _ _ _ _ => (gc_name 4 hN0)) (fun _ _ _ _ _ => sm_yes) (fun _ _ _ _ _ => (em_ix (em_var 4) em_int))) am_nil)) (em_one (em_cmp op_leM f_ord (em_callN h_product_of (hr.mono (by decide)) hG (takes_of rfl rfl rfl rfl) (am_cons (em_lc [("pair", 4)] rfl hN0 (im_seq (em_var 0)) (blkOk_by rfl) (fun _ _ _ _ _ => (gc_name 4 hN0)) (fun _ _ _ _ _ => sm_yes) (fun _ _ _ _ _ => (em_ix (em_var 4) em_int))) am_nil)) (em_var 3) rfl)))))))
abbrev b_combined_1 : MS := PB.b_combined_1 tb
abbrev m_combined : MS := PB.m_combined tb
abbrev phi_combined : FnD := PB.phi_combined tb
abbrev s_combined : Stmt := top 9
theorem sc_combined : FnScope ["rows", "found", "row", "members", "member"] ["rows"] (defScope s_combined) := ⟨rfl, rfl, rfl, by decide +kernel, rfl, by decide +kernel, by decide +kernel⟩
theorem d_combined (hF : Facts (GK K mg) tb) (hN : Named (GK K mg) tb) (hC : Catch (GK K mg) (catL askc.exms)) (hNF : ∀ x, NotF (GK K mg) x (nfL askc.nfs x)) (z : Z mg) (gl : Gs mg) (gi : Gi mg) {fd : FuncData} (FD : FunD K "combined" "combined" (defArgs s_combined) (defBody s_combined) (defScope s_combined) [] [] (He.ga K "combined") fd) (hm : mg "combined" = some (.ref (He.ga K "combined"))) : FnN P w K mg base (0 + 1) "combined" ["rows"] phi_combined := by
  have hN0 : (["rows", "found", "row", "members", "member"] : List Str).Nodup := by decide +kernel
  refine fnn (st := s_combined) (N := ["rows", "found", "row", "members", "member"]) (m := m_combined) (k := 0) FD sc_combined hm (fun _ _ _ _ _ _ us hl => match us, hl with | [_], _ => rfl) fun cdv A outer s H E hr hG0 => ?_
  have hu : (A.deeper (envOfC "combined" (defScope s_combined) s.heap.objs.size (He.ga K "combined") cdv)).units + 66 < cLine := by have := hr.un; omega
  have hG : (A.deeper (envOfC "combined" (defScope s_combined) s.heap.objs.size (He.ga K "combined") cdv)).guards = some [] := hG0
  exact (sm_cons (sm_set 1 hN0 (em_lst (am_cons (em_tup am_nil) am_nil))) (sm_cons (sm_for PassesOwn.leaving rfl (im_seq (em_var 0)) (gm_name 2 hN0) (sm_one (sm_setLc2 1 [("members", 3), ("member", 4)] [4] rfl hN0 rfl rfl rfl (im_seq (em_var 1)) (blkOk_by rfl) (fun _ _ _ _ _ => (gc_name 3 hN0)) (fun _ _ _ _ _ => (im_seq (em_var 2))) (fun _ _ _ _ _ => (gc_name 4 hN0)) (fun _ _ _ _ _ => (em_add (em_var 3) (em_tup (am_cons (em_var 4) am_nil))))))) (sm_one (sm_ret (em_var 1)))))
abbrev b_place_number_1 : MS := PB.b_place_number_1 tb
abbrev m_place_number : MS := PB.m_place_number tb
abbrev phi_place_number : FnD := PB.phi_place_number tb
abbrev s_place_number : Stmt := top 10
theorem sc_place_number : FnScope ["pairs", "place", "number", "_", "size", "at"] ["pairs", "place"] (defScope s_place_number) := ⟨rfl, rfl, rfl, by decide +kernel, rfl, by decide +kernel, by decide +kernel⟩
theorem d_place_number (hF : Facts (GK K mg) tb) (hN : Named (GK K mg) tb) (hC : Catch (GK K mg) (catL askc.exms)) (hNF : ∀ x, NotF (GK K mg) x (nfL askc.nfs x)) (z : Z mg) (gl : Gs mg) (gi : Gi mg) {fd : FuncData} (FD : FunD K "place_number" "place_number" (defArgs s_place_number) (defBody s_place_number) (defScope s_place_number) [] [] (He.ga K "place_number") fd) (hm : mg "place_number" = some (.ref (He.ga K "place_number"))) : FnN P w K mg base (0 + 1) "place_number" ["pairs", "place"] phi_place_number := by
  have hN0 : (["pairs", "place", "number", "_", "size", "at"] : List Str).Nodup := by decide +kernel
  refine fnn (st := s_place_number) (N := ["pairs", "place", "number", "_", "size", "at"]) (m := m_place_number) (k := 0) FD sc_place_number hm (fun _ _ _ _ _ _ us hl => match us, hl with | [_, _], _ => rfl) fun cdv A outer s H E hr hG0 => ?_
  have hu : (A.deeper (envOfC "place_number" (defScope s_place_number) s.heap.objs.size (He.ga K "place_number") cdv)).units + 66 < cLine := by have := hr.un; omega
  have hG : (A.deeper (envOfC "place_number" (defScope s_place_number) s.heap.objs.size (He.ga K "place_number") cdv)).guards = some [] := hG0
  exact (sm_cons (sm_set 2 hN0 em_int) (sm_cons (sm_for PassesOwn.leaving rfl (im_zip (z 8 _ rfl) (am_cons (em_var 0) (am_cons (em_var 1) am_nil))) (gm_tup rfl (gms_cons (gm_tup rfl (gms_cons (gm_name 3 hN0) (gms_cons (gm_name 4 hN0) gms_nil))) (gms_cons (gm_name 5 hN0) gms_nil))) (sm_one (sm_set 2 hN0 (em_add (em_mul (em_var 2) (em_var 4)) (em_var 5))))) (sm_one (sm_ret (em_var 2)))))
abbrev m_as_tuples : MS := PB.m_as_tuples tb
abbrev phi_as_tuples : FnD := PB.phi_as_tuples tb
abbrev s_as_tuples : Stmt := top 11
theorem sc_as_tuples : FnScope ["row", "part"] ["row"] (defScope s_as_tuples) := ⟨rfl, rfl, rfl, by decide +kernel, rfl, by decide +kernel, by decide +kernel⟩
theorem d_as_tuples (hF : Facts (GK K mg) tb) (hN : Named (GK K mg) tb) (hC : Catch (GK K mg) (catL askc.exms)) (hNF : ∀ x, NotF (GK K mg) x (nfL askc.nfs x)) (z : Z mg) (gl : Gs mg) (gi : Gi mg) (h_is_row : FnN P w K mg base 1 "is_row" ["value"] phi_is_row) {fd : FuncData} (FD : FunD K "as_tuples" "as_tuples" (defArgs s_as_tuples) (defBody s_as_tuples) (defScope s_as_tuples) [] [] (He.ga K "as_tuples") fd) (hm : mg "as_tuples" = some (.ref (He.ga K "as_tuples"))) : FnN P w K mg base (1 + 1) "as_tuples" ["row"] phi_as_tuples := by
  have hN0 : (["row", "part"] : List Str).Nodup := by decide +kernel
  refine fnn (st := s_as_tuples) (N := ["row", "part"]) (m := m_as_tuples) (k := 1) FD sc_as_tuples hm (fun _ _ _ _ _ _ us hl => match us, hl with | [_], _ => rfl) fun cdv A outer s H E hr hG0 => ?_
  have hu : (A.deeper (envOfC "as_tuples" (defScope s_as_tuples) s.heap.objs.size (He.ga K "as_tuples") cdv)).units + 66 < cLine := by have := hr.un; omega
  have hG : (A.deeper (envOfC "as_tuples" (defScope s_as_tuples) s.heap.objs.size (He.ga K "as_tuples") cdv)).guards = some [] := hG0
  exact (sm_one (sm_ret (em_callTy (call_tupleM rfl) f_tuple (z 3 _ rfl) (am_cons (em_lc [("part", 1)] rfl hN0 (im_seq (em_var 0)) (blkOk_by rfl) (fun _ _ _ _ _ => (gc_name 1 hN0)) (fun _ _ _ _ _ => sm_yes) (fun _ _ _ _ _ => (em_if (tm_val (em_callN h_is_row (hr.mono (by decide)) hG takes_none5 (am_cons (em_var 1) am_nil))) (em_callTy (call_tupleM rfl) f_tuple (z 3 _ rfl) (am_cons (em_var 1) am_nil)) (em_var 1)))) am_nil))))
abbrev m_are_cells : MS := PB.m_are_cells tb
abbrev phi_are_cells : FnD := PB.phi_are_cells tb
abbrev s_are_cells : Stmt := top 26
theorem sc_are_cells : FnScope ["cells", "sides", "_", "size", "cell"] ["cells", "sides"] (defScope s_are_cells) := ⟨rfl, rfl, rfl, by decide +kernel, rfl, by decide +kernel, by decide +kernel⟩
theorem d_are_cells (hF : Facts (GK K mg) tb) (hN : Named (GK K mg) tb) (hC : Catch (GK K mg) (catL askc.exms)) (hNF : ∀ x, NotF (GK K mg) x (nfL askc.nfs x)) (z : Z mg) (gl : Gs mg) (gi : Gi mg) (h_is_row : FnN P w K mg base 1 "is_row" ["value"] phi_is_row) (h_product_of : FnN P w K mg base 1 "product_of" ["numbers"] phi_product_of) (h_is_integer : FnN P w K mg base 1 "is_integer" ["value"] phi_is_integer) {fd : FuncData} (FD : FunD K "_are_cells" "_are_cells" (defArgs s_are_cells) (defBody s_are_cells) (defScope s_are_cells) [] [] (He.ga K "_are_cells") fd) (hm : mg "_are_cells" = some (.ref (He.ga K "_are_cells"))) : FnN P w K mg base (1 + 1) "_are_cells" ["cells", "sides"] phi_are_cells := by
  have hN0 : (["cells", "sides", "_", "size", "cell"] : List Str).Nodup := by decide +kernel
  refine fnn (st := s_are_cells) (N := ["cells", "sides", "_", "size", "cell"]) (m := m_are_cells) (k := 1) FD sc_are_cells hm (fun _ _ _ _ _ _ us hl => match us, hl with | [_, _], _ => rfl) fun cdv A outer s H E hr hG0 => ?_
  have hu : (A.deeper (envOfC "_are_cells" (defScope s_are_cells) s.heap.objs.size (He.ga K "_are_cells") cdv)).units + 66 < cLine := by have := hr.un; omega
  have hG : (A.deeper (envOfC "_are_cells" (defScope s_are_cells) s.heap.objs.size (He.ga K "_are_cells") cdv)).guards = some [] := hG0
  exact (sm_cons (sm_if (L2.PW.pt (wm_or (tm_not (tm_val (em_callN h_is_row (hr.mono (by decide)) hG (takes_of rfl rfl rfl rfl) (am_cons (em_var 0) am_nil)))) (wm_or1 (tm_cmp (op_neN rfl hu) f_ne (em_callB (call_lenM rfl) f_len (z 6 _ rfl) (am_cons (em_var 0) am_nil)) (em_callN h_product_of (hr.mono (by decide)) hG (takes_of rfl rfl rfl rfl) (am_cons (em_lc [("_", 2), ("size", 3)] rfl hN0 (im_seq (em_var 1)) (blkOk_by rfl) (fun _ _ _ _ _ => (gc_tup rfl (gcs_cons (gc_name 2 hN0) (gcs_cons (gc_name 3 hN0) gcs_nil)))) (fun _ _ _ _ _ => sm_yes) (fun _ _ _ _ _ => (em_var 3))) am_nil)) rfl)))) (sm_one (sm_ret em_bl)) sm_nil) (sm_one (sm_ret (em_callB (call_allM rfl rfl) f_allB (z 7 _ rfl) (am_cons (em_lc [("cell", 4)] rfl hN0 (im_seq (em_var 0)) (blkOk_by rfl) (fun _ _ _ _ _ => (gc_name 4 hN0)) (fun _ _ _ _ _ => sm_yes) (fun _ _ _ _ _ => (em_callN h_is_integer (hr.mono (by decide)) hG takes_none5 (am_cons (em_var 4) am_nil)))) am_nil)))))
abbrev m_is_sides : MS := PB.m_is_sides tb
abbrev phi_is_sides : FnD := PB.phi_is_sides tb
abbrev s_is_sides : Stmt := top 25
theorem sc_is_sides : FnScope ["sides"] ["sides"] (defScope s_is_sides) := ⟨rfl, rfl, rfl, by decide +kernel, rfl, by decide +kernel, by decide +kernel⟩
theorem d_is_sides (hF : Facts (GK K mg) tb) (hN : Named (GK K mg) tb) (hC : Catch (GK K mg) (catL askc.exms)) (hNF : ∀ x, NotF (GK K mg) x (nfL askc.nfs x)) (z : Z mg) (gl : Gs mg) (gi : Gi mg) (h_are_sizes : FnN P w K mg base 4 "are_sizes" ["value", "most", "largest", "many"] phi_are_sizes) {fd : FuncData} (FD : FunD K "is_sides" "is_sides" (defArgs s_is_sides) (defBody s_is_sides) (defScope s_is_sides) [] [] (He.ga K "is_sides") fd) (hm : mg "is_sides" = some (.ref (He.ga K "is_sides"))) : FnN P w K mg base (4 + 1) "is_sides" ["sides"] phi_is_sides := by
  have hN0 : (["sides"] : List Str).Nodup := by decide +kernel
  refine fnn (st := s_is_sides) (N := ["sides"]) (m := m_is_sides) (k := 4) FD sc_is_sides hm (fun _ _ _ _ _ _ us hl => match us, hl with | [_], _ => rfl) fun cdv A outer s H E hr hG0 => ?_
  have hu : (A.deeper (envOfC "is_sides" (defScope s_is_sides) s.heap.objs.size (He.ga K "is_sides") cdv)).units + 66 < cLine := by have := hr.un; omega
  have hG : (A.deeper (envOfC "is_sides" (defScope s_is_sides) s.heap.objs.size (He.ga K "is_sides") cdv)).guards = some [] := hG0
  exact (sm_one (sm_ret (em_callN h_are_sizes (hr.mono (by decide)) hG (takes_of rfl rfl rfl rfl) (am_cons (em_var 0) (am_cons (em_gintE (gi 3 _ _ rfl)) (am_cons (em_gintE (gi 2 _ _ rfl)) (am_cons (em_gintE (gi 1 _ _ rfl)) am_nil)))))))
abbrev m_Array_init : MS := PB.m_Array_init tb
abbrev phi_Array_init : FnD := PB.phi_Array_init tb
abbrev s_Array_init : Stmt := DD.inClass (top 23) 0
theorem sc_Array_init : FnScope ["self", "sides", "cells"] ["self", "sides", "cells"] (defScope s_Array_init) := ⟨rfl, rfl, rfl, by decide +kernel, rfl, by decide +kernel, by decide +kernel⟩
theorem d_Array_init (hF : Facts (GK K mg) tb) (hN : Named (GK K mg) tb) (hC : Catch (GK K mg) (catL askc.exms)) (hNF : ∀ x, NotF (GK K mg) x (nfL askc.nfs x)) (z : Z mg) (gl : Gs mg) (gi : Gi mg) (h_is_sides : FnN P w K mg base 5 "is_sides" ["sides"] phi_is_sides) (x_InvalidSides : XiN P w K mg base "InvalidSides" ["sides"]) (h_are_cells : FnN P w K mg base 2 "_are_cells" ["cells", "sides"] phi_are_cells) (x_InvalidCells : XiN P w K mg base "InvalidCells" ["cells"]) (h_as_tuples : FnN P w K mg base 2 "as_tuples" ["row"] phi_as_tuples) {fd : FuncData} (FD : FunD K "__init__" "Array.__init__" (defArgs s_Array_init) (defBody s_Array_init) (defScope s_Array_init) [] [] (He.ma K (He.ga K "Array") "__init__") fd) : FnG P w K mg base (5 + 1) (He.ma K (He.ga K "Array") "__init__") fd ["self", "sides", "cells"] phi_Array_init ∧ Binds K fd ["self", "sides", "cells"] [] := by
  have hN0 : (["self", "sides", "cells"] : List Str).Nodup := by decide +kernel
  refine fng_meth (c := "Array") (st := s_Array_init) (N := ["self", "sides", "cells"]) (b := m_Array_init) (k := 5) FD sc_Array_init (fun _ _ _ _ _ _ us hl => match us, hl with | [_, _, _], _ => rfl) fun cdv A outer s H E hr hG0 => ?_
  have hu : (A.deeper (envOfC "Array.__init__" (defScope s_Array_init) s.heap.objs.size (He.ma K (He.ga K "Array") "__init__") cdv)).units + 66 < cLine := by have := hr.un; omega
  have hG : (A.deeper (envOfC "Array.__init__" (defScope s_Array_init) s.heap.objs.size (He.ma K (He.ga K "Array") "__init__") cdv)).guards = some [] := hG0
  exact (sm_cons (sm_if (tm_not (tm_val (em_callN h_is_sides (hr.mono (by decide)) hG (takes_of rfl rfl rfl rfl) (am_cons (em_var 1) am_nil)))) (sm_one (sm_raise x_InvalidSides (hr.mono (by decide)) (takes_of rfl rfl rfl rfl) rfl (am_cons (em_var 1) am_nil))) sm_nil) (sm_cons (sm_if (tm_not (tm_val (em_callN h_are_cells (hr.mono (by decide)) hG (takes_of rfl rfl rfl rfl) (am_cons (em_var 2) (am_cons (em_var 1) am_nil))))) (sm_one (sm_raise x_InvalidCells (hr.mono (by decide)) (takes_of rfl rfl rfl rfl) rfl (am_cons (em_var 2) am_nil))) sm_nil) (sm_cons (sm_fld hF (em_callN h_as_tuples (hr.mono (by decide)) hG (takes_of rfl rfl rfl rfl) (am_cons (em_var 1) am_nil)) (em_var 0)) (sm_one (sm_fld hF (em_callTy (call_tupleM rfl) f_tuple (z 3 _ rfl) (am_cons (em_var 2) am_nil)) (em_var 0))))))
abbrev m_Array_cell : MS := PB.m_Array_cell tb
abbrev phi_Array_cell : FnD := PB.phi_Array_cell tb
abbrev s_Array_cell : Stmt := DD.inClass (top 23) 1
theorem sc_Array_cell : FnScope ["self", "place"] ["self", "place"] (defScope s_Array_cell) := ⟨rfl, rfl, rfl, by decide +kernel, rfl, by decide +kernel, by decide +kernel⟩
theorem d_Array_cell (hF : Facts (GK K mg) tb) (hN : Named (GK K mg) tb) (hC : Catch (GK K mg) (catL askc.exms)) (hNF : ∀ x, NotF (GK K mg) x (nfL askc.nfs x)) (z : Z mg) (gl : Gs mg) (gi : Gi mg) (h_place_number : FnN P w K mg base 1 "place_number" ["pairs", "place"] phi_place_number) {fd : FuncData} (FD : FunD K "cell" "Array.cell" (defArgs s_Array_cell) (defBody s_Array_cell) (defScope s_Array_cell) [] [] (He.ma K (He.ga K "Array") "cell") fd) : FnG P w K mg base (1 + 1) (He.ma K (He.ga K "Array") "cell") fd ["self", "place"] phi_Array_cell ∧ Binds K fd ["self", "place"] [] := by
  have hN0 : (["self", "place"] : List Str).Nodup := by decide +kernel
  refine fng_meth (c := "Array") (st := s_Array_cell) (N := ["self", "place"]) (b := m_Array_cell) (k := 1) FD sc_Array_cell (fun _ _ _ _ _ _ us hl => match us, hl with | [_, _], _ => rfl) fun cdv A outer s H E hr hG0 => ?_
  have hu : (A.deeper (envOfC "Array.cell" (defScope s_Array_cell) s.heap.objs.size (He.ma K (He.ga K "Array") "cell") cdv)).units + 66 < cLine := by have := hr.un; omega
  have hG : (A.deeper (envOfC "Array.cell" (defScope s_Array_cell) s.heap.objs.size (He.ma K (He.ga K "Array") "cell") cdv)).guards = some [] := hG0
  exact (sm_one (sm_ret (em_ix (em_fld hF (em_var 0)) (em_callN h_place_number (hr.mono (by decide)) hG (takes_of rfl rfl rfl rfl) (am_cons (em_fld hF (em_var 0)) (am_cons (em_var 1) am_nil))))))
abbrev m_Array_eq : MS := PB.m_Array_eq tb
abbrev phi_Array_eq : FnD := PB.phi_Array_eq tb
abbrev s_Array_eq : Stmt := DD.inClass (top 23) 2
theorem sc_Array_eq : FnScope ["self", "other"] ["self", "other"] (defScope s_Array_eq) := ⟨rfl, rfl, rfl, by decide +kernel, rfl, by decide +kernel, by decide +kernel⟩
theorem d_Array_eq (hF : Facts (GK K mg) tb) (hN : Named (GK K mg) tb) (hC : Catch (GK K mg) (catL askc.exms)) (hNF : ∀ x, NotF (GK K mg) x (nfL askc.nfs x)) (z : Z mg) (gl : Gs mg) (gi : Gi mg) {fd : FuncData} (FD : FunD K "__eq__" "Array.__eq__" (defArgs s_Array_eq) (defBody s_Array_eq) (defScope s_Array_eq) [] [] (He.ma K (He.ga K "Array") "__eq__") fd) : FnG P w K mg base (0 + 1) (He.ma K (He.ga K "Array") "__eq__") fd ["self", "other"] phi_Array_eq ∧ Binds K fd ["self", "other"] [] := by
  have hN0 : (["self", "other"] : List Str).Nodup := by decide +kernel
  refine fng_meth (c := "Array") (st := s_Array_eq) (N := ["self", "other"]) (b := m_Array_eq) (k := 0) FD sc_Array_eq (fun _ _ _ _ _ _ us hl => match us, hl with | [_, _], _ => rfl) fun cdv A outer s H E hr hG0 => ?_
  have hu : (A.deeper (envOfC "Array.__eq__" (defScope s_Array_eq) s.heap.objs.size (He.ma K (He.ga K "Array") "__eq__") cdv)).units + 66 < cLine := by have := hr.un; omega
  have hG : (A.deeper (envOfC "Array.__eq__" (defScope s_Array_eq) s.heap.objs.size (He.ma K (He.ga K "Array") "__eq__") cdv)).guards = some [] := hG0
  exact (sm_one (sm_ret (em_and (em_callB (call_isiB rfl) (f_isiB hF hN) (z 1 _ rfl) (am_cons (em_var 1) (am_cons (em_globE (gl 0 _ rfl)) am_nil))) (em_and (em_cmp (op_eqN rfl hu) f_eq (em_fld hF (em_var 0)) (em_fld hF (em_var 1)) rfl) (em_one (em_cmp (op_eqN rfl hu) f_eq (em_fld hF (em_var 0)) (em_fld hF (em_var 1)) rfl))))))
abbrev m_places : MS := PB.m_places tb
abbrev phi_places : FnD := PB.phi_places tb
abbrev s_places : Stmt := top 24
theorem sc_places : FnScope ["sides", "_", "size"] ["sides"] (defScope s_places) := ⟨rfl, rfl, rfl, by decide +kernel, rfl, by decide +kernel, by decide +kernel⟩
theorem d_places (hF : Facts (GK K mg) tb) (hN : Named (GK K mg) tb) (hC : Catch (GK K mg) (catL askc.exms)) (hNF : ∀ x, NotF (GK K mg) x (nfL askc.nfs x)) (z : Z mg) (gl : Gs mg) (gi : Gi mg) (h_combined : FnN P w K mg base 1 "combined" ["rows"] phi_combined) {fd : FuncData} (FD : FunD K "places" "places" (defArgs s_places) (defBody s_places) (defScope s_places) [] [] (He.ga K "places") fd) (hm : mg "places" = some (.ref (He.ga K "places"))) : FnN P w K mg base (1 + 1) "places" ["sides"] phi_places := by
  have hN0 : (["sides", "_", "size"] : List Str).Nodup := by decide +kernel
  refine fnn (st := s_places) (N := ["sides", "_", "size"]) (m := m_places) (k := 1) FD sc_places hm (fun _ _ _ _ _ _ us hl => match us, hl with | [_], _ => rfl) fun cdv A outer s H E hr hG0 => ?_
  have hu : (A.deeper (envOfC "places" (defScope s_places) s.heap.objs.size (He.ga K "places") cdv)).units + 66 < cLine := by have := hr.un; omega
  have hG : (A.deeper (envOfC "places" (defScope s_places) s.heap.objs.size (He.ga K "places") cdv)).guards = some [] := hG0
  exact (sm_one (sm_ret (em_callTy (call_tupleM rfl) f_tuple (z 3 _ rfl) (am_cons (em_callN h_combined (hr.mono (by decide)) hG (takes_of rfl rfl rfl rfl) (am_cons (em_lc [("_", 1), ("size", 2)] rfl hN0 (im_seq (em_var 0)) (blkOk_by rfl) (fun _ _ _ _ _ => (gc_tup rfl (gcs_cons (gc_name 1 hN0) (gcs_cons (gc_name 2 hN0) gcs_nil)))) (fun _ _ _ _ _ => sm_yes) (fun _ _ _ _ _ => (em_tupRng rfl (z 3 _ rfl) (z 9 _ rfl) (em_var 2)))) am_nil)) am_nil))))
def b_ldraws_1 : MS := (seqS (asgS (mVar 5) (nmT 3)) (seqS (ifS (mTst (mOp2 (fOrd pGt qGt) (mOpA fLen (mCons (mVar 0) mNil)) (retM (.int 0)))) (seqS (asgS (mOp2 fMod (mVar 5) (mOpA fLen (mCons (mVar 0) mNil))) (nmT 6)) (seqS (asgS (mOpA fInt (mCons (mOp2 fIx (mVar 0) (mVar 6)) mNil)) (nmT 3)) (ifS (mAnd (mTst (mOp2 (fOrd pGe qGe) (mVar 3) (mOp2 fPow (retM (.int 10)) (retM (.int 18))))) (mTst (mOp2 (fOrd pGt qGt) (mOp2 fIx (mVar 2) (mVar 6)) (retM (.int 0))))) (seqS (exprS (mMeth isL fAppend (mVar 4) (mCons (mOp2 fMod (mOpA fInt (mCons (mOp2 fIx (mVar 2) (mVar 6)) mNil)) (retM (.int 1000003))) mNil))) (seqS (setS (mOp2 fDiv (mOpA fInt (mCons (mOp2 fIx (mVar 2) (mVar 6)) mNil)) (retM (.int 1000003))) (mVar 2) (mVar 6)) (fS .ct))) nxS))) nxS) (seqS (asgS (mOp2 fMod (mOpA fInt (mCons (mOp2 fAdd (mOp2 fAdd (mOp2 fMul (mVar 3) (retM (.int 48271))) (mOp2 fMul (mVar 5) (retM (.int 69621)))) (retM (.int 11))) mNil)) (retM (.int 2147483647))) (nmT 7)) (seqS (asgS (mOp2 fMod (mOpA fInt (mCons (mOp2 fAdd (mOp2 fDiv (mOp2 fMul (mVar 7) (mVar 7)) (retM (.int 4096))) (mVar 7)) mNil)) (retM (.int 2147483629))) (nmT 7)) (exprS (mMeth isL fAppend (mVar 4) (mCons (mOp2 fMod (mOpA fInt (mCons (mOp2 fAdd (mOp2 fDiv (mOp2 fMul (mVar 7) (mVar 7)) (retM (.int 4096))) (mOp2 fMul (mVar 5) (retM (.int 7919)))) mNil)) (retM (.int 2147483629))) mNil)))))))
def m_ldraws : MS := (seqS (asgS (compM [3] (mSeq (mVar 0)) (nmT 3) yesM (mOpA fAbs (mCons (mOpA fInt (mCons (mVar 3) mNil)) mNil))) (nmT 2)) (seqS (asgS (mOpA fLst mNil) (nmT 4)) (seqS (forS (mRng1 (mCons (mVar 1) mNil)) (nmT 5) b_ldraws_1) (retS (mVar 4)))))
def phi_ldraws : FnD := fnM 2 8 m_ldraws
abbrev s_ldraws : Stmt := top 28
theorem sc_ldraws : FnScope ["script", "many", "rests", "cell", "draws", "k", "at", "mixed"] ["script", "many"] (defScope s_ldraws) := ⟨rfl, rfl, rfl, by decide +kernel, rfl, by decide +kernel, by decide +kernel⟩
theorem d_ldraws (hF : Facts (GK K mg) tb) (hN : Named (GK K mg) tb) (hC : Catch (GK K mg) (catL askc.exms)) (hNF : ∀ x, NotF (GK K mg) x (nfL askc.nfs x)) (z : Z mg) (gl : Gs mg) (gi : Gi mg) {fd : FuncData} (FD : FunD K "_law_draws" "_law_draws" (defArgs s_ldraws) (defBody s_ldraws) (defScope s_ldraws) [] [] (He.ga K "_law_draws") fd) (hm : mg "_law_draws" = some (.ref (He.ga K "_law_draws"))) : FnN P w K mg base (0 + 1) "_law_draws" ["script", "many"] phi_ldraws := by
  have hN0 : (["script", "many", "rests", "cell", "draws", "k", "at", "mixed"] : List Str).Nodup := by decide +kernel
  refine fnn (st := s_ldraws) (N := ["script", "many", "rests", "cell", "draws", "k", "at", "mixed"]) (m := m_ldraws) (k := 0) FD sc_ldraws hm (fun _ _ _ _ _ _ us hl => match us, hl with | [_, _], _ => rfl) fun cdv A outer s H E hr hG0 => ?_
  have hu : (A.deeper (envOfC "_law_draws" (defScope s_ldraws) s.heap.objs.size (He.ga K "_law_draws") cdv)).units + 66 < cLine := by have := hr.un; omega
  have hG : (A.deeper (envOfC "_law_draws" (defScope s_ldraws) s.heap.objs.size (He.ga K "_law_draws") cdv)).guards = some [] := hG0
  exact (sm_cons (sm_setLc 2 [("cell", 3)] rfl hN0 rfl rfl rfl (im_seq (em_var 0)) (blkOk_by rfl) (fun _ _ _ _ _ => (gc_name 3 hN0)) (fun _ _ _ _ _ => sm_yes) (fun _ _ _ _ _ => (em_callB call_abs f_abs (z 10 _ rfl) (am_cons (em_callTy call_int1 f_int (z 0 _ rfl) (am_cons (em_var 3) am_nil)) am_nil)))) (sm_cons (sm_set 4 hN0 (em_lst am_nil)) (sm_cons (sm_for PassesOwn.leaving rfl (im_range1 (z 9 _ rfl) (am_cons (em_var 1) am_nil)) (gm_name 5 hN0) (sm_cons (sm_set 3 hN0 (em_var 5)) (sm_cons (sm_if (tm_cmp op_gtM f_ord (em_callB (call_lenM rfl) f_len (z 6 _ rfl) (am_cons (em_var 0) am_nil)) em_int rfl) (sm_cons (sm_set 6 hN0 (em_mod (em_var 5) (em_callB (call_lenM rfl) f_len (z 6 _ rfl) (am_cons (em_var 0) am_nil)))) (sm_cons (sm_set 3 hN0 (em_callTy call_int1 f_int (z 0 _ rfl) (am_cons (em_ix (em_var 0) (em_var 6)) am_nil))) (sm_one (sm_if (L2.PW.pt (wm_and (tm_cmp op_geM f_ord (em_var 3) (em_pow em_int em_int) rfl) (wm_and1 (tm_cmp op_gtM f_ord (em_ix (em_var 2) (em_var 6)) em_int rfl)))) (sm_cons (sm_expr (em_append (em_var 4) (am_cons (em_mod (em_callTy call_int1 f_int (z 0 _ rfl) (am_cons (em_ix (em_var 2) (em_var 6)) am_nil)) em_int) am_nil))) (sm_cons (sm_setix (em_div (em_callTy call_int1 f_int (z 0 _ rfl) (am_cons (em_ix (em_var 2) (em_var 6)) am_nil)) em_int) (em_var 2) (em_var 6)) (sm_one sm_continue))) sm_nil)))) sm_nil) (sm_cons (sm_set 7 hN0 (em_mod (em_callTy call_int1 f_int (z 0 _ rfl) (am_cons (em_add (em_add (em_mul (em_var 3) em_int) (em_mul (em_var 5) em_int)) em_int) am_nil)) em_int)) (sm_cons (sm_set 7 hN0 (em_mod (em_callTy call_int1 f_int (z 0 _ rfl) (am_cons (em_add (em_div (em_mul (em_var 7) (em_var 7)) em_int) (em_var 7)) am_nil)) em_int)) (sm_one (sm_expr (em_append (em_var 4) (am_cons (em_mod (em_callTy call_int1 f_int (z 0 _ rfl) (am_cons (em_add (em_div (em_mul (em_var 7) (em_var 7)) em_int) (em_mul (em_var 5) em_int)) am_nil)) em_int) am_nil))))))))) (sm_one (sm_ret (em_var 4))))))
def m_ltake : MS := (seqS (asgS (mOp2 fIx (mVar 0) (retM (.int 1))) (nmT 2)) (seqS (setS (mOp2 fAdd (mVar 2) (retM (.int 1))) (mVar 0) (retM (.int 1))) (seqS (asgS (mOp2 fIx (mVar 0) (retM (.int 0))) (nmT 3)) (seqS (ifS (mTst (mOp2 (fOrd pGe qGe) (mVar 2) (mOpA fLen (mCons (mVar 3) mNil)))) (retS (retM (.int 0))) nxS) (retS (mOp2 fMod (mOp2 fDiv (mOpA fInt (mCons (mOp2 fIx (mVar 3) (mVar 2)) mNil)) (retM (.int 7))) (mVar 1)))))))
def phi_ltake : FnD := fnM 2 4 m_ltake
abbrev s_ltake : Stmt := top 29
theorem sc_ltake : FnScope ["hand", "many", "at", "draws"] ["hand", "many"] (defScope s_ltake) := ⟨rfl, rfl, rfl, by decide +kernel, rfl, by decide +kernel, by decide +kernel⟩
theorem d_ltake (hF : Facts (GK K mg) tb) (hN : Named (GK K mg) tb) (hC : Catch (GK K mg) (catL askc.exms)) (hNF : ∀ x, NotF (GK K mg) x (nfL askc.nfs x)) (z : Z mg) (gl : Gs mg) (gi : Gi mg) {fd : FuncData} (FD : FunD K "_law_take" "_law_take" (defArgs s_ltake) (defBody s_ltake) (defScope s_ltake) [] [] (He.ga K "_law_take") fd) (hm : mg "_law_take" = some (.ref (He.ga K "_law_take"))) : FnN P w K mg base (0 + 1) "_law_take" ["hand", "many"] phi_ltake := by
  have hN0 : (["hand", "many", "at", "draws"] : List Str).Nodup := by decide +kernel
  refine fnn (st := s_ltake) (N := ["hand", "many", "at", "draws"]) (m := m_ltake) (k := 0) FD sc_ltake hm (fun _ _ _ _ _ _ us hl => match us, hl with | [_, _], _ => rfl) fun cdv A outer s H E hr hG0 => ?_
  have hu : (A.deeper (envOfC "_law_take" (defScope s_ltake) s.heap.objs.size (He.ga K "_law_take") cdv)).units + 66 < cLine := by have := hr.un; omega
  have hG : (A.deeper (envOfC "_law_take" (defScope s_ltake) s.heap.objs.size (He.ga K "_law_take") cdv)).guards = some [] := hG0
  exact (sm_cons (sm_set 2 hN0 (em_ix (em_var 0) em_int)) (sm_cons (sm_setix (em_add (em_var 2) em_int) (em_var 0) em_int) (sm_cons (sm_set 3 hN0 (em_ix (em_var 0) em_int)) (sm_cons (sm_if (tm_cmp op_geM f_ord (em_var 2) (em_callB (call_lenM rfl) f_len (z 6 _ rfl) (am_cons (em_var 3) am_nil)) rfl) (sm_one (sm_ret em_int)) sm_nil) (sm_one (sm_ret (em_mod (em_div (em_callTy call_int1 f_int (z 0 _ rfl) (am_cons (em_ix (em_var 3) (em_var 2)) am_nil)) em_int) (em_var 1))))))))
def b_lplaces_1 : MS := (asgS (mOp2 fAdd (mVar 4) (compM [6] (mRng1 (mCons (mVar 3) mNil)) (nmT 6) yesM (mOp2 fAdd (mVar 5) (mOpA fTup (mCons (mVar 6) mNil))))) (nmT 4))
def b_lplaces_2 : MS := (seqS (asgS (mOpA fLst mNil) (nmT 4)) (seqS (forS (mSeq (mVar 1)) (nmT 5) b_lplaces_1) (asgS (mVar 4) (nmT 1))))
def m_lplaces : MS := (seqS (asgS (mOpA fLst (mCons (mOpA fTup mNil) mNil)) (nmT 1)) (seqS (forS (mSeq (mVar 0)) (tupT 2 (consT (nmT 2) (consT (nmT 3) nilT))) b_lplaces_2) (retS (mVar 1))))
def phi_lplaces : FnD := fnM 1 7 m_lplaces
abbrev s_lplaces : Stmt := top 30
theorem sc_lplaces : FnScope ["sides", "rows", "name", "size", "longer", "row", "k"] ["sides"] (defScope s_lplaces) := ⟨rfl, rfl, rfl, by decide +kernel, rfl, by decide +kernel, by decide +kernel⟩
theorem d_lplaces (hF : Facts (GK K mg) tb) (hN : Named (GK K mg) tb) (hC : Catch (GK K mg) (catL askc.exms)) (hNF : ∀ x, NotF (GK K mg) x (nfL askc.nfs x)) (z : Z mg) (gl : Gs mg) (gi : Gi mg) {fd : FuncData} (FD : FunD K "_law_places" "_law_places" (defArgs s_lplaces) (defBody s_lplaces) (defScope s_lplaces) [] [] (He.ga K "_law_places") fd) (hm : mg "_law_places" = some (.ref (He.ga K "_law_places"))) : FnN P w K mg base (0 + 1) "_law_places" ["sides"] phi_lplaces := by
  have hN0 : (["sides", "rows", "name", "size", "longer", "row", "k"] : List Str).Nodup := by decide +kernel
  refine fnn (st := s_lplaces) (N := ["sides", "rows", "name", "size", "longer", "row", "k"]) (m := m_lplaces) (k := 0) FD sc_lplaces hm (fun _ _ _ _ _ _ us hl => match us, hl with | [_], _ => rfl) fun cdv A outer s H E hr hG0 => ?_
  have hu : (A.deeper (envOfC "_law_places" (defScope s_lplaces) s.heap.objs.size (He.ga K "_law_places") cdv)).units + 66 < cLine := by have := hr.un; omega
  have hG : (A.deeper (envOfC "_law_places" (defScope s_lplaces) s.heap.objs.size (He.ga K "_law_places") cdv)).guards = some [] := hG0
  exact (sm_cons (sm_set 1 hN0 (em_lst (am_cons (em_tup am_nil) am_nil))) (sm_cons (sm_for PassesOwn.leaving rfl (im_seq (em_var 0)) (gm_tup rfl (gms_cons (gm_name 2 hN0) (gms_cons (gm_name 3 hN0) gms_nil))) (sm_cons (sm_set 4 hN0 (em_lst am_nil)) (sm_cons (sm_for PassesOwn.leaving rfl (im_seq (em_var 1)) (gm_name 5 hN0) (sm_one (sm_set 4 hN0 (em_add (em_var 4) (em_lc [("k", 6)] rfl hN0 (im_range1 (z 9 _ rfl) (am_cons (em_var 3) am_nil)) (blkOk_by rfl) (fun _ _ _ _ _ => (gc_name 6 hN0)) (fun _ _ _ _ _ => sm_yes) (fun _ _ _ _ _ => (em_add (em_var 5) (em_tup (am_cons (em_var 6) am_nil))))))))) (sm_one (sm_set 1 hN0 (em_var 4)))))) (sm_one (sm_ret (em_var 1)))))
def b_lmany_1 : MS := (asgS (mOp2 fMul (mVar 1) (mVar 3)) (nmT 1))
def m_lmany : MS := (seqS (asgS (retM (.int 1)) (nmT 1)) (seqS (forS (mSeq (mVar 0)) (tupT 2 (consT (nmT 2) (consT (nmT 3) nilT))) b_lmany_1) (retS (mVar 1))))
def phi_lmany : FnD := fnM 1 4 m_lmany
abbrev s_lmany : Stmt := top 31
theorem sc_lmany : FnScope ["sides", "many", "name", "size"] ["sides"] (defScope s_lmany) := ⟨rfl, rfl, rfl, by decide +kernel, rfl, by decide +kernel, by decide +kernel⟩
theorem d_lmany (hF : Facts (GK K mg) tb) (hN : Named (GK K mg) tb) (hC : Catch (GK K mg) (catL askc.exms)) (hNF : ∀ x, NotF (GK K mg) x (nfL askc.nfs x)) (z : Z mg) (gl : Gs mg) (gi : Gi mg) {fd : FuncData} (FD : FunD K "_law_many" "_law_many" (defArgs s_lmany) (defBody s_lmany) (defScope s_lmany) [] [] (He.ga K "_law_many") fd) (hm : mg "_law_many" = some (.ref (He.ga K "_law_many"))) : FnN P w K mg base (0 + 1) "_law_many" ["sides"] phi_lmany := by
  have hN0 : (["sides", "many", "name", "size"] : List Str).Nodup := by decide +kernel
  refine fnn (st := s_lmany) (N := ["sides", "many", "name", "size"]) (m := m_lmany) (k := 0) FD sc_lmany hm (fun _ _ _ _ _ _ us hl => match us, hl with | [_], _ => rfl) fun cdv A outer s H E hr hG0 => ?_
  have hu : (A.deeper (envOfC "_law_many" (defScope s_lmany) s.heap.objs.size (He.ga K "_law_many") cdv)).units + 66 < cLine := by have := hr.un; omega
  have hG : (A.deeper (envOfC "_law_many" (defScope s_lmany) s.heap.objs.size (He.ga K "_law_many") cdv)).guards = some [] := hG0
  exact (sm_cons (sm_set 1 hN0 em_int) (sm_cons (sm_for PassesOwn.leaving rfl (im_seq (em_var 0)) (gm_tup rfl (gms_cons (gm_name 2 hN0) (gms_cons (gm_name 3 hN0) gms_nil))) (sm_one (sm_set 1 hN0 (em_mul (em_var 1) (em_var 3))))) (sm_one (sm_ret (em_var 1)))))
def b_ldrawn_sides_1 : MS := (seqS (asgS (mOp2 fIx (mOpA fLst (mCons (retM (.int 1)) (mCons (retM (.int 2)) (mCons (retM (.int 3)) (mCons (retM (.int 4)) (mCons (retM (.int 5)) (mCons (retM (.int 6)) mNil))))))) (mCall phi_ltake (mCons (mVar 0) (mCons (retM (.int 6)) mNil)))) (nmT 3)) (ifS (mAnd (mTst (mOp2 fEq (mCall phi_ltake (mCons (mVar 0) (mCons (retM (.int 2)) mNil))) (retM (.int 0)))) (mAnd (mTst (mOp2 (fOrd pLt qLt) (mOpA fLen (mCons (mVar 1) mNil)) (retM (.int 4)))) (mTst (mOp2 (fOrd pLe qLe) (mOp2 fMul (mCall phi_lmany (mCons (mVar 1) mNil)) (mVar 3)) (retM (.int 60)))))) (exprS (mMeth isL fAppend (mVar 1) (mCons (mOpA fTup (mCons (mVar 2) (mCons (mVar 3) mNil))) mNil))) nxS))
def m_ldrawn_sides : MS := (seqS (asgS (mOpA fLst mNil) (nmT 1)) (seqS (forS (mSeq (mOpA fLst (mCons (retM (.str "a")) (mCons (retM (.str "b0")) (mCons (retM (.str "i")) (mCons (retM (.str "j2x")) (mCons (retM (.str "side")) (mCons (retM (.str "zzzzzzzz")) mNil)))))))) (nmT 2) b_ldrawn_sides_1) (seqS (ifS (mTst (mOp2 fEq (mCall phi_ltake (mCons (mVar 0) (mCons (retM (.int 20)) mNil))) (retM (.int 0)))) (asgS (mOp2 fIx (mOpA fLst (mCons (mOpA fLst (mCons (mOpA fTup (mCons (retM (.str "i")) (mCons (retM (.int 6)) mNil))) (mCons (mOpA fTup (mCons (retM (.str "j")) (mCons (retM (.int 6)) mNil))) (mCons (mOpA fTup (mCons (retM (.str "k")) (mCons (retM (.int 5)) mNil))) mNil)))) (mCons (mOpA fLst (mCons (mOpA fTup (mCons (retM (.str "i")) (mCons (retM (.int 5)) mNil))) (mCons (mOpA fTup (mCons (retM (.str "j")) (mCons (retM (.int 5)) mNil))) (mCons (mOpA fTup (mCons (retM (.str "k")) (mCons (retM (.int 4)) mNil))) (mCons (mOpA fTup (mCons (retM (.str "m")) (mCons (retM (.int 2)) mNil))) mNil))))) mNil))) (mCall phi_ltake (mCons (mVar 0) (mCons (retM (.int 2)) mNil)))) (nmT 1)) nxS) (retS (mOpA fTuple (mCons (mVar 1) mNil))))))
def phi_ldrawn_sides : FnD := fnM 1 4 m_ldrawn_sides
abbrev s_ldrawn_sides : Stmt := top 32
theorem sc_ldrawn_sides : FnScope ["hand", "sides", "name", "size"] ["hand"] (defScope s_ldrawn_sides) := ⟨rfl, rfl, rfl, by decide +kernel, rfl, by decide +kernel, by decide +kernel⟩
theorem d_ldrawn_sides (hF : Facts (GK K mg) tb) (hN : Named (GK K mg) tb) (hC : Catch (GK K mg) (catL askc.exms)) (hNF : ∀ x, NotF (GK K mg) x (nfL askc.nfs x)) (z : Z mg) (gl : Gs mg) (gi : Gi mg) (h_ltake : FnN P w K mg base 1 "_law_take" ["hand", "many"] phi_ltake) (h_lmany : FnN P w K mg base 1 "_law_many" ["sides"] phi_lmany) {fd : FuncData} (FD : FunD K "_law_drawn_sides" "_law_drawn_sides" (defArgs s_ldrawn_sides) (defBody s_ldrawn_sides) (defScope s_ldrawn_sides) [] [] (He.ga K "_law_drawn_sides") fd) (hm : mg "_law_drawn_sides" = some (.ref (He.ga K "_law_drawn_sides"))) : FnN P w K mg base (1 + 1) "_law_drawn_sides" ["hand"] phi_ldrawn_sides := by
  have hN0 : (["hand", "sides", "name", "size"] : List Str).Nodup := by decide +kernel
  refine fnn (st := s_ldrawn_sides) (N := ["hand", "sides", "name", "size"]) (m := m_ldrawn_sides) (k := 1) FD sc_ldrawn_sides hm (fun _ _ _ _ _ _ us hl => match us, hl with | [_], _ => rfl) fun cdv A outer s H E hr hG0 => ?_
  have hu : (A.deeper (envOfC "_law_drawn_sides" (defScope s_ldrawn_sides) s.heap.objs.size (He.ga K "_law_drawn_sides") cdv)).units + 66 < cLine := by have := hr.un; omega
  have hG : (A.deeper (envOfC "_law_drawn_sides" (defScope s_ldrawn_sides) s.heap.objs.size (He.ga K "_law_drawn_sides") cdv)).guards = some [] := hG0
  exact (sm_cons (sm_set 1 hN0 (em_lst am_nil)) (sm_cons (sm_for PassesOwn.leaving rfl (im_seq (em_lst (am_cons em_str (am_cons em_str (am_cons em_str (am_cons em_str (am_cons em_str (am_cons em_str am_nil)))))))) (gm_name 2 hN0) (sm_cons (sm_set 3 hN0 (em_ix (em_lst (am_cons em_int (am_cons em_int (am_cons em_int (am_cons em_int (am_cons em_int (am_cons em_int am_nil))))))) (em_callN h_ltake (hr.mono (by decide)) hG (takes_of rfl rfl rfl rfl) (am_cons (em_var 0) (am_cons em_int am_nil))))) (sm_one (sm_if (L2.PW.pt (wm_and (tm_cmp (op_eqN rfl hu) f_eq (em_callN h_ltake (hr.mono (by decide)) hG (takes_of rfl rfl rfl rfl) (am_cons (em_var 0) (am_cons em_int am_nil))) em_int rfl) (wm_and (tm_cmp op_ltM f_ord (em_callB (call_lenM rfl) f_len (z 6 _ rfl) (am_cons (em_var 1) am_nil)) em_int rfl) (wm_and1 (tm_cmp op_leM f_ord (em_mul (em_callN h_lmany (hr.mono (by decide)) hG (takes_of rfl rfl rfl rfl) (am_cons (em_var 1) am_nil)) (em_var 3)) em_int rfl))))) (sm_one (sm_expr (em_append (em_var 1) (am_cons (em_tup (am_cons (em_var 2) (am_cons (em_var 3) am_nil))) am_nil)))) sm_nil)))) (sm_cons (sm_if (tm_cmp (op_eqN rfl hu) f_eq (em_callN h_ltake (hr.mono (by decide)) hG (takes_of rfl rfl rfl rfl) (am_cons (em_var 0) (am_cons em_int am_nil))) em_int rfl) (sm_one (sm_set 1 hN0 (em_ix (em_lst (am_cons (em_lst (am_cons (em_tup (am_cons em_str (am_cons em_int am_nil))) (am_cons (em_tup (am_cons em_str (am_cons em_int am_nil))) (am_cons (em_tup (am_cons em_str (am_cons em_int am_nil))) am_nil)))) (am_cons (em_lst (am_cons (em_tup (am_cons em_str (am_cons em_int am_nil))) (am_cons (em_tup (am_cons em_str (am_cons em_int am_nil))) (am_cons (em_tup (am_cons em_str (am_cons em_int am_nil))) (am_cons (em_tup (am_cons em_str (am_cons em_int am_nil))) am_nil))))) am_nil))) (em_callN h_ltake (hr.mono (by decide)) hG (takes_of rfl rfl rfl rfl) (am_cons (em_var 0) (am_cons em_int am_nil)))))) sm_nil) (sm_one (sm_ret (em_callTy (call_tupleM rfl) f_tuple (z 3 _ rfl) (am_cons (em_var 1) am_nil)))))))
def b_lnumber_1 : MS := (asgS (mOp2 fAdd (mOp2 fMul (mVar 2) (mOp2 fPow (retM (.int 10)) (retM (.int 9)))) (mCall phi_ltake (mCons (mVar 0) (mCons (mOp2 fPow (retM (.int 10)) (retM (.int 9))) mNil)))) (nmT 2))
def m_lnumber : MS := (seqS (asgS (mCall phi_ltake (mCons (mVar 0) (mCons (retM (.int 5)) mNil))) (nmT 1)) (seqS (ifS (mTst (mOp2 (fOrd pGt qGt) (mVar 1) (retM (.int 0)))) (retS (mOp2 fSub (mCall phi_ltake (mCons (mVar 0) (mCons (retM (.int 201)) mNil))) (retM (.int 100)))) nxS) (seqS (asgS (mOp2 fAdd (retM (.int 1)) (mCall phi_ltake (mCons (mVar 0) (mCons (retM (.int 9)) mNil)))) (nmT 2)) (seqS (forS (mRng1 (mCons (mCall phi_ltake (mCons (mVar 0) (mCons (retM (.int 40)) mNil))) mNil)) (nmT 3) b_lnumber_1) (retS (mOp2 fIx (mOpA fLst (mCons (mVar 2) (mCons (mOp1 fNeg (mVar 2)) mNil))) (mCall phi_ltake (mCons (mVar 0) (mCons (retM (.int 2)) mNil)))))))))
def phi_lnumber : FnD := fnM 1 4 m_lnumber
abbrev s_lnumber : Stmt := top 33
theorem sc_lnumber : FnScope ["hand", "kind", "number", "k"] ["hand"] (defScope s_lnumber) := ⟨rfl, rfl, rfl, by decide +kernel, rfl, by decide +kernel, by decide +kernel⟩
theorem d_lnumber (hF : Facts (GK K mg) tb) (hN : Named (GK K mg) tb) (hC : Catch (GK K mg) (catL askc.exms)) (hNF : ∀ x, NotF (GK K mg) x (nfL askc.nfs x)) (z : Z mg) (gl : Gs mg) (gi : Gi mg) (h_ltake : FnN P w K mg base 1 "_law_take" ["hand", "many"] phi_ltake) {fd : FuncData} (FD : FunD K "_law_number" "_law_number" (defArgs s_lnumber) (defBody s_lnumber) (defScope s_lnumber) [] [] (He.ga K "_law_number") fd) (hm : mg "_law_number" = some (.ref (He.ga K "_law_number"))) : FnN P w K mg base (1 + 1) "_law_number" ["hand"] phi_lnumber := by
  have hN0 : (["hand", "kind", "number", "k"] : List Str).Nodup := by decide +kernel
  refine fnn (st := s_lnumber) (N := ["hand", "kind", "number", "k"]) (m := m_lnumber) (k := 1) FD sc_lnumber hm (fun _ _ _ _ _ _ us hl => match us, hl with | [_], _ => rfl) fun cdv A outer s H E hr hG0 => ?_
  have hu : (A.deeper (envOfC "_law_number" (defScope s_lnumber) s.heap.objs.size (He.ga K "_law_number") cdv)).units + 66 < cLine := by have := hr.un; omega
  have hG : (A.deeper (envOfC "_law_number" (defScope s_lnumber) s.heap.objs.size (He.ga K "_law_number") cdv)).guards = some [] := hG0
  exact (sm_cons (sm_set 1 hN0 (em_callN h_ltake (hr.mono (by decide)) hG (takes_of rfl rfl rfl rfl) (am_cons (em_var 0) (am_cons em_int am_nil)))) (sm_cons (sm_if (tm_cmp op_gtM f_ord (em_var 1) em_int rfl) (sm_one (sm_ret (em_sub (em_callN h_ltake (hr.mono (by decide)) hG (takes_of rfl rfl rfl rfl) (am_cons (em_var 0) (am_cons em_int am_nil))) em_int))) sm_nil) (sm_cons (sm_set 2 hN0 (em_add em_int (em_callN h_ltake (hr.mono (by decide)) hG (takes_of rfl rfl rfl rfl) (am_cons (em_var 0) (am_cons em_int am_nil))))) (sm_cons (sm_for PassesOwn.leaving rfl (im_range1 (z 9 _ rfl) (am_cons (em_callN h_ltake (hr.mono (by decide)) hG (takes_of rfl rfl rfl rfl) (am_cons (em_var 0) (am_cons em_int am_nil))) am_nil)) (gm_name 3 hN0) (sm_one (sm_set 2 hN0 (em_add (em_mul (em_var 2) (em_pow em_int em_int)) (em_callN h_ltake (hr.mono (by decide)) hG (takes_of rfl rfl rfl rfl) (am_cons (em_var 0) (am_cons (em_pow em_int em_int) am_nil))))))) (sm_one (sm_ret (em_ix (em_lst (am_cons (em_var 2) (am_cons (em_neg (em_var 2)) am_nil))) (em_callN h_ltake (hr.mono (by decide)) hG (takes_of rfl rfl rfl rfl) (am_cons (em_var 0) (am_cons em_int am_nil))))))))))
def m_lno_sides : MS := (seqS (asgS (mOpA fLst (mCons (mOpA fTup (mCons (mOpA fTup (mCons (retM (.str "j")) (mCons (retM (.int 2)) mNil))) (mCons (mOpA fTup (mCons (retM (.str "i")) (mCons (retM (.int 2)) mNil))) mNil))) (mCons (mOpA fTup (mCons (mOpA fTup (mCons (retM (.str "i")) (mCons (retM (.int 2)) mNil))) (mCons (mOpA fTup (mCons (retM (.str "i")) (mCons (retM (.int 2)) mNil))) mNil))) (mCons (mOpA fTup (mCons (mOpA fTup (mCons (retM (.str "")) (mCons (retM (.int 2)) mNil))) mNil)) (mCons (mOpA fTup (mCons (mOpA fTup (mCons (retM (.str "I")) (mCons (retM (.int 2)) mNil))) mNil)) (mCons (mOpA fTup (mCons (mOpA fTup (mCons (retM (.str "2i")) (mCons (retM (.int 2)) mNil))) mNil)) (mCons (mOpA fTup (mCons (mOpA fTup (mCons (retM (.str "abcdefghi")) (mCons (retM (.int 2)) mNil))) mNil)) mNil))))))) (nmT 1)) (seqS (asgS (mOp2 fAdd (mVar 1) (mOpA fLst (mCons (mOpA fTup (mCons (mOpA fTup (mCons (retM (.str "i")) (mCons (retM (.int 0)) mNil))) mNil)) (mCons (mOpA fTup (mCons (mOpA fTup (mCons (retM (.str "i")) (mCons (retM (.int 7)) mNil))) mNil)) (mCons (mOpA fTup (mCons (mOpA fTup (mCons (retM (.str "i")) (mCons (retM (.bl true)) mNil))) mNil)) (mCons (mOpA fTup (mCons (mOpA fTup (mCons (retM (.str "i")) (mCons (retM .non) mNil))) mNil)) (mCons (mOpA fTup (mCons (mOpA fTup (mCons (retM (.str "i")) (mCons (retM (.str "2")) mNil))) mNil)) (mCons (mOpA fTup (mCons (mOpA fTup (mCons (retM (.str "i")) mNil)) mNil)) (mCons (mOpA fTup (mCons (mOpA fTup (mCons (retM (.str "i")) (mCons (retM (.int 2)) (mCons (retM (.int 2)) mNil)))) mNil)) mNil))))))))) (nmT 1)) (seqS (asgS (mOp2 fAdd (mVar 1) (mOpA fLst (mCons (mOpA fTup (mCons (mOpA fTup (mCons (retM (.str "a")) (mCons (retM (.int 1)) mNil))) (mCons (mOpA fTup (mCons (retM (.str "b")) (mCons (retM (.int 1)) mNil))) (mCons (mOpA fTup (mCons (retM (.str "c")) (mCons (retM (.int 1)) mNil))) (mCons (mOpA fTup (mCons (retM (.str "d")) (mCons (retM (.int 1)) mNil))) (mCons (mOpA fTup (mCons (retM (.str "e")) (mCons (retM (.int 1)) mNil))) mNil)))))) (mCons (mOpA fTup (mCons (mOpA fTup (mCons (retM (.str "i")) (mCons (retM (.int 6)) mNil))) (mCons (mOpA fTup (mCons (retM (.str "j")) (mCons (retM (.int 6)) mNil))) (mCons (mOpA fTup (mCons (retM (.str "k")) (mCons (retM (.int 6)) mNil))) mNil)))) (mCons (retM .non) (mCons (retM (.str "i")) (mCons (retM (.int 0)) mNil))))))) (nmT 1)) (seqS (asgS (mOp2 fAdd (mVar 1) (mOpA fLst (mCons (retM (.bl true)) (mCons (retM (.str "ab")) (mCons (mOpA fTup (mCons (mOpA fTup (mCons (retM (.str "i")) (mCons (retM (.int 2)) mNil))) (mCons (retM .non) mNil))) (mCons (mOpA fTup (mCons (mOpA fTup (mCons (retM (.str "i")) (mCons (mOp1 fNeg (retM (.int 1))) mNil))) mNil)) (mCons (mOpA fTup (mCons (mOpA fTup (mCons (retM (.int 2)) (mCons (retM (.str "i")) mNil))) mNil)) (mCons (mOpA fTup (mCons (retM (.str "i")) (mCons (retM (.int 2)) mNil))) (mCons (mOpA fTup (mCons (mOpA fTup (mCons (retM (.str "i j")) (mCons (retM (.int 2)) mNil))) mNil)) (mCons (mOpA fTup (mCons (mOpA fTup (mCons (retM (.str "i_")) (mCons (retM (.int 2)) mNil))) mNil)) mNil)))))))))) (nmT 1)) (seqS (asgS (mOp2 fAdd (mVar 1) (mOpA fLst (mCons (mOpA fLst (mCons (mOpA fLst (mCons (retM (.str "i")) (mCons (retM (.int 2)) mNil))) (mCons (mOpA fLst mNil) mNil))) (mCons (mOpA fTup (mCons (mOpA fTup (mCons (retM (.str "i")) (mCons (mOp2 fPow (retM (.int 10)) (retM (.int 40))) mNil))) mNil)) (mCons (mOpA fTup (mCons (mOpA fTup (mCons (retM (.str "i")) (mCons (retM (.int 2)) mNil))) (mCons (mOpA fTup (mCons (retM (.str "i")) (mCons (retM (.int 3)) mNil))) mNil))) (mCons (mOpA fTup (mCons (mOpA fTup (mCons (retM (.str "i")) (mCons (mOpA fTup (mCons (retM (.int 2)) mNil)) mNil))) mNil)) mNil)))))) (nmT 1)) (seqS (exprS (mMeth isL fAppend (mVar 1) (mCons (mOpA fTup (mCons (mOpA fTup (mCons (retM (.str "a")) (mCons (retM (.int 6)) mNil))) (mCons (mOpA fTup (mCons (retM (.str "b")) (mCons (retM (.int 6)) mNil))) (mCons (mOpA fTup (mCons (retM (.str "c")) (mCons (retM (.int 3)) mNil))) (mCons (mOpA fTup (mCons (retM (.str "d")) (mCons (retM (.int 2)) mNil))) mNil))))) mNil))) (retS (mOp2 fIx (mVar 1) (mCall phi_ltake (mCons (mVar 0) (mCons (mOpA fLen (mCons (mVar 1) mNil)) mNil)))))))))))
def phi_lno_sides : FnD := fnM 1 2 m_lno_sides
abbrev s_lno_sides : Stmt := top 34
theorem sc_lno_sides : FnScope ["hand", "wrong"] ["hand"] (defScope s_lno_sides) := ⟨rfl, rfl, rfl, by decide +kernel, rfl, by decide +kernel, by decide +kernel⟩
theorem d_lno_sides (hF : Facts (GK K mg) tb) (hN : Named (GK K mg) tb) (hC : Catch (GK K mg) (catL askc.exms)) (hNF : ∀ x, NotF (GK K mg) x (nfL askc.nfs x)) (z : Z mg) (gl : Gs mg) (gi : Gi mg) (h_ltake : FnN P w K mg base 1 "_law_take" ["hand", "many"] phi_ltake) {fd : FuncData} (FD : FunD K "_law_no_sides" "_law_no_sides" (defArgs s_lno_sides) (defBody s_lno_sides) (defScope s_lno_sides) [] [] (He.ga K "_law_no_sides") fd) (hm : mg "_law_no_sides" = some (.ref (He.ga K "_law_no_sides"))) : FnN P w K mg base (1 + 1) "_law_no_sides" ["hand"] phi_lno_sides := by
  have hN0 : (["hand", "wrong"] : List Str).Nodup := by decide +kernel
  refine fnn (st := s_lno_sides) (N := ["hand", "wrong"]) (m := m_lno_sides) (k := 1) FD sc_lno_sides hm (fun _ _ _ _ _ _ us hl => match us, hl with | [_], _ => rfl) fun cdv A outer s H E hr hG0 => ?_
  have hu : (A.deeper (envOfC "_law_no_sides" (defScope s_lno_sides) s.heap.objs.size (He.ga K "_law_no_sides") cdv)).units + 66 < cLine := by have := hr.un; omega
  have hG : (A.deeper (envOfC "_law_no_sides" (defScope s_lno_sides) s.heap.objs.size (He.ga K "_law_no_sides") cdv)).guards = some [] := hG0
  exact (sm_cons (sm_set 1 hN0 (em_lst (am_cons (em_tup (am_cons (em_tup (am_cons em_str (am_cons em_int am_nil))) (am_cons (em_tup (am_cons em_str (am_cons em_int am_nil))) am_nil))) (am_cons (em_tup (am_cons (em_tup (am_cons em_str (am_cons em_int am_nil))) (am_cons (em_tup (am_cons em_str (am_cons em_int am_nil))) am_nil))) (am_cons (em_tup (am_cons (em_tup (am_cons em_str (am_cons em_int am_nil))) am_nil)) (am_cons (em_tup (am_cons (em_tup (am_cons em_str (am_cons em_int am_nil))) am_nil)) (am_cons (em_tup (am_cons (em_tup (am_cons em_str (am_cons em_int am_nil))) am_nil)) (am_cons (em_tup (am_cons (em_tup (am_cons em_str (am_cons em_int am_nil))) am_nil)) am_nil)))))))) (sm_cons (sm_set 1 hN0 (em_add (em_var 1) (em_lst (am_cons (em_tup (am_cons (em_tup (am_cons em_str (am_cons em_int am_nil))) am_nil)) (am_cons (em_tup (am_cons (em_tup (am_cons em_str (am_cons em_int am_nil))) am_nil)) (am_cons (em_tup (am_cons (em_tup (am_cons em_str (am_cons em_bl am_nil))) am_nil)) (am_cons (em_tup (am_cons (em_tup (am_cons em_str (am_cons em_non am_nil))) am_nil)) (am_cons (em_tup (am_cons (em_tup (am_cons em_str (am_cons em_str am_nil))) am_nil)) (am_cons (em_tup (am_cons (em_tup (am_cons em_str am_nil)) am_nil)) (am_cons (em_tup (am_cons (em_tup (am_cons em_str (am_cons em_int (am_cons em_int am_nil)))) am_nil)) am_nil)))))))))) (sm_cons (sm_set 1 hN0 (em_add (em_var 1) (em_lst (am_cons (em_tup (am_cons (em_tup (am_cons em_str (am_cons em_int am_nil))) (am_cons (em_tup (am_cons em_str (am_cons em_int am_nil))) (am_cons (em_tup (am_cons em_str (am_cons em_int am_nil))) (am_cons (em_tup (am_cons em_str (am_cons em_int am_nil))) (am_cons (em_tup (am_cons em_str (am_cons em_int am_nil))) am_nil)))))) (am_cons (em_tup (am_cons (em_tup (am_cons em_str (am_cons em_int am_nil))) (am_cons (em_tup (am_cons em_str (am_cons em_int am_nil))) (am_cons (em_tup (am_cons em_str (am_cons em_int am_nil))) am_nil)))) (am_cons em_non (am_cons em_str (am_cons em_int am_nil)))))))) (sm_cons (sm_set 1 hN0 (em_add (em_var 1) (em_lst (am_cons em_bl (am_cons em_str (am_cons (em_tup (am_cons (em_tup (am_cons em_str (am_cons em_int am_nil))) (am_cons em_non am_nil))) (am_cons (em_tup (am_cons (em_tup (am_cons em_str (am_cons (em_neg em_int) am_nil))) am_nil)) (am_cons (em_tup (am_cons (em_tup (am_cons em_int (am_cons em_str am_nil))) am_nil)) (am_cons (em_tup (am_cons em_str (am_cons em_int am_nil))) (am_cons (em_tup (am_cons (em_tup (am_cons em_str (am_cons em_int am_nil))) am_nil)) (am_cons (em_tup (am_cons (em_tup (am_cons em_str (am_cons em_int am_nil))) am_nil)) am_nil))))))))))) (sm_cons (sm_set 1 hN0 (em_add (em_var 1) (em_lst (am_cons (em_lst (am_cons (em_lst (am_cons em_str (am_cons em_int am_nil))) (am_cons (em_lst am_nil) am_nil))) (am_cons (em_tup (am_cons (em_tup (am_cons em_str (am_cons (em_pow em_int em_int) am_nil))) am_nil)) (am_cons (em_tup (am_cons (em_tup (am_cons em_str (am_cons em_int am_nil))) (am_cons (em_tup (am_cons em_str (am_cons em_int am_nil))) am_nil))) (am_cons (em_tup (am_cons (em_tup (am_cons em_str (am_cons (em_tup (am_cons em_int am_nil)) am_nil))) am_nil)) am_nil))))))) (sm_cons (sm_expr (em_append (em_var 1) (am_cons (em_tup (am_cons (em_tup (am_cons em_str (am_cons em_int am_nil))) (am_cons (em_tup (am_cons em_str (am_cons em_int am_nil))) (am_cons (em_tup (am_cons em_str (am_cons em_int am_nil))) (am_cons (em_tup (am_cons em_str (am_cons em_int am_nil))) am_nil))))) am_nil))) (sm_one (sm_ret (em_ix (em_var 1) (em_callN h_ltake (hr.mono (by decide)) hG (takes_of rfl rfl rfl rfl) (am_cons (em_var 0) (am_cons (em_callB (call_lenM rfl) f_len (z 6 _ rfl) (am_cons (em_var 1) am_nil)) am_nil))))))))))))
def b_lno_cells_1 : MS := (exprS (mMeth isL fAppend (mVar 5) (mCons (mOp2 fAdd (mOp2 fAdd (mSl (mVar 2) mNoPart (mPart (mVar 4))) (mOpA fLst (mCons (mVar 6) mNil))) (mSl (mVar 2) (mPart (mOp2 fAdd (mVar 4) (retM (.int 1)))) mNoPart)) mNil)))
def m_lno_cells : MS := (seqS (asgS (compM [3] (mRng1 (mCons (mVar 1) mNil)) (nmT 3) yesM (mCall phi_ltake (mCons (mVar 0) (mCons (retM (.int 9)) mNil)))) (nmT 2)) (seqS (asgS (mCall phi_ltake (mCons (mVar 0) (mCons (mVar 1) mNil))) (nmT 4)) (seqS (asgS (mOpA fLst (mCons (mSl (mVar 2) mNoPart (mPart (mOp1 fNeg (retM (.int 1))))) (mCons (mOpA fTuple (mCons (mSl (mVar 2) mNoPart (mPart (mOp1 fNeg (retM (.int 1))))) mNil)) (mCons (retM .non) (mCons (retM (.int 0)) (mCons (mOp2 (altF fMul fMulS) (retM (.str "0")) (mVar 1)) (mCons (retM (.bl true)) (mCons (mOpA fLst mNil) (mCons (mOpA fTup mNil) mNil))))))))) (nmT 5)) (seqS (forS (mSeq (mOpA fLst (mCons (retM (.bl true)) (mCons (retM (.bl false)) (mCons (retM .non) (mCons (retM (.str "1")) mNil)))))) (nmT 6) b_lno_cells_1) (seqS (ifS (mTst (mOp2 (fOrd pLt qLt) (mVar 1) (retM (.int 100)))) (seqS (asgS (mOp2 fAdd (mVar 5) (mOpA fLst (mCons (mOp2 fAdd (mVar 2) (mOpA fLst (mCons (retM (.int 1)) mNil))) (mCons (mOp2 fAdd (mOpA fTuple (mCons (mVar 2) mNil)) (mOpA fTup (mCons (retM (.int 0)) mNil))) (mCons (mOp2 fAdd (mOp2 fAdd (mSl (mVar 2) mNoPart (mPart (mVar 4))) (mOpA fLst (mCons (mOpA fTup (mCons (retM (.int 1)) mNil)) mNil))) (mSl (mVar 2) (mPart (mOp2 fAdd (mVar 4) (retM (.int 1)))) mNoPart)) mNil))))) (nmT 5)) (exprS (mMeth isL fAppend (mVar 5) (mCons (mOp2 fAdd (mOp2 fAdd (mSl (mVar 2) mNoPart (mPart (mVar 4))) (mOpA fLst (mCons (mOpA fLst (mCons (retM (.int 2)) mNil)) mNil))) (mSl (mVar 2) (mPart (mOp2 fAdd (mVar 4) (retM (.int 1)))) mNoPart)) mNil)))) nxS) (retS (mOp2 fIx (mVar 5) (mCall phi_ltake (mCons (mVar 0) (mCons (mOpA fLen (mCons (mVar 5) mNil)) mNil))))))))))
def phi_lno_cells : FnD := fnM 2 7 m_lno_cells
abbrev s_lno_cells : Stmt := top 35
theorem sc_lno_cells : FnScope ["hand", "many", "good", "k", "at", "wrong", "bad"] ["hand", "many"] (defScope s_lno_cells) := ⟨rfl, rfl, rfl, by decide +kernel, rfl, by decide +kernel, by decide +kernel⟩
theorem d_lno_cells (hF : Facts (GK K mg) tb) (hN : Named (GK K mg) tb) (hC : Catch (GK K mg) (catL askc.exms)) (hNF : ∀ x, NotF (GK K mg) x (nfL askc.nfs x)) (z : Z mg) (gl : Gs mg) (gi : Gi mg) (h_ltake : FnN P w K mg base 1 "_law_take" ["hand", "many"] phi_ltake) {fd : FuncData} (FD : FunD K "_law_no_cells" "_law_no_cells" (defArgs s_lno_cells) (defBody s_lno_cells) (defScope s_lno_cells) [] [] (He.ga K "_law_no_cells") fd) (hm : mg "_law_no_cells" = some (.ref (He.ga K "_law_no_cells"))) : FnN P w K mg base (1 + 1) "_law_no_cells" ["hand", "many"] phi_lno_cells := by
  have hN0 : (["hand", "many", "good", "k", "at", "wrong", "bad"] : List Str).Nodup := by decide +kernel
  refine fnn (st := s_lno_cells) (N := ["hand", "many", "good", "k", "at", "wrong", "bad"]) (m := m_lno_cells) (k := 1) FD sc_lno_cells hm (fun _ _ _ _ _ _ us hl => match us, hl with | [_, _], _ => rfl) fun cdv A outer s H E hr hG0 => ?_
  have hu : (A.deeper (envOfC "_law_no_cells" (defScope s_lno_cells) s.heap.objs.size (He.ga K "_law_no_cells") cdv)).units + 66 < cLine := by have := hr.un; omega
  have hG : (A.deeper (envOfC "_law_no_cells" (defScope s_lno_cells) s.heap.objs.size (He.ga K "_law_no_cells") cdv)).guards = some [] := hG0
  exact (sm_cons (sm_setLc 2 [("k", 3)] rfl hN0 rfl rfl rfl (im_range1 (z 9 _ rfl) (am_cons (em_var 1) am_nil)) (blkOk_by rfl) (fun _ _ _ _ _ => (gc_name 3 hN0)) (fun _ _ _ _ _ => sm_yes) (fun _ _ _ _ _ => (em_callN h_ltake (hr.mono (by decide)) hG takes_none5 (am_cons (em_var 0) (am_cons em_int am_nil))))) (sm_cons (sm_set 4 hN0 (em_callN h_ltake (hr.mono (by decide)) hG (takes_of rfl rfl rfl rfl) (am_cons (em_var 0) (am_cons (em_var 1) am_nil)))) (sm_cons (sm_set 5 hN0 (em_lst (am_cons (em_slice (em_var 2) om_none (om_some (em_neg em_int))) (am_cons (em_callTy (call_tupleM rfl) f_tuple (z 3 _ rfl) (am_cons (em_slice (em_var 2) om_none (om_some (em_neg em_int))) am_nil)) (am_cons em_non (am_cons em_int (am_cons (em_mulA em_str (em_var 1)) (am_cons em_bl (am_cons (em_lst am_nil) (am_cons (em_tup am_nil) am_nil)))))))))) (sm_cons (sm_for PassesOwn.leaving rfl (im_seq (em_lst (am_cons em_bl (am_cons em_bl (am_cons em_non (am_cons em_str am_nil)))))) (gm_name 6 hN0) (sm_one (sm_expr (em_append (em_var 5) (am_cons (em_add (em_add (em_slice (em_var 2) om_none (om_some (em_var 4))) (em_lst (am_cons (em_var 6) am_nil))) (em_slice (em_var 2) (om_some (em_add (em_var 4) em_int)) om_none)) am_nil))))) (sm_cons (sm_if (tm_cmp op_ltM f_ord (em_var 1) em_int rfl) (sm_cons (sm_set 5 hN0 (em_add (em_var 5) (em_lst (am_cons (em_add (em_var 2) (em_lst (am_cons em_int am_nil))) (am_cons (em_add (em_callTy (call_tupleM rfl) f_tuple (z 3 _ rfl) (am_cons (em_var 2) am_nil)) (em_tup (am_cons em_int am_nil))) (am_cons (em_add (em_add (em_slice (em_var 2) om_none (om_some (em_var 4))) (em_lst (am_cons (em_tup (am_cons em_int am_nil)) am_nil))) (em_slice (em_var 2) (om_some (em_add (em_var 4) em_int)) om_none)) am_nil)))))) (sm_one (sm_expr (em_append (em_var 5) (am_cons (em_add (em_add (em_slice (em_var 2) om_none (om_some (em_var 4))) (em_lst (am_cons (em_lst (am_cons em_int am_nil)) am_nil))) (em_slice (em_var 2) (om_some (em_add (em_var 4) em_int)) om_none)) am_nil))))) sm_nil) (sm_one (sm_ret (em_ix (em_var 5) (em_callN h_ltake (hr.mono (by decide)) hG (takes_of rfl rfl rfl rfl) (am_cons (em_var 0) (am_cons (em_callB (call_lenM rfl) f_len (z 6 _ rfl) (am_cons (em_var 5) am_nil)) am_nil)))))))))))
def m_lrefusal : MS := (seqS (tryS (catL askc.exms) "DealError" 2 (exprS (mCall (makeF "Array" phi_Array_init) (mCons (mVar 0) (mCons (mVar 1) mNil)))) (seqS (asgS (mOpA fLst mNil) (nmT 3)) (seqS (ifS (mTst (mIsiE tb 2 (retM (.glo "InvalidSides")))) (exprS (mMeth isL fAppend (mVar 3) (mCons (mOp2 fAdd (retM (.str "sides ")) (mOpA fRepr (mCons (mXf tb 2 "sides") mNil))) mNil))) nxS) (seqS (ifS (mTst (mIsiE tb 2 (retM (.glo "InvalidCells")))) (exprS (mMeth isL fAppend (mVar 3) (mCons (mOp2 fAdd (retM (.str "cells ")) (mOpA fRepr (mCons (mXf tb 2 "cells") mNil))) mNil))) nxS) (seqS (ifS (mOr (mTst (mIsiE tb 2 (mOpA fTup (mCons (retM (.glo "InvalidInputs")) (mCons (retM (.glo "NoFit")) mNil))))) (mNot (mTst (mIsiE tb 2 (retM (.ty "ValueError")))))) (exprS (mMeth isL fAppend (mVar 3) (mCons (retM (.str "other")) mNil))) nxS) (retS (mMeth isS fJoin (retM (.str " ")) (mCons (mVar 3) mNil)))))))) (retS (retM (.str "none"))))
def phi_lrefusal : FnD := fnM 2 4 m_lrefusal
abbrev s_lrefusal : Stmt := top 36
theorem sc_lrefusal : FnScope ["sides", "cells", "e", "found"] ["sides", "cells"] (defScope s_lrefusal) := ⟨rfl, rfl, rfl, by decide +kernel, rfl, by decide +kernel, by decide +kernel⟩
theorem d_lrefusal (hF : Facts (GK K mg) tb) (hN : Named (GK K mg) tb) (hC : Catch (GK K mg) (catL askc.exms)) (hNF : ∀ x, NotF (GK K mg) x (nfL askc.nfs x)) (z : Z mg) (gl : Gs mg) (gi : Gi mg) (k_Array : MkN P w K mg base 6 "Array" ["self", "sides", "cells"] phi_Array_init) {fd : FuncData} (FD : FunD K "_law_refusal" "_law_refusal" (defArgs s_lrefusal) (defBody s_lrefusal) (defScope s_lrefusal) [] [] (He.ga K "_law_refusal") fd) (hm : mg "_law_refusal" = some (.ref (He.ga K "_law_refusal"))) : FnN P w K mg base (7 + 1) "_law_refusal" ["sides", "cells"] phi_lrefusal := by
  have hN0 : (["sides", "cells", "e", "found"] : List Str).Nodup := by decide +kernel
  refine fnn (st := s_lrefusal) (N := ["sides", "cells", "e", "found"]) (m := m_lrefusal) (k := 7) FD sc_lrefusal hm (fun _ _ _ _ _ _ us hl => match us, hl with | [_, _], _ => rfl) fun cdv A outer s H E hr hG0 => ?_
  have hu : (A.deeper (envOfC "_law_refusal" (defScope s_lrefusal) s.heap.objs.size (He.ga K "_law_refusal") cdv)).units + 66 < cLine := by have := hr.un; omega
  have hG : (A.deeper (envOfC "_law_refusal" (defScope s_lrefusal) s.heap.objs.size (He.ga K "_law_refusal") cdv)).guards = some [] := hG0
  exact (sm_cons (sm_tryE (i := 2) hC (gl 5 _ rfl) hN0 (takes_of rfl rfl rfl rfl) (fun W1 pn1 xe1 tk1 hp1 => (sm_one (sm_expr (em_makeN k_Array (hr.mono (by decide)) hG tk1 (am_cons (em_var 0) (am_cons (em_var 1) am_nil)))))) (fun a1 oe1 cls1 d1 pn1 hz hfv => (sm_cons (sm_set 3 hN0 (em_lst am_nil)) (sm_cons (sm_if (tm_val (em_isiS 2 hF hN hz hfv (z 1 _ rfl) (em_globE (gl 1 _ rfl)))) (sm_one (sm_expr (em_append (em_var 3) (am_cons (em_add em_str (em_callB (call_reprG rfl hG hu) f_repr (z 11 _ rfl) (am_cons (em_xfS 2 hF hz hfv) am_nil))) am_nil)))) sm_nil) (sm_cons (sm_if (tm_val (em_isiS 2 hF hN hz hfv (z 1 _ rfl) (em_globE (gl 2 _ rfl)))) (sm_one (sm_expr (em_append (em_var 3) (am_cons (em_add em_str (em_callB (call_reprG rfl hG hu) f_repr (z 11 _ rfl) (am_cons (em_xfS 2 hF hz hfv) am_nil))) am_nil)))) sm_nil) (sm_cons (sm_if (L2.PW.pt (wm_or (tm_val (em_isiS 2 hF hN hz hfv (z 1 _ rfl) (em_tup (am_cons (em_globE (gl 4 _ rfl)) (am_cons (em_globE (gl 3 _ rfl)) am_nil))))) (wm_or1 (tm_not (tm_val (em_isiS 2 hF hN hz hfv (z 1 _ rfl) (em_ty (z 12 _ rfl)))))))) (sm_one (sm_expr (em_append (em_var 3) (am_cons em_str am_nil)))) sm_nil) (sm_one (sm_ret (em_join em_str (am_cons (em_var 3) am_nil)))))))))) (sm_one (sm_ret em_str)))
def m_lis_unlike : MS := (retS (mAndV (mOp2 (fIs false) (mOp2 (altF (fOwn tb "Array" phi_Array_eq (nfL askc.nfs "Array") id) fEq) (mVar 0) (mVar 1)) (retM (.bl false))) (mOp2 (fIs false) (mOp2 (altF (fOwn tb "Array" phi_Array_eq (nfL askc.nfs "Array") (!·)) fNe) (mVar 0) (mVar 1)) (retM (.bl true)))))
def phi_lis_unlike : FnD := fnM 2 2 m_lis_unlike
abbrev s_lis_unlike : Stmt := top 37
theorem sc_lis_unlike : FnScope ["array", "other"] ["array", "other"] (defScope s_lis_unlike) := ⟨rfl, rfl, rfl, by decide +kernel, rfl, by decide +kernel, by decide +kernel⟩
theorem d_lis_unlike (hF : Facts (GK K mg) tb) (hN : Named (GK K mg) tb) (hC : Catch (GK K mg) (catL askc.exms)) (hNF : ∀ x, NotF (GK K mg) x (nfL askc.nfs x)) (z : Z mg) (gl : Gs mg) (gi : Gi mg) (q_Array : EqN P w K mg base 1 "Array" ["self", "other"] phi_Array_eq) {fd : FuncData} (FD : FunD K "_law_is_unlike" "_law_is_unlike" (defArgs s_lis_unlike) (defBody s_lis_unlike) (defScope s_lis_unlike) [] [] (He.ga K "_law_is_unlike") fd) (hm : mg "_law_is_unlike" = some (.ref (He.ga K "_law_is_unlike"))) : FnN P w K mg base (2 + 1) "_law_is_unlike" ["array", "other"] phi_lis_unlike := by
  have hN0 : (["array", "other"] : List Str).Nodup := by decide +kernel
  refine fnn (st := s_lis_unlike) (N := ["array", "other"]) (m := m_lis_unlike) (k := 2) FD sc_lis_unlike hm (fun _ _ _ _ _ _ us hl => match us, hl with | [_, _], _ => rfl) fun cdv A outer s H E hr hG0 => ?_
  have hu : (A.deeper (envOfC "_law_is_unlike" (defScope s_lis_unlike) s.heap.objs.size (He.ga K "_law_is_unlike") cdv)).units + 66 < cLine := by have := hr.un; omega
  have hG : (A.deeper (envOfC "_law_is_unlike" (defScope s_lis_unlike) s.heap.objs.size (He.ga K "_law_is_unlike") cdv)).guards = some [] := hG0
  exact (sm_one (sm_ret (em_and (em_cmp op_isM f_is (em_eqN q_Array hF (hNF "Array") (hr.mono (by decide)) hG (em_var 0) (em_var 1) rfl) em_bl rfl) (em_one (em_cmp op_isM f_is (em_neN q_Array hF (hNF "Array") (hr.mono (by decide)) hG (em_var 0) (em_var 1) rfl) em_bl rfl)))))
def b_law_1 : MS := (ifS (mTst (mOp2 fNe (mOpA fRepr (mCons (mMth "Array" "cell" phi_Array_cell (mVar 9) (mCons (mOp2 fIx (mVar 10) (mVar 5)) mNil)) mNil)) (mOpA fRepr (mCons (mOp2 fIx (mVar 4) (mVar 5)) mNil)))) (retS (retM (.bl false))) nxS)
def b_law_2 : MS := (ifS (mNot (mTst (mCall phi_lis_unlike (mCons (mVar 9) (mCons (mVar 13) mNil))))) (retS (retM (.bl false))) nxS)
def m_law : MS := (seqS (asgS (mOpA fLst (mCons (mCall phi_ldraws (mCons (mVar 0) (mCons (retM (.int 420)) mNil))) (mCons (retM (.int 0)) mNil))) (nmT 1)) (seqS (asgS (mCall phi_ldrawn_sides (mCons (mVar 1) mNil)) (nmT 2)) (seqS (asgS (mCall phi_lmany (mCons (mVar 2) mNil)) (nmT 3)) (seqS (asgS (compM [5] (mRng1 (mCons (mVar 3) mNil)) (nmT 5) yesM (mCall phi_lnumber (mCons (mVar 1) mNil))) (nmT 4)) (seqS (asgS (compM [7] (mSeq (mVar 2)) (nmT 7) yesM (mOpA fList (mCons (mVar 7) mNil))) (nmT 6)) (seqS (asgS (mOpA fList (mCons (mVar 4) mNil)) (nmT 8)) (seqS (asgS (mCall (makeF "Array" phi_Array_init) (mCons (mOp2 fIx (mOpA fLst (mCons (mVar 2) (mCons (mVar 6) mNil))) (mCall phi_ltake (mCons (mVar 1) (mCons (retM (.int 2)) mNil)))) (mCons (mVar 8) mNil))) (nmT 9)) (seqS (ifS (mOr (mTst (mOp2 (fIs true) (mCall phi_is_sides (mCons (mVar 2) mNil)) (retM (.bl true)))) (mOr (mTst (mOp2 (fIs true) (mCall phi_is_sides (mCons (mVar 6) mNil)) (retM (.bl true)))) (mTst (mOp2 (fIs true) (mCall phi_is_sides (mCons (mOpA fTuple (mCons (mVar 6) mNil)) mNil)) (retM (.bl true)))))) (retS (retM (.bl false))) nxS) (seqS (asgS (mCall phi_lplaces (mCons (mVar 2) mNil)) (nmT 10)) (seqS (ifS (mOr (mTst (mOp2 fNe (mOpA fRepr (mCons (mCall phi_places (mCons (mVar 2) mNil)) mNil)) (mOpA fRepr (mCons (mOpA fTuple (mCons (mVar 10) mNil)) mNil)))) (mTst (mOp2 fNe (mOpA fRepr (mCons (mCall phi_places (mCons (mVar 6) mNil)) mNil)) (mOpA fRepr (mCons (mOpA fTuple (mCons (mVar 10) mNil)) mNil))))) (retS (retM (.bl false))) nxS) (seqS (exprS (mMeth isL fAppend (mVar 8) (mCons (retM (.int 0)) mNil))) (seqS (exprS (mMeth isL fAppend (mVar 6) (mCons (mOpA fLst (mCons (retM (.str "zz")) (mCons (retM (.int 2)) mNil))) mNil))) (seqS (ifS (mTst (mOp2 fNe (mOpA fRepr (mCons (mOpA fTup (mCons (mOp1 (fFld tb "sides") (mVar 9)) (mCons (mOp1 (fFld tb "cells") (mVar 9)) mNil))) mNil)) (mOpA fRepr (mCons (mOpA fTup (mCons (mVar 2) (mCons (mOpA fTuple (mCons (mVar 4) mNil)) mNil))) mNil)))) (retS (retM (.bl false))) nxS) (seqS (forS (mRng1 (mCons (mVar 3) mNil)) (nmT 5) b_law_1) (seqS (ifS (mOr (mTst (mOp2 (fIs true) (mOp2 (altF (fOwn tb "Array" phi_Array_eq (nfL askc.nfs "Array") id) fEq) (mVar 9) (mCall (makeF "Array" phi_Array_init) (mCons (mVar 2) (mCons (mOpA fTuple (mCons (mVar 4) mNil)) mNil)))) (retM (.bl true)))) (mTst (mOp2 (fIs true) (mOp2 (altF (fOwn tb "Array" phi_Array_eq (nfL askc.nfs "Array") (!·)) fNe) (mVar 9) (mCall (makeF "Array" phi_Array_init) (mCons (mVar 2) (mCons (mVar 4) mNil)))) (retM (.bl false))))) (retS (retM (.bl false))) nxS) (seqS (asgS (mCall phi_ltake (mCons (mVar 1) (mCons (mVar 3) mNil))) (nmT 11)) (seqS (asgS (mOpA fLst (mCons (mCall (makeF "Array" phi_Array_init) (mCons (mVar 2) (mCons (mOp2 fAdd (mOp2 fAdd (mSl (mVar 4) mNoPart (mPart (mVar 11))) (mOpA fLst (mCons (mOp2 fAdd (mOp2 fIx (mVar 4) (mVar 11)) (retM (.int 1))) mNil))) (mSl (mVar 4) (mPart (mOp2 fAdd (mVar 11) (retM (.int 1)))) mNoPart)) mNil))) (mCons (mVar 4) (mCons (mOpA fTup (mCons (mVar 2) (mCons (mOpA fTuple (mCons (mVar 4) mNil)) mNil))) (mCons (retM .non) (mCons (mVar 3) mNil)))))) (nmT 12)) (seqS (ifS (mTst (mOp2 (fOrd pGt qGt) (mOpA fLen (mCons (mVar 2) mNil)) (retM (.int 0)))) (exprS (mMeth isL fAppend (mVar 12) (mCons (mCall (makeF "Array" phi_Array_init) (mCons (mOpA fTup (mCons (mOpA fTup (mCons (retM (.str "a1")) (mCons (retM (.int 1)) mNil))) mNil)) (mCons (mSl (mVar 4) mNoPart (mPart (retM (.int 1)))) mNil))) mNil))) nxS) (seqS (forS (mSeq (mVar 12)) (nmT 13) b_law_2) (seqS (asgS (mCall phi_lno_sides (mCons (mVar 1) mNil)) (nmT 14)) (seqS (asgS (mOp2 fAdd (retM (.str "sides ")) (mOpA fRepr (mCons (mVar 14) mNil))) (nmT 15)) (seqS (asgS (mCall phi_lno_cells (mCons (mVar 1) (mCons (mVar 3) mNil))) (nmT 16)) (seqS (asgS (mOp2 fAdd (retM (.str "cells ")) (mOpA fRepr (mCons (mVar 16) mNil))) (nmT 17)) (seqS (ifS (mOr (mTst (mOp2 (fIs true) (mCall phi_is_sides (mCons (mVar 14) mNil)) (retM (.bl false)))) (mTst (mOp2 fNe (mCall phi_lrefusal (mCons (mVar 14) (mCons (mOp2 fIx (mOpA fLst (mCons (mVar 16) (mCons (mOpA fTup (mCons (retM (.int 1)) mNil)) mNil))) (mCall phi_ltake (mCons (mVar 1) (mCons (retM (.int 2)) mNil)))) mNil))) (mVar 15)))) (retS (retM (.bl false))) nxS) (retS (mOp2 fEq (mCall phi_lrefusal (mCons (mVar 2) (mCons (mVar 16) mNil))) (mVar 17)))))))))))))))))))))))))))
def phi_law : FnD := fnM 1 18 m_law
abbrev s_law : Stmt := top 38
theorem sc_law : FnScope ["script", "hand", "sides", "many", "cells", "k", "listed", "pair", "handed", "array", "rows", "at", "others", "other", "wrong", "told", "bad", "due"] ["script"] (defScope s_law) := ⟨rfl, rfl, rfl, by decide +kernel, rfl, by decide +kernel, by decide +kernel⟩
theorem d_law (hF : Facts (GK K mg) tb) (hN : Named (GK K mg) tb) (hC : Catch (GK K mg) (catL askc.exms)) (hNF : ∀ x, NotF (GK K mg) x (nfL askc.nfs x)) (z : Z mg) (gl : Gs mg) (gi : Gi mg) (h_ldraws : FnN P w K mg base 1 "_law_draws" ["script", "many"] phi_ldraws) (h_ldrawn_sides : FnN P w K mg base 2 "_law_drawn_sides" ["hand"] phi_ldrawn_sides) (h_lmany : FnN P w K mg base 1 "_law_many" ["sides"] phi_lmany) (h_lnumber : FnN P w K mg base 2 "_law_number" ["hand"] phi_lnumber) (k_Array : MkN P w K mg base 6 "Array" ["self", "sides", "cells"] phi_Array_init) (h_ltake : FnN P w K mg base 1 "_law_take" ["hand", "many"] phi_ltake) (h_is_sides : FnN P w K mg base 5 "is_sides" ["sides"] phi_is_sides) (h_lplaces : FnN P w K mg base 1 "_law_places" ["sides"] phi_lplaces) (h_places : FnN P w K mg base 2 "places" ["sides"] phi_places) (t_Array_cell : MthN P w K mg base 2 "Array" "cell" ["self", "place"] phi_Array_cell) (q_Array : EqN P w K mg base 1 "Array" ["self", "other"] phi_Array_eq) (h_lis_unlike : FnN P w K mg base 3 "_law_is_unlike" ["array", "other"] phi_lis_unlike) (h_lno_sides : FnN P w K mg base 2 "_law_no_sides" ["hand"] phi_lno_sides) (h_lno_cells : FnN P w K mg base 2 "_law_no_cells" ["hand", "many"] phi_lno_cells) (h_lrefusal : FnN P w K mg base 8 "_law_refusal" ["sides", "cells"] phi_lrefusal) {fd : FuncData} (FD : FunD K "law" "law" (defArgs s_law) (defBody s_law) (defScope s_law) [] [] (He.ga K "law") fd) (hm : mg "law" = some (.ref (He.ga K "law"))) : FnG P w K mg base (8 + 1) (He.ga K "law") fd ["script"] phi_law := by
  have hN0 : (["script", "hand", "sides", "many", "cells", "k", "listed", "pair", "handed", "array", "rows", "at", "others", "other", "wrong", "told", "bad", "due"] : List Str).Nodup := by decide +kernel
  refine fng_of (st := s_law) (N := ["script", "hand", "sides", "many", "cells", "k", "listed", "pair", "handed", "array", "rows", "at", "others", "other", "wrong", "told", "bad", "due"]) (m := m_law) (k := 8) (He5.fun_of FD) sc_law fun cdv A outer s H E hr hG0 => ?_
  have hu : (A.deeper (envOfC "law" (defScope s_law) s.heap.objs.size (He.ga K "law") cdv)).units + 66 < cLine := by have := hr.un; omega
  have hG : (A.deeper (envOfC "law" (defScope s_law) s.heap.objs.size (He.ga K "law") cdv)).guards = some [] := hG0
  exact (sm_cons (sm_set 1 hN0 (em_lst (am_cons (em_callN h_ldraws (hr.mono (by decide)) hG (takes_of rfl rfl rfl rfl) (am_cons (em_var 0) (am_cons em_int am_nil))) (am_cons em_int am_nil)))) (sm_cons (sm_set 2 hN0 (em_callN h_ldrawn_sides (hr.mono (by decide)) hG (takes_of rfl rfl rfl rfl) (am_cons (em_var 1) am_nil))) (sm_cons (sm_set 3 hN0 (em_callN h_lmany (hr.mono (by decide)) hG (takes_of rfl rfl rfl rfl) (am_cons (em_var 2) am_nil))) (sm_cons (sm_setLc 4 [("k", 5)] rfl hN0 rfl rfl rfl (im_range1 (z 9 _ rfl) (am_cons (em_var 3) am_nil)) (blkOk_by rfl) (fun _ _ _ _ _ => (gc_name 5 hN0)) (fun _ _ _ _ _ => sm_yes) (fun _ _ _ _ _ => (em_callN h_lnumber (hr.mono (by decide)) hG takes_none5 (am_cons (em_var 1) am_nil)))) (sm_cons (sm_setLc 6 [("pair", 7)] rfl hN0 rfl rfl rfl (im_seq (em_var 2)) (blkOk_by rfl) (fun _ _ _ _ _ => (gc_name 7 hN0)) (fun _ _ _ _ _ => sm_yes) (fun _ _ _ _ _ => (em_callTy (call_listM rfl) f_list (z 4 _ rfl) (am_cons (em_var 7) am_nil)))) (sm_cons (sm_set 8 hN0 (em_callTy (call_listM rfl) f_list (z 4 _ rfl) (am_cons (em_var 4) am_nil))) (sm_cons (sm_set 9 hN0 (em_makeN k_Array (hr.mono (by decide)) hG (takes_of rfl rfl rfl rfl) (am_cons (em_ix (em_lst (am_cons (em_var 2) (am_cons (em_var 6) am_nil))) (em_callN h_ltake (hr.mono (by decide)) hG (takes_of rfl rfl rfl rfl) (am_cons (em_var 1) (am_cons em_int am_nil)))) (am_cons (em_var 8) am_nil)))) (sm_cons (sm_if (L2.PW.pt (wm_or (tm_cmp op_isNotM f_isNot (em_callN h_is_sides (hr.mono (by decide)) hG (takes_of rfl rfl rfl rfl) (am_cons (em_var 2) am_nil)) em_bl rfl) (wm_or (tm_cmp op_isNotM f_isNot (em_callN h_is_sides (hr.mono (by decide)) hG (takes_of rfl rfl rfl rfl) (am_cons (em_var 6) am_nil)) em_bl rfl) (wm_or1 (tm_cmp op_isNotM f_isNot (em_callN h_is_sides (hr.mono (by decide)) hG (takes_of rfl rfl rfl rfl) (am_cons (em_callTy (call_tupleM rfl) f_tuple (z 3 _ rfl) (am_cons (em_var 6) am_nil)) am_nil)) em_bl rfl))))) (sm_one (sm_ret em_bl)) sm_nil) (sm_cons (sm_set 10 hN0 (em_callN h_lplaces (hr.mono (by decide)) hG (takes_of rfl rfl rfl rfl) (am_cons (em_var 2) am_nil))) (sm_cons (sm_if (L2.PW.pt (wm_or (tm_cmp (op_neN rfl hu) f_ne (em_callB (call_reprG rfl hG hu) f_repr (z 11 _ rfl) (am_cons (em_callN h_places (hr.mono (by decide)) hG (takes_of rfl rfl rfl rfl) (am_cons (em_var 2) am_nil)) am_nil)) (em_callB (call_reprG rfl hG hu) f_repr (z 11 _ rfl) (am_cons (em_callTy (call_tupleM rfl) f_tuple (z 3 _ rfl) (am_cons (em_var 10) am_nil)) am_nil)) rfl) (wm_or1 (tm_cmp (op_neN rfl hu) f_ne (em_callB (call_reprG rfl hG hu) f_repr (z 11 _ rfl) (am_cons (em_callN h_places (hr.mono (by decide)) hG (takes_of rfl rfl rfl rfl) (am_cons (em_var 6) am_nil)) am_nil)) (em_callB (call_reprG rfl hG hu) f_repr (z 11 _ rfl) (am_cons (em_callTy (call_tupleM rfl) f_tuple (z 3 _ rfl) (am_cons (em_var 10) am_nil)) am_nil)) rfl)))) (sm_one (sm_ret em_bl)) sm_nil) (sm_cons (sm_expr (em_append (em_var 8) (am_cons em_int am_nil))) (sm_cons (sm_expr (em_append (em_var 6) (am_cons (em_lst (am_cons em_str (am_cons em_int am_nil))) am_nil))) (sm_cons (sm_if (tm_cmp (op_neN rfl hu) f_ne (em_callB (call_reprG rfl hG hu) f_repr (z 11 _ rfl) (am_cons (em_tup (am_cons (em_fld hF (em_var 9)) (am_cons (em_fld hF (em_var 9)) am_nil))) am_nil)) (em_callB (call_reprG rfl hG hu) f_repr (z 11 _ rfl) (am_cons (em_tup (am_cons (em_var 2) (am_cons (em_callTy (call_tupleM rfl) f_tuple (z 3 _ rfl) (am_cons (em_var 4) am_nil)) am_nil))) am_nil)) rfl) (sm_one (sm_ret em_bl)) sm_nil) (sm_cons (sm_for PassesOwn.leaving rfl (im_range1 (z 9 _ rfl) (am_cons (em_var 3) am_nil)) (gm_name 5 hN0) (sm_one (sm_if (tm_cmp (op_neN rfl hu) f_ne (em_callB (call_reprG rfl hG hu) f_repr (z 11 _ rfl) (am_cons (em_methN t_Array_cell (hr.mono (by decide)) hG (takes_of rfl rfl rfl rfl) (em_var 9) (am_cons (em_ix (em_var 10) (em_var 5)) am_nil)) am_nil)) (em_callB (call_reprG rfl hG hu) f_repr (z 11 _ rfl) (am_cons (em_ix (em_var 4) (em_var 5)) am_nil)) rfl) (sm_one (sm_ret em_bl)) sm_nil))) (sm_cons (sm_if (L2.PW.pt (wm_or (tm_cmp op_isNotM f_isNot (em_eqN q_Array hF (hNF "Array") (hr.mono (by decide)) hG (em_var 9) (em_makeN k_Array (hr.mono (by decide)) hG (takes_of rfl rfl rfl rfl) (am_cons (em_var 2) (am_cons (em_callTy (call_tupleM rfl) f_tuple (z 3 _ rfl) (am_cons (em_var 4) am_nil)) am_nil))) rfl) em_bl rfl) (wm_or1 (tm_cmp op_isNotM f_isNot (em_neN q_Array hF (hNF "Array") (hr.mono (by decide)) hG (em_var 9) (em_makeN k_Array (hr.mono (by decide)) hG (takes_of rfl rfl rfl rfl) (am_cons (em_var 2) (am_cons (em_var 4) am_nil))) rfl) em_bl rfl)))) (sm_one (sm_ret em_bl)) sm_nil) (sm_cons (sm_set 11 hN0 (em_callN h_ltake (hr.mono (by decide)) hG (takes_of rfl rfl rfl rfl) (am_cons (em_var 1) (am_cons (em_var 3) am_nil)))) (sm_cons (sm_set 12 hN0 (em_lst (am_cons (em_makeN k_Array (hr.mono (by decide)) hG (takes_of rfl rfl rfl rfl) (am_cons (em_var 2) (am_cons (em_add (em_add (em_slice (em_var 4) om_none (om_some (em_var 11))) (em_lst (am_cons (em_add (em_ix (em_var 4) (em_var 11)) em_int) am_nil))) (em_slice (em_var 4) (om_some (em_add (em_var 11) em_int)) om_none)) am_nil))) (am_cons (em_var 4) (am_cons (em_tup (am_cons (em_var 2) (am_cons (em_callTy (call_tupleM rfl) f_tuple (z 3 _ rfl) (am_cons (em_var 4) am_nil)) am_nil))) (am_cons em_non (am_cons (em_var 3) am_nil))))))) (sm_cons (sm_if (tm_cmp op_gtM f_ord (em_callB (call_lenM rfl) f_len (z 6 _ rfl) (am_cons (em_var 2) am_nil)) em_int rfl) (sm_one (sm_expr (em_append (em_var 12) (am_cons (em_makeN k_Array (hr.mono (by decide)) hG (takes_of rfl rfl rfl rfl) (am_cons (em_tup (am_cons (em_tup (am_cons em_str (am_cons em_int am_nil))) am_nil)) (am_cons (em_slice (em_var 4) om_none (om_some em_int)) am_nil))) am_nil)))) sm_nil) (sm_cons (sm_for PassesOwn.leaving rfl (im_seq (em_var 12)) (gm_name 13 hN0) (sm_one (sm_if (tm_not (tm_val (em_callN h_lis_unlike (hr.mono (by decide)) hG (takes_of rfl rfl rfl rfl) (am_cons (em_var 9) (am_cons (em_var 13) am_nil))))) (sm_one (sm_ret em_bl)) sm_nil))) (sm_cons (sm_set 14 hN0 (em_callN h_lno_sides (hr.mono (by decide)) hG (takes_of rfl rfl rfl rfl) (am_cons (em_var 1) am_nil))) (sm_cons (sm_set 15 hN0 (em_add em_str (em_callB (call_reprG rfl hG hu) f_repr (z 11 _ rfl) (am_cons (em_var 14) am_nil)))) (sm_cons (sm_set 16 hN0 (em_callN h_lno_cells (hr.mono (by decide)) hG (takes_of rfl rfl rfl rfl) (am_cons (em_var 1) (am_cons (em_var 3) am_nil)))) (sm_cons (sm_set 17 hN0 (em_add em_str (em_callB (call_reprG rfl hG hu) f_repr (z 11 _ rfl) (am_cons (em_var 16) am_nil)))) (sm_cons (sm_if (L2.PW.pt (wm_or (tm_cmp op_isNotM f_isNot (em_callN h_is_sides (hr.mono (by decide)) hG (takes_of rfl rfl rfl rfl) (am_cons (em_var 14) am_nil)) em_bl rfl) (wm_or1 (tm_cmp (op_neN rfl hu) f_ne (em_callN h_lrefusal (hr.mono (by decide)) hG (takes_of rfl rfl rfl rfl) (am_cons (em_var 14) (am_cons (em_ix (em_lst (am_cons (em_var 16) (am_cons (em_tup (am_cons em_int am_nil)) am_nil))) (em_callN h_ltake (hr.mono (by decide)) hG (takes_of rfl rfl rfl rfl) (am_cons (em_var 1) (am_cons em_int am_nil)))) am_nil))) (em_var 15) rfl)))) (sm_one (sm_ret em_bl)) sm_nil) (sm_one (sm_ret (em_cmp (op_eqN rfl hu) f_eq (em_callN h_lrefusal (hr.mono (by decide)) hG (takes_of rfl rfl rfl rfl) (am_cons (em_var 2) (am_cons (em_var 16) am_nil))) (em_var 17) rfl)))))))))))))))))))))))))))
end
end K02

set_option Elab.async false
set_option linter.all false
set_option maxRecDepth 100000
set_option maxHeartbeats 1000000
namespace K02
open PySem PySem.Spec PyProof.Rows L2 DD PB
theorem std : Std tb := ⟨fun p hp c hc => by
  have all : ∀ t ∈ base6, ∀ c ∈ ["int", "bool", "str", "list", "tuple"], tb.kit (.inl t) (.inl c) = some (decide (t = c) || (decide (t = "bool") && decide (c = "int"))) := by decide +kernel
  have m : tyP p ∈ base6 := by
    cases p <;> first | (simp [tyP, base6]; done) | (exact absurd rfl (hp _))
  exact all _ m c hc⟩
theorem att_s : tb.attr "Array" "sides" = true := by decide +kernel
theorem att_c : tb.attr "Array" "cells" = true := by decide +kernel
instance okTb : Ok tb := ⟨std, att_s, att_c⟩
end K02

set_option Elab.async false
set_option linter.all false
set_option maxRecDepth 100000
set_option maxHeartbeats 1000000
namespace K02
open PySem PySem.Spec PyProof.Rows L2 DD PB
/-- a pair of a name and a size -/
def pairD (p : Str × Nat) : D := .tup [.str p.1, .int (p.2 : Nat)]
theorem pairT {e : Sl} {p : Str × Nat} {S : So} : tupT 2 (consT (nmT 2) (consT (nmT 3) nilT)) (pairD p) S e = some ((e.set 2 (.v (.str p.1))).set 3 (.v (.int (p.2 : Nat)))) := rfl
def manyL (l : List (Str × Nat)) : Nat := l.foldl (fun m p => m * p.2) 1
theorem many_take {l : List (Str × Nat)} {i : Nat} {p : Str × Nat} (h : l[i]? = some p) : manyL (l.take (i + 1)) = manyL (l.take i) * p.2 := by
  unfold manyL
  rw [List.take_add_one, h, List.foldl_append]
  rfl
theorem many_le : ∀ (n : Nat) (l : List (Str × Nat)), l.length = n → (∀ p ∈ l, p.2 ≤ 6) → manyL l ≤ 6 ^ n
  | 0, l, hn, _ => by
    have : l = [] := List.length_eq_zero_iff.mp hn
    subst this
    decide
  | n + 1, l, hn, h6 => by
    have hne : l ≠ [] := fun z => by rw [z] at hn; cases hn
    have es : l = l.dropLast ++ [l.getLast hne] := (List.dropLast_concat_getLast hne).symm
    have hs := h6 _ (List.getLast_mem hne)
    generalize l.getLast hne = s at es hs
    have e1 : manyL l = manyL l.dropLast * s.2 := by
      conv => lhs; rw [es]
      unfold manyL
      rw [List.foldl_append]
      rfl
    rw [e1]
    have := many_le n l.dropLast (by rw [List.length_dropLast, hn]; rfl) fun x hx => h6 x (List.dropLast_subset _ hx)
    rw [Nat.pow_succ]
    exact Nat.mul_le_mul this hs
/-- _law_many(sides) -/
theorem sp_lmany {d : D} {l : List (Str × Nat)} {S : So} {b : Bool} {P : D → So → Prop} (h : seqOf d S = some (b, l.map pairD)) (h4 : l.length ≤ 4) (h6 : ∀ p ∈ l, p.2 ≤ 6)
    (hP : P (.int (manyL l : Nat)) S) : okC (phi_lmany [d] S) P := by
  have bound : ∀ i, manyL (l.take i) ≤ 1296 := fun i => by
    have hl : (l.take i).length ≤ 4 := by simp; omega
    have := many_le _ (l.take i) rfl fun s hs => h6 s (List.take_subset _ _ hs)
    have e : (6 : Nat) ^ (l.take i).length ≤ 6 ^ 4 := Nat.pow_le_pow_right (by decide) hl
    have : (6 : Nat) ^ 4 = 1296 := by decide
    omega
  unfold phi_lmany
  refine okC_fn rfl ?_
  unfold m_lmany
  simp only [startE, List.map, List.length, List.replicate, List.cons_append, List.nil_append]
  refine okS_seq (okS_asg (okM_ret.mpr ?_))
  refine okS_seq (okS_each (okM_var.mpr ⟨d, rfl, ?_⟩))
  obtain ⟨it, i1, i2⟩ := seqI_row (e := ([.v d, .v (.int 1), .no, .no] : Sl)) h
  refine ⟨it, _, i1, i2, fun i e2 S2 => S2 = S ∧ ∃ s2 s3, e2 = [.v d, .v (.int (manyL (l.take i) : Nat)), s2, s3], ⟨rfl, .no, .no, rfl⟩, ?_, ?_⟩
  · rintro i e2 S2 x hk hx ⟨rfl, s2, s3, rfl⟩
    rw [List.getElem?_map] at hx
    obtain ⟨p, hp, rfl⟩ := Option.map_eq_some_iff.mp hx
    refine ⟨_, pairT, ?_⟩
    unfold b_lmany_1
    refine okS_asg ?_
    simp only [okM_op2, okM_var]
    refine ⟨_, rfl, _, rfl, ?_⟩
    rw [okF_mul]
    have b1 := bound i
    have b2 := h6 p (List.mem_of_getElem? hp)
    refine ⟨.inl (.inr ⟨by omega, by omega⟩), Keep.refl _, rfl, .v (.str p.1), .v (.int (p.2 : Nat)), ?_⟩
    · rw [many_take hp]
      simp
  · rintro e2 S2 hk ⟨rfl, s2, s3, rfl⟩
    refine okS_ret (okM_var.mpr ⟨_, rfl, ?_⟩)
    rw [List.length_map, List.take_length]
    exact hP
/-- [f(k) for k in range(s)] that changes nothing else -/
theorem okM_rngP {own : List Nat} {m : MM (List D)} {t : Tg} {te : MM D} {e : Sl} {S : So} {s : Nat} {f : Nat → D} {P : D → So → Prop} (hm : okM m e S fun ds T => ds = [.int (s : Nat)] ∧ T = S) (hs : s < 100000)
    (hte : ∀ j T, j < s → Keep S T → ∃ e3, t (.int (j : Nat)) T (wipeE e own) = some e3 ∧ okM te e3 T fun y U => U = T ∧ y = f j)
    (hP : ∀ T, Keep S T → T[S.length]? = some (.lst ((List.range s).map f)) → P (.ref S.length) T) : okM (compM own (mRng1 m) t yesM te) e S P := by
  refine okM_compR (hm.imp fun ds T q => ?_)
  obtain ⟨rfl, rfl⟩ := q
  refine ⟨s, rfl, by omega, fun i U => Keep T U ∧ U[T.length]? = some (.lst ((List.range i).map f)), ⟨Keep.app _ _, get_new⟩, ?_, fun U h => hP U h.1 h.2⟩
  intro i U hi hU
  obtain ⟨h1, h2⟩ := hU
  obtain ⟨e3, g1, g2⟩ := hte i U hi h1
  refine ⟨e3, g1, g2.imp fun y V q => ?_⟩
  obtain ⟨rfl, rfl⟩ := q
  have := line200k
  refine ⟨_, h2, by simp; omega, keep_set h1 (Nat.le_refl _), ?_⟩
  rw [List.getElem?_set_self (List.getElem?_eq_some_iff.mp h2).1, List.range_succ, List.map_append]
  rfl
/-- rows with one place more, the rows taken one by one -/
theorem step_take {rows : List (List Int)} {s j : Nat} {ks : List Int} (h : rows[j]? = some ks) : stepL (rows.take (j + 1)) s = stepL (rows.take j) s ++ ((List.range s).map fun (k : Nat) => ks ++ [(k : Int)]) := by
  rw [List.take_add_one, h]
  simp [stepL]
/-- _law_places(sides) -/
theorem sp_lplaces {d : D} {l : List (Str × Nat)} {S : So} {b : Bool} {P : D → So → Prop} (h : seqOf d S = some (b, l.map pairD)) (h4 : l.length ≤ 4) (h6 : ∀ p ∈ l, p.2 ≤ 6)
    (hP : ∀ T r, Keep S T → T[r]? = some (.lst ((rowsL (l.map (·.2))).map rowD)) → P (.ref r) T) : okC (phi_lplaces [d] S) P := by
  have bound : ∀ i, (rowsL ((l.map (·.2)).take i)).length ≤ 1296 := fun i => by
    have hl : ((l.map (·.2)).take i).length ≤ 4 := by simp; omega
    have := rows_len _ ((l.map (·.2)).take i) rfl fun s hs => by
      obtain ⟨p, hp, rfl⟩ := List.mem_map.mp (List.take_subset _ _ hs)
      exact h6 p hp
    have e : (6 : Nat) ^ ((l.map (·.2)).take i).length ≤ 6 ^ 4 := Nat.pow_le_pow_right (by decide) hl
    have : (6 : Nat) ^ 4 = 1296 := by decide
    omega
  unfold phi_lplaces
  refine okC_fn rfl ?_
  unfold m_lplaces
  simp only [startE, List.map, List.length, List.replicate, List.cons_append, List.nil_append]
  refine okS_seq (okS_asg ?_)
  simp only [okM_opA, okM_cons, okM_nil]
  rw [fTup_ok (by simp), okF_some, DD.fLst_ok (by simp), okF_some]
  have k0 : Keep S (S ++ [O.lst [D.tup []]]) := Keep.app _ _
  have h0 : seqOf d (S ++ [O.lst [D.tup []]]) = some (b, l.map pairD) := seqOf_up k0 h
  refine okS_seq (okS_each (okM_var.mpr ⟨d, rfl, ?_⟩))
  obtain ⟨it, i1, i2⟩ := seqI_row (e := ([.v d, .v (.ref S.length), .no, .no, .no, .no, .no] : Sl)) h0
  refine ⟨it, _, i1, i2, fun i e2 S2 => ∃ r s2 s3 s4 s5 s6, e2 = [.v d, .v (.ref r), s2, s3, s4, s5, s6] ∧ S2[r]? = some (.lst ((rowsL ((l.map (·.2)).take i)).map rowD)), ⟨S.length, .no, .no, .no, .no, .no, rfl, get_new⟩, ?_, ?_⟩
  · rintro i e2 S2 x hk hx ⟨r, s2, s3, s4, s5, s6, rfl, e2⟩
    rw [List.getElem?_map] at hx
    obtain ⟨p, hp, rfl⟩ := Option.map_eq_some_iff.mp hx
    have gs : (l.map (·.2))[i]? = some p.2 := by rw [List.getElem?_map, hp]; rfl
    have h6i := h6 p (List.mem_of_getElem? hp)
    have hb := bound i
    have hb1 := bound (i + 1)
    have er := rows_take gs
    have hix := rows_ix _ ((l.map (·.2)).take i) rfl
    have hl4 : ((l.map (·.2)).take i).length ≤ 4 := by simp; omega
    obtain ⟨rows, hr⟩ : ∃ rows, rows = rowsL ((l.map (·.2)).take i) := ⟨_, rfl⟩
    obtain ⟨s, hs⟩ : ∃ s, s = p.2 := ⟨_, rfl⟩
    rw [← hr] at e2 hb er hix
    rw [← hs] at h6i er
    refine ⟨[.v d, .v (.ref r), .v (.str p.1), .v (.int (s : Nat)), s4, s5, s6], by rw [pairT, hs]; rfl, ?_⟩
    unfold b_lplaces_2
    refine okS_seq (okS_asg ?_)
    simp only [okM_opA, okM_nil]
    rw [DD.fLst_ok (by simp), okF_some]
    have k1 : Keep S2 (S2 ++ [O.lst []]) := Keep.app _ _
    refine okS_seq (okS_each (okM_var.mpr ⟨.ref r, rfl, ?_⟩))
    have sq : seqOf (.ref r) (S2 ++ [O.lst []]) = some (false, rows.map rowD) := by unfold seqOf; simp [k1 _ _ e2]
    obtain ⟨it2, j1, j2⟩ := seqI_row (e := ([.v d, .v (.ref r), .v (.str p.1), .v (.int (s : Nat)), .v (.ref S2.length), s5, s6] : Sl)) sq
    refine ⟨it2, _, j1, j2, fun j e3 T => ∃ q s5 s6, e3 = [.v d, .v (.ref r), .v (.str p.1), .v (.int (s : Nat)), .v (.ref q), s5, s6] ∧ T[q]? = some (.lst ((stepL (rows.take j) s).map rowD)), ⟨S2.length, s5, s6, rfl, get_new⟩, ?_, ?_⟩
    · rintro j e3 T y hkT hy ⟨q, s5, s6, rfl, e3⟩
      rw [List.getElem?_map] at hy
      obtain ⟨ks, v1, rfl⟩ := Option.map_eq_some_iff.mp hy
      refine ⟨[.v d, .v (.ref r), .v (.str p.1), .v (.int (s : Nat)), .v (.ref q), .v (rowD ks), s6], rfl, ?_⟩
      unfold b_lplaces_1
      refine okS_asg ?_
      rw [okM_op2, okM_var]
      refine ⟨_, rfl, okM_rngP (s := s) (f := fun (k : Nat) => rowD (ks ++ [(k : Int)])) ?_ (by omega) ?_ ?_⟩
      · simp only [okM_cons, okM_var, okM_nil]
        exact ⟨_, rfl, rfl, trivial⟩
      · intro k V hk2 hkV
        refine ⟨[.v d, .v (.ref r), .v (.str p.1), .v (.int (s : Nat)), .v (.ref q), .v (rowD ks), .v (.int (k : Nat))], rfl, ?_⟩
        simp only [okM_op2, okM_opA, okM_cons, okM_var, okM_nil]
        refine ⟨_, rfl, _, rfl, ?_⟩
        rw [fTup_ok (by simp), okF_some]
        have ea : fAdd (rowD ks) (.tup [.int (k : Nat)]) V = some (rowD (ks ++ [(k : Int)]), V) := by
          unfold fAdd rowD
          dsimp only
          rw [if_pos (by have := line200k; have := (hix j ks v1).1; simp; omega)]
          simp
        rw [ea, okF_some]
        simp
      · intro V hkV hV
        have ea : fAdd (.ref q) (.ref T.length) V = some (.ref V.length, V ++ [.lst ((stepL (rows.take (j + 1)) s).map rowD)]) := by
          unfold fAdd
          dsimp only
          rw [hkV _ _ e3, hV]
          dsimp only
          rw [step_take v1, List.map_append, List.map_map, if_pos]
          · rfl
          · have := line200k
            have l1 : (stepL (rows.take j) s).length ≤ 1296 * 6 := by
              rw [PB.step_length]
              exact Nat.mul_le_mul (by simp; omega) h6i
            simp
            omega
        rw [ea, okF_some]
        exact ⟨hkV.trans (Keep.app _ _), V.length, .v (rowD ks), s6, rfl, get_new⟩
    · rintro e3 T hkT ⟨q, s5, s6, rfl, e3⟩
      rw [List.length_map, List.take_length] at e3
      refine okS_asg (okM_var.mpr ⟨_, rfl, ?_⟩)
      exact ⟨k1.trans hkT, q, _, _, _, _, _, rfl, by rw [er]; exact e3⟩
  · rintro e2 S2 hk ⟨r, s2, s3, s4, s5, s6, rfl, e2⟩
    refine okS_ret (okM_var.mpr ⟨_, rfl, ?_⟩)
    refine hP S2 r (k0.trans hk) ?_
    rw [e2, List.length_map, ← List.length_map (f := fun p : Str × Nat => p.2), List.take_length]
end K02

set_option Elab.async false
set_option linter.all false
set_option maxRecDepth 100000
set_option maxHeartbeats 1000000
namespace K02
open PySem PySem.Spec PyProof.Rows L2 DD PB
theorem take_eq : phi_ltake = takeF := rfl
theorem sp_take {S : So} {many : Int} {P : D → So → Prop} (h : Hand S) (hm : 0 < many) (hm2 : many < 2 ^ 63) (hP : ∀ v S', 0 ≤ v → v < many → Hand S' → Grow S S' → S'.length = S.length → P (.int v) S') : okC (phi_ltake [.ref 2, .int many] S) P := by
  rw [take_eq]
  exact ok_take h hm hm2 hP
theorem grow_set {S T : So} {n : Nat} {o : O} (h : Grow S T) (hn : S.length ≤ n) : Grow S (T.set n o) := ⟨by simp; exact h.1, fun i x hi e => by
  have hl : i < S.length := (List.getElem?_eq_some_iff.mp e).1
  rw [List.getElem?_set_ne (by omega)]
  exact h.2 i x hi e⟩
theorem grow_keep {S T : So} (h : Keep S T) : Grow S T := ⟨h.len, fun n o _ e => h n o e⟩
theorem hand_keep {S T : So} (h : Hand S) (k : Keep S T) : Hand T := by
  obtain ⟨xs, a, h1, h2, h3, h4⟩ := h
  exact ⟨xs, a, k _ _ h1, h2, k _ _ h3, h4⟩
def names6 : List Str := ["a", "b0", "i", "j2x", "side", "zzzzzzzz"]
def Dr (i : Nat) (l : List (Str × Nat)) : Prop := (l.map (·.1)).Sublist (names6.take i) ∧ (∀ p ∈ l, 1 ≤ p.2 ∧ p.2 ≤ 6) ∧ l.length ≤ 4 ∧ manyL l ≤ 60
/-- sides as the law draws them -/
def GoodL (l : List (Str × Nat)) : Prop := l.length ≤ 4 ∧ (∀ p ∈ l, wordZ p.1 = true ∧ 1 ≤ p.2 ∧ p.2 ≤ 6) ∧ ascP (l.map (·.1)) = true ∧ manyL l ≤ 200 ∧ ∀ p ∈ l, p.1 ≠ "a1"
theorem asc_pair : ∀ {ws : List Str}, ws.Pairwise (fun a b => qLt a.cps.toList b.cps.toList = true) → ascP ws = true
  | [], _ => rfl
  | [_], _ => rfl
  | a :: b :: ws, h => by
    have h1 := (List.pairwise_cons.mp h).1 b (List.mem_cons_self ..)
    have h2 := asc_pair (List.pairwise_cons.mp h).2
    unfold ascP at h2 ⊢
    simp only [List.drop_succ_cons, List.drop_zero, List.zip_cons_cons, List.all_cons, Bool.and_eq_true] at h2 ⊢
    exact ⟨h1, h2⟩
theorem names_asc : names6.Pairwise (fun a b => qLt a.cps.toList b.cps.toList = true) := by decide +kernel
theorem names_a1 : ∀ n ∈ names6, n ≠ ("a1" : Str) := by decide +kernel
theorem names_word : ∀ n ∈ names6, wordZ n = true := by decide +kernel
theorem dr_good {l : List (Str × Nat)} (h : Dr 6 l) : GoodL l := by
  obtain ⟨h1, h2, h3, h4⟩ := h
  refine ⟨h3, fun p hp => ⟨names_word _ (h1.subset (List.mem_map_of_mem hp)), h2 p hp⟩, asc_pair (names_asc.sublist h1), by omega, fun p hp => names_a1 _ (h1.subset (List.mem_map_of_mem hp))⟩
theorem dr_skip {i : Nat} {l : List (Str × Nat)} (h : Dr i l) : Dr (i + 1) l := ⟨h.1.trans (List.take_sublist_take_left (Nat.le_succ _)), h.2⟩
theorem dr_add {i : Nat} {l : List (Str × Nat)} {n : Str} {s : Nat} (h : Dr i l) (hn : names6[i]? = some n) (h1 : 1 ≤ s) (h2 : s ≤ 6) (h3 : l.length < 4) (h4 : manyL l * s ≤ 60) : Dr (i + 1) (l ++ [(n, s)]) := by
  refine ⟨?_, fun p hp => ?_, by simp; omega, by unfold manyL; rw [List.foldl_append]; exact h4⟩
  · rw [List.take_add_one, hn, List.map_append]
    exact h.1.append (List.Sublist.refl _)
  · rcases List.mem_append.mp hp with z | z
    · exact h.2.1 p z
    · simp at z
      subst z
      exact ⟨h1, h2⟩
end K02

set_option Elab.async false
set_option linter.all false
set_option maxRecDepth 100000
set_option maxHeartbeats 1000000
namespace K02
open PySem PySem.Spec PyProof.Rows L2 DD PB
theorem six_at {n : Nat} {S : So} {v : Int} (h0 : 0 ≤ v) (h6 : v < 6) (h : S[n]? = some (.lst [.int 1, .int 2, .int 3, .int 4, .int 5, .int 6])) : ∃ s : Nat, 1 ≤ s ∧ s ≤ 6 ∧ fIx (.ref n) (.int v) S = some (.int (s : Nat), S) := by
  have c : v = 0 ∨ v = 1 ∨ v = 2 ∨ v = 3 ∨ v = 4 ∨ v = 5 := by omega
  rcases c with rfl | rfl | rfl | rfl | rfl | rfl
  · exact ⟨1, by decide, by decide, fIx_ref h rfl⟩
  · exact ⟨2, by decide, by decide, fIx_ref h rfl⟩
  · exact ⟨3, by decide, by decide, fIx_ref h rfl⟩
  · exact ⟨4, by decide, by decide, fIx_ref h rfl⟩
  · exact ⟨5, by decide, by decide, fIx_ref h rfl⟩
  · exact ⟨6, by decide, by decide, fIx_ref h rfl⟩
/-- one turn of _law_drawn_sides -/
theorem drawn_turn {S T : So} {i r q : Nat} {nm : Str} {l : List (Str × Nat)} {s3 : Sv} {P : Fl → Sl → So → Prop} (hS : Hand S) (hr : S.length ≤ r) (hq : S.length ≤ q) (hrq : q ≠ r) (hT : Hand T) (g : Grow S T) (t1 : T[r]? = some (.lst (l.map pairD))) (t2 : T[q]? = some (.lst (names6.map .str))) (hd : Dr i l) (hn : names6[i]? = some nm)
    (hP : ∀ U l s3, Hand U → Grow S U → U[r]? = some (.lst (l.map pairD)) → U[q]? = some (.lst (names6.map .str)) → Dr (i + 1) l → P .nx [.v (.ref 2), .v (.ref r), .v (.str nm), s3] U) : okS b_ldrawn_sides_1 [.v (.ref 2), .v (.ref r), .v (.str nm), s3] T P := by
  have l2 := hS.len
  unfold b_ldrawn_sides_1
  refine okS_seq (okS_asg ?_)
  rw [okM_op2, okM_opA]
  simp only [okM_cons, okM_ret, okM_nil]
  rw [DD.fLst_ok (by simp), okF_some]
  simp only [okM_call, okM_cons, okM_var, okM_ret, okM_nil]
  refine ⟨_, rfl, sp_take hT.app (by decide) (by decide) fun v U v0 v6 hU gU lU => ?_⟩
  have gT1 : Grow T U := (Grow.app T _).trans gU
  have lT : T.length ≤ U.length := gT1.1
  have hl6 : U[T.length]? = some (.lst [.int 1, .int 2, .int 3, .int 4, .int 5, .int 6]) := gU.2 _ _ (by have := hT.len; omega) get_new
  obtain ⟨s, s1, s6, es⟩ := six_at v0 v6 hl6
  rw [es, okF_some]
  have u1 := gT1.2 _ _ (by omega) t1
  have u2 := gT1.2 _ _ (by omega) t2
  have skip : ∀ U2, Hand U2 → Grow U U2 → P .nx [.v (.ref 2), .v (.ref r), .v (.str nm), .v (.int (s : Nat))] U2 := fun U2 hU2 gU2 => hP U2 l _ hU2 ((g.trans gT1).trans gU2) (gU2.2 _ _ (by omega) u1) (gU2.2 _ _ (by omega) u2) (dr_skip hd)
  have cond : ∀ Q : Bool → So → Prop, (∀ b U2, Hand U2 → Grow U U2 → (b = true → l.length < 4 ∧ manyL l * s ≤ 60) → Q b U2) → okM (mAnd (mTst (mOp2 fEq (mCall phi_ltake (mCons (mVar 0) (mCons (retM (.int 2)) mNil))) (retM (.int 0)))) (mAnd (mTst (mOp2 (fOrd pLt qLt) (mOpA fLen (mCons (mVar 1) mNil)) (retM (.int 4)))) (mTst (mOp2 (fOrd pLe qLe) (mOp2 fMul (mCall phi_lmany (mCons (mVar 1) mNil)) (mVar 3)) (retM (.int 60)))))) [.v (.ref 2), .v (.ref r), .v (.str nm), .v (.int (s : Nat))] U Q := by
    intro Q hQ
    simp only [okM_and, okM_tst, okM_op2, okM_call, okM_opA, okM_cons, okM_var, okM_ret, okM_nil]
    refine ⟨_, rfl, sp_take hU (by decide) (by decide) fun v2 U2 v20 v22 hU2 gU2 lU2 => ?_⟩
    have w1 := gU2.2 _ _ (by omega) u1
    have sq : seqOf (.ref r) U2 = some (false, l.map pairD) := by unfold seqOf; simp [w1]
    have e0 : fEq (.int v2) (.int 0) U2 = some (.bl (decide (v2 = 0)), U2) := fEq_int
    rw [e0, okF_some]
    refine ⟨_, rfl, ?_⟩
    by_cases hv : v2 = 0
    · rw [decide_eq_true hv, if_pos rfl]
      refine ⟨_, rfl, ?_⟩
      rw [fLen_seq sq, okF_some, fOrd_int, okF_some]
      refine ⟨_, rfl, ?_⟩
      rw [List.length_map]
      unfold pLt
      by_cases h4 : l.length < 4
      · rw [decide_eq_true (by omega), if_pos rfl]
        refine ⟨_, rfl, sp_lmany sq (by omega) (fun p hp => (hd.2.1 p hp).2) ⟨_, rfl, ?_⟩⟩
        rw [okF_mul]
        refine ⟨.inl (.inr ⟨by omega, by omega⟩), ?_⟩
        rw [fOrd_int, okF_some]
        refine ⟨_, rfl, hQ _ _ hU2 gU2 fun hb => ⟨h4, ?_⟩⟩
        unfold pLe at hb
        have hb := of_decide_eq_true hb
        have e : ((manyL l * s : Nat) : Int) = (manyL l : Int) * (s : Int) := by simp
        omega
      · rw [decide_eq_false (by omega), if_neg (by decide)]
        exact hQ _ _ hU2 gU2 fun z => by cases z
    · rw [decide_eq_false hv, if_neg (by decide)]
      exact hQ _ _ hU2 gU2 fun z => by cases z
  refine okS_if (cond _ fun b U2 hU2 gU2 hb => ?_)
  cases b with
  | false => exact okS_nx (skip U2 hU2 gU2)
  | true =>
    obtain ⟨b1, b2⟩ := hb rfl
    have w1 := gU2.2 _ _ (by omega) u1
    have w2 := gU2.2 _ _ (by omega) u2
    have lU2 : r < U2.length := (List.getElem?_eq_some_iff.mp w1).1
    rw [if_pos rfl]
    refine okS_expr ?_
    simp only [okM_meth, okM_opA, okM_cons, okM_var, okM_ret, okM_nil]
    refine ⟨_, rfl, isL_ref w1, _, rfl, _, rfl, ?_⟩
    rw [fTup_ok (by simp), okF_some, fAppend_ref w1 (by have := line200k; simp; omega), okF_some]
    refine hP _ (l ++ [(nm, s)]) _ (hU2.set (by omega) (by omega)) (grow_set ((g.trans gT1).trans gU2) hr) ?_ ?_ (dr_add hd hn s1 s6 b1 b2)
    · rw [List.getElem?_set_self lU2, List.map_append]
      rfl
    · rw [List.getElem?_set_ne (Ne.symm hrq)]
      exact w2
/-- the two large shapes -/
def big1 : List (Str × Nat) := [("i", 6), ("j", 6), ("k", 5)]
def big2 : List (Str × Nat) := [("i", 5), ("j", 5), ("k", 4), ("m", 2)]
theorem big1_good : GoodL big1 := ⟨by decide +kernel, by decide +kernel, by decide +kernel, by decide +kernel, by decide +kernel⟩
theorem big2_good : GoodL big2 := ⟨by decide +kernel, by decide +kernel, by decide +kernel, by decide +kernel, by decide +kernel⟩
/-- _law_drawn_sides(hand) -/
theorem sp_ldrawn_sides {S : So} {P : D → So → Prop} (hS : Hand S) (hP : ∀ l T, GoodL l → Hand T → Grow S T → P (.tup (l.map pairD)) T) : okC (phi_ldrawn_sides [.ref 2] S) P := by
  have l2 := hS.len
  unfold phi_ldrawn_sides
  refine okC_fn rfl ?_
  unfold m_ldrawn_sides
  simp only [startE, List.map, List.length, List.replicate, List.cons_append, List.nil_append]
  refine okS_seq (okS_asg ?_)
  rw [okM_opA, okM_nil, DD.fLst_ok (by simp), okF_some]
  refine okS_seq (okS_for ?_)
  unfold mSeq
  rw [okM_bind, okM_opA]
  simp only [okM_cons, okM_ret, okM_nil]
  rw [DD.fLst_ok (by simp), okF_some]
  have n1 : (S ++ [O.lst []]).length = S.length + 1 := by simp
  have g0 : ((S ++ [O.lst []]) ++ [O.lst (names6.map .str)])[S.length]? = some (.lst (([] : List (Str × Nat)).map pairD)) := get_app get_new
  have g1 : ((S ++ [O.lst []]) ++ [O.lst (names6.map .str)])[S.length + 1]? = some (.lst (names6.map .str)) := by rw [← n1]; exact get_new
  refine ⟨itLst (S.length + 1) 6, _, by unfold seqI; rw [n1]; dsimp only; rw [show ∀ o, ((S ++ [O.lst []]) ++ [o])[S.length + 1]? = some o from fun o => by rw [← n1]; exact get_new]; rfl, fun i e2 S2 => i ≤ 6 ∧ ∃ s2 s3 l, e2 = [.v (.ref 2), .v (.ref S.length), s2, s3] ∧ Hand S2 ∧ Grow S S2 ∧ S2[S.length]? = some (.lst (l.map pairD)) ∧ S2[S.length + 1]? = some (.lst (names6.map .str)) ∧ Dr i l, ?_, ?_⟩
  · exact ⟨Nat.zero_le _, .no, .no, [], rfl, hS.app.app, (Grow.app _ _).trans (Grow.app _ _), g0, g1, List.nil_sublist _, (by simp), by decide, by decide⟩
  · rintro i e2 S2 ⟨hi, s2, s3, l, rfl, hH, hG, h1, h2, hd⟩
    by_cases h6 : i < 6
    · have hn : i < names6.length := h6
      refine .inr ⟨h6, .str names6[i], _, by unfold itLst; dsimp only; rw [h2]; dsimp only; rw [List.getElem?_map, List.getElem?_eq_getElem hn]; rfl, rfl, ?_⟩
      exact drawn_turn hS (Nat.le_refl _) (Nat.le_succ _) (Nat.succ_ne_self _) hH hG h1 h2 hd (List.getElem?_eq_getElem hn) fun U l s3 u1 u2 u3 u4 u5 => ⟨h6, _, _, l, rfl, u1, u2, u3, u4, u5⟩
    · have e6 : i = 6 := by omega
      subst e6
      refine .inl ⟨by unfold itLst; dsimp only; rw [h2]; rfl, ?_⟩
      have good := dr_good hd
      have fin : ∀ d T s2 s3 l, GoodL l → Hand T → Grow S T → seqOf d T = some (false, l.map pairD) → okS (retS (mOpA fTuple (mCons (mVar 1) mNil))) [.v (.ref 2), .v d, s2, s3] T (endP P) := by
        intro d T s2 s3 l k1 k2 k3 k4
        refine okS_ret ?_
        simp only [okM_opA, okM_cons, okM_var, okM_nil]
        refine ⟨_, rfl, ?_⟩
        rw [fTuple_seq k4, okF_some]
        exact hP l T k1 k2 k3
      refine okS_seq (okS_if ?_)
      simp only [okM_tst, okM_op2, okM_call, okM_cons, okM_var, okM_ret, okM_nil]
      refine ⟨_, rfl, sp_take hH (by decide) (by decide) fun v U v0 v20 hU gU lU => ?_⟩
      rw [fEq_int, okF_some]
      refine ⟨_, rfl, ?_⟩
      have w1 := gU.2 _ _ (by omega) h1
      cases hb : v == 0 with
      | false =>
        refine okS_nx ?_
        exact fin (.ref S.length) U _ _ l good hU (hG.trans gU) (by unfold seqOf; simp [w1])
      | true =>
        rw [if_pos rfl]
        refine okS_asg ?_
        simp only [okM_op2, okM_opA, okM_call, okM_cons, okM_var, okM_ret, okM_nil, okF_some, fTup_ok, DD.fLst_ok, List.length, Nat.reduceAdd, Nat.reduceLeDiff]
        generalize hA : U ++ [O.lst _] = A
        generalize hB : A ++ [O.lst _] = B
        generalize hC : B ++ [O.lst _] = C
        have kA : Keep U A := hA ▸ Keep.app _ _
        have kB : Keep A B := hB ▸ Keep.app _ _
        have kC : Keep B C := hC ▸ Keep.app _ _
        have x1 : C[U.length]? = some (.lst (big1.map pairD)) := kC _ _ (kB _ _ (by rw [← hA]; exact get_new))
        have x2 : C[A.length]? = some (.lst (big2.map pairD)) := kC _ _ (by rw [← hB]; exact get_new)
        have x3 : C[B.length]? = some (.lst [.ref U.length, .ref A.length]) := by rw [← hC]; exact get_new
        have hCh : Hand C := hand_keep (hand_keep (hand_keep hU kA) kB) kC
        have l3 := hU.len
        have lA := kA.len
        have lB := kB.len
        refine ⟨_, rfl, sp_take hCh (by decide) (by decide) fun v2 V v20 v22 hV gV lV => ?_⟩
        have y1 := gV.2 _ _ (by omega) x1
        have y2 := gV.2 _ _ (by omega) x2
        have y3 := gV.2 _ _ (by omega) x3
        have gSV : Grow S V := ((((hG.trans gU).trans (grow_keep kA)).trans (grow_keep kB)).trans (grow_keep kC)).trans gV
        have c : v2 = 0 ∨ v2 = 1 := by omega
        rcases c with rfl | rfl
        · rw [fIx_ref y3 (d := .ref U.length) rfl, okF_some]
          exact fin _ V _ _ big1 big1_good hV gSV (by unfold seqOf; simp [y1])
        · rw [fIx_ref y3 (d := .ref A.length) rfl, okF_some]
          exact fin _ V _ _ big2 big2_good hV gSV (by unfold seqOf; simp [y2])
end K02

set_option Elab.async false
set_option linter.all false
set_option maxRecDepth 100000
set_option maxHeartbeats 1000000
namespace K02
open PySem PySem.Spec PyProof.Rows L2 DD PB
theorem ok_pow9 {e : Sl} {S : So} {P : D → So → Prop} (h : P (.int ((1000000000 : Nat) : Int)) S) : okM (mOp2 fPow (retM (.int 10)) (retM (.int 9))) e S P := by
  simp only [okM_op2, okM_ret]
  rw [okF_pow]
  exact ⟨by unfold CPow; decide, h⟩
/-- _law_number(hand) -/
theorem sp_lnumber {S : So} {P : D → So → Prop} (hS : Hand S) (hP : ∀ (v : Int) T, v.natAbs < 10 ^ 359 → Hand T → Grow S T → P (.int v) T) : okC (phi_lnumber [.ref 2] S) P := by
  unfold phi_lnumber
  refine okC_fn rfl ?_
  unfold m_lnumber
  simp only [startE, List.map, List.length, List.replicate, List.cons_append, List.nil_append]
  refine okS_seq (okS_asg ?_)
  simp only [okM_call, okM_cons, okM_var, okM_ret, okM_nil]
  refine ⟨_, rfl, sp_take hS (by decide) (by decide) fun k T k0 k5 hT gT lT => ?_⟩
  refine okS_seq (okS_if ?_)
  simp only [okM_tst, okM_op2, okM_var, okM_ret]
  refine ⟨_, rfl, ?_⟩
  rw [fOrd_int, okF_some]
  refine ⟨_, rfl, ?_⟩
  cases hb : pGt k 0 with
  | true =>
    rw [if_pos rfl]
    refine okS_ret ?_
    simp only [okM_op2, okM_call, okM_cons, okM_var, okM_ret, okM_nil]
    refine ⟨_, rfl, sp_take hT (by decide) (by decide) fun v U v0 v1 hU gU lU => ?_⟩
    rw [fSub_int, okF_some]
    have big : (1000 : Nat) < 10 ^ 359 := by decide +kernel
    exact hP _ _ (by omega) hU (gT.trans gU)
  | false =>
    rw [if_neg (by decide)]
    refine okS_nx ?_
    refine okS_seq (okS_asg ?_)
    simp only [okM_op2, okM_call, okM_cons, okM_var, okM_ret, okM_nil]
    refine ⟨_, rfl, sp_take hT (by decide) (by decide) fun v U v0 v9 hU gU lU => ?_⟩
    rw [fAdd_int, okF_some]
    obtain ⟨n, hn⟩ : ∃ n : Nat, (1 : Int) + v = (n : Int) := ⟨(1 + v).toNat, by omega⟩
    rw [hn]
    refine okS_seq (okS_rng ?_)
    simp only [okM_call, okM_cons, okM_var, okM_ret, okM_nil]
    refine ⟨_, rfl, sp_take hU (by decide) (by decide) fun w V w0 w40 hV gV lV => ?_⟩
    obtain ⟨m, rfl⟩ : ∃ m : Nat, w = (m : Int) := ⟨w.toNat, by omega⟩
    refine ⟨m, rfl, by omega, fun i e2 S2 => i ≤ m ∧ ∃ (n : Nat) (s3 : Sv), e2 = [.v (.ref 2), .v (.int k), .v (.int (n : Nat)), s3] ∧ n < 10 ^ (1 + 9 * i) ∧ Hand S2 ∧ Grow S S2, ?_, ?_, ?_⟩
    · exact ⟨Nat.zero_le _, n, .no, rfl, by omega, hV, (gT.trans gU).trans gV⟩
    · rintro i e2 S2 hi ⟨hi2, n, s3, rfl, hn, h2, g2⟩
      refine ⟨_, rfl, ?_⟩
      unfold b_lnumber_1
      refine okS_asg ?_
      rw [okM_op2, okM_op2]
      refine okM_var.mpr ⟨_, rfl, ok_pow9 ?_⟩
      rw [okF_mul]
      refine ⟨.inl (.inr ⟨by decide, by decide⟩), ?_⟩
      rw [okM_call]
      refine okM_cons.mpr (okM_var.mpr ⟨_, rfl, okM_cons.mpr (ok_pow9 (okM_nil.mpr ?_))⟩)
      refine sp_take h2 (by decide) (by decide) fun v U v0 v9 hU gU lU => ?_
      rw [fAdd_int, okF_some]
      obtain ⟨q, rfl⟩ : ∃ q : Nat, v = (q : Int) := ⟨v.toNat, by omega⟩
      refine ⟨hi, n * 1000000000 + q, _, by simp; rfl, ?_, hU, g2.trans gU⟩
      have e : 10 ^ (1 + 9 * (i + 1)) = 10 ^ (1 + 9 * i) * 1000000000 := by rw [show 1 + 9 * (i + 1) = (1 + 9 * i) + 9 by omega, Nat.pow_add]
      rw [e]
      omega
    · rintro e2 S2 ⟨hi2, n, s3, rfl, hn, h2, g2⟩
      refine okS_ret ?_
      simp only [okM_op2, okM_op1, okM_opA, okM_call, okM_cons, okM_var, okM_ret, okM_nil]
      refine ⟨_, rfl, _, rfl, ?_⟩
      rw [fNeg_int, okF_some, DD.fLst_ok (by simp), okF_some]
      refine ⟨_, rfl, sp_take h2.app (by decide) (by decide) fun v U v0 v9 hU gU lU => ?_⟩
      have y := gU.2 _ _ (by have := h2.len; omega) (get_new (S := S2) (o := O.lst [D.int (n : Nat), D.int (-(n : Nat))]))
      have gF : Grow S U := (g2.trans (Grow.app _ _)).trans gU
      have hb : n < 10 ^ 359 := Nat.lt_of_lt_of_le hn (Nat.pow_le_pow_right (by decide) (by omega))
      have c : v = 0 ∨ v = 1 := by omega
      rcases c with rfl | rfl
      · rw [fIx_ref y (d := .int (n : Nat)) rfl, okF_some]
        exact hP _ _ (by simpa using hb) hU gF
      · rw [fIx_ref y (d := .int (-(n : Nat))) rfl, okF_some]
        exact hP _ _ (by simpa using hb) hU gF
end K02

set_option Elab.async false
set_option linter.all false
set_option maxRecDepth 100000
set_option maxHeartbeats 1000000
namespace K02
open PySem PySem.Spec PyProof.Rows L2 DD PB
theorem fAdd_refs {S : So} {n m : Nat} {xs ys : List D} (h1 : S[n]? = some (.lst xs)) (h2 : S[m]? = some (.lst ys)) (hl : xs.length + ys.length ≤ 100000) : fAdd (.ref n) (.ref m) S = some (.ref S.length, S ++ [.lst (xs ++ ys)]) := by
  have := line200k
  unfold fAdd
  dsimp only
  rw [h1, h2]
  dsimp only
  rw [if_pos (by omega)]
/-- a list of the store that holds told data -/
def PyL (S : So) (r : Nat) (ps : List PyData) : Prop := ∃ ds T0, Keep T0 S ∧ T0.length ≤ r ∧ S[r]? = some (.lst ds) ∧ Dats 3 T0 8 ds ps
theorem dats_keep {S T : So} {k : Nat} {ds : List D} {ps : List PyData} (k1 : Keep S T) (h : Dats 3 S k ds ps) : Dats 3 T k ds ps := Dats.mono (Nat.le_refl _) (fun n xs _ e => k1 n _ e) (Nat.le_refl _) h
theorem dats_app {S : So} {k : Nat} : ∀ {xs ys : List D} {ps qs : List PyData}, Dats 3 S k xs ps → Dats 3 S k ys qs → Dats 3 S k (xs ++ ys) (ps ++ qs)
  | _, _, _, _, .nil, h2 => h2
  | _, _, _, _, .cons x y, h2 => .cons x (dats_app y h2)
theorem dats_get {S : So} {k : Nat} : ∀ {xs : List D} {ps : List PyData}, Dats 3 S k xs ps → ∀ (i : Nat) (d : D), xs[i]? = some d → ∃ p, ps[i]? = some p ∧ Dat 3 S k d p
  | _, _, .nil, i, d, h => by simp at h
  | _, _, .cons x y, 0, d, h => by
    simp at h
    subst h
    exact ⟨_, rfl, x⟩
  | _, _, .cons x y, i + 1, d, h => dats_get y i d (by simpa using h)
theorem dat_py {S : So} {k : Nat} {d : D} {p : PyData} (hk : k ≤ 9) (h : Dat 3 S k d p) : Py S d p := ⟨k, hk, Dat.py h⟩
theorem dat_grow {S T : So} {k : Nat} {d : D} {p : PyData} (g : Grow S T) (h : Dat 3 S k d p) : Dat 3 T k d p := Dat.mono (Nat.le_refl _) (fun n xs h3 e => g.2 n _ (by omega) e) (Nat.le_refl _) h
theorem PyL.get {S : So} {r : Nat} {ps : List PyData} (h : PyL S r ps) : ∃ ds, S[r]? = some (.lst ds) ∧ Dats 3 S 8 ds ps := by
  obtain ⟨ds, T0, k, l, h1, h2⟩ := h
  exact ⟨ds, h1, dats_keep k h2⟩
theorem add_lit {S : So} {r : Nat} {ps qs : List PyData} {ms : MM (List D)} {P : Fl → Sl → So → Prop} (h : PyL S r ps) (hl : ps.length ≤ 100) (hl2 : qs.length ≤ 100) (hm : okM ms [.v (.ref 2), .v (.ref r)] S fun ds T => Keep S T ∧ Dats 3 T 8 ds qs)
    (hP : ∀ T r', Keep S T → S.length ≤ r' → PyL T r' (ps ++ qs) → P .nx [.v (.ref 2), .v (.ref r')] T) : okS (asgS (mOp2 fAdd (mVar 1) (mOpA fLst ms)) (nmT 1)) [.v (.ref 2), .v (.ref r)] S P := by
  obtain ⟨xs, h1, h2⟩ := h.get
  refine okS_asg ?_
  rw [okM_op2, okM_var]
  refine ⟨_, rfl, ?_⟩
  rw [okM_opA]
  refine hm.imp fun ds T q => ?_
  obtain ⟨k, q⟩ := q
  have l1 := h2.len
  have l2 := q.len
  have k2 : Keep T (T ++ [O.lst ds]) := Keep.app _ _
  rw [DD.fLst_ok (by omega), okF_some, fAdd_refs (k2 _ _ (k _ _ h1)) get_new (by omega), okF_some]
  exact hP _ _ ((k.trans k2).trans (Keep.app _ _)) (k.trans k2).len ⟨_, T ++ [O.lst ds], Keep.app _ _, Nat.le_refl _, get_new, dats_app (dats_keep (k.trans k2) h2) (dats_keep k2 q)⟩
end K02

set_option Elab.async false
set_option linter.all false
set_option maxRecDepth 100000
set_option maxHeartbeats 1000000
namespace K02
open PySem PySem.Spec PyProof.Rows L2 DD PB
def pr (n : Str) (z : Int) : PyData := .tuple [.str n, .int z]
def no1 : List PyData := [.tuple [pr "j" 2, pr "i" 2], .tuple [pr "i" 2, pr "i" 2], .tuple [pr "" 2], .tuple [pr "I" 2], .tuple [pr "2i" 2], .tuple [pr "abcdefghi" 2]]
def no2 : List PyData := [.tuple [pr "i" 0], .tuple [pr "i" 7], .tuple [.tuple [.str "i", .bool true]], .tuple [.tuple [.str "i", .none]], .tuple [.tuple [.str "i", .str "2"]], .tuple [.tuple [.str "i"]], .tuple [.tuple [.str "i", .int 2, .int 2]]]
def no3 : List PyData := [.tuple [pr "a" 1, pr "b" 1, pr "c" 1, pr "d" 1, pr "e" 1], .tuple [pr "i" 6, pr "j" 6, pr "k" 6], .none, .str "i", .int 0]
def no4 : List PyData := [.bool true, .str "ab", .tuple [pr "i" 2, .none], .tuple [pr "i" (-1)], .tuple [.tuple [.int 2, .str "i"]], .tuple [.str "i", .int 2], .tuple [pr "i j" 2], .tuple [pr "i_" 2]]
def no5 : List PyData := [.list [.list [.str "i", .int 2], .list []], .tuple [pr "i" (10 ^ 40)], .tuple [pr "i" 2, pr "i" 3], .tuple [.tuple [.str "i", .tuple [.int 2]]]]
def no6 : List PyData := [.tuple [pr "a" 6, pr "b" 6, pr "c" 3, pr "d" 2]]
def noAll : List PyData := no1 ++ no2 ++ no3 ++ no4 ++ no5 ++ no6
def shortB (p : PyData) : Bool := match p with
  | .str z => decide (z.length ≤ 1000)
  | _ => true
def rowOf (p : PyData) : List PyData := match p with
  | .list ps => ps
  | .tuple ps => ps
  | _ => []
def short2B (p : PyData) : Bool := decide ((rowOf p).length ≤ 1000) && (rowOf p).all fun q => (rowOf q).all shortB
theorem short2_of {p : PyData} (h : short2B p = true) : Short2 p := by
  intro ps hp
  have e : rowOf p = ps := by rcases hp with rfl | rfl <;> rfl
  unfold short2B at h
  rw [e] at h
  obtain ⟨h1, h2⟩ := Bool.and_eq_true_iff.mp h
  refine ⟨of_decide_eq_true h1, fun q hq qs hqs a ha z hz => ?_⟩
  have e2 : rowOf q = qs := by rcases hqs with rfl | rfl <;> rfl
  have h3 := List.all_eq_true.mp h2 q hq
  rw [e2] at h3
  have h4 := List.all_eq_true.mp h3 a ha
  subst hz
  exact of_decide_eq_true h4
theorem no_facts : ∀ p ∈ noAll, sidesP p = false ∧ short2B p = true ∧ okShow p = true := by decide +kernel
end K02

set_option Elab.async false
set_option linter.all false
set_option maxRecDepth 100000
set_option maxHeartbeats 1000000
namespace K02
open PySem PySem.Spec PyProof.Rows L2 DD PB
theorem new_lit {S : So} {qs : List PyData} {ms : MM (List D)} {P : Fl → Sl → So → Prop} (hl2 : qs.length ≤ 100) (hm : okM ms [.v (.ref 2), .no] S fun ds T => Keep S T ∧ Dats 3 T 8 ds qs)
    (hP : ∀ T r', Keep S T → S.length ≤ r' → PyL T r' qs → P .nx [.v (.ref 2), .v (.ref r')] T) : okS (asgS (mOpA fLst ms) (nmT 1)) [.v (.ref 2), .no] S P := by
  refine okS_asg ?_
  rw [okM_opA]
  refine hm.imp fun ds T q => ?_
  obtain ⟨k, q⟩ := q
  have l2 := q.len
  have k2 : Keep T (T ++ [O.lst ds]) := Keep.app _ _
  rw [DD.fLst_ok (by omega), okF_some]
  exact hP _ _ (k.trans k2) k.len ⟨_, T, k2, Nat.le_refl _, get_new, q⟩
/-- _law_no_sides(hand) -/
theorem sp_lno_sides {S : So} {P : D → So → Prop} (hS : Hand S) (hP : ∀ d p T, p ∈ noAll → Dat 3 T 8 d p → Hand T → Grow S T → P d T) : okC (phi_lno_sides [.ref 2] S) P := by
  unfold phi_lno_sides
  refine okC_fn rfl ?_
  unfold m_lno_sides
  simp only [startE, List.map, List.length, List.replicate, List.cons_append, List.nil_append]
  refine okS_seq (new_lit (qs := no1) (by decide) ?_ fun T1 r1 k1 lr1 g1 => ?_)
  · simp only [okM_op2, okM_op1, okM_opA, okM_call, okM_cons, okM_var, okM_ret, okM_nil, okF_some, fTup_ok, DD.fLst_ok, fNeg_int, List.length, Nat.reduceAdd, Nat.reduceLeDiff]
    exact ⟨Keep.refl _, by repeat' constructor⟩
  refine okS_seq (add_lit (qs := no2) g1 (by decide) (by decide) ?_ fun T2 r2 k2 lr2 g2 => ?_)
  · simp only [okM_op2, okM_op1, okM_opA, okM_call, okM_cons, okM_var, okM_ret, okM_nil, okF_some, fTup_ok, DD.fLst_ok, fNeg_int, List.length, Nat.reduceAdd, Nat.reduceLeDiff]
    exact ⟨Keep.refl _, by repeat' constructor⟩
  refine okS_seq (add_lit (qs := no3) g2 (by decide) (by decide) ?_ fun T3 r3 k3 lr3 g3 => ?_)
  · simp only [okM_op2, okM_op1, okM_opA, okM_call, okM_cons, okM_var, okM_ret, okM_nil, okF_some, fTup_ok, DD.fLst_ok, fNeg_int, List.length, Nat.reduceAdd, Nat.reduceLeDiff]
    exact ⟨Keep.refl _, by repeat' constructor⟩
  refine okS_seq (add_lit (qs := no4) g3 (by decide) (by decide) ?_ fun T4 r4 k4 lr4 g4 => ?_)
  · simp only [okM_op2, okM_op1, okM_opA, okM_call, okM_cons, okM_var, okM_ret, okM_nil, okF_some, fTup_ok, DD.fLst_ok, fNeg_int, List.length, Nat.reduceAdd, Nat.reduceLeDiff]
    exact ⟨Keep.refl _, by repeat' constructor⟩
  have pw : CPow 10 40 := by unfold CPow; decide
  refine okS_seq (add_lit (qs := no5) g4 (by decide) (by decide) ?_ fun T5 r5 k5 lr5 g5 => ?_)
  · simp only [okM_op2, okM_op1, okM_opA, okM_call, okM_cons, okM_var, okM_ret, okM_nil, okF_some, okF_pow, fTup_ok, DD.fLst_ok, fNeg_int, List.length, Nat.reduceAdd, Nat.reduceLeDiff]
    generalize hA : T4 ++ [O.lst _] = A
    generalize hB : A ++ [O.lst _] = B
    generalize hC : B ++ [O.lst _] = C
    have kA : Keep T4 A := hA ▸ Keep.app _ _
    have kB : Keep A B := hB ▸ Keep.app _ _
    have kC : Keep B C := hC ▸ Keep.app _ _
    have x1 : C[T4.length]? = some (.lst [.str "i", .int 2]) := kC _ _ (kB _ _ (by rw [← hA]; exact get_new))
    have x2 : C[A.length]? = some (.lst []) := kC _ _ (by rw [← hB]; exact get_new)
    have x3 : C[B.length]? = some (.lst [.ref T4.length, .ref A.length]) := by rw [← hC]; exact get_new
    refine ⟨pw, (kA.trans kB).trans kC, ?_⟩
    have l4 := hand_keep (hand_keep (hand_keep (hand_keep hS k1) k2) k3) k4
    have l5 := l4.len
    have l6 := kA.len
    have l7 := kB.len
    have two : Dat 3 C 6 (.ref T4.length) (.list [.str "i", .int 2]) := .ref (by omega) x1 (by repeat' constructor)
    have none : Dat 3 C 6 (.ref A.length) (.list []) := .ref (by omega) x2 .nil
    have both : Dat 3 C 8 (.ref B.length) (.list [.list [.str "i", .int 2], .list []]) := .ref (by omega) x3 (.cons (Dat.mono (Nat.le_refl _) (fun _ _ _ e => e) (by decide) two) (.cons (Dat.mono (Nat.le_refl _) (fun _ _ _ e => e) (by decide) none) .nil))
    exact .cons both (by repeat' constructor)
  obtain ⟨ds, T0, u1, u2, u3, u4⟩ := g5
  have l1 := u4.len
  have hT5 : Hand T5 := hand_keep (hand_keep (hand_keep (hand_keep (hand_keep hS k1) k2) k3) k4) k5
  have gT5 : Keep S T5 := (((k1.trans k2).trans k3).trans k4).trans k5
  have le5 : S.length ≤ r5 := by have := ((k1.trans k2).trans k3).trans k4; have := this.len; omega
  have l2 := hS.len
  have lr : r5 < T5.length := (List.getElem?_eq_some_iff.mp u3).1
  refine okS_seq (okS_expr ?_)
  simp only [okM_meth, okM_op2, okM_op1, okM_opA, okM_call, okM_cons, okM_var, okM_ret, okM_nil, okF_some, fTup_ok, List.length, Nat.reduceAdd, Nat.reduceLeDiff]
  refine ⟨_, rfl, isL_ref u3, ?_⟩
  have l3 : ds.length = 30 := l1
  rw [fAppend_ref u3 (by have := line200k; omega), okF_some]
  generalize hU : T5.set r5 (.lst (ds ++ [_])) = U
  have kU : Keep T0 U := hU ▸ keep_set u1 u2
  have y1 : U[r5]? = some (.lst (ds ++ [.tup [.tup [.str "a", .int 6], .tup [.str "b", .int 6], .tup [.str "c", .int 3], .tup [.str "d", .int 2]]])) := by rw [← hU]; exact List.getElem?_set_self lr
  have y2 : Dats 3 U 8 (ds ++ [.tup [.tup [.str "a", .int 6], .tup [.str "b", .int 6], .tup [.str "c", .int 3], .tup [.str "d", .int 2]]]) noAll := by
    refine dats_app (dats_keep kU u4) (qs := no6) ?_
    repeat' constructor
  have hH : Hand U := hU ▸ hT5.set (by omega) (by omega)
  have hG : Grow S U := hU ▸ grow_set (grow_keep gT5) le5
  generalize ds ++ [_] = xs at y1 y2
  have z1 := y2.len
  have z2 := dats_get y2
  have z3 : xs.length = 31 := z1
  refine okS_ret ?_
  simp only [okM_op2, okM_opA, okM_call, okM_cons, okM_var, okM_ret, okM_nil]
  refine ⟨_, rfl, _, rfl, _, rfl, ?_⟩
  rw [fLen_ref y1, okF_some, z3]
  refine sp_take hH (by decide) (by decide) fun v V v0 v1 hV gV lV => ?_
  obtain ⟨d, a1, a2⟩ := atI_ok (xs := xs) v0 (by rw [z3]; exact v1)
  have w1 := gV.2 _ _ (by omega) y1
  rw [fIx_ref w1 a1, okF_some]
  obtain ⟨p, b1, b2⟩ := z2 _ _ a2
  exact hP d p V (List.mem_of_getElem? b1) (dat_grow gV b2) hV (hG.trans gV)
end K02

set_option Elab.async false
set_option linter.all false
set_option maxRecDepth 100000
set_option maxHeartbeats 1000000
namespace K02
open PySem PySem.Spec PyProof.Rows L2 DD PB
theorem okS_tryX {ct : Str → Str → Option Bool} {c : Str} {i : Nat} {mb ms : MS} {e : Sl} {S : So} {P : Fl → Sl → So → Prop}
    (h : okS mb e S fun f e1 S1 => ∃ c' fs, f = .ex c' fs ∧ ct c' c = some true ∧ noExn e1 = true ∧ okS ms (e1.set i (.exn c' fs)) S1 fun f2 e2 S2 => (∃ d, f2 = .rt d) ∧ noExn (e2.set i .no) = true ∧ P f2 (e2.set i .no) S2) : okS (tryS ct c i mb ms) e S P := by
  obtain ⟨f, e1, S1, h1, c', fs, rfl, h2, h3, f2, e2, S2, h4, ⟨d, rfl⟩, h5, h6⟩ := h
  refine ⟨.rt d, e2.set i .no, S2, ?_, h6⟩
  unfold tryS
  rw [h1]
  dsimp only
  rw [h2]
  dsimp only
  rw [if_pos h3, h4]
  dsimp only
  rw [if_pos h5]
theorem isiE_ok {i : Nat} {c : Str} {fs : List (Str × D)} {d : D} {b : Bool} {e : Sl} {S : So} {P : D → So → Prop} {m : MM D} (h : e[i]? = some (.exn c fs)) (hm : m e S = some (.ok d, S)) (hk : kitE tb c d = some b) (hP : P (.bl b) S) : okM (mIsiE tb i m) e S P := by
  refine ⟨.bl b, S, ?_, hP⟩
  unfold mIsiE
  rw [h]
  dsimp only
  unfold DD.bindM
  rw [hm]
  dsimp only
  rw [hk]
  rfl
theorem xf_ok {i : Nat} {c f : Str} {fs : List (Str × D)} {d : D} {e : Sl} {S : So} {P : D → So → Prop} (h : e[i]? = some (.exn c fs)) (ht : tb.xattr c f = true) (hl : fs.lookup f = some d) (hP : P d S) : okM (mXf tb i f) e S P := by
  refine ⟨d, S, ?_, hP⟩
  unfold mXf
  rw [h]
  dsimp only
  rw [if_pos ht, hl]
  rfl
theorem fAdd_str {x y : Str} {S : So} (h : x.length + y.length ≤ sizeLine) : fAdd (.str x) (.str y) S = some (.str (x ++ y), S) := by
  unfold fAdd
  dsimp only
  rw [if_pos h]
theorem fJoin_one {n : Nat} {x : Str} {S : So} (h : S[n]? = some (.lst [.str x])) (hl : x.length ≤ 2000000) : fJoin (.str " ") [.ref n] S = some (.str x, S) := by
  have sq : seqOf (.ref n) S = some (false, [.str x]) := by unfold seqOf; simp [h]
  unfold fJoin
  dsimp only
  rw [sq]
  dsimp only
  have e : strsOf [D.str x] = some [x] := rfl
  rw [e]
  dsimp only
  rw [if_pos]
  · rfl
  · have l1 : (" " : Str).length = 1 := rfl
    simp [l1]
    omega
/-- _law_refusal where Array refuses the sides -/
theorem sp_lrefusal_s {ds dc : D} {p : PyData} {S : So} {P : D → So → Prop} (hx : exC (makeF "Array" phi_Array_init [ds, dc] S) fun c fs T => Keep S T ∧ c = ("InvalidSides" : Str) ∧ fs = [(("sides" : Str), ds)]) (h : Py S ds p) (hs : okShow p = true) (hl : p.shown.length ≤ 1000000)
    (hP : ∀ T, Keep S T → P (.str (("sides " : Str) ++ p.shown)) T) : okC (phi_lrefusal [ds, dc] S) P := by
  unfold phi_lrefusal
  refine okC_fn rfl ?_
  unfold m_lrefusal
  simp only [startE, List.map, List.length, List.replicate, List.cons_append, List.nil_append]
  refine okS_seq (okS_tryX (okS_exprX (exM_call ?_)))
  simp only [okM_cons, okM_var, okM_nil]
  refine ⟨_, rfl, _, rfl, ?_⟩
  obtain ⟨c, fs, T, h1, kT, rfl, rfl⟩ := hx
  refine ⟨_, _, T, h1, _, _, rfl, by decide +kernel, rfl, ?_⟩
  refine okS_seq (okS_asg ?_)
  rw [okM_opA, okM_nil, DD.fLst_ok (by simp), okF_some]
  have hx : ([.v ds, .v dc, .exn "InvalidSides" [("sides", ds)], .v (.ref T.length)] : Sl)[2]? = some (.exn "InvalidSides" [("sides", ds)]) := rfl
  refine okS_seq (okS_ifT ?_)
  rw [okM_tst]
  refine isiE_ok hx rfl (b := true) (by decide +kernel) ⟨_, rfl, rfl, ?_⟩
  refine okS_expr ?_
  rw [okM_meth, okM_var]
  refine ⟨_, rfl, isL_ref get_new, ?_⟩
  rw [okM_cons, okM_op2, okM_ret, okM_opA, okM_cons]
  refine xf_ok (f := "sides") hx (by decide +kernel) rfl ?_
  rw [okM_nil, fRepr_ok (Py.nine (h.up (kT.trans (Keep.app _ _)))) hs, okF_some, fAdd_str (by rw [sizeLine_eq]; show 6 + _ ≤ _; omega), okF_some, okM_nil, fAppend_ref get_new (by have := line200k; simp; omega), okF_some]
  refine okS_seq (okS_ifF ?_)
  rw [okM_tst]
  refine isiE_ok hx rfl (b := false) (by decide +kernel) ⟨_, rfl, rfl, okS_nx ?_⟩
  refine okS_seq (okS_ifF ?_)
  rw [okM_or, okM_tst]
  refine isiE_ok hx rfl (d := .tup [.glo "InvalidInputs", .glo "NoFit"]) (b := false) (by decide +kernel) ⟨_, rfl, ?_⟩
  rw [if_neg (by decide), okM_not, okM_tst]
  refine isiE_ok hx rfl (b := true) (by decide +kernel) ⟨_, rfl, rfl, okS_nx ?_⟩
  refine okS_ret ?_
  rw [okM_meth, okM_ret]
  refine ⟨rfl, ?_⟩
  rw [okM_cons, okM_var]
  refine ⟨_, rfl, ?_⟩
  rw [okM_nil]
  have lw : (("sides " : Str) ++ p.shown).length ≤ 2000000 := by
    have e6 : ("sides " : Str).length = 6 := by decide +kernel
    rw [Str.length_append, e6]
    omega
  rw [fJoin_one (x := ("sides " : Str) ++ p.shown) (by rw [List.getElem?_set_self (by simp)]; rfl) lw, okF_some]
  exact ⟨⟨_, rfl⟩, rfl, hP _ (keep_set (kT.trans (Keep.app _ _)) kT.len)⟩
/-- _law_refusal where Array refuses the cells -/
theorem sp_lrefusal_c {ds dc : D} {p : PyData} {S : So} {P : D → So → Prop} (hx : exC (makeF "Array" phi_Array_init [ds, dc] S) fun c fs T => Keep S T ∧ c = ("InvalidCells" : Str) ∧ fs = [(("cells" : Str), dc)]) (h : Py S dc p) (hs : okShow p = true) (hl : p.shown.length ≤ 1000000)
    (hP : ∀ T, Keep S T → P (.str (("cells " : Str) ++ p.shown)) T) : okC (phi_lrefusal [ds, dc] S) P := by
  unfold phi_lrefusal
  refine okC_fn rfl ?_
  unfold m_lrefusal
  simp only [startE, List.map, List.length, List.replicate, List.cons_append, List.nil_append]
  refine okS_seq (okS_tryX (okS_exprX (exM_call ?_)))
  simp only [okM_cons, okM_var, okM_nil]
  refine ⟨_, rfl, _, rfl, ?_⟩
  obtain ⟨c, fs, T, h1, kT, rfl, rfl⟩ := hx
  refine ⟨_, _, T, h1, _, _, rfl, by decide +kernel, rfl, ?_⟩
  refine okS_seq (okS_asg ?_)
  rw [okM_opA, okM_nil, DD.fLst_ok (by simp), okF_some]
  have hx : ([.v ds, .v dc, .exn "InvalidCells" [("cells", dc)], .v (.ref T.length)] : Sl)[2]? = some (.exn "InvalidCells" [("cells", dc)]) := rfl
  refine okS_seq (okS_ifF ?_)
  rw [okM_tst]
  refine isiE_ok hx rfl (b := false) (by decide +kernel) ⟨_, rfl, rfl, okS_nx ?_⟩
  refine okS_seq (okS_ifT ?_)
  rw [okM_tst]
  refine isiE_ok hx rfl (b := true) (by decide +kernel) ⟨_, rfl, rfl, ?_⟩
  refine okS_expr ?_
  rw [okM_meth, okM_var]
  refine ⟨_, rfl, isL_ref get_new, ?_⟩
  rw [okM_cons, okM_op2, okM_ret, okM_opA, okM_cons]
  refine xf_ok (f := "cells") hx (by decide +kernel) rfl ?_
  rw [okM_nil, fRepr_ok (Py.nine (h.up (kT.trans (Keep.app _ _)))) hs, okF_some, fAdd_str (by rw [sizeLine_eq]; show 6 + _ ≤ _; omega), okF_some, okM_nil, fAppend_ref get_new (by have := line200k; simp; omega), okF_some]
  refine okS_seq (okS_ifF ?_)
  rw [okM_or, okM_tst]
  refine isiE_ok hx rfl (d := .tup [.glo "InvalidInputs", .glo "NoFit"]) (b := false) (by decide +kernel) ⟨_, rfl, ?_⟩
  rw [if_neg (by decide), okM_not, okM_tst]
  refine isiE_ok hx rfl (b := true) (by decide +kernel) ⟨_, rfl, rfl, okS_nx ?_⟩
  refine okS_ret ?_
  rw [okM_meth, okM_ret]
  refine ⟨rfl, ?_⟩
  rw [okM_cons, okM_var]
  refine ⟨_, rfl, ?_⟩
  rw [okM_nil]
  have lw : (("cells " : Str) ++ p.shown).length ≤ 2000000 := by
    have e6 : ("cells " : Str).length = 6 := by decide +kernel
    rw [Str.length_append, e6]
    omega
  rw [fJoin_one (x := ("cells " : Str) ++ p.shown) (by rw [List.getElem?_set_self (by simp)]; rfl) lw, okF_some]
  exact ⟨⟨_, rfl⟩, rfl, hP _ (keep_set (kT.trans (Keep.app _ _)) kT.len)⟩
end K02

set_option Elab.async false
set_option linter.all false
set_option maxRecDepth 100000
set_option maxHeartbeats 1000000
namespace K02
open PySem PySem.Spec PyProof.Rows L2 DD PB
theorem isA_arr {n : Nat} {fs : List (Str × D)} {S : So} (h : S[n]? = some (.ins "Array" fs)) : fIsiA tb [.ref n, .glo "Array"] S = some (.bl true, S) := by
  unfold fIsiA
  dsimp only
  rw [h]
  unfold fIsi
  dsimp only
  have t : tyOf tb (.ref n) S = some (.inr "Array") := by
    unfold tyOf
    dsimp only
    rw [h]
    rfl
  simp only [t]
  rfl
theorem fld_sides {n : Nat} {ps : List PyData} {zs : List Int} {S : So} (h : S[n]? = some (arrO ps zs)) : fFld tb "sides" (.ref n) S = some (.tup (ps.map sideD), S) := by
  unfold fFld arrO at *
  dsimp only
  rw [h]
  rfl
theorem fld_cells {n : Nat} {ps : List PyData} {zs : List Int} {S : So} (h : S[n]? = some (arrO ps zs)) : fFld tb "cells" (.ref n) S = some (.tup (zs.map .int), S) := by
  unfold fFld arrO at *
  dsimp only
  rw [h]
  rfl
/-- array == array -/
theorem sp_eqA {n m : Nat} {ps qs : List PyData} {zs ys : List Int} {S : So} {P : D → So → Prop} {b1 b2 : Bool} (h1 : S[n]? = some (arrO ps zs)) (h2 : S[m]? = some (arrO qs ys)) (e1 : fEq (.tup (ps.map sideD)) (.tup (qs.map sideD)) S = some (.bl b1, S)) (e2 : fEq (.tup (zs.map .int)) (.tup (ys.map .int)) S = some (.bl b2, S))
    (hP : P (.bl (b1 && b2)) S) : okC (phi_Array_eq [.ref n, .ref m] S) P := by
  unfold phi_Array_eq
  refine okC_fn rfl ?_
  unfold PB.m_Array_eq
  simp only [startE, List.map, List.length, List.replicate, List.cons_append, List.nil_append]
  refine okS_ret ?_
  simp only [okM_andV, okM_op2, okM_op1, okM_opA, okM_cons, okM_var, okM_ret, okM_nil]
  refine ⟨_, rfl, ?_⟩
  rw [isA_arr h2, okF_some]
  refine ⟨_, rfl, ?_⟩
  rw [if_pos rfl]
  refine ⟨_, rfl, ?_⟩
  rw [fld_sides h1, okF_some]
  refine ⟨_, rfl, ?_⟩
  rw [fld_sides h2, okF_some, e1, okF_some]
  refine ⟨_, rfl, ?_⟩
  cases b1 with
  | false => exact hP
  | true =>
    rw [if_pos rfl]
    refine ⟨_, rfl, ?_⟩
    rw [fld_cells h1, okF_some]
    refine ⟨_, rfl, ?_⟩
    rw [fld_cells h2, okF_some, e2, okF_some]
    exact hP
/-- array == other data -/
theorem sp_eqO {n : Nat} {d : D} {S : So} {P : D → So → Prop} (hd : fIsiA tb [d, .glo "Array"] S = some (.bl false, S)) (hP : P (.bl false) S) : okC (phi_Array_eq [.ref n, d] S) P := by
  unfold phi_Array_eq
  refine okC_fn rfl ?_
  unfold PB.m_Array_eq
  simp only [startE, List.map, List.length, List.replicate, List.cons_append, List.nil_append]
  refine okS_ret ?_
  simp only [okM_andV, okM_op2, okM_op1, okM_opA, okM_cons, okM_var, okM_ret, okM_nil]
  refine ⟨_, rfl, ?_⟩
  rw [hd, okF_some]
  exact ⟨_, rfl, hP⟩
end K02

set_option Elab.async false
set_option linter.all false
set_option maxRecDepth 100000
set_option maxHeartbeats 1000000
namespace K02
open PySem PySem.Spec PyProof.Rows L2 DD PB
theorem own_eq {n : Nat} {fs : List (Str × D)} {d : D} {t : TyN} {k : Bool → Bool} {f' : F2} {S : So} {P : D → So → Prop} (h1 : S[n]? = some (.ins "Array" fs)) (ht : tyOf tb d S = some t) (hn : nfL askc.nfs "Array" t = true) (h : okC (phi_Array_eq [.ref n, d] S) fun r T => ∃ v, r = .bl v ∧ P (.bl (k v)) T) :
    okF (altF (fOwn tb "Array" phi_Array_eq (nfL askc.nfs "Array") k) f' (.ref n) d S) P := by
  obtain ⟨r, T, h2, v, rfl, h3⟩ := h
  have e : fOwn tb "Array" phi_Array_eq (nfL askc.nfs "Array") k (.ref n) d S = some (.bl (k v), T) := by
    unfold fOwn
    dsimp only
    rw [h1]
    dsimp only
    rw [if_pos rfl, ht]
    dsimp only
    rw [if_pos hn, h2]
  refine ⟨_, _, ?_, h3⟩
  unfold altF
  rw [e]
/-- _law_is_unlike(array, other) where == answers False -/
theorem sp_lunlike {n : Nat} {fs : List (Str × D)} {d : D} {t : TyN} {S : So} {P : D → So → Prop} (h1 : S[n]? = some (.ins "Array" fs)) (ht : tyOf tb d S = some t) (hn : nfL askc.nfs "Array" t = true) (h : ∀ Q : D → So → Prop, Q (.bl false) S → okC (phi_Array_eq [.ref n, d] S) Q) (hP : P (.bl true) S) :
    okC (phi_lis_unlike [.ref n, d] S) P := by
  unfold phi_lis_unlike
  refine okC_fn rfl ?_
  unfold m_lis_unlike
  simp only [startE, List.map, List.length, List.replicate, List.cons_append, List.nil_append]
  refine okS_ret ?_
  rw [okM_andV, okM_op2, okM_op2]
  refine okM_var.mpr ⟨_, rfl, okM_var.mpr ⟨_, rfl, own_eq h1 ht hn (h _ ⟨false, rfl, ?_⟩)⟩⟩
  rw [okM_ret]
  refine ⟨_, _, rfl, true, rfl, ?_⟩
  rw [if_pos rfl, okM_op2, okM_op2]
  refine okM_var.mpr ⟨_, rfl, okM_var.mpr ⟨_, rfl, own_eq h1 ht hn (h _ ⟨false, rfl, ?_⟩)⟩⟩
  rw [okM_ret]
  exact ⟨_, _, rfl, hP⟩
end K02

set_option Elab.async false
set_option linter.all false
set_option maxRecDepth 100000
set_option maxHeartbeats 1000000
namespace K02
open PySem PySem.Spec PyProof.Rows L2 DD PB
/-- [a drawn number for k in range(many)] -/
theorem okM_drawn {own : List Nat} {m : MM (List D)} {t : Tg} {te : MM D} {e : Sl} {S : So} {many : Nat} {V : Int → Prop} {P : D → So → Prop} (hS : Hand S) (hm : okM m e S fun ds T => ds = [.int (many : Nat)] ∧ T = S) (hs : many < 100000)
    (hte : ∀ j T, Hand T → ∃ e3, t (.int (j : Nat)) T (wipeE e own) = some e3 ∧ okM te e3 T fun y U => ∃ v : Int, y = .int v ∧ V v ∧ Hand U ∧ Grow T U)
    (hP : ∀ (xs : List Int) T, xs.length = many → (∀ x ∈ xs, V x) → Hand T → Grow S T → T[S.length]? = some (.lst (xs.map .int)) → P (.ref S.length) T) : okM (compM own (mRng1 m) t yesM te) e S P := by
  have l2 := hS.len
  refine okM_compR (hm.imp fun ds T q => ?_)
  obtain ⟨rfl, rfl⟩ := q
  refine ⟨many, rfl, by omega, fun i U => i ≤ many ∧ Hand U ∧ Grow T U ∧ ∃ xs : List Int, xs.length = i ∧ (∀ x ∈ xs, V x) ∧ U[T.length]? = some (.lst (xs.map .int)), ⟨Nat.zero_le _, hS.app, Grow.app _ _, [], rfl, (by simp), get_new⟩, ?_, ?_⟩
  · rintro i U hi ⟨_, hU, gU, xs, rfl, hV, hx⟩
    obtain ⟨e3, g1, g2⟩ := hte xs.length U hU
    refine ⟨e3, g1, g2.imp fun y W q => ?_⟩
    obtain ⟨v, rfl, hv, hW, gW⟩ := q
    have w1 := gW.2 _ _ (by omega) hx
    have := line200k
    refine ⟨_, w1, by simp; omega, hi, hW.set (by omega) (by omega), grow_set (gU.trans gW) (Nat.le_refl _), xs ++ [v], by simp, fun x hx => ?_, ?_⟩
    · rcases List.mem_append.mp hx with z | z
      · exact hV x z
      · simp at z
        subst z
        exact hv
    · rw [List.getElem?_set_self (List.getElem?_eq_some_iff.mp w1).1, List.map_append]
      rfl
  · rintro U ⟨_, hU, gU, xs, h1, h2, h3⟩
    exact hP xs U h1 h2 hU gU h3
theorem cut_to {xs : List D} {k : Int} (h0 : 0 ≤ k) (h1 : k ≤ xs.length) : DD.cutD xs none (some k) = xs.take k.toNat := by
  unfold DD.cutD HT.sIx
  dsimp only
  rw [if_neg (by omega), List.drop_zero, Nat.sub_zero, Nat.min_eq_left (by omega)]
theorem cut_from {xs : List D} {k : Int} (h0 : 0 ≤ k) (h1 : k ≤ xs.length) : DD.cutD xs (some k) none = xs.drop k.toNat := by
  unfold DD.cutD HT.sIx
  dsimp only
  rw [if_neg (by omega), Nat.min_eq_left (by omega)]
  exact List.take_of_length_le (by simp)
theorem cut_last {xs : List D} : DD.cutD xs none (some (-1)) = xs.take (xs.length - 1) := by
  unfold DD.cutD HT.sIx
  dsimp only
  rw [if_pos (by decide), List.drop_zero, Nat.sub_zero]
  congr 1
  omega
theorem okM_slTo {ma mh : MM D} {e : Sl} {S : So} {P : D → So → Prop} (h : okM ma e S fun a S1 => okM mh e S1 fun k S2 => ∃ (n : Nat) (xs : List D) (i : Int), a = .ref n ∧ k = .int i ∧ S2[n]? = some (.lst xs) ∧ P (.ref S2.length) (S2 ++ [.lst (DD.cutD xs none (some i))])) :
    okM (mSl ma mNoPart (mPart mh)) e S P := by
  unfold mSl mNoPart mPart
  simp only [okM_bind, okM_ret]
  refine h.imp fun a S1 q => ?_
  refine q.imp fun k S2 q => ?_
  obtain ⟨n, xs, i, rfl, rfl, hx, hP⟩ := q
  refine ⟨_, _, rfl, _, _, ?_, hP⟩
  unfold liftF DD.fSl seqOf
  dsimp only
  rw [hx]
theorem okM_slFrom {ma ml : MM D} {e : Sl} {S : So} {P : D → So → Prop} (h : okM ma e S fun a S1 => okM ml e S1 fun k S2 => ∃ (n : Nat) (xs : List D) (i : Int), a = .ref n ∧ k = .int i ∧ S2[n]? = some (.lst xs) ∧ P (.ref S2.length) (S2 ++ [.lst (DD.cutD xs (some i) none)])) :
    okM (mSl ma (mPart ml) mNoPart) e S P := by
  unfold mSl mNoPart mPart
  simp only [okM_bind, okM_ret]
  refine h.imp fun a S1 q => ?_
  refine q.imp fun k S2 q => ?_
  obtain ⟨n, xs, i, rfl, rfl, hx, hP⟩ := q
  refine ⟨_, _, rfl, _, _, ?_, hP⟩
  unfold liftF DD.fSl seqOf
  dsimp only
  rw [hx]
end K02

set_option Elab.async false
set_option linter.all false
set_option maxRecDepth 100000
set_option maxHeartbeats 1000000
set_option exponentiation.threshold 2000
namespace K02
open PySem PySem.Spec PyProof.Rows L2 DD PB
/-- what repr wants of data, with room -/
structure Fit (n k : Nat) (p : PyData) : Prop where
  lv : p.leavesShort 400 = true
  bk : p.bulk ≤ n
  sh : p.showable = true
  nd : p.hasDict = false
  dp : p.depth ≤ k
theorem Fit.mono {n n' k k' : Nat} {p : PyData} (h : Fit n k p) (h1 : n ≤ n') (h2 : k ≤ k') : Fit n' k' p := ⟨h.lv, Nat.le_trans h.bk h1, h.sh, h.nd, Nat.le_trans h.dp h2⟩
theorem pow359 : (10 : Nat) ^ 360 < 2 ^ 1920 := by decide +kernel
theorem fit_int {i : Int} (hi : i.natAbs < 10 ^ 359) : Fit 0 0 (.int i) := by
  have hi : i.natAbs < 10 ^ 360 := Nat.lt_trans hi (Nat.pow_lt_pow_right (by decide) (by decide))
  have e := int_text_length_le10 (k := 360) (by decide) hi
  have e2 : (PyData.shown (.int i)).length ≤ 361 := by
    show (Str.ofString (toString i)).length ≤ 361
    rw [PySem.ofString_length]; exact e
  have e3 : i.natAbs.log2 < 1920 := by
    by_cases h0 : i.natAbs = 0
    · rw [h0]; decide
    · exact (Nat.log2_lt h0).mpr (Nat.lt_trans hi pow359)
  refine ⟨?_, ?_, ?_, ?_, ?_⟩
  · simp only [PyData.leavesShort, decide_eq_true_eq]; omega
  · simp [PyData.bulk]
  · simp only [PyData.showable, decide_eq_true_eq]; exact e3
  · simp [PyData.hasDict]
  · simp [PyData.depth]
theorem fit_bool (b : Bool) : Fit 0 0 (.bool b) := ⟨by simp [PyData.leavesShort], by simp [PyData.bulk], by simp [PyData.showable], by simp [PyData.hasDict], by simp [PyData.depth]⟩
theorem fit_none : Fit 0 0 .none := ⟨by simp [PyData.leavesShort], by simp [PyData.bulk], by simp [PyData.showable], by simp [PyData.hasDict], by simp [PyData.depth]⟩
theorem fit_str {x : Str} {n : Nat} (h : x.cps.size ≤ n) (h2 : (x.cps.toList.all fun c => decide (c < 16 ^ 8)) = true) : Fit n 0 (.str x) := ⟨by simp only [PyData.leavesShort]; exact h2, by simp only [PyData.bulk]; exact h, by simp [PyData.showable], by simp [PyData.hasDict], by simp [PyData.depth]⟩
theorem fit_all {n k : Nat} : ∀ {xs : List PyData}, (∀ x ∈ xs, Fit n k x) → PyData.leavesShortAll 400 xs = true ∧ PyData.bulkAll xs ≤ xs.length * (n + 1) ∧ PyData.showableAll xs = true ∧ PyData.hasDictAll xs = false ∧ PyData.depthAll xs ≤ k
  | [], _ => by simp [PyData.leavesShortAll, PyData.bulkAll, PyData.showableAll, PyData.hasDictAll, PyData.depthAll]
  | x :: xs, h => by
    obtain ⟨a1, a2, a3, a4, a5⟩ := h x (List.mem_cons_self ..)
    obtain ⟨b1, b2, b3, b4, b5⟩ := fit_all fun y hy => h y (List.mem_cons_of_mem _ hy)
    simp only [PyData.leavesShortAll, PyData.bulkAll, PyData.showableAll, PyData.hasDictAll, PyData.depthAll, a1, a3, a4, b1, b3, b4, List.length_cons, Nat.add_mul]
    refine ⟨by simp, by omega, by simp, by simp, by omega⟩
theorem fit_tup {n k m : Nat} {xs : List PyData} (hl : xs.length ≤ m) (h : ∀ x ∈ xs, Fit n k x) : Fit (m * (n + 1)) (k + 1) (.tuple xs) := by
  obtain ⟨a1, a2, a3, a4, a5⟩ := fit_all h
  have a6 : xs.length * (n + 1) ≤ m * (n + 1) := Nat.mul_le_mul_right _ hl
  refine ⟨?_, ?_, ?_, ?_, ?_⟩ <;> simp only [PyData.leavesShort, PyData.bulk, PyData.showable, PyData.hasDict, PyData.depth]
  · exact a1
  · omega
  · exact a3
  · exact a4
  · omega
theorem fit_list {n k m : Nat} {xs : List PyData} (hl : xs.length ≤ m) (h : ∀ x ∈ xs, Fit n k x) : Fit (m * (n + 1)) (k + 1) (.list xs) := by
  obtain ⟨a1, a2, a3, a4, a5⟩ := fit_all h
  have a6 : xs.length * (n + 1) ≤ m * (n + 1) := Nat.mul_le_mul_right _ hl
  refine ⟨?_, ?_, ?_, ?_, ?_⟩ <;> simp only [PyData.leavesShort, PyData.bulk, PyData.showable, PyData.hasDict, PyData.depth]
  · exact a1
  · omega
  · exact a3
  · exact a4
  · omega
/-- such data can be shown -/
theorem Fit.show {n k : Nat} {p : PyData} (h : Fit n k p) (hn : n ≤ 40000) (hk : k ≤ 60) : okShow p = true := by
  obtain ⟨h1, h2, h3, h4, h5⟩ := h
  unfold okShow
  have e := PyData.shown_le_bulk 400 (by decide) p h1
  have e3 : (PyData.shown p).length ≤ sizeLine := by
    rw [sizeLine_eq]
    have : (400 + 2) * p.bulk ≤ (400 + 2) * n := Nat.mul_le_mul_left _ h2
    omega
  simp only [h3, h4, Bool.not_false, Bool.true_and, Bool.and_eq_true, decide_eq_true_eq]
  exact ⟨by omega, e3⟩
theorem Fit.short {n k : Nat} {p : PyData} (h : Fit n k p) : (PyData.shown p).length ≤ 402 * n + 400 := by
  have e := PyData.shown_le_bulk 400 (by decide) p h.lv
  have : (400 + 2) * p.bulk ≤ (400 + 2) * n := Nat.mul_le_mul_left _ h.bk
  omega
end K02

set_option Elab.async false
set_option linter.all false
set_option maxRecDepth 100000
set_option maxHeartbeats 1000000
namespace K02
open PySem PySem.Spec PyProof.Rows L2 DD PB
/-- the store without what stands at r -/
def mask (S : So) (r : Nat) : So := S.set r (.ins "" [])
theorem mask_get {S : So} {r n : Nat} {xs : List D} (h : (mask S r)[n]? = some (.lst xs)) : n ≠ r ∧ S[n]? = some (.lst xs) := by
  unfold mask at h
  by_cases e : r = n
  · subst e
    rw [List.getElem?_set_self'] at h
    cases q : S[r]? with
    | none => rw [q] at h; cases h
    | some o => rw [q] at h; cases h
  · rw [List.getElem?_set_ne e] at h
    exact ⟨fun z => e z.symm, h⟩
theorem mask_put {S : So} {r n : Nat} {o : O} (hn : n ≠ r) (h : S[n]? = some o) : (mask S r)[n]? = some o := by
  unfold mask
  rw [List.getElem?_set_ne (Ne.symm hn)]
  exact h
/-- what are no cells -/
def Bad (many : Nat) (p : PyData) : Prop := cellsP p (many : Nat) = false ∧ Fit 500 2 p ∧ ∀ xs, (p = .list xs ∨ p = .tuple xs) → xs.length ≤ 1000
def Wr (many : Nat) (S : So) (r : Nat) (ds : List D) : Prop := 3 ≤ r ∧ S[r]? = some (.lst ds) ∧ ∀ d ∈ ds, ∃ p, Dat 3 (mask S r) 8 d p ∧ Bad many p
theorem dat_mask {S T : So} {r k : Nat} {d : D} {p : PyData} (g : Grow S T) (h : Dat 3 (mask S r) k d p) : Dat 3 (mask T r) k d p := Dat.mono (Nat.le_refl _) (fun n xs h3 e => mask_put (mask_get e).1 (g.2 n _ (by omega) (mask_get e).2)) (Nat.le_refl _) h
theorem Wr.grow {many : Nat} {S T : So} {r : Nat} {ds : List D} (h : Wr many S r ds) (g : Grow S T) : Wr many T r ds := ⟨h.1, g.2 _ _ (by have := h.1; omega) h.2.1, fun d hd => by
  obtain ⟨p, h1, h2⟩ := h.2.2 d hd
  exact ⟨p, dat_mask g h1, h2⟩⟩
theorem Wr.app {many : Nat} {S : So} {r : Nat} {ds : List D} {d : D} {p : PyData} (h : Wr many S r ds) (h1 : Dat 3 (mask S r) 8 d p) (h2 : Bad many p) : Wr many (S.set r (.lst (ds ++ [d]))) r (ds ++ [d]) := by
  have e : mask (S.set r (.lst (ds ++ [d]))) r = mask S r := by unfold mask; rw [List.set_set]
  refine ⟨h.1, List.getElem?_set_self (List.getElem?_eq_some_iff.mp h.2.1).1, fun x hx => ?_⟩
  rw [e]
  rcases List.mem_append.mp hx with z | z
  · exact h.2.2 x z
  · simp at z
    subst z
    exact ⟨p, h1, h2⟩
theorem Wr.at {many : Nat} {S : So} {r : Nat} {ds : List D} {d : D} (h : Wr many S r ds) (hd : d ∈ ds) : ∃ p, Dat 3 S 8 d p ∧ Bad many p := by
  obtain ⟨p, h1, h2⟩ := h.2.2 d hd
  exact ⟨p, Dat.mono (Nat.le_refl _) (fun n xs _ e => (mask_get e).2) (Nat.le_refl _) h1, h2⟩
/-- good[:at] + [bad] + good[at + 1:] -/
theorem mid_run {i j : Nat} {e : Sl} {S : So} {g a : Nat} {gs : List Int} {mb : MM D} {B : D → So → Prop} {P : D → So → Prop} (h2 : e[i]? = some (.v (.ref g))) (h4 : e[j]? = some (.v (.int (a : Nat)))) (hg : S[g]? = some (.lst (gs.map .int))) (ha : a < gs.length) (hl : gs.length ≤ 200) (hb : ∀ T, Keep S T → okM mb e T fun b U => Keep T U ∧ B b U)
    (hP : ∀ b U V n, Keep S U → B b U → Keep U V → S.length ≤ n → V[n]? = some (.lst (((gs.take a).map .int ++ [b]) ++ (gs.drop (a + 1)).map .int)) → P (.ref n) V) :
    okM (mOp2 fAdd (mOp2 fAdd (mSl (mVar i) mNoPart (mPart (mVar j))) (mOpA fLst (mCons mb mNil))) (mSl (mVar i) (mPart (mOp2 fAdd (mVar j) (retM (.int 1)))) mNoPart)) e S P := by
  rw [okM_op2, okM_op2]
  refine okM_slTo (okM_var.mpr ⟨_, h2, okM_var.mpr ⟨_, h4, g, _, (a : Nat), rfl, rfl, hg, ?_⟩⟩)
  rw [cut_to (by omega) (by simp; omega), Int.toNat_natCast, ← List.map_take]
  have k1 : Keep S (S ++ [O.lst ((gs.take a).map .int)]) := Keep.app _ _
  rw [okM_opA, okM_cons]
  refine (hb _ k1).imp fun b U q => ?_
  obtain ⟨kU, hB⟩ := q
  have k2 : Keep U (U ++ [O.lst [b]]) := Keep.app _ _
  rw [okM_nil, DD.fLst_ok (by simp), okF_some, fAdd_refs (k2 _ _ (kU _ _ get_new)) get_new (by simp; omega), okF_some]
  have k3 : Keep U ((U ++ [O.lst [b]]) ++ [O.lst ((gs.take a).map D.int ++ [b])]) := k2.trans (Keep.app _ _)
  refine okM_slFrom (okM_var.mpr ⟨_, h2, ?_⟩)
  rw [okM_op2]
  refine okM_var.mpr ⟨_, h4, ?_⟩
  rw [okM_ret, fAdd_int, okF_some]
  refine ⟨g, _, ((a + 1 : Nat) : Int), rfl, by simp, (k1.trans (kU.trans k3)) _ _ hg, ?_⟩
  rw [cut_from (by omega) (by simp; omega), Int.toNat_natCast, ← List.map_drop]
  rw [fAdd_refs (xs := (gs.take a).map D.int ++ [b]) (ys := (gs.drop (a + 1)).map D.int) (get_app get_new) get_new (by simp; omega), okF_some]
  refine hP b U _ _ (k1.trans kU) hB (k3.trans ((Keep.app _ _).trans (Keep.app _ _))) ?_ get_new
  have := (k1.trans kU).len
  simp
  omega
end K02

set_option Elab.async false
set_option linter.all false
set_option maxRecDepth 100000
set_option maxHeartbeats 1000000
namespace K02
open PySem PySem.Spec PyProof.Rows L2 DD PB
theorem bad_list {many : Nat} {xs : List PyData} (hl : xs.length ≤ 202) (hf : ∀ x ∈ xs, Fit 1 1 x) (hc : cellsP (.list xs) (many : Nat) = false) : Bad many (.list xs) :=
  ⟨hc, (fit_list hl hf).mono (by decide) (by decide), fun ys h => by rcases h with h | h <;> cases h; omega⟩
theorem bad_tup {many : Nat} {xs : List PyData} (hl : xs.length ≤ 202) (hf : ∀ x ∈ xs, Fit 1 1 x) (hc : cellsP (.tuple xs) (many : Nat) = false) : Bad many (.tuple xs) :=
  ⟨hc, (fit_tup hl hf).mono (by decide) (by decide), fun ys h => by rcases h with h | h <;> cases h; omega⟩
def Nine (v : Int) : Prop := 0 ≤ v ∧ v < 9
theorem fit_nine {v : Int} (h : Nine v) : Fit 1 1 (.int v) := by
  obtain ⟨h1, h2⟩ := h
  have big : (9 : Nat) < 10 ^ 359 := by decide +kernel
  exact (fit_int (by omega)).mono (by decide) (by decide)
theorem cells_len {many : Nat} {xs : List PyData} (h : xs.length ≠ many) : cellsP (.list xs) (many : Nat) = false ∧ cellsP (.tuple xs) (many : Nat) = false := by
  unfold cellsP
  dsimp only
  rw [decide_eq_false (by omega)]
  exact ⟨rfl, rfl⟩
theorem cells_item {many : Nat} {xs ys : List PyData} {p : PyData} (h : isIntP p = false) : cellsP (.list ((xs ++ [p]) ++ ys)) (many : Nat) = false := by
  unfold cellsP
  dsimp only
  rw [List.all_append, List.all_append, List.all_cons, h]
  simp
/-- a row of integers of the store, read -/
theorem dats_ints {S : So} {k : Nat} : ∀ (xs : List Int), Dats 3 S k (xs.map .int) (xs.map .int)
  | [] => .nil
  | x :: xs => .cons (.int x) (dats_ints xs)
/-- a row with one item changed -/
theorem bad_mid {many a : Nat} {gs : List Int} {p : PyData} (hg : ∀ x ∈ gs, Nine x) (ha : a < gs.length) (hl : gs.length ≤ 200) (hp : isIntP p = false) (hf : Fit 1 1 p) : Bad many (.list (((gs.take a).map .int ++ [p]) ++ (gs.drop (a + 1)).map .int)) := by
  refine bad_list (by simp; omega) (fun x hx => ?_) (cells_item hp)
  rcases List.mem_append.mp hx with z | z
  · rcases List.mem_append.mp z with z | z
    · obtain ⟨v, hv, rfl⟩ := List.mem_map.mp z
      exact fit_nine (hg v (List.take_subset _ _ hv))
    · simp at z
      subst z
      exact hf
  · obtain ⟨v, hv, rfl⟩ := List.mem_map.mp z
    exact fit_nine (hg v (List.drop_subset _ _ hv))
theorem dats_mid {S : So} {k a : Nat} {gs : List Int} {b : D} {p : PyData} (h : Dat 3 S k b p) : Dats 3 S k (((gs.take a).map .int ++ [b]) ++ (gs.drop (a + 1)).map .int) (((gs.take a).map .int ++ [p]) ++ (gs.drop (a + 1)).map .int) :=
  dats_app (dats_app (dats_ints _) (.cons h .nil)) (dats_ints _)
end K02

set_option Elab.async false
set_option linter.all false
set_option maxRecDepth 100000
set_option maxHeartbeats 1000000
namespace K02
open PySem PySem.Spec PyProof.Rows L2 DD PB
/-- wrong.append(good[:at] + [bad] + good[at + 1:]) -/
theorem app_mid {many : Nat} {e : Sl} {S0 S : So} {g a r : Nat} {gs : List Int} {ds : List D} {mb : MM D} {P : Fl → Sl → So → Prop} (hH : Hand S) (g0 : Grow S0 S) (hr : S0.length ≤ r) (h2 : e[2]? = some (.v (.ref g))) (h4 : e[4]? = some (.v (.int (a : Nat)))) (h5 : e[5]? = some (.v (.ref r))) (hg : S[g]? = some (.lst (gs.map .int))) (hgr : g ≠ r) (hg3 : 3 ≤ g) (ha : a < gs.length) (hl : gs.length ≤ 200) (h9 : ∀ x ∈ gs, Nine x) (hW : Wr many S r ds) (hds : ds.length ≤ 1000)
    (hb : ∀ T, Keep S T → okM mb e T fun b U => Keep T U ∧ ∃ p, Dat 3 (mask U r) 7 b p ∧ isIntP p = false ∧ Fit 1 1 p)
    (hP : ∀ d T, Hand T → Grow S0 T → Wr many T r (ds ++ [d]) → T[g]? = some (.lst (gs.map .int)) → (∀ n o, n ≠ r → S[n]? = some o → T[n]? = some o) → P .nx e T) :
    okS (exprS (mMeth isL fAppend (mVar 5) (mCons (mOp2 fAdd (mOp2 fAdd (mSl (mVar 2) mNoPart (mPart (mVar 4))) (mOpA fLst (mCons mb mNil))) (mSl (mVar 2) (mPart (mOp2 fAdd (mVar 4) (retM (.int 1)))) mNoPart)) mNil))) e S P := by
  refine okS_expr ?_
  rw [okM_meth]
  refine okM_var.mpr ⟨_, h5, isL_ref hW.2.1, ?_⟩
  rw [okM_cons]
  refine mid_run h2 h4 hg ha hl hb fun b U V n kU hB kV hn hV => ?_
  obtain ⟨p, d1, d2, d3⟩ := hB
  have kS := kU.trans kV
  have W2 := hW.grow (grow_keep kS)
  have lr : r < S.length := (List.getElem?_eq_some_iff.mp hW.2.1).1
  rw [okM_nil, fAppend_ref W2.2.1 (by have := line200k; omega), okF_some]
  have h3 := hW.1
  have lS := hH.len
  have D0 : Dat 3 (mask V r) 8 (.ref n) (.list (((gs.take a).map .int ++ [p]) ++ (gs.drop (a + 1)).map .int)) := .ref (by omega) (mask_put (by omega) hV) (dats_mid (dat_mask (grow_keep kV) d1))
  refine hP (.ref n) _ ((hand_keep hH kS).set (by omega) (by omega)) (grow_set (g0.trans (grow_keep kS)) hr) (W2.app D0 (bad_mid h9 ha hl d2 d3)) ?_ ?_
  · rw [List.getElem?_set_ne (Ne.symm hgr)]
    exact kS _ _ hg
  · intro m o hm e
    rw [List.getElem?_set_ne (Ne.symm hm)]
    exact kS _ _ e
end K02

set_option Elab.async false
set_option linter.all false
set_option maxRecDepth 100000
set_option maxHeartbeats 1000000
namespace K02
open PySem PySem.Spec PyProof.Rows L2 DD PB
theorem rep_fold (a : Array Nat) : ∀ (n : Nat) (acc : Array Nat), ((List.replicate n a).foldl (· ++ ·) acc).size = acc.size + n * a.size ∧ ∀ c ∈ ((List.replicate n a).foldl (· ++ ·) acc).toList, c ∈ acc.toList ∨ c ∈ a.toList
  | 0, acc => ⟨by simp, fun c h => .inl h⟩
  | n + 1, acc => by
    obtain ⟨h1, h2⟩ := rep_fold a n (acc ++ a)
    rw [List.replicate_succ, List.foldl_cons]
    refine ⟨by rw [h1, Array.size_append, Nat.add_mul]; omega, fun c h => ?_⟩
    rcases h2 c h with z | z
    · rw [Array.toList_append] at z
      exact List.mem_append.mp z
    · exact .inr z
theorem zeros_all (n : Nat) (hn : n < 201) : (strMul "0" (n : Int)).cps.size ≤ 200 ∧ ((strMul "0" (n : Int)).cps.toList.all fun c => decide (c < 16 ^ 8)) = true := by
  unfold strMul
  split
  · exact ⟨by decide, by decide⟩
  · split
    · exact ⟨by decide +kernel, by decide +kernel⟩
    · obtain ⟨h1, h2⟩ := rep_fold ("0" : Str).cps n #[]
      rw [Int.toNat_natCast]
      have l : ("0" : Str).cps.size = 1 := by decide +kernel
      refine ⟨by rw [h1, l]; simp; omega, List.all_eq_true.mpr fun c hc => ?_⟩
      rcases h2 c hc with z | z
      · simp at z
      · have q : (("0" : Str).cps.toList.all fun c => decide (c < 16 ^ 8)) = true := by decide +kernel
        exact List.all_eq_true.mp q c z
theorem bad_zeros {many : Nat} (h : many ≤ 200) : Bad many (.str (strMul "0" (many : Int))) := by
  obtain ⟨h1, h2⟩ := zeros_all many (by omega)
  exact ⟨rfl, (fit_str h1 h2).mono (by decide) (by decide), fun xs z => by rcases z with z | z <;> cases z⟩
theorem bad_none {many : Nat} : Bad many .none := ⟨rfl, fit_none.mono (by decide) (by decide), fun xs z => by rcases z with z | z <;> cases z⟩
theorem bad_true {many : Nat} : Bad many (.bool true) := ⟨rfl, (fit_bool true).mono (by decide) (by decide), fun xs z => by rcases z with z | z <;> cases z⟩
theorem bad_zero {many : Nat} : Bad many (.int 0) := ⟨rfl, (fit_nine ⟨by decide, by decide⟩).mono (by decide) (by decide), fun xs z => by rcases z with z | z <;> cases z⟩
theorem bad_nil {many : Nat} (h : 1 ≤ many) : Bad many (.list []) ∧ Bad many (.tuple []) := ⟨bad_list (by decide) (by simp) (cells_len (by simp; omega)).1, bad_tup (by decide) (by simp) (cells_len (by simp; omega)).2⟩
/-- a row that is too short -/
theorem bad_short {many : Nat} {gs : List Int} (hl : gs.length = many) (h1 : 1 ≤ many) (h2 : many ≤ 200) (h9 : ∀ x ∈ gs, Nine x) : Bad many (.list ((gs.take (gs.length - 1)).map .int)) ∧ Bad many (.tuple ((gs.take (gs.length - 1)).map .int)) := by
  have f : ∀ x ∈ (gs.take (gs.length - 1)).map PyData.int, Fit 1 1 x := fun x hx => by
    obtain ⟨v, hv, rfl⟩ := List.mem_map.mp hx
    exact fit_nine (h9 v (List.take_subset _ _ hv))
  have l : ((gs.take (gs.length - 1)).map PyData.int).length ≠ many := by simp; omega
  have l2 : ((gs.take (gs.length - 1)).map PyData.int).length ≤ 202 := by simp; omega
  exact ⟨bad_list l2 f (cells_len l).1, bad_tup l2 f (cells_len l).2⟩
end K02

set_option Elab.async false
set_option linter.all false
set_option maxRecDepth 100000
set_option maxHeartbeats 1000000
namespace K02
open PySem PySem.Spec PyProof.Rows L2 DD PB
theorem zb1 {many : Nat} (h : many < 201) : (-(2 ^ 60 : Int) < (many : Int) ∧ (many : Int) < 2 ^ 60) := by omega
theorem zb2 {many : Nat} (h : many < 201) : ("0" : Str).length * ((many : Int)).toNat ≤ 1000000 := by
  have l : ("0" : Str).length = 1 := by decide +kernel
  rw [l, Int.toNat_natCast]; omega
theorem zb3 {many : Nat} (h : many < 201) : (strMul "0" (many : Int)).length ≤ sizeLine := by
    have z := (zeros_all many h).1
    generalize strMul "0" (many : Int) = q at z
    have := line200k
    have e : q.length = q.cps.size := rfl
    omega
theorem zm1 {many : Nat} {S : So} : fMul (.str "0") (.int (many : Nat)) S = none := by unfold fMul; rfl
theorem zm2 {z : Str} {n : Int} {S : So} (b1 : -(2 ^ 60 : Int) < n ∧ n < 2 ^ 60) (b2 : z.length * n.toNat ≤ 1000000) (b3 : (strMul z n).length ≤ sizeLine) : fMulS (.str z) (.int n) S = some (.str (strMul z n), S) := by
    unfold fMulS
    dsimp only
    rw [if_pos ⟨b1, b2, b3⟩]
theorem zm3 {z : Str} {n : Int} {S : So} : fMul (.str z) (.int n) S = none := rfl
theorem zm4 {z : Str} {n : Int} {S : So} (b1 : -(2 ^ 60 : Int) < n ∧ n < 2 ^ 60) (b2 : z.length * n.toNat ≤ 1000000) (b3 : (strMul z n).length ≤ sizeLine) : altF fMul fMulS (.str z) (.int n) S = some (.str (strMul z n), S) := by
  unfold altF
  rw [zm3]
  exact zm2 b1 b2 b3
theorem zeros_ok {many : Nat} {S : So} (h : many < 201) : altF fMul fMulS (.str "0") (.int (many : Nat)) S = some (.str (strMul "0" (many : Int)), S) := zm4 (zb1 h) (zb2 h) (zb3 h)
theorem Wr.new {many : Nat} {S T : So} {r r' : Nat} {ds ns : List D} (h : Wr many S r ds) (k : Keep S T) (hr : S.length ≤ r') (hT : T[r']? = some (.lst (ds ++ ns))) (hn : ∀ d ∈ ns, ∃ p, Dat 3 (mask T r') 8 d p ∧ Bad many p) : Wr many T r' (ds ++ ns) := by
  have l : r < S.length := (List.getElem?_eq_some_iff.mp h.2.1).1
  refine ⟨by have := h.1; omega, hT, fun d hd => ?_⟩
  rcases List.mem_append.mp hd with z | z
  · obtain ⟨p, h1, h2⟩ := h.2.2 d z
    refine ⟨p, Dat.mono (Nat.le_refl _) (fun n xs h3 e => ?_) (Nat.le_refl _) h1, h2⟩
    obtain ⟨e1, e2⟩ := mask_get e
    have : n < S.length := (List.getElem?_eq_some_iff.mp e2).1
    exact mask_put (by omega) (k _ _ e2)
  · exact hn d z
def lits4 : List D := [.bl true, .bl false, .non, .str "1"]
theorem lits4_dat {x : D} {S : So} (h : x ∈ lits4) : ∃ p, Dat 3 S 7 x p ∧ isIntP p = false ∧ Fit 1 1 p := by
  have q : Fit 1 1 (.str "1") := fit_str (by decide +kernel) (by decide +kernel) |>.mono (Nat.le_refl 1) (by decide)
  simp only [lits4, List.mem_cons, List.not_mem_nil, or_false] at h
  rcases h with rfl | rfl | rfl | rfl
  · exact ⟨_, .bl true, rfl, (fit_bool true).mono (by decide) (by decide)⟩
  · exact ⟨_, .bl false, rfl, (fit_bool false).mono (by decide) (by decide)⟩
  · exact ⟨_, .non, rfl, fit_none.mono (by decide) (by decide)⟩
  · exact ⟨_, .str "1", rfl, q⟩
/-- the first eight wrong values -/
theorem first_wrong {many g : Nat} {a : Nat} {gs : List Int} {s3 s6 : Sv} {S : So} {P : Fl → Sl → So → Prop} (hH : Hand S) (hg : S[g]? = some (.lst (gs.map .int))) (hl : gs.length = many) (h1 : 1 ≤ many) (h2 : many ≤ 200) (h9 : ∀ x ∈ gs, Nine x)
    (hP : ∀ T r ds, Keep S T → S.length ≤ r → ds.length = 8 → Wr many T r ds → P .nx [.v (.ref 2), .v (.int (many : Nat)), .v (.ref g), s3, .v (.int (a : Nat)), .v (.ref r), s6] T) :
    okS (asgS (mOpA fLst (mCons (mSl (mVar 2) mNoPart (mPart (mOp1 fNeg (retM (.int 1))))) (mCons (mOpA fTuple (mCons (mSl (mVar 2) mNoPart (mPart (mOp1 fNeg (retM (.int 1))))) mNil)) (mCons (retM .non) (mCons (retM (.int 0)) (mCons (mOp2 (altF fMul fMulS) (retM (.str "0")) (mVar 1)) (mCons (retM (.bl true)) (mCons (mOpA fLst mNil) (mCons (mOpA fTup mNil) mNil))))))))) (nmT 5)) [.v (.ref 2), .v (.int (many : Nat)), .v (.ref g), s3, .v (.int (a : Nat)), .no, s6] S P := by
  have l2 := hH.len
  obtain ⟨b1, b2⟩ := bad_short hl h1 h2 h9
  obtain ⟨b3, b4⟩ := bad_nil h1
  refine okS_asg ?_
  rw [okM_opA, okM_cons]
  refine okM_slTo (okM_var.mpr ⟨_, rfl, ?_⟩)
  rw [okM_op1, okM_ret, fNeg_int, okF_some]
  refine ⟨g, _, -1, rfl, rfl, hg, ?_⟩
  rw [cut_last, List.length_map, ← List.map_take]
  generalize hA : S ++ [O.lst ((gs.take (gs.length - 1)).map D.int)] = A
  have kA : Keep S A := hA ▸ Keep.app _ _
  have xA : A[S.length]? = some (.lst ((gs.take (gs.length - 1)).map D.int)) := by rw [← hA]; exact get_new
  rw [okM_cons, okM_opA, okM_cons]
  refine okM_slTo (okM_var.mpr ⟨_, rfl, ?_⟩)
  rw [okM_op1, okM_ret, fNeg_int, okF_some]
  refine ⟨g, _, -1, rfl, rfl, kA _ _ hg, ?_⟩
  rw [cut_last, List.length_map, ← List.map_take]
  generalize hB : A ++ [O.lst ((gs.take (gs.length - 1)).map D.int)] = B
  have kB : Keep A B := hB ▸ Keep.app _ _
  have xB : B[A.length]? = some (.lst ((gs.take (gs.length - 1)).map D.int)) := by rw [← hB]; exact get_new
  rw [okM_nil, fTuple_seq (b := false) (xs := (gs.take (gs.length - 1)).map D.int) (by unfold seqOf; simp [xB]), okF_some]
  simp only [okM_cons, okM_ret, okM_op2, okM_var, okM_nil, okM_opA]
  refine ⟨_, rfl, ?_⟩
  rw [zeros_ok (by omega), okF_some, DD.fLst_ok (by simp), okF_some, fTup_ok (by simp), okF_some, DD.fLst_ok (by simp), okF_some]
  generalize hC : B ++ [O.lst []] = C
  have kC : Keep B C := hC ▸ Keep.app _ _
  have xC : C[B.length]? = some (.lst []) := by rw [← hC]; exact get_new
  generalize hd : [D.ref S.length, D.tup ((gs.take (gs.length - 1)).map D.int), .non, .int 0, .str (strMul "0" (many : Int)), .bl true, .ref B.length, .tup []] = ds
  have lA := kA.len
  have lB := kB.len
  have lC := kC.len
  have lA2 : S.length < A.length := (List.getElem?_eq_some_iff.mp xA).1
  have lC2 : B.length < C.length := (List.getElem?_eq_some_iff.mp xC).1
  have kD : Keep C (C ++ [O.lst ds]) := Keep.app _ _
  refine hP _ C.length ds (((kA.trans kB).trans kC).trans kD) (by omega) (by rw [← hd]; rfl) ⟨by omega, get_new, fun d h => ?_⟩
  rw [← hd] at h
  simp only [List.mem_cons, List.not_mem_nil, or_false] at h
  rcases h with rfl | rfl | rfl | rfl | rfl | rfl | rfl | rfl
  · exact ⟨_, .ref (by omega) (mask_put (by omega) (kD _ _ (kC _ _ (kB _ _ xA)))) (dats_ints _), b1⟩
  · exact ⟨_, .tup (dats_ints _), b2⟩
  · exact ⟨_, .non, bad_none⟩
  · exact ⟨_, .int 0, bad_zero⟩
  · exact ⟨_, .str _, bad_zeros h2⟩
  · exact ⟨_, .bl true, bad_true⟩
  · exact ⟨_, .ref (by omega) (mask_put (by omega) (kD _ _ xC)) .nil, b3⟩
  · exact ⟨_, .tup .nil, b4⟩
end K02

set_option Elab.async false
set_option linter.all false
set_option maxRecDepth 100000
set_option maxHeartbeats 1000000
namespace K02
open PySem PySem.Spec PyProof.Rows L2 DD PB
/-- the walk that appends the four -/
theorem four_wrong {many g r : Nat} {a : Nat} {gs : List Int} {ds : List D} {s3 s6 : Sv} {S0 S : So} {P : Fl → Sl → So → Prop} (hH : Hand S) (g0 : Grow S0 S) (hr : S0.length ≤ r) (hg : S[g]? = some (.lst (gs.map .int))) (hgr : g ≠ r) (hg3 : 3 ≤ g) (ha : a < gs.length) (hl : gs.length ≤ 200) (h9 : ∀ x ∈ gs, Nine x) (hd : ds.length = 8) (hW : Wr many S r ds)
    (hP : ∀ T ds s6, Hand T → Grow S0 T → ds.length = 12 → Wr many T r ds → T[g]? = some (.lst (gs.map .int)) → P .nx [.v (.ref 2), .v (.int (many : Nat)), .v (.ref g), s3, .v (.int (a : Nat)), .v (.ref r), s6] T) :
    okS (forS (mSeq (mOpA fLst (mCons (retM (.bl true)) (mCons (retM (.bl false)) (mCons (retM .non) (mCons (retM (.str "1")) mNil)))))) (nmT 6) b_lno_cells_1) [.v (.ref 2), .v (.int (many : Nat)), .v (.ref g), s3, .v (.int (a : Nat)), .v (.ref r), s6] S P := by
  refine okS_for ?_
  unfold mSeq
  rw [okM_bind, okM_opA]
  simp only [okM_cons, okM_ret, okM_nil]
  rw [DD.fLst_ok (by simp), okF_some]
  have kS : Keep S (S ++ [O.lst lits4]) := Keep.app _ _
  refine ⟨itLst S.length 4, S ++ [O.lst lits4], by unfold seqI; dsimp only; rw [show (S ++ [O.lst [D.bl true, D.bl false, D.non, D.str "1"]])[S.length]? = some (.lst [D.bl true, D.bl false, D.non, D.str "1"]) from get_new]; rfl, fun i e2 S2 => ∃ s6 ds, e2 = [.v (.ref 2), .v (.int (many : Nat)), .v (.ref g), s3, .v (.int (a : Nat)), .v (.ref r), s6] ∧ Hand S2 ∧ Grow S0 S2 ∧ ds.length = 8 + i ∧ i ≤ 4 ∧ Wr many S2 r ds ∧ S2[g]? = some (.lst (gs.map .int)) ∧ S2[S.length]? = some (.lst lits4), ⟨s6, ds, rfl, hH.app, g0.trans (Grow.app _ _), hd, by omega, hW.grow (Grow.app _ _), kS _ _ hg, get_new⟩, ?_⟩
  rintro i e2 S2 ⟨s6', ds', rfl, hH2, g2, hd2, hi, hW2, hg2, hq⟩
  have hrS : r < S.length := (List.getElem?_eq_some_iff.mp hW.2.1).1
  have gt : (itLst S.length 4).get i S2 = some lits4[i]? := by
    unfold itLst
    dsimp only
    rw [hq]
  by_cases h4 : i < 4
  · have hl4 : i < lits4.length := h4
    refine .inr ⟨h4, lits4[i], _, by rw [gt, List.getElem?_eq_getElem hl4], rfl, ?_⟩
    unfold b_lno_cells_1
    have la := (List.getElem?_eq_some_iff.mp hW2.2.1).1
    exact app_mid (a := a) (gs := gs) (ds := ds') hH2 g2 hr rfl rfl rfl hg2 hgr hg3 ha hl h9 hW2 (by omega) (fun T k => okM_var.mpr ⟨_, rfl, Keep.refl _, lits4_dat (List.getElem_mem hl4)⟩) fun d T t1 t2 t3 t4 t5 => ⟨_, ds' ++ [d], rfl, t1, t2, by simp; omega, by omega, t3, t4, t5 _ _ (by omega) hq⟩
  · have h5 : i = 4 := by omega
    subst h5
    exact .inl ⟨by rw [gt]; rfl, hP S2 ds' s6' hH2 g2 hd2 hW2 hg2⟩
/-- the three more of short rows -/
theorem three_wrong {many g r : Nat} {a : Nat} {gs : List Int} {ds : List D} {s3 s6 : Sv} {S : So} {P : Fl → Sl → So → Prop} (hH : Hand S) (hg : S[g]? = some (.lst (gs.map .int))) (hlm : gs.length = many) (ha : a < gs.length) (hl : gs.length ≤ 100) (h9 : ∀ x ∈ gs, Nine x) (hd : ds.length = 12) (hW : Wr many S r ds)
    (hP : ∀ T ds r', Keep S T → S.length ≤ r' → ds.length = 15 → Wr many T r' ds → P .nx [.v (.ref 2), .v (.int (many : Nat)), .v (.ref g), s3, .v (.int (a : Nat)), .v (.ref r'), s6] T) :
    okS (asgS (mOp2 fAdd (mVar 5) (mOpA fLst (mCons (mOp2 fAdd (mVar 2) (mOpA fLst (mCons (retM (.int 1)) mNil))) (mCons (mOp2 fAdd (mOpA fTuple (mCons (mVar 2) mNil)) (mOpA fTup (mCons (retM (.int 0)) mNil))) (mCons (mOp2 fAdd (mOp2 fAdd (mSl (mVar 2) mNoPart (mPart (mVar 4))) (mOpA fLst (mCons (mOpA fTup (mCons (retM (.int 1)) mNil)) mNil))) (mSl (mVar 2) (mPart (mOp2 fAdd (mVar 4) (retM (.int 1)))) mNoPart)) mNil))))) (nmT 5)) [.v (.ref 2), .v (.int (many : Nat)), .v (.ref g), s3, .v (.int (a : Nat)), .v (.ref r), s6] S P := by
  have l2 := hH.len
  have lr : r < S.length := (List.getElem?_eq_some_iff.mp hW.2.1).1
  refine okS_asg ?_
  rw [okM_op2]
  refine okM_var.mpr ⟨_, rfl, ?_⟩
  rw [okM_opA, okM_cons, okM_op2]
  refine okM_var.mpr ⟨_, rfl, ?_⟩
  rw [okM_opA, okM_cons, okM_ret, okM_nil, DD.fLst_ok (by simp), okF_some]
  generalize hA : S ++ [O.lst [D.int 1]] = A
  have kA : Keep S A := hA ▸ Keep.app _ _
  have xA : A[S.length]? = some (.lst [D.int 1]) := by rw [← hA]; exact get_new
  rw [fAdd_refs (kA _ _ hg) xA (by simp; omega), okF_some]
  generalize hB : A ++ [O.lst (gs.map D.int ++ [D.int 1])] = B
  have kB : Keep A B := hB ▸ Keep.app _ _
  have xB : B[A.length]? = some (.lst (gs.map D.int ++ [D.int 1])) := by rw [← hB]; exact get_new
  rw [okM_cons, okM_op2, okM_opA, okM_cons]
  refine okM_var.mpr ⟨_, rfl, ?_⟩
  rw [okM_nil, fTuple_seq (b := false) (xs := gs.map D.int) (by unfold seqOf; simp [kB _ _ (kA _ _ hg)]), okF_some, okM_opA, okM_cons, okM_ret, okM_nil, fTup_ok (by simp), okF_some]
  have ea : fAdd (.tup (gs.map D.int)) (.tup [D.int 0]) B = some (.tup (gs.map D.int ++ [D.int 0]), B) := by
    unfold fAdd
    dsimp only
    rw [if_pos (by have := line200k; simp; omega)]
  rw [ea, okF_some, okM_cons]
  refine mid_run (B := fun b U => b = .tup [.int 1]) rfl rfl (kB _ _ (kA _ _ hg)) ha (by omega) (fun T k => ?_) fun b U V n kU hb kV hn hV => ?_
  · rw [okM_opA, okM_cons, okM_ret, okM_nil, fTup_ok (by simp), okF_some]
    exact ⟨Keep.refl _, rfl⟩
  subst hb
  rw [okM_nil, DD.fLst_ok (by simp), okF_some]
  have kSV : Keep S V := ((kA.trans kB).trans kU).trans kV
  have kV2 : Keep V (V ++ [O.lst [D.ref A.length, .tup (gs.map D.int ++ [D.int 0]), .ref n]]) := Keep.app _ _
  rw [fAdd_refs (kV2 _ _ (kSV _ _ hW.2.1)) get_new (by simp; omega), okF_some]
  have kV3 := Keep.app (V ++ [O.lst [D.ref A.length, .tup (gs.map D.int ++ [D.int 0]), .ref n]]) (O.lst (ds ++ [D.ref A.length, .tup (gs.map D.int ++ [D.int 0]), .ref n]))
  have k := (kSV.trans kV2).trans kV3
  have lSV := (kSV.trans kV2).len
  have lA := kA.len
  have lB := kB.len
  have lB2 : A.length < B.length := (List.getElem?_eq_some_iff.mp xB).1
  have lV2 := ((kU.trans kV).trans kV2).len
  have lV3 := kV2.len
  have lV4 : n < V.length := (List.getElem?_eq_some_iff.mp hV).1
  have f1 : ∀ {v : Int}, Nine v → ∀ x ∈ (gs.map PyData.int ++ [PyData.int v]), Fit 1 1 x := fun hv x hx => by
    rcases List.mem_append.mp hx with z | z
    · obtain ⟨w, hw, rfl⟩ := List.mem_map.mp z
      exact fit_nine (h9 w hw)
    · simp at z
      subst z
      exact fit_nine hv
  have ft : Fit 1 1 (.tuple [.int 1]) := by
    have := fit_tup (n := 0) (k := 0) (m := 1) (xs := [.int 1]) (by simp) (fun x hx => by simp at hx; subst hx; exact fit_int (by decide +kernel))
    exact this
  refine hP _ _ _ k lSV (by simp; omega) (hW.new k lSV get_new fun d hd => ?_)
  simp only [List.mem_cons, List.not_mem_nil, or_false] at hd
  rcases hd with rfl | rfl | rfl
  · refine ⟨.list (gs.map .int ++ [.int 1]), .ref (by omega) (mask_put (by omega) (kV3 _ _ (kV2 _ _ (kV _ _ (kU _ _ xB))))) (dats_app (dats_ints _) (.cons (.int 1) .nil)), bad_list (by simp; omega) (f1 ⟨by decide, by decide⟩) (cells_len (by simp; omega)).1⟩
  · exact ⟨.tuple (gs.map .int ++ [.int 0]), .tup (dats_app (dats_ints _) (.cons (.int 0) .nil)), bad_tup (by simp; omega) (f1 ⟨by decide, by decide⟩) (cells_len (by simp; omega)).2⟩
  · exact ⟨_, .ref (by omega) (mask_put (by omega) (kV3 _ _ (kV2 _ _ hV))) (dats_mid (.tup (.cons (.int 1) .nil))), bad_mid h9 ha (by omega) rfl ft⟩
/-- _law_no_cells(hand, many) -/
theorem sp_lno_cells {many : Nat} {S : So} {P : D → So → Prop} (hS : Hand S) (h1 : 1 ≤ many) (h2 : many ≤ 200) (hP : ∀ d p T, Dat 3 T 8 d p → Bad many p → Hand T → Grow S T → P d T) : okC (phi_lno_cells [.ref 2, .int (many : Nat)] S) P := by
  unfold phi_lno_cells
  refine okC_fn rfl ?_
  unfold m_lno_cells
  simp only [startE, List.map, List.length, List.replicate, List.cons_append, List.nil_append]
  have l2 := hS.len
  refine okS_seq (okS_asg (okM_drawn hS (V := Nine) (many := many) ?_ (by omega) (fun j T hT => ⟨_, rfl, ?_⟩) fun gs T hl h9 hT gT eT => ?_))
  · simp only [okM_cons, okM_var, okM_nil]
    exact ⟨_, rfl, rfl, trivial⟩
  · simp only [okM_call, okM_cons, okM_var, okM_ret, okM_nil]
    exact ⟨_, rfl, sp_take hT (by decide) (by decide) fun v V v0 v1 hV gV lV => ⟨v, rfl, ⟨v0, v1⟩, hV, gV⟩⟩
  refine okS_seq (okS_asg ?_)
  simp only [okM_call, okM_cons, okM_var, okM_ret, okM_nil]
  refine ⟨_, rfl, _, rfl, sp_take hT (by omega) (by omega) fun v V v0 v1 hV gV lV => ?_⟩
  obtain ⟨a, rfl⟩ := Int.eq_ofNat_of_zero_le v0
  have gSV := gT.trans gV
  have eV := gV.2 _ _ (by omega) eT
  have lS : S.length < V.length := (List.getElem?_eq_some_iff.mp eV).1
  refine okS_seq (first_wrong (gs := gs) (a := a) hV eV hl h1 h2 h9 fun T1 r ds k1 lr hd hW => ?_)
  refine okS_seq (four_wrong (S0 := S) (hand_keep hV k1) (gSV.trans (grow_keep k1)) (by omega) (k1 _ _ eV) (by omega) (by omega) (by omega) (by omega) h9 hd hW fun T2 ds2 s6 hT2 gT2 hd2 hW2 eT2 => ?_)
  have fin : ∀ (T3 : So) (ds3 : List D) (r3 : Nat) (s6 : Sv), Hand T3 → Grow S T3 → 0 < ds3.length → ds3.length < 1000 → Wr many T3 r3 ds3 → okS (retS (mOp2 fIx (mVar 5) (mCall phi_ltake (mCons (mVar 0) (mCons (mOpA fLen (mCons (mVar 5) mNil)) mNil))))) [.v (.ref 2), .v (.int (many : Nat)), .v (.ref S.length), .no, .v (.int (a : Nat)), .v (.ref r3), s6] T3 (endP P) := by
    intro T3 ds3 r3 s6 hT3 gT3 hd3 hd4 hW3
    refine okS_ret ?_
    simp only [okM_op2, okM_opA, okM_call, okM_cons, okM_var, okM_ret, okM_nil]
    refine ⟨_, rfl, _, rfl, _, rfl, ?_⟩
    rw [fLen_ref hW3.2.1, okF_some]
    refine sp_take hT3 (by omega) (by omega) fun v W v0 v1 hW' gW lW => ?_
    obtain ⟨d, a1, a2⟩ := atI_ok (xs := ds3) v0 v1
    have := hW3.1
    rw [fIx_ref (gW.2 _ _ (by omega) hW3.2.1) a1, okF_some]
    obtain ⟨p, b1, b2⟩ := (hW3.grow gW).at (List.mem_of_getElem? a2)
    exact hP d p W b1 b2 hW' (gT3.trans gW)
  by_cases hm : many < 100
  · refine okS_seq (okS_ifT ?_)
    rw [okM_tst, okM_op2]
    refine okM_var.mpr ⟨_, rfl, ?_⟩
    rw [okM_ret, fOrd_int, okF_some]
    refine ⟨_, rfl, by unfold pLt; rw [decide_eq_true (by omega)], ?_⟩
    refine okS_seq (three_wrong (gs := gs) (a := a) hT2 eT2 hl (by omega) (by omega) h9 hd2 hW2 fun T3 ds3 r3 k3 lr3 hd3 hW3 => ?_)
    have lT2 := gT2.1
    have lr2 : r < T2.length := (List.getElem?_eq_some_iff.mp hW2.2.1).1
    refine app_mid (S0 := S) (gs := gs) (a := a) (hand_keep hT2 k3) (gT2.trans (grow_keep k3)) (by omega) rfl rfl rfl (k3 _ _ eT2) (by omega) (by omega) (by omega) (by omega) h9 hW3 (by omega) (fun U kU => ?_) fun d U t1 t2 t3 t4 t5 => fin U _ r3 s6 t1 t2 (by simp) (by simp; omega) t3
    rw [okM_opA, okM_cons, okM_ret, okM_nil, DD.fLst_ok (by simp), okF_some]
    have lU := kU.len
    have lr4 : r3 < T3.length := (List.getElem?_eq_some_iff.mp hW3.2.1).1
    have lk := k3.len
    refine ⟨Keep.app _ _, .list [.int 2], .ref (by omega) (mask_put (by omega) get_new) (.cons (.int 2) .nil), rfl, ?_⟩
    exact fit_list (n := 0) (k := 0) (m := 1) (xs := [.int 2]) (by simp) (fun x hx => by simp at hx; subst hx; exact fit_int (by decide +kernel))
  · refine okS_seq (okS_ifF ?_)
    rw [okM_tst, okM_op2]
    refine okM_var.mpr ⟨_, rfl, ?_⟩
    rw [okM_ret, fOrd_int, okF_some]
    refine ⟨_, rfl, by unfold pLt; rw [decide_eq_false (by omega)], okS_nx ?_⟩
    exact fin T2 ds2 r s6 hT2 gT2 (by omega) (by omega) hW2
end K02

set_option Elab.async false
set_option linter.all false
set_option maxRecDepth 100000
set_option maxHeartbeats 1000000
namespace K02
open PySem PySem.Spec PyProof.Rows L2 DD PB
theorem sign_lt {c : Nat} (h : signP c = true) : c < 128 := by
  have e1 : ("z" : Str).cps.toList = [122] := by decide +kernel
  have e2 : ("9" : Str).cps.toList = [57] := by decide +kernel
  unfold signP btw at h
  rw [e1, e2] at h
  rcases Bool.or_eq_true_iff.mp h with z | z
  · have := (Bool.and_eq_true_iff.mp z).2
    simp [qLe, List.cons_lt_cons_iff] at this
    omega
  · have := (Bool.and_eq_true_iff.mp z).2
    simp [qLe, List.cons_lt_cons_iff] at this
    omega
theorem word_signs {z : Str} (h : wordZ z = true) : z.cps.size ≤ 8 ∧ ∀ c ∈ z.cps.toList, c < 128 := by
  unfold wordZ at h
  obtain ⟨h1, h2⟩ := Bool.and_eq_true_iff.mp h
  obtain ⟨h3, h4⟩ := Bool.and_eq_true_iff.mp h1
  obtain ⟨h5, h6⟩ := Bool.and_eq_true_iff.mp h2
  exact ⟨of_decide_eq_true h4, fun c hc => sign_lt (List.all_eq_true.mp h6 c hc)⟩
theorem word_fit {z : Str} (h : wordZ z = true) : Fit 8 0 (.str z) := by
  obtain ⟨h1, h2⟩ := word_signs h
  exact fit_str h1 (List.all_eq_true.mpr fun c hc => decide_eq_true (Nat.lt_trans (h2 c hc) (by decide)))
theorem word_lay {z : Str} (h : wordZ z = true) : PyData.strOk z = true := by
  obtain ⟨h1, h2⟩ := word_signs h
  unfold PyData.strOk
  rw [← Array.all_toList, List.all_eq_true]
  intro c hc
  exact decide_eq_true (by have := h2 c hc; omega)
/-- the sides as tuples, as lists -/
def tupsP (l : List (Str × Nat)) : List PyData := l.map fun p => .tuple [.str p.1, .int (p.2 : Nat)]
def listsP (l : List (Str × Nat)) : List PyData := l.map fun p => .list [.str p.1, .int (p.2 : Nat)]
def OfL (l : List (Str × Nat)) (ps : List PyData) : Prop := ps = tupsP l ∨ ps = listsP l
theorem of_map {β : Type} {l : List (Str × Nat)} {ps : List PyData} (h : OfL l ps) (f : PyData → β) (g : Str × Nat → β) (h1 : ∀ p, f (.tuple [.str p.1, .int (p.2 : Nat)]) = g p) (h2 : ∀ p, f (.list [.str p.1, .int (p.2 : Nat)]) = g p) : ps.map f = l.map g := by
  rcases h with rfl | rfl
  · unfold tupsP; rw [List.map_map]; exact List.map_congr_left fun p _ => h1 p
  · unfold listsP; rw [List.map_map]; exact List.map_congr_left fun p _ => h2 p
theorem of_len {l : List (Str × Nat)} {ps : List PyData} (h : OfL l ps) : ps.length = l.length := by
  rcases h with rfl | rfl <;> simp [tupsP, listsP]
theorem of_side {l : List (Str × Nat)} {ps : List PyData} (h : OfL l ps) (g : GoodL l) : ps.all sideP = true := by
  have e : ps.map sideP = l.map fun p => wordZ p.1 && (decide ((1 : Int) ≤ (p.2 : Nat)) && decide (((p.2 : Nat) : Int) ≤ 6)) := of_map h _ _ (fun p => rfl) (fun p => rfl)
  have e2 : ps.all sideP = (ps.map sideP).all id := by rw [List.all_map]; rfl
  rw [e2, e, List.all_map, List.all_eq_true]
  intro p hp
  obtain ⟨h1, h2, h3⟩ := g.2.1 p hp
  show (wordZ p.1 && (decide ((1 : Int) ≤ (p.2 : Nat)) && decide (((p.2 : Nat) : Int) ≤ 6))) = true
  rw [h1, decide_eq_true (by omega), decide_eq_true (by omega)]
  rfl
theorem of_name {l : List (Str × Nat)} {ps : List PyData} (h : OfL l ps) : ps.map nameP = l.map (·.1) := of_map h _ _ (fun p => rfl) (fun p => rfl)
theorem of_size {l : List (Str × Nat)} {ps : List PyData} (h : OfL l ps) : ps.map sizeP = (l.map (·.2)).map fun (s : Nat) => (s : Int) := by
  rw [List.map_map]
  exact of_map h _ _ (fun p => rfl) (fun p => rfl)
theorem of_sideD {l : List (Str × Nat)} {ps : List PyData} (h : OfL l ps) : ps.map sideD = l.map pairD := of_map h _ _ (fun p => rfl) (fun p => rfl)
theorem fold_cast : ∀ (l : List (Str × Nat)) (m : Nat), ((l.map (·.2)).map fun (s : Nat) => (s : Int)).foldl (· * ·) (m : Int) = ((l.foldl (fun m p => m * p.2) m : Nat) : Int)
  | [], m => rfl
  | p :: l, m => by
    rw [List.map_cons, List.map_cons, List.foldl_cons, List.foldl_cons, ← fold_cast l (m * p.2)]
    congr 1
theorem of_many {l : List (Str × Nat)} {ps : List PyData} (h : OfL l ps) : manyP ps = (manyL l : Nat) := by
  unfold manyP
  rw [of_size h]
  exact fold_cast l 1
theorem of_sides {l : List (Str × Nat)} {ps : List PyData} (h : OfL l ps) (g : GoodL l) : sidesL ps = true := by
  have e : (ps.map sizeP).foldl (· * ·) 1 = ((manyL l : Nat) : Int) := of_many h
  unfold sidesL sizesL
  rw [of_side h g, of_name h, g.2.2.1, decide_eq_true (by rw [of_len h]; exact g.1), e, decide_eq_true (by have := g.2.2.2.1; omega)]
  rfl
theorem short_word {z : Str} (h : wordZ z = true) : z.length ≤ 1000 := by
  have := (word_signs h).1
  show z.cps.size ≤ 1000
  omega
theorem of_short {l : List (Str × Nat)} {ps : List PyData} {p : PyData} (h : OfL l ps) (g : GoodL l) (hp : p = .list ps ∨ p = .tuple ps) : Short2 p := by
  intro qs hq
  have e : qs = ps := by rcases hp with rfl | rfl <;> rcases hq with hq | hq <;> cases hq <;> rfl
  subst e
  refine ⟨by rw [of_len h]; have := g.1; omega, fun q hm rs hr a ha z hz => ?_⟩
  subst hz
  have : ∃ p ∈ l, rs = [.str p.1, .int (p.2 : Nat)] := by
    rcases h with rfl | rfl
    · obtain ⟨p, hp, rfl⟩ := List.mem_map.mp hm
      exact ⟨p, hp, by rcases hr with hr | hr <;> cases hr; rfl⟩
    · obtain ⟨p, hp, rfl⟩ := List.mem_map.mp hm
      exact ⟨p, hp, by rcases hr with hr | hr <;> cases hr; rfl⟩
  obtain ⟨p, hp, rfl⟩ := this
  simp at ha
  subst ha
  exact short_word (g.2.1 p hp).1
theorem size6 {l : List (Str × Nat)} (g : GoodL l) : ∀ s ∈ l.map (·.2), s ≤ 6 := fun s hs => by
  obtain ⟨p, hp, rfl⟩ := List.mem_map.mp hs
  exact (g.2.1 p hp).2.2
/-! what repr can show -/
theorem fit_small {i : Int} (h : i.natAbs ≤ 1000) : Fit 0 0 (.int i) := fit_int (Nat.lt_of_le_of_lt h (by decide +kernel))
theorem fit_tups {l : List (Str × Nat)} (g : GoodL l) : Fit 76 2 (.tuple (tupsP l)) := by
  refine (fit_tup (n := 18) (k := 1) (m := 4) (by simp [tupsP]; exact g.1) fun x hx => ?_).mono (by decide) (by decide)
  obtain ⟨p, hp, rfl⟩ := List.mem_map.mp hx
  obtain ⟨h1, h2, h3⟩ := g.2.1 p hp
  refine (fit_tup (n := 8) (k := 0) (m := 2) (by simp) fun y hy => ?_).mono (by decide) (by decide)
  simp at hy
  rcases hy with rfl | rfl
  · exact word_fit h1
  · exact (fit_small (by omega)).mono (by decide) (by decide)
theorem fit_cells {zs : List Int} (hl : zs.length ≤ 200) (h : ∀ z ∈ zs, z.natAbs < 10 ^ 359) : Fit 200 1 (.tuple (zs.map .int)) := by
  refine (fit_tup (n := 0) (k := 0) (m := 200) (by simpa using hl) fun x hx => ?_).mono (by decide) (by decide)
  obtain ⟨z, hz, rfl⟩ := List.mem_map.mp hx
  exact fit_int (h z hz)
theorem rows_mem : ∀ (n : Nat) (ss : List Nat), ss.length = n → (∀ s ∈ ss, s ≤ 6) → ∀ r ∈ rowsL ss, r.length = n ∧ ∀ k ∈ r, 0 ≤ k ∧ k < 6
  | 0, ss, hn, _, r, hr => by
    have : ss = [] := List.length_eq_zero_iff.mp hn
    subst this
    have : r = [] := by simpa [rowsL] using hr
    subst this
    exact ⟨rfl, by simp⟩
  | n + 1, ss, hn, h6, r, hr => by
    have hne : ss ≠ [] := fun z => by rw [z] at hn; cases hn
    have es : ss = ss.dropLast ++ [ss.getLast hne] := (List.dropLast_concat_getLast hne).symm
    have hs := h6 _ (List.getLast_mem hne)
    have e1 : rowsL ss = stepL (rowsL ss.dropLast) (ss.getLast hne) := by
      conv => lhs; rw [es]
      unfold rowsL
      rw [List.foldl_append]
      rfl
    rw [e1] at hr
    unfold stepL at hr
    obtain ⟨q, hq, hr⟩ := List.mem_flatMap.mp hr
    obtain ⟨j, hj, rfl⟩ := List.mem_map.mp hr
    obtain ⟨i1, i2⟩ := rows_mem n ss.dropLast (by rw [List.length_dropLast, hn]; rfl) (fun x hx => h6 x (List.dropLast_subset _ hx)) q hq
    have := List.mem_range.mp hj
    refine ⟨by simp [i1], fun k hk => ?_⟩
    rcases List.mem_append.mp hk with z | z
    · exact i2 k z
    · simp at z
      subst z
      omega
def rowsP (rows : List (List Int)) : List PyData := rows.map fun ks => .tuple (ks.map .int)
theorem fit_rows {l : List (Str × Nat)} (g : GoodL l) : Fit 6480 2 (.tuple (rowsP (rowsL (l.map (·.2))))) := by
  have hl : (rowsL (l.map (·.2))).length ≤ 1296 := by
    have := rows_len _ (l.map (·.2)) rfl (size6 g)
    have e : (6 : Nat) ^ (l.map (·.2)).length ≤ 6 ^ 4 := Nat.pow_le_pow_right (by decide) (by simpa using g.1)
    have : (6 : Nat) ^ 4 = 1296 := by decide
    omega
  refine (fit_tup (n := 4) (k := 1) (m := 1296) (by simpa [rowsP] using hl) fun x hx => ?_).mono (by decide) (by decide)
  obtain ⟨r, hr, rfl⟩ := List.mem_map.mp hx
  obtain ⟨h1, h2⟩ := rows_mem _ _ rfl (size6 g) r hr
  refine (fit_tup (n := 0) (k := 0) (m := 4) (by have := g.1; simp at h1 ⊢; omega) fun y hy => ?_).mono (by decide) (by decide)
  obtain ⟨k, hk, rfl⟩ := List.mem_map.mp hy
  have := h2 k hk
  exact fit_small (by omega)
/-! data of the store -/
theorem dats_tups {S : So} {k : Nat} : ∀ (l : List (Str × Nat)), Dats 3 S k (l.map pairD) (tupsP l)
  | [] => .nil
  | p :: l => .cons (.tup (.cons (.str p.1) (.cons (.int _) .nil))) (dats_tups l)
theorem dats_rows {S : So} {k : Nat} : ∀ (rows : List (List Int)), Dats 3 S k (rows.map rowD) (rowsP rows)
  | [] => .nil
  | r :: rows => .cons (.tup (dats_ints r)) (dats_rows rows)
theorem py_tups {S : So} (l : List (Str × Nat)) : Py S (.tup (l.map pairD)) (.tuple (tupsP l)) := dat_py (k := 9) (by decide) (.tup (dats_tups l))
theorem py_rows {S : So} (rows : List (List Int)) : Py S (.tup (rows.map rowD)) (.tuple (rowsP rows)) := dat_py (k := 9) (by decide) (.tup (dats_rows rows))
theorem py_cells {S : So} (zs : List Int) : Py S (.tup (zs.map .int)) (.tuple (zs.map .int)) := dat_py (k := 9) (by decide) (.tup (dats_ints zs))
theorem repr_ok {S : So} {d : D} {p : PyData} {n k : Nat} (h : Py S d p) (f : Fit n k p) (hn : n ≤ 40000) (hk : k ≤ 60) : fRepr [d] S = some (.str p.shown, S) := fRepr_ok (Py.nine h) (f.show hn hk)
theorem fNe_str {x : Str} {S : So} : fNe (.str x) (.str x) S = some (.bl false, S) := by
  unfold fNe
  simp
/-! == of tuples -/
theorem eqv_ints : ∀ (xs ys : List Int), PyData.eqvAll (xs.map .int) (ys.map .int) = decide (xs = ys)
  | [], [] => by simp [PyData.eqvAll]
  | [], y :: ys => by simp [PyData.eqvAll]
  | x :: xs, [] => by simp [PyData.eqvAll]
  | x :: xs, y :: ys => by
    simp only [List.map_cons, PyData.eqvAll, PyData.eqv, eqv_ints xs ys, List.cons.injEq]
    by_cases h1 : x = y <;> by_cases h2 : xs = ys <;> simp [h1, h2]
theorem eqv_tups : ∀ (xs ys : List (Str × Nat)), PyData.eqvAll (tupsP xs) (tupsP ys) = decide (xs = ys)
  | [], [] => by simp [PyData.eqvAll, tupsP]
  | [], y :: ys => by simp [PyData.eqvAll, tupsP]
  | x :: xs, [] => by simp [PyData.eqvAll, tupsP]
  | (n, s) :: xs, (m, t) :: ys => by
    have := eqv_tups xs ys
    unfold tupsP at this ⊢
    simp only [List.map_cons, PyData.eqvAll, PyData.eqv, this, List.cons.injEq, Prod.mk.injEq]
    by_cases h1 : n = m <;> by_cases h3 : s = t <;> by_cases h2 : xs = ys <;> simp [h1, h2, h3]
    all_goals omega
theorem lay_tups : ∀ (l : List (Str × Nat)), (∀ p ∈ l, wordZ p.1 = true) → PyData.canLayAll0 (tupsP l) = true ∧ PyData.depthAll (tupsP l) ≤ 1
  | [], _ => by simp [PyData.canLayAll0, PyData.depthAll, tupsP]
  | p :: l, h => by
    obtain ⟨h1, h2⟩ := lay_tups l fun q hq => h q (List.mem_cons_of_mem _ hq)
    have w := word_lay (h p (List.mem_cons_self ..))
    unfold tupsP at h1 h2 ⊢
    simp only [List.map_cons, PyData.canLayAll0, PyData.depthAll, PyData.canLay0, PyData.depth, h1, w]
    refine ⟨rfl, by omega⟩
theorem shaped_tups {l : List (Str × Nat)} (h : ∀ p ∈ l, wordZ p.1 = true) : SeqAt.shaped (.tuple (tupsP l)) = true := by
  obtain ⟨h1, h2⟩ := lay_tups l h
  unfold SeqAt.shaped
  simp only [PyData.canLay0, PyData.depth, h1, Bool.true_and, decide_eq_true_eq]
  exact decide_eq_true (by omega)
theorem shaped_cells {zs : List Int} : SeqAt.shaped (.tuple (zs.map .int)) = true := by
  obtain ⟨h1, h2⟩ := lay_ints zs
  unfold SeqAt.shaped
  simp [PyData.canLay0, PyData.depth, h1, h2]
theorem fEq_data {S : So} {x y : List D} {p q : PyData} (h1 : Py S (.tup x) p) (h2 : Py S (.tup y) q) (s1 : SeqAt.shaped p = true) (s2 : SeqAt.shaped q = true) : fEq (.tup x) (.tup y) S = some (.bl (PyData.eqv p q), S) := by
  unfold fEq
  dsimp only
  unfold eqD
  rw [Py.nine h1, Py.nine h2]
  dsimp only
  rw [if_pos ⟨s1, s2⟩]
  rfl
theorem fEq_cells {S : So} {xs ys : List Int} : fEq (.tup (xs.map .int)) (.tup (ys.map .int)) S = some (.bl (decide (xs = ys)), S) := by
  rw [fEq_data (py_cells xs) (py_cells ys) shaped_cells shaped_cells]
  simp only [PyData.eqv, eqv_ints]
theorem fEq_sides {S : So} {l m : List (Str × Nat)} (g : ∀ p ∈ l, wordZ p.1 = true) (h : ∀ p ∈ m, wordZ p.1 = true) : fEq (.tup (l.map pairD)) (.tup (m.map pairD)) S = some (.bl (decide (l = m)), S) := by
  rw [fEq_data (py_tups l) (py_tups m) (shaped_tups g) (shaped_tups h)]
  simp only [PyData.eqv, eqv_tups]
end K02

set_option Elab.async false
set_option linter.all false
set_option maxRecDepth 100000
set_option maxHeartbeats 1000000
namespace K02
open PySem PySem.Spec PyProof.Rows L2 DD PB
/-! the statements of the law -/
def q0 : MS := (asgS (mOpA fLst (mCons (mCall phi_ldraws (mCons (mVar 0) (mCons (retM (.int 420)) mNil))) (mCons (retM (.int 0)) mNil))) (nmT 1))
def q1 : MS := (asgS (mCall phi_ldrawn_sides (mCons (mVar 1) mNil)) (nmT 2))
def q2 : MS := (asgS (mCall phi_lmany (mCons (mVar 2) mNil)) (nmT 3))
def q3 : MS := (asgS (compM [5] (mRng1 (mCons (mVar 3) mNil)) (nmT 5) yesM (mCall phi_lnumber (mCons (mVar 1) mNil))) (nmT 4))
def q4 : MS := (asgS (compM [7] (mSeq (mVar 2)) (nmT 7) yesM (mOpA fList (mCons (mVar 7) mNil))) (nmT 6))
def q5 : MS := (asgS (mOpA fList (mCons (mVar 4) mNil)) (nmT 8))
def q6 : MS := (asgS (mCall (makeF "Array" phi_Array_init) (mCons (mOp2 fIx (mOpA fLst (mCons (mVar 2) (mCons (mVar 6) mNil))) (mCall phi_ltake (mCons (mVar 1) (mCons (retM (.int 2)) mNil)))) (mCons (mVar 8) mNil))) (nmT 9))
def q7 : MS := (ifS (mOr (mTst (mOp2 (fIs true) (mCall phi_is_sides (mCons (mVar 2) mNil)) (retM (.bl true)))) (mOr (mTst (mOp2 (fIs true) (mCall phi_is_sides (mCons (mVar 6) mNil)) (retM (.bl true)))) (mTst (mOp2 (fIs true) (mCall phi_is_sides (mCons (mOpA fTuple (mCons (mVar 6) mNil)) mNil)) (retM (.bl true)))))) (retS (retM (.bl false))) nxS)
def q8 : MS := (asgS (mCall phi_lplaces (mCons (mVar 2) mNil)) (nmT 10))
def q9 : MS := (ifS (mOr (mTst (mOp2 fNe (mOpA fRepr (mCons (mCall phi_places (mCons (mVar 2) mNil)) mNil)) (mOpA fRepr (mCons (mOpA fTuple (mCons (mVar 10) mNil)) mNil)))) (mTst (mOp2 fNe (mOpA fRepr (mCons (mCall phi_places (mCons (mVar 6) mNil)) mNil)) (mOpA fRepr (mCons (mOpA fTuple (mCons (mVar 10) mNil)) mNil))))) (retS (retM (.bl false))) nxS)
def q10 : MS := (exprS (mMeth isL fAppend (mVar 8) (mCons (retM (.int 0)) mNil)))
def q11 : MS := (exprS (mMeth isL fAppend (mVar 6) (mCons (mOpA fLst (mCons (retM (.str "zz")) (mCons (retM (.int 2)) mNil))) mNil)))
def q12 : MS := (ifS (mTst (mOp2 fNe (mOpA fRepr (mCons (mOpA fTup (mCons (mOp1 (fFld tb "sides") (mVar 9)) (mCons (mOp1 (fFld tb "cells") (mVar 9)) mNil))) mNil)) (mOpA fRepr (mCons (mOpA fTup (mCons (mVar 2) (mCons (mOpA fTuple (mCons (mVar 4) mNil)) mNil))) mNil)))) (retS (retM (.bl false))) nxS)
def q13 : MS := (forS (mRng1 (mCons (mVar 3) mNil)) (nmT 5) b_law_1)
def q14 : MS := (ifS (mOr (mTst (mOp2 (fIs true) (mOp2 (altF (fOwn tb "Array" phi_Array_eq (nfL askc.nfs "Array") id) fEq) (mVar 9) (mCall (makeF "Array" phi_Array_init) (mCons (mVar 2) (mCons (mOpA fTuple (mCons (mVar 4) mNil)) mNil)))) (retM (.bl true)))) (mTst (mOp2 (fIs true) (mOp2 (altF (fOwn tb "Array" phi_Array_eq (nfL askc.nfs "Array") (!·)) fNe) (mVar 9) (mCall (makeF "Array" phi_Array_init) (mCons (mVar 2) (mCons (mVar 4) mNil)))) (retM (.bl false))))) (retS (retM (.bl false))) nxS)
def q15 : MS := (asgS (mCall phi_ltake (mCons (mVar 1) (mCons (mVar 3) mNil))) (nmT 11))
def q16 : MS := (asgS (mOpA fLst (mCons (mCall (makeF "Array" phi_Array_init) (mCons (mVar 2) (mCons (mOp2 fAdd (mOp2 fAdd (mSl (mVar 4) mNoPart (mPart (mVar 11))) (mOpA fLst (mCons (mOp2 fAdd (mOp2 fIx (mVar 4) (mVar 11)) (retM (.int 1))) mNil))) (mSl (mVar 4) (mPart (mOp2 fAdd (mVar 11) (retM (.int 1)))) mNoPart)) mNil))) (mCons (mVar 4) (mCons (mOpA fTup (mCons (mVar 2) (mCons (mOpA fTuple (mCons (mVar 4) mNil)) mNil))) (mCons (retM .non) (mCons (mVar 3) mNil)))))) (nmT 12))
def q17 : MS := (ifS (mTst (mOp2 (fOrd pGt qGt) (mOpA fLen (mCons (mVar 2) mNil)) (retM (.int 0)))) (exprS (mMeth isL fAppend (mVar 12) (mCons (mCall (makeF "Array" phi_Array_init) (mCons (mOpA fTup (mCons (mOpA fTup (mCons (retM (.str "a1")) (mCons (retM (.int 1)) mNil))) mNil)) (mCons (mSl (mVar 4) mNoPart (mPart (retM (.int 1)))) mNil))) mNil))) nxS)
def q18 : MS := (forS (mSeq (mVar 12)) (nmT 13) b_law_2)
def q19 : MS := (asgS (mCall phi_lno_sides (mCons (mVar 1) mNil)) (nmT 14))
def q20 : MS := (asgS (mOp2 fAdd (retM (.str "sides ")) (mOpA fRepr (mCons (mVar 14) mNil))) (nmT 15))
def q21 : MS := (asgS (mCall phi_lno_cells (mCons (mVar 1) (mCons (mVar 3) mNil))) (nmT 16))
def q22 : MS := (asgS (mOp2 fAdd (retM (.str "cells ")) (mOpA fRepr (mCons (mVar 16) mNil))) (nmT 17))
def q23 : MS := (ifS (mOr (mTst (mOp2 (fIs true) (mCall phi_is_sides (mCons (mVar 14) mNil)) (retM (.bl false)))) (mTst (mOp2 fNe (mCall phi_lrefusal (mCons (mVar 14) (mCons (mOp2 fIx (mOpA fLst (mCons (mVar 16) (mCons (mOpA fTup (mCons (retM (.int 1)) mNil)) mNil))) (mCall phi_ltake (mCons (mVar 1) (mCons (retM (.int 2)) mNil)))) mNil))) (mVar 15)))) (retS (retM (.bl false))) nxS)
def q24 : MS := (retS (mOp2 fEq (mCall phi_lrefusal (mCons (mVar 2) (mCons (mVar 16) mNil))) (mVar 17)))
theorem law_q : m_law = (seqS q0 (seqS q1 (seqS q2 (seqS q3 (seqS q4 (seqS q5 (seqS q6 (seqS q7 (seqS q8 (seqS q9 (seqS q10 (seqS q11 (seqS q12 (seqS q13 (seqS q14 (seqS q15 (seqS q16 (seqS q17 (seqS q18 (seqS q19 (seqS q20 (seqS q21 (seqS q22 (seqS q23 q24)))))))))))))))))))))))) := rfl

/-- the list of lists -/
def LL (l : List (Str × Nat)) (n : Nat) (S : So) : Prop := 3 ≤ n ∧ ∃ ds, S[n]? = some (.lst ds) ∧ Dats 3 S 7 ds (listsP l)
theorem dats_grow {S T : So} {k : Nat} {ds : List D} {ps : List PyData} (g : Grow S T) (h : Dats 3 S k ds ps) : Dats 3 T k ds ps := Dats.mono (Nat.le_refl _) (fun n xs h3 e => g.2 n _ (by omega) e) (Nat.le_refl _) h
theorem LL.grow {l : List (Str × Nat)} {n : Nat} {S T : So} (h : LL l n S) (g : Grow S T) : LL l n T := by
  obtain ⟨h1, ds, h2, h3⟩ := h
  exact ⟨h1, ds, g.2 _ _ (by omega) h2, dats_grow g h3⟩
theorem LL.py {l : List (Str × Nat)} {n : Nat} {S : So} (h : LL l n S) : Py S (.ref n) (.list (listsP l)) := by
  obtain ⟨h1, ds, h2, h3⟩ := h
  exact dat_py (k := 8) (by decide) (.ref h1 h2 h3)
/-- listed = [list(pair) for pair in sides] -/
theorem s_listed {e : Sl} {l : List (Str × Nat)} {S : So} {P : Fl → Sl → So → Prop} (hH : 3 ≤ S.length) (hl : l.length ≤ 1000) (h2 : e[2]? = some (.v (.tup (l.map pairD)))) (h7 : 7 < e.length) (hP : ∀ T, Keep S T → LL l S.length T → P .nx (e.set 6 (.v (.ref S.length))) T) : okS q4 e S P := by
  unfold q4
  refine okS_asg (okM_comp ?_)
  unfold mSeq
  rw [okM_bind]
  refine okM_var.mpr ⟨_, h2, itFix (l.map pairD), S, rfl, fun i T => Keep S T ∧ i ≤ l.length ∧ ∃ ds, T[S.length]? = some (.lst ds) ∧ ds.length = i ∧ Dats 3 (mask T S.length) 7 ds (listsP (l.take i)), ⟨Keep.app _ _, Nat.zero_le _, [], get_new, rfl, .nil⟩, ?_⟩
  rintro i T ⟨k1, hi, ds, d1, d2, d3⟩
  by_cases hlt : i < l.length
  · refine .inr ⟨by simpa [itFix] using hlt, pairD l[i], _, by simp [itFix, hlt], rfl, ?_⟩
    rw [okM_opA]
    refine okM_cons.mpr (okM_var.mpr ⟨pairD l[i], List.getElem?_set_self (by simpa [wipeE] using h7), okM_nil.mpr ?_⟩)
    have sq : seqOf (pairD l[i]) T = some (true, [.str l[i].1, .int (l[i].2 : Nat)]) := rfl
    unfold fList
    dsimp only
    rw [sq, okF_some]
    have lT : S.length < T.length := (List.getElem?_eq_some_iff.mp d1).1
    have kT : Keep T (T ++ [O.lst [.str l[i].1, .int (l[i].2 : Nat)]]) := Keep.app _ _
    have d4 := kT _ _ d1
    refine ⟨ds, d4, by have := line200k; omega, keep_set (k1.trans kT) (Nat.le_refl _), hlt, ds ++ [.ref T.length], List.getElem?_set_self (by simp; omega), by simp; omega, ?_⟩
    have e1 : mask ((T ++ [O.lst [.str l[i].1, .int (l[i].2 : Nat)]]).set S.length (.lst (ds ++ [.ref T.length]))) S.length = mask (T ++ [O.lst [.str l[i].1, .int (l[i].2 : Nat)]]) S.length := by unfold mask; rw [List.set_set]
    rw [e1]
    have e2 : listsP (l.take (i + 1)) = listsP (l.take i) ++ [.list [.str l[i].1, .int (l[i].2 : Nat)]] := by
      unfold listsP
      rw [List.take_add_one, List.getElem?_eq_getElem hlt, List.map_append]
      rfl
    rw [e2]
    refine dats_app (Dats.mono (Nat.le_refl _) (fun n xs h3 e => mask_put (mask_get e).1 (kT _ _ (mask_get e).2)) (Nat.le_refl _) d3) (.cons (.ref (by omega) (mask_put (by omega) get_new) (.cons (.str _) (.cons (.int _) .nil))) .nil)
  · have ei : i = l.length := by omega
    subst ei
    refine .inl ⟨by simp [itFix], hP T k1 ⟨hH, ds, d1, ?_⟩⟩
    rw [List.take_length] at d3
    exact Dats.mono (Nat.le_refl _) (fun n xs h3 e => (mask_get e).2) (Nat.le_refl _) d3
theorem arr_of {l : List (Str × Nat)} {ps : List PyData} {zs : List Int} (h : OfL l ps) : arrO ps zs = arrO (tupsP l) zs := by
  unfold arrO
  rw [of_sideD h, of_sideD (l := l) (.inl rfl)]
/-- Array(..) of good sides and cells -/
theorem s_array {l : List (Str × Nat)} {zs : List Int} {ps qs : List PyData} {p pc : PyData} {ds dc : D} {S : So} {P : D → So → Prop} (g : GoodL l) (ho : OfL l ps) (hp : p = .list ps ∨ p = .tuple ps) (h : Py S ds p) (hc : Py S dc pc) (hq : pc = .list qs ∨ pc = .tuple qs) (hz : qs = zs.map .int) (hm : zs.length = manyL l)
    (hP : ∀ T n, Keep S T → T[n]? = some (arrO (tupsP l) zs) → S.length ≤ n → P (.ref n) T) : okC (makeF "Array" phi_Array_init [ds, dc] S) P := by
  have hs : sidesP p = true := by rcases hp with rfl | rfl <;> exact of_sides ho g
  refine sp_array h hp (of_short ho g hp) hs hc hq hz (by rw [of_many ho]; omega) (by rw [hm]; have := g.2.2.2.1; omega) fun T k e => hP T _ k (by rw [← arr_of ho]; exact e) (Nat.le_refl _)
/-- a row of integers of the store, read -/
theorem py_list {S : So} {n : Nat} {zs : List Int} (h3 : 3 ≤ n) (h : S[n]? = some (.lst (zs.map .int))) : Py S (.ref n) (.list (zs.map .int)) := dat_py (k := 8) (by decide) (.ref h3 h (dats_ints zs))
/-- array = Array([sides, listed][..], handed) -/
theorem s_made {e : Sl} {l : List (Str × Nat)} {zs : List Int} {n6 n8 : Nat} {S : So} {P : Fl → Sl → So → Prop} (hH : Hand S) (g : GoodL l) (h1 : e[1]? = some (.v (.ref 2))) (h2 : e[2]? = some (.v (.tup (l.map pairD)))) (h6 : e[6]? = some (.v (.ref n6))) (h8 : e[8]? = some (.v (.ref n8))) (hL : LL l n6 S) (h3 : 3 ≤ n8) (hz : S[n8]? = some (.lst (zs.map .int))) (hm : zs.length = manyL l)
    (hP : ∀ T n, Hand T → Grow S T → T[n]? = some (arrO (tupsP l) zs) → S.length ≤ n → P .nx (e.set 9 (.v (.ref n))) T) : okS q6 e S P := by
  unfold q6
  refine okS_asg ?_
  rw [okM_call, okM_cons, okM_op2, okM_opA]
  refine okM_cons.mpr (okM_var.mpr ⟨_, h2, okM_cons.mpr (okM_var.mpr ⟨_, h6, okM_nil.mpr ?_⟩)⟩)
  rw [DD.fLst_ok (by simp), okF_some, okM_call]
  refine okM_cons.mpr (okM_var.mpr ⟨_, h1, okM_cons.mpr (okM_ret.mpr (okM_nil.mpr ?_))⟩)
  have k0 : Keep S (S ++ [O.lst [.tup (l.map pairD), .ref n6]]) := Keep.app _ _
  refine sp_take hH.app (by decide) (by decide) fun v V v0 v1 hV gV lV => ?_
  have l2 := hH.len
  have gS : Grow S V := (Grow.app _ _).trans gV
  have xV := gV.2 _ _ (by omega) (get_new (S := S) (o := O.lst [.tup (l.map pairD), .ref n6]))
  obtain ⟨d, a1, a2⟩ := atI_ok (xs := [D.tup (l.map pairD), .ref n6]) v0 (by simpa using v1)
  rw [fIx_ref xV a1, okF_some]
  refine okM_cons.mpr (okM_var.mpr ⟨_, h8, okM_nil.mpr ?_⟩)
  have hz2 := gS.2 _ _ (by omega) hz
  have lgS := gS.1
  have two : (d = .tup (l.map pairD)) ∨ d = .ref n6 := by
    have := List.mem_of_getElem? a2
    simpa using this
  rcases two with rfl | rfl
  · exact s_array g (.inl rfl) (.inr rfl) (py_tups l) (py_list h3 hz2) (.inl rfl) rfl hm fun T n k e1 hn => hP T n (hand_keep hV k) (gS.trans (grow_keep k)) e1 (by omega)
  · exact s_array g (.inr rfl) (.inl rfl) (hL.grow gS).py (py_list h3 hz2) (.inl rfl) rfl hm fun T n k e1 hn => hP T n (hand_keep hV k) (gS.trans (grow_keep k)) e1 (by omega)
theorem fIs_bl {n a b : Bool} {S : So} : fIs n (.bl a) (.bl b) S = some (.bl (n ^^ decide (a = b)), S) := rfl
/-- is_sides of the three -/
theorem s_three {e : Sl} {l : List (Str × Nat)} {n6 : Nat} {S : So} {P : Fl → Sl → So → Prop} (g : GoodL l) (h2 : e[2]? = some (.v (.tup (l.map pairD)))) (h6 : e[6]? = some (.v (.ref n6))) (hL : LL l n6 S) (hP : ∀ T, Keep S T → P .nx e T) : okS q7 e S P := by
  unfold q7
  refine okS_ifF ?_
  have one : ∀ {ps : List PyData} {p : PyData}, OfL l ps → (p = .list ps ∨ p = .tuple ps) → sidesP p = true := fun ho hp => by rcases hp with rfl | rfl <;> exact of_sides ho g
  rw [okM_or, okM_tst, okM_op2, okM_call]
  refine okM_cons.mpr (okM_var.mpr ⟨_, h2, okM_nil.mpr (sp_sides (py_tups l) (of_short (.inl rfl) g (.inr rfl)) fun T1 k1 => ?_)⟩)
  rw [okM_ret, one (.inl rfl) (.inr rfl), fIs_bl, okF_some]
  refine ⟨_, rfl, ?_⟩
  rw [if_neg (by decide), okM_or, okM_tst, okM_op2, okM_call]
  refine okM_cons.mpr (okM_var.mpr ⟨_, h6, okM_nil.mpr (sp_sides (hL.py.up k1) (of_short (.inr rfl) g (.inl rfl)) fun T2 k2 => ?_)⟩)
  rw [okM_ret, one (.inr rfl) (.inl rfl), fIs_bl, okF_some]
  refine ⟨_, rfl, ?_⟩
  rw [if_neg (by decide), okM_tst, okM_op2, okM_call]
  obtain ⟨h3, ds, d1, d2⟩ := hL.grow (grow_keep (k1.trans k2))
  refine okM_cons.mpr ?_
  rw [okM_opA]
  refine okM_cons.mpr (okM_var.mpr ⟨_, h6, okM_nil.mpr ?_⟩)
  rw [fTuple_seq (b := false) (xs := ds) (by unfold seqOf; simp [d1]), okF_some]
  refine okM_nil.mpr (sp_sides (p := .tuple (listsP l)) (dat_py (k := 7) (by decide) (.tup d2)) (of_short (.inr rfl) g (.inr rfl)) fun T3 k3 => ?_)
  rw [okM_ret, one (.inr rfl) (.inr rfl), fIs_bl, okF_some]
  exact ⟨_, rfl, rfl, okS_nx (hP T3 ((k1.trans k2).trans k3))⟩
/-- places of the two -/
theorem w_places {e : Sl} {l : List (Str × Nat)} {n6 n10 : Nat} {S : So} {P : Fl → Sl → So → Prop} (g : GoodL l) (h2 : e[2]? = some (.v (.tup (l.map pairD)))) (h6 : e[6]? = some (.v (.ref n6))) (h10 : e[10]? = some (.v (.ref n10))) (hL : LL l n6 S) (hr : S[n10]? = some (.lst ((rowsL (l.map (·.2))).map rowD))) (hP : ∀ T, Keep S T → P .nx e T) : okS q9 e S P := by
  unfold q9
  refine okS_ifF ?_
  have rp : ∀ {T : So}, fRepr [.tup ((rowsL (l.map (·.2))).map rowD)] T = some (.str (PyData.tuple (rowsP (rowsL (l.map (·.2))))).shown, T) := repr_ok (py_rows _) (fit_rows g) (by decide) (by decide)
  have other : ∀ {T : So} {Q : D → So → Prop}, Keep S T → Q (.str (PyData.tuple (rowsP (rowsL (l.map (·.2))))).shown) T → okM (mOpA fRepr (mCons (mOpA fTuple (mCons (mVar 10) mNil)) mNil)) e T Q := fun {T Q} k hQ => by
    rw [okM_opA]
    refine okM_cons.mpr ?_
    rw [okM_opA]
    refine okM_cons.mpr (okM_var.mpr ⟨_, h10, okM_nil.mpr ?_⟩)
    rw [fTuple_seq (b := false) (xs := (rowsL (l.map (·.2))).map rowD) (by unfold seqOf; simp [k _ _ hr]), okF_some]
    refine okM_nil.mpr ?_
    rw [rp, okF_some]
    exact hQ
  have h4 := g.1
  rw [okM_or, okM_tst, okM_op2, okM_opA]
  refine okM_cons.mpr ?_
  rw [okM_call]
  refine okM_cons.mpr (okM_var.mpr ⟨_, h2, okM_nil.mpr (sp_places (py_tups l) (.inr rfl) (of_side (.inl rfl) g) (by rw [of_len (l := l) (.inl rfl)]; exact h4) (of_size (.inl rfl)) (size6 g) fun T1 k1 => okM_nil.mpr ?_)⟩)
  rw [rp, okF_some]
  refine other k1 ?_
  rw [fNe_str, okF_some]
  refine ⟨_, rfl, ?_⟩
  rw [if_neg (by decide), okM_tst, okM_op2, okM_opA]
  refine okM_cons.mpr ?_
  rw [okM_call]
  refine okM_cons.mpr (okM_var.mpr ⟨_, h6, okM_nil.mpr (sp_places (hL.py.up k1) (.inl rfl) (of_side (.inr rfl) g) (by rw [of_len (l := l) (.inr rfl)]; exact h4) (of_size (.inr rfl)) (size6 g) fun T2 k2 => okM_nil.mpr ?_)⟩)
  rw [rp, okF_some]
  refine other (k1.trans k2) ?_
  rw [fNe_str, okF_some]
  exact ⟨_, rfl, rfl, okS_nx (hP T2 (k1.trans k2))⟩
end K02

set_option Elab.async false
set_option linter.all false
set_option maxRecDepth 100000
set_option maxHeartbeats 1000000
namespace K02
open PySem PySem.Spec PyProof.Rows L2 DD PB
theorem okM_mth {c m : Str} {φ : FnD} {mo : MM D} {ma : MM (List D)} {e : Sl} {S : So} {P : D → So → Prop} (h : okM mo e S fun o S1 => ∃ n fs, o = .ref n ∧ S1[n]? = some (.ins c fs) ∧ fs.lookup m = none ∧ okM ma e S1 fun ds S2 => okC (φ (.ref n :: ds) S2) P) : okM (mMth c m φ mo ma) e S P := by
  unfold mMth
  rw [okM_bind]
  refine h.imp fun o S1 q => ?_
  obtain ⟨n, fs, rfl, h1, h2, h3⟩ := q
  have h4 : okM (DD.bindM ma fun ds _ S => φ (.ref n :: ds) S) e S1 P := by
    rw [okM_bind]
    exact h3
  obtain ⟨x, T, h5, h6⟩ := h4
  exact ⟨x, T, by dsimp only; rw [h1]; dsimp only; rw [if_pos ⟨rfl, h2⟩]; exact h5, h6⟩
theorem sides_t {l : List (Str × Nat)} : (tupsP l).map sideD = l.map pairD := of_sideD (.inl rfl)
theorem py_pair {S : So} (l : List (Str × Nat)) (zs : List Int) : Py S (.tup [.tup (l.map pairD), .tup (zs.map .int)]) (.tuple [.tuple (tupsP l), .tuple (zs.map .int)]) := dat_py (k := 9) (by decide) (.tup (.cons (.tup (dats_tups l)) (.cons (.tup (dats_ints zs)) .nil)))
theorem fit_pair {l : List (Str × Nat)} {zs : List Int} (g : GoodL l) (hl : zs.length ≤ 200) (h : ∀ z ∈ zs, z.natAbs < 10 ^ 359) : Fit 402 3 (.tuple [.tuple (tupsP l), .tuple (zs.map .int)]) := by
  refine (fit_tup (n := 200) (k := 2) (m := 2) (by simp) fun x hx => ?_).mono (by decide) (by decide)
  simp at hx
  rcases hx with rfl | rfl
  · exact (fit_tups g).mono (by decide) (by decide)
  · exact (fit_cells hl h).mono (by decide) (by decide)
/-- repr((array.sides, array.cells)) -/
theorem w_pair {e : Sl} {l : List (Str × Nat)} {zs : List Int} {a c : Nat} {S : So} {P : Fl → Sl → So → Prop} (g : GoodL l) (hl : zs.length ≤ 200) (hz : ∀ z ∈ zs, z.natAbs < 10 ^ 359) (h2 : e[2]? = some (.v (.tup (l.map pairD)))) (h4 : e[4]? = some (.v (.ref c))) (h9 : e[9]? = some (.v (.ref a))) (hc : S[c]? = some (.lst (zs.map .int))) (ha : S[a]? = some (arrO (tupsP l) zs)) (hP : P .nx e S) : okS q12 e S P := by
  unfold q12
  refine okS_ifF ?_
  rw [okM_tst, okM_op2, okM_opA]
  refine okM_cons.mpr ?_
  rw [okM_opA]
  refine okM_cons.mpr ?_
  rw [okM_op1]
  refine okM_var.mpr ⟨_, h9, ?_⟩
  rw [fld_sides ha, okF_some]
  refine okM_cons.mpr ?_
  rw [okM_op1]
  refine okM_var.mpr ⟨_, h9, ?_⟩
  rw [fld_cells ha, okF_some, okM_nil, fTup_ok (by simp), okF_some, okM_nil, sides_t]
  have rp : fRepr [.tup [.tup (l.map pairD), .tup (zs.map .int)]] S = some (.str (PyData.tuple [.tuple (tupsP l), .tuple (zs.map .int)]).shown, S) := repr_ok (py_pair l zs) (fit_pair g hl hz) (by decide) (by decide)
  rw [rp, okF_some, okM_opA]
  refine okM_cons.mpr ?_
  rw [okM_opA]
  refine okM_cons.mpr (okM_var.mpr ⟨_, h2, okM_cons.mpr ?_⟩)
  rw [okM_opA]
  refine okM_cons.mpr (okM_var.mpr ⟨_, h4, okM_nil.mpr ?_⟩)
  rw [fTuple_seq (b := false) (xs := zs.map .int) (by unfold seqOf; simp [hc]), okF_some, okM_nil, fTup_ok (by simp), okF_some, okM_nil, rp, okF_some, fNe_str, okF_some]
  exact ⟨_, rfl, rfl, okS_nx hP⟩
theorem rows_count : ∀ (n : Nat) (l : List (Str × Nat)), l.length = n → (rowsL (l.map (·.2))).length = manyL l
  | 0, l, hn => by
    have : l = [] := List.length_eq_zero_iff.mp hn
    subst this
    rfl
  | n + 1, l, hn => by
    have hne : l ≠ [] := fun z => by rw [z] at hn; cases hn
    have es : l = l.dropLast ++ [l.getLast hne] := (List.dropLast_concat_getLast hne).symm
    have ih := rows_count n l.dropLast (by rw [List.length_dropLast, hn]; rfl)
    generalize l.getLast hne = p at es
    generalize l.dropLast = k at es ih
    subst es
    have e1 : rowsL ((k ++ [p]).map (·.2)) = stepL (rowsL (k.map (·.2))) p.2 := by
      rw [List.map_append]
      unfold rowsL
      rw [List.foldl_append]
      rfl
    rw [e1, PB.step_length, ih]
    unfold manyL
    rw [List.foldl_append]
    rfl
/-- for k in range(many): array.cell(rows[k]) -/
theorem w_cells {e : Sl} {l : List (Str × Nat)} {zs : List Int} {a c r : Nat} {s5 : Sv} {S : So} {P : Fl → Sl → So → Prop} (g : GoodL l) (hm : zs.length = manyL l) (hz : ∀ z ∈ zs, z.natAbs < 10 ^ 359) (he : e = e.set 5 s5) (h5 : 5 < e.length) (h3 : e[3]? = some (.v (.int (manyL l : Nat)))) (h4 : e[4]? = some (.v (.ref c))) (h9 : e[9]? = some (.v (.ref a))) (h10 : e[10]? = some (.v (.ref r))) (hc : S[c]? = some (.lst (zs.map .int))) (ha : S[a]? = some (arrO (tupsP l) zs)) (hr : S[r]? = some (.lst ((rowsL (l.map (·.2))).map rowD))) (hP : ∀ s5, P .nx (e.set 5 s5) S) : okS q13 e S P := by
  unfold q13
  have h200 := g.2.2.2.1
  refine okS_rng (okM_cons.mpr (okM_var.mpr ⟨_, h3, okM_nil.mpr ⟨manyL l, rfl, by omega, fun i e2 S2 => S2 = S ∧ ∃ s5, e2 = e.set 5 s5, ⟨rfl, s5, he⟩, ?_, ?_⟩⟩))
  · rintro i e2 S2 hi ⟨rfl, s, rfl⟩
    have e5 : nmT 5 (.int (i : Nat)) S2 (e.set 5 s) = some (e.set 5 (.v (.int (i : Nat)))) := by
      show some ((e.set 5 s).set 5 _) = _
      rw [List.set_set]
    refine ⟨_, e5, ?_⟩
    have lr := rows_count _ l rfl
    have hr1 : (rowsL (l.map (·.2)))[i]? = some ((rowsL (l.map (·.2)))[i]'(by omega)) := List.getElem?_eq_getElem _
    generalize (rowsL (l.map (·.2)))[i]'(by omega) = ks at hr1
    have hz1 : zs[i]? = some (zs[i]'(by omega)) := List.getElem?_eq_getElem _
    generalize zs[i]'(by omega) = v at hz1
    have a1 : atI ((rowsL (l.map (·.2))).map rowD) ((i : Nat) : Int) = some (rowD ks) := by
      obtain ⟨d, b1, b2⟩ := atI_ok (xs := (rowsL (l.map (·.2))).map rowD) (i := ((i : Nat) : Int)) (by omega) (by simp; omega)
      rw [Int.toNat_natCast, List.getElem?_map, hr1] at b2
      cases b2
      exact b1
    have a2 : atI (zs.map D.int) ((i : Nat) : Int) = some (.int v) := by
      obtain ⟨d, b1, b2⟩ := atI_ok (xs := zs.map D.int) (i := ((i : Nat) : Int)) (by omega) (by simp; omega)
      rw [Int.toNat_natCast, List.getElem?_map, hz1] at b2
      cases b2
      exact b1
    have rp : fRepr [.int v] S2 = some (.str (PyData.int v).shown, S2) := repr_ok (dat_py (k := 9) (by decide) (.int v)) (fit_int (hz v (List.mem_of_getElem? hz1))) (by decide) (by decide)
    have g9 : (e.set 5 (.v (.int (i : Nat))))[9]? = some (.v (.ref a)) := by rw [List.getElem?_set_ne (by decide)]; exact h9
    have g10 : (e.set 5 (.v (.int (i : Nat))))[10]? = some (.v (.ref r)) := by rw [List.getElem?_set_ne (by decide)]; exact h10
    have g4 : (e.set 5 (.v (.int (i : Nat))))[4]? = some (.v (.ref c)) := by rw [List.getElem?_set_ne (by decide)]; exact h4
    have g5 : (e.set 5 (.v (.int (i : Nat))))[5]? = some (.v (.int (i : Nat))) := List.getElem?_set_self h5
    unfold b_law_1
    refine okS_ifF ?_
    rw [okM_tst, okM_op2, okM_opA]
    refine okM_cons.mpr (okM_mth (okM_var.mpr ⟨_, g9, a, _, rfl, ha, rfl, okM_cons.mpr ?_⟩))
    rw [okM_op2]
    refine okM_var.mpr ⟨_, g10, okM_var.mpr ⟨_, g5, ?_⟩⟩
    rw [fIx_ref hr a1, okF_some, okM_nil]
    refine sp_cell ha (of_side (.inl rfl) g) (of_size (.inl rfl)) hr1 hz1 ?_
    rw [okM_nil, rp, okF_some, okM_opA]
    refine okM_cons.mpr ?_
    rw [okM_op2]
    refine okM_var.mpr ⟨_, g4, okM_var.mpr ⟨_, g5, ?_⟩⟩
    rw [fIx_ref hc a2, okF_some, okM_nil, rp, okF_some, fNe_str, okF_some]
    exact ⟨_, rfl, rfl, okS_nx ⟨rfl, _, rfl⟩⟩
  · rintro e2 S2 ⟨rfl, s, rfl⟩
    exact hP s
theorem arr_ty {n : Nat} {ps : List PyData} {zs : List Int} {S : So} (h : S[n]? = some (arrO ps zs)) : tyOf tb (.ref n) S = some (.inr "Array") := by
  unfold tyOf
  dsimp only
  rw [h]
  rfl
theorem nf_arr : nfL askc.nfs "Array" (.inr "Array") = true := by decide +kernel
theorem nf_base : ∀ t ∈ base6, nfL askc.nfs "Array" (.inl t) = true := by decide +kernel
theorem kit_base : ∀ t ∈ base6, tb.kit (.inl t) (.inr "Array") = some false := by decide +kernel
theorem words_of {l : List (Str × Nat)} (g : GoodL l) : ∀ p ∈ l, wordZ p.1 = true := fun p hp => (g.2.1 p hp).1
theorem eq_arr {a m : Nat} {l k : List (Str × Nat)} {zs ys : List Int} {S : So} {P : D → So → Prop} (hl : ∀ p ∈ l, wordZ p.1 = true) (hk : ∀ p ∈ k, wordZ p.1 = true) (h1 : S[a]? = some (arrO (tupsP l) zs)) (h2 : S[m]? = some (arrO (tupsP k) ys)) (hP : P (.bl (decide (l = k) && decide (zs = ys))) S) : okC (phi_Array_eq [.ref a, .ref m] S) P :=
  sp_eqA h1 h2 (by rw [sides_t, sides_t]; exact fEq_sides hl hk) fEq_cells hP
/-- == and != of like arrays -/
theorem w_alike {e : Sl} {l : List (Str × Nat)} {zs : List Int} {a c : Nat} {S : So} {P : Fl → Sl → So → Prop} (g : GoodL l) (hm : zs.length = manyL l) (h3 : 3 ≤ c) (h2 : e[2]? = some (.v (.tup (l.map pairD)))) (h4 : e[4]? = some (.v (.ref c))) (h9 : e[9]? = some (.v (.ref a))) (hc : S[c]? = some (.lst (zs.map .int))) (ha : S[a]? = some (arrO (tupsP l) zs)) (hP : ∀ T, Keep S T → P .nx e T) : okS q14 e S P := by
  unfold q14
  have w := words_of g
  refine okS_ifF ?_
  rw [okM_or, okM_tst, okM_op2, okM_op2]
  refine okM_var.mpr ⟨_, h9, ?_⟩
  rw [okM_call]
  refine okM_cons.mpr (okM_var.mpr ⟨_, h2, okM_cons.mpr ?_⟩)
  rw [okM_opA]
  refine okM_cons.mpr (okM_var.mpr ⟨_, h4, okM_nil.mpr ?_⟩)
  rw [fTuple_seq (b := false) (xs := zs.map .int) (by unfold seqOf; simp [hc]), okF_some]
  refine okM_nil.mpr (s_array g (.inl rfl) (.inr rfl) (py_tups l) (py_cells zs) (.inr rfl) rfl hm fun T m k e1 hn => ?_)
  refine own_eq (k _ _ ha) (arr_ty e1) nf_arr (eq_arr w w (k _ _ ha) e1 ⟨_, rfl, ?_⟩)
  rw [decide_eq_true (rfl : l = l), decide_eq_true (rfl : zs = zs), okM_ret, Bool.and_self, id, fIs_bl, okF_some]
  refine ⟨_, rfl, ?_⟩
  rw [if_neg (by decide), okM_tst, okM_op2, okM_op2]
  refine okM_var.mpr ⟨_, h9, ?_⟩
  rw [okM_call]
  refine okM_cons.mpr (okM_var.mpr ⟨_, h2, okM_cons.mpr (okM_var.mpr ⟨_, h4, okM_nil.mpr (s_array g (.inl rfl) (.inr rfl) (py_tups l) (py_list h3 (k _ _ hc)) (.inl rfl) rfl hm fun U m2 k2 e2 hn2 => ?_)⟩)⟩)
  refine own_eq ((k.trans k2) _ _ ha) (arr_ty e2) nf_arr (eq_arr w w ((k.trans k2) _ _ ha) e2 ⟨_, rfl, ?_⟩)
  rw [decide_eq_true (rfl : l = l), decide_eq_true (rfl : zs = zs), okM_ret, Bool.and_self, fIs_bl, okF_some]
  exact ⟨_, rfl, rfl, okS_nx (hP U (k.trans k2))⟩
/-- what is unlike the array -/
def Unl (a : Nat) (x : D) (S : So) : Prop := ∃ t, tyOf tb x S = some t ∧ nfL askc.nfs "Array" t = true ∧ ∀ Q : D → So → Prop, Q (.bl false) S → okC (phi_Array_eq [.ref a, x] S) Q
theorem unl_arr {a m : Nat} {l k : List (Str × Nat)} {zs ys : List Int} {S : So} (hl : ∀ p ∈ l, wordZ p.1 = true) (hk : ∀ p ∈ k, wordZ p.1 = true) (h1 : S[a]? = some (arrO (tupsP l) zs)) (h2 : S[m]? = some (arrO (tupsP k) ys)) (hd : ¬ (l = k ∧ zs = ys)) : Unl a (.ref m) S :=
  ⟨_, arr_ty h2, nf_arr, fun Q hQ => eq_arr hl hk h1 h2 (by
    have e : (decide (l = k) && decide (zs = ys)) = false := by
      rw [← Bool.decide_and]
      exact decide_eq_false hd
    rw [e]
    exact hQ)⟩
theorem isA_dat {d : D} {p : PyData} {S : So} (h : Py S d p) : tyP p ∈ base6 ∧ fIsiA tb [d, .glo "Array"] S = some (.bl false, S) := by
  have nod := h.nod
  have m : tyP p ∈ base6 := by
    cases p <;> first | (simp [tyP, base6]; done) | (exact absurd rfl (nod _))
  have k := kit_base _ m
  have t : tyOf tb d S = some (.inl (tyP p)) := h.ty
  have main : fIsi tb [d, .glo "Array"] S = some (.bl false, S) := by
    unfold fIsi
    simp only [t, clsN, k]
    rfl
  refine ⟨m, ?_⟩
  unfold fIsiA
  split
  · rename_i n c' e2
    cases e2
    split
    · rename_i cn fs e
      obtain ⟨k', _, h'⟩ := h
      cases k' with
      | zero => unfold toPy at h'; cases h'
      | succ k' => unfold toPy at h'; rw [e] at h'; cases h'
    · exact main
  · exact main
theorem unl_dat {a : Nat} {d : D} {p : PyData} {S : So} (h : Py S d p) : Unl a d S := by
  obtain ⟨m, i⟩ := isA_dat h
  exact ⟨_, h.ty, nf_base _ m, fun Q hQ => sp_eqO i hQ⟩
end K02

set_option Elab.async false
set_option linter.all false
set_option maxRecDepth 100000
set_option maxHeartbeats 1000000
namespace K02
open PySem PySem.Spec PyProof.Rows L2 DD PB
theorem Unl.keep {a : Nat} {x : D} {S T : So} (h : ∀ U, Keep T U → Unl a x U) (k : Keep S T) : Unl a x T := h T (Keep.refl _)
/-- others, as the law first makes them -/
theorem w_others {e : Sl} {l : List (Str × Nat)} {zs : List Int} {a at_ c : Nat} {S : So} {P : Fl → Sl → So → Prop} (g : GoodL l) (hm : zs.length = manyL l) (hlt : at_ < zs.length) (h3c : 3 ≤ c) (h3S : 3 ≤ S.length) (h2 : e[2]? = some (.v (.tup (l.map pairD)))) (h3 : e[3]? = some (.v (.int (manyL l : Nat)))) (h4 : e[4]? = some (.v (.ref c))) (h11 : e[11]? = some (.v (.int (at_ : Nat)))) (hc : S[c]? = some (.lst (zs.map .int))) (ha : S[a]? = some (arrO (tupsP l) zs))
    (hP : ∀ T o xs, Keep S T → S.length ≤ o → xs.length = 5 → T[o]? = some (.lst xs) → (∀ x ∈ xs, ∀ U, (∀ n q, n ≠ o → T[n]? = some q → U[n]? = some q) → Unl a x U) → P .nx (e.set 12 (.v (.ref o))) T) : okS q16 e S P := by
  unfold q16
  have w := words_of g
  have h200 := g.2.2.2.1
  have hz1 : zs[at_]? = some zs[at_] := List.getElem?_eq_getElem hlt
  refine okS_asg ?_
  rw [okM_opA]
  refine okM_cons.mpr ?_
  rw [okM_call]
  refine okM_cons.mpr (okM_var.mpr ⟨_, h2, okM_cons.mpr (mid_run (i := 4) (j := 11) (gs := zs) (B := fun b U => b = .int (zs[at_] + 1)) h4 h11 hc hlt (by omega) (fun T k => ?_) fun b U V n kU hB kV hn hV => okM_nil.mpr ?_)⟩)
  · have a2 : atI (zs.map D.int) ((at_ : Nat) : Int) = some (.int zs[at_]) := by
      obtain ⟨d, b1, b2⟩ := atI_ok (xs := zs.map D.int) (i := ((at_ : Nat) : Int)) (by omega) (by simp; omega)
      rw [Int.toNat_natCast, List.getElem?_map, hz1] at b2
      cases b2
      exact b1
    rw [okM_op2, okM_op2]
    refine okM_var.mpr ⟨_, h4, okM_var.mpr ⟨_, h11, ?_⟩⟩
    rw [fIx_ref (k _ _ hc) a2, okF_some, okM_ret, fAdd_int, okF_some]
    exact ⟨Keep.refl _, rfl⟩
  subst hB
  generalize hy : (zs.take at_ ++ [zs[at_] + 1]) ++ zs.drop (at_ + 1) = ys
  have ey : ((zs.take at_).map D.int ++ [D.int (zs[at_] + 1)]) ++ (zs.drop (at_ + 1)).map D.int = ys.map D.int := by
    rw [← hy, List.map_append, List.map_append]
    rfl
  rw [ey] at hV
  have ly : ys.length = manyL l := by
    rw [← hy]
    simp
    omega
  have ny : zs ≠ ys := fun z => by
    have z2 := congrArg (fun q : List Int => q[at_]?) z
    simp only [hz1] at z2
    rw [← hy, List.getElem?_append_left (by simp; omega), List.getElem?_append_right (by rw [List.length_take]; omega)] at z2
    have : at_ - (zs.take at_).length = 0 := by rw [List.length_take]; omega
    rw [this] at z2
    have z3 : zs[at_] = zs[at_] + 1 := Option.some.inj z2
    omega
  refine s_array g (.inl rfl) (.inr rfl) (py_tups l) (py_list (by omega) hV) (.inl rfl) rfl ly fun T m k e1 hm1 => ?_
  have kST : Keep S T := (kU.trans kV).trans k
  have lST := (kU.trans kV).len
  have lm : m < T.length := (List.getElem?_eq_some_iff.mp e1).1
  refine okM_cons.mpr (okM_var.mpr ⟨_, h4, okM_cons.mpr ?_⟩)
  rw [okM_opA]
  refine okM_cons.mpr (okM_var.mpr ⟨_, h2, okM_cons.mpr ?_⟩)
  rw [okM_opA]
  refine okM_cons.mpr (okM_var.mpr ⟨_, h4, okM_nil.mpr ?_⟩)
  rw [fTuple_seq (b := false) (xs := zs.map .int) (by unfold seqOf; simp [kST _ _ hc]), okF_some, okM_nil, fTup_ok (by simp), okF_some]
  refine okM_cons.mpr (okM_ret.mpr (okM_cons.mpr (okM_var.mpr ⟨_, h3, okM_nil.mpr ?_⟩)))
  rw [DD.fLst_ok (by simp), okF_some]
  have kT : Keep T (T ++ [O.lst [D.ref m, .ref c, .tup [.tup (l.map pairD), .tup (zs.map .int)], .non, .int (manyL l : Nat)]]) := Keep.app _ _
  have la : a < S.length := (List.getElem?_eq_some_iff.mp ha).1
  have lc : c < S.length := (List.getElem?_eq_some_iff.mp hc).1
  have lT := kST.len
  refine hP _ T.length _ (kST.trans kT) lT rfl get_new fun x hx U hU => ?_
  have aU := hU _ _ (by omega) (kT _ _ (kST _ _ ha))
  have cU := hU _ _ (by omega) (kT _ _ (kST _ _ hc))
  have mU := hU _ _ (by omega) (kT _ _ e1)
  simp only [List.mem_cons, List.not_mem_nil, or_false] at hx
  rcases hx with rfl | rfl | rfl | rfl | rfl
  · exact unl_arr w w aU mU (fun z => ny z.2)
  · exact unl_dat (py_list h3c cU)
  · exact unl_dat (py_pair l zs)
  · exact unl_dat (dat_py (k := 9) (by decide) .non)
  · exact unl_dat (dat_py (k := 9) (by decide) (.int _))
def a1L : List (Str × Nat) := [("a1", 1)]
theorem a1_good : GoodL a1L ∨ True := .inr trivial
theorem a1_word : wordZ "a1" = true := by decide +kernel
theorem a1_words : ∀ p ∈ a1L, wordZ p.1 = true := fun p hp => by
  simp [a1L] at hp
  subst hp
  exact a1_word
theorem a1_sides : sidesP (.tuple (tupsP a1L)) = true := by decide +kernel
theorem a1_short : Short2 (.tuple (tupsP a1L)) := short2_of (by decide +kernel)
theorem a1_many : manyP (tupsP a1L) = 1 := by decide +kernel
/-- if len(sides) > 0: others.append(..) -/
theorem w_more {e : Sl} {l : List (Str × Nat)} {zs : List Int} {a c o : Nat} {xs : List D} {S : So} {P : Fl → Sl → So → Prop} (g : GoodL l) (hz1 : 1 ≤ zs.length) (hz2 : zs.length ≤ 200) (h3c : 3 ≤ c) (h2 : e[2]? = some (.v (.tup (l.map pairD)))) (h4 : e[4]? = some (.v (.ref c))) (h12 : e[12]? = some (.v (.ref o))) (hc : S[c]? = some (.lst (zs.map .int))) (hco : c ≠ o) (hao : a ≠ o) (h3S : 3 ≤ S.length) (ha : S[a]? = some (arrO (tupsP l) zs)) (ho : S[o]? = some (.lst xs)) (hxs : xs.length = 5) (hu : ∀ x ∈ xs, ∀ U, (∀ n q, n ≠ o → S[n]? = some q → U[n]? = some q) → Unl a x U)
    (hP : ∀ T ys, (∀ n q, n ≠ o → S[n]? = some q → T[n]? = some q) → S.length ≤ T.length → T[o]? = some (.lst ys) → ys.length ≤ 6 → (∀ y ∈ ys, Unl a y T) → P .nx e T) : okS q17 e S P := by
  unfold q17
  have w := words_of g
  have ll : ((l.map pairD).length : Int) = (l.length : Nat) := by simp
  have test : ∀ Q : Bool → So → Prop, Q (decide (0 < l.length)) S → okM (mTst (mOp2 (fOrd pGt qGt) (mOpA fLen (mCons (mVar 2) mNil)) (retM (.int 0)))) e S Q := fun Q hQ => by
    rw [okM_tst, okM_op2, okM_opA]
    refine okM_cons.mpr (okM_var.mpr ⟨_, h2, okM_nil.mpr ?_⟩)
    rw [fLen_seq (b := true) (xs := l.map pairD) rfl, okF_some, okM_ret, fOrd_int, okF_some]
    refine ⟨_, rfl, ?_⟩
    have e1 : pGt ((l.map pairD).length : Int) 0 = decide (0 < l.length) := by
      unfold pGt
      rw [ll]
      by_cases h : 0 < l.length
      · rw [decide_eq_true h, decide_eq_true (by omega)]
      · rw [decide_eq_false h, decide_eq_false (by omega)]
    rw [e1]
    exact hQ
  by_cases hl : 0 < l.length
  · refine okS_ifT (test _ ⟨decide_eq_true hl, okS_expr ?_⟩)
    rw [okM_meth]
    refine okM_var.mpr ⟨_, h12, isL_ref ho, ?_⟩
    refine okM_cons.mpr ?_
    rw [okM_call]
    refine okM_cons.mpr ?_
    rw [okM_opA]
    refine okM_cons.mpr ?_
    rw [okM_opA]
    refine okM_cons.mpr (okM_ret.mpr (okM_cons.mpr (okM_ret.mpr (okM_nil.mpr ?_))))
    rw [fTup_ok (by simp), okF_some, okM_nil, fTup_ok (by simp), okF_some]
    refine okM_cons.mpr (okM_slTo (okM_var.mpr ⟨_, h4, okM_ret.mpr ⟨c, _, 1, rfl, rfl, hc, okM_nil.mpr ?_⟩⟩))
    rw [cut_to (by decide) (by simp; omega), ← List.map_take]
    have kS : Keep S (S ++ [O.lst ((zs.take (1 : Int).toNat).map D.int)]) := Keep.app _ _
    have l1 : (zs.take (1 : Int).toNat).length = 1 := by simp; omega
    refine sp_array (ps := tupsP a1L) (p := .tuple (tupsP a1L)) (zs := zs.take (1 : Int).toNat) (py_tups a1L) (.inr rfl) a1_short a1_sides (py_list (by omega) get_new) (.inl rfl) rfl (by rw [l1, a1_many]; rfl) (by omega) fun T k e1 => ?_
    have kT := kS.trans k
    have oT := kT _ _ ho
    rw [okM_nil, fAppend_ref oT (by have := line200k; omega), okF_some]
    have lo : o < S.length := (List.getElem?_eq_some_iff.mp ho).1
    have lT := kT.len
    have ne : (S ++ [O.lst ((zs.take (1 : Int).toNat).map D.int)]).length ≠ o := by simp; omega
    have keep : ∀ n q, n ≠ o → S[n]? = some q → (T.set o (.lst (xs ++ [.ref (S ++ [O.lst ((zs.take (1 : Int).toNat).map D.int)]).length])))[n]? = some q := fun n q hn hq => by
      rw [List.getElem?_set_ne (Ne.symm hn)]
      exact kT _ _ hq
    refine hP _ (xs ++ [.ref (S ++ [O.lst ((zs.take (1 : Int).toNat).map D.int)]).length]) keep (by simpa using lT) (List.getElem?_set_self (by omega)) (by simp; omega) fun y hy => ?_
    rcases List.mem_append.mp hy with z | z
    · exact hu y z _ keep
    · simp only [List.mem_cons, List.not_mem_nil, or_false] at z
      subst z
      refine unl_arr (l := l) (k := a1L) (zs := zs) w a1_words (keep _ _ hao ha) (by rw [List.getElem?_set_ne (Ne.symm ne)]; exact e1) fun z => ?_
      have : (("a1" : Str), (1 : Nat)) ∈ l := by rw [z.1]; simp [a1L]
      exact g.2.2.2.2 _ this rfl
  · refine okS_ifF (test _ ⟨decide_eq_false hl, okS_nx ?_⟩)
    exact hP S xs (fun n q _ h => h) (Nat.le_refl _) ho (by omega) fun y hy => hu y hy S fun n q _ h => h
/-- for other in others -/
theorem w_unlike {e : Sl} {a o : Nat} {fs : List (Str × D)} {s13 : Sv} {xs : List D} {S : So} {P : Fl → Sl → So → Prop} (he : e = e.set 13 s13) (h13 : 13 < e.length) (h9 : e[9]? = some (.v (.ref a))) (h12 : e[12]? = some (.v (.ref o))) (ha : S[a]? = some (.ins "Array" fs)) (ho : S[o]? = some (.lst xs)) (hu : ∀ x ∈ xs, Unl a x S) (hP : ∀ s13, P .nx (e.set 13 s13) S) : okS q18 e S P := by
  unfold q18
  refine okS_each (okM_var.mpr ⟨_, h12, ?_⟩)
  obtain ⟨it, i1, i2⟩ := seqI_row (e := e) (d := .ref o) (S := S) (b := false) (xs := xs) (by unfold seqOf; simp [ho])
  refine ⟨it, xs, i1, i2, fun i e2 S2 => S2 = S ∧ ∃ s, e2 = e.set 13 s, ⟨rfl, s13, he⟩, ?_, ?_⟩
  · rintro i e2 S2 x hk hx ⟨rfl, s, rfl⟩
    have e5 : nmT 13 x S2 (e.set 13 s) = some (e.set 13 (.v x)) := by
      show some ((e.set 13 s).set 13 _) = _
      rw [List.set_set]
    refine ⟨_, e5, ?_⟩
    obtain ⟨t, t1, t2, t3⟩ := hu x (List.mem_of_getElem? hx)
    unfold b_law_2
    refine okS_ifF ?_
    rw [okM_not, okM_tst, okM_call]
    refine okM_cons.mpr (okM_var.mpr ⟨_, by rw [List.getElem?_set_ne (by decide)]; exact h9, okM_cons.mpr (okM_var.mpr ⟨_, List.getElem?_set_self h13, okM_nil.mpr (sp_lunlike ha t1 t2 t3 ⟨_, rfl, rfl, okS_nx ⟨Keep.refl _, rfl, _, rfl⟩⟩)⟩)⟩)
  · rintro e2 S2 hk ⟨rfl, s, rfl⟩
    exact hP s
theorem no_short : ∀ p ∈ noAll, p.shown.length ≤ 1000000 := by decide +kernel
/-- is_sides(wrong), the refusal of wrong -/
theorem w_refused {e : Sl} {p pb : PyData} {d db : D} {S : So} {P : Fl → Sl → So → Prop} (hH : Hand S) (h1 : e[1]? = some (.v (.ref 2))) (h14 : e[14]? = some (.v d)) (h15 : e[15]? = some (.v (.str (("sides " : Str) ++ p.shown)))) (h16 : e[16]? = some (.v db)) (hp : p ∈ noAll) (hd : Py S d p) (hup : ∀ T, Grow S T → Py T d p) (hP : ∀ T, Hand T → Grow S T → P .nx e T) : okS q23 e S P := by
  unfold q23
  obtain ⟨f1, f2, f3⟩ := no_facts p hp
  refine okS_ifF ?_
  rw [okM_or, okM_tst, okM_op2, okM_call]
  refine okM_cons.mpr (okM_var.mpr ⟨_, h14, okM_nil.mpr (sp_sides hd (short2_of f2) fun T1 k1 => ?_)⟩)
  rw [okM_ret, f1, fIs_bl, okF_some]
  refine ⟨_, rfl, ?_⟩
  rw [if_neg (by decide), okM_tst, okM_op2, okM_call]
  refine okM_cons.mpr (okM_var.mpr ⟨_, h14, okM_cons.mpr ?_⟩)
  rw [okM_op2, okM_opA]
  refine okM_cons.mpr (okM_var.mpr ⟨_, h16, okM_cons.mpr ?_⟩)
  rw [okM_opA]
  refine okM_cons.mpr (okM_ret.mpr (okM_nil.mpr ?_))
  rw [fTup_ok (by simp), okF_some, okM_nil, DD.fLst_ok (by simp), okF_some, okM_call]
  refine okM_cons.mpr (okM_var.mpr ⟨_, h1, okM_cons.mpr (okM_ret.mpr (okM_nil.mpr (sp_take (hand_keep hH k1).app (by decide) (by decide) fun v V v0 v1 hV gV lV => ?_)))⟩)
  have l2 := (hand_keep hH k1).len
  have xV := gV.2 _ _ (by omega) (get_new (S := T1) (o := O.lst [db, .tup [.int 1]]))
  obtain ⟨dc, a1, a2⟩ := atI_ok (xs := [db, D.tup [.int 1]]) v0 (by simpa using v1)
  have gS : Grow S V := ((grow_keep k1).trans (Grow.app _ _)).trans gV
  rw [fIx_ref xV a1, okF_some, okM_nil]
  refine sp_lrefusal_s (sp_array_no (hup V gS) (short2_of f2) f1 fun T k => ⟨k, rfl, rfl⟩) (hup V gS) f3 (no_short p hp) fun T k => ?_
  refine okM_var.mpr ⟨_, h15, ?_⟩
  rw [fNe_str, okF_some]
  exact ⟨_, rfl, rfl, okS_nx (hP T (hand_keep hV k) (gS.trans (grow_keep k)))⟩
/-- the refusal of bad -/
theorem w_last {e : Sl} {l : List (Str × Nat)} {pb : PyData} {db : D} {S : So} (g : GoodL l) (h2 : e[2]? = some (.v (.tup (l.map pairD)))) (h16 : e[16]? = some (.v db)) (h17 : e[17]? = some (.v (.str (("cells " : Str) ++ pb.shown)))) (hd : Py S db pb) (hb : Bad (manyL l) pb) : okS q24 e S (endP fun d _ => d = .bl true) := by
  unfold q24
  refine okS_ret ?_
  rw [okM_op2, okM_call]
  refine okM_cons.mpr (okM_var.mpr ⟨_, h2, okM_cons.mpr (okM_var.mpr ⟨_, h16, okM_nil.mpr ?_⟩)⟩)
  obtain ⟨b1, b2, b3⟩ := hb
  refine sp_lrefusal_c (sp_array_noc (py_tups l) (.inr rfl) (of_short (.inl rfl) g (.inr rfl)) (of_sides (.inl rfl) g) hd b3 (by rw [of_many (l := l) (.inl rfl)]; exact b1) fun T k => ⟨k, rfl, rfl⟩) hd (b2.show (by decide) (by decide)) (by have := b2.short; omega) fun T k => ?_
  refine okM_var.mpr ⟨_, h17, ?_⟩
  have e1 : fEq (.str (("cells " : Str) ++ pb.shown)) (.str (("cells " : Str) ++ pb.shown)) T = some (.bl true, T) := by
    unfold fEq
    simp
  rw [e1, okF_some]
  rfl
end K02

set_option Elab.async false
set_option linter.all false
set_option maxRecDepth 100000
set_option maxHeartbeats 4000000
namespace K02
open PySem PySem.Spec PyProof.Rows L2 DD PB
theorem draws_eq : phi_ldraws = drawsF := rfl
theorem many_pos : ∀ (l : List (Str × Nat)), (∀ p ∈ l, 1 ≤ p.2) → ∀ m : Nat, 1 ≤ m → 1 ≤ l.foldl (fun m p => m * p.2) m
  | [], _, m, hm => hm
  | p :: l, h, m, hm => many_pos l (fun q hq => h q (List.mem_cons_of_mem _ hq)) _ (Nat.mul_pos hm (h p (List.mem_cons_self ..)))
theorem fList_ref {S : So} {n : Nat} {xs : List D} (h : S[n]? = some (.lst xs)) : fList [.ref n] S = some (.ref S.length, S ++ [.lst xs]) := by
  have sq : seqOf (.ref n) S = some (false, xs) := by unfold seqOf; simp [h]
  unfold fList
  dsimp only
  rw [sq]
theorem hand_but {S T : So} {o : Nat} (h : Hand S) (k : ∀ n q, n ≠ o → S[n]? = some q → T[n]? = some q) (ho : 3 ≤ o) : Hand T := by
  obtain ⟨xs, a, h1, h2, h3, h4⟩ := h
  exact ⟨xs, a, k _ _ (by omega) h1, h2, k _ _ (by omega) h3, h4⟩
theorem rows_ne_ints {rows : List (List Int)} {zs : List Int} (h : 1 ≤ rows.length) (e : rows.map rowD = zs.map .int) : False := by
  match rows, zs, h with
  | r :: _, [], _ => cases e
  | r :: _, z :: _, _ => cases e
theorem rows_ne_lists {rows : List (List Int)} {l : List (Str × Nat)} {S : So} {k : Nat} (h : 1 ≤ rows.length) (e : Dats 3 S k (rows.map rowD) (listsP l)) : False := by
  match rows, h with
  | r :: rest, _ =>
    obtain ⟨p, h1, h2⟩ := dats_get e 0 (rowD r) rfl
    unfold listsP at h1
    rw [List.getElem?_map] at h1
    obtain ⟨q, _, rfl⟩ := Option.map_eq_some_iff.mp h1
    cases h2
theorem law_true (ns : List Int) (hn : ns.length ≤ 63) : ∃ S', phi_law [.rol (ns.map .int)] [] = some (.ok (.bl true), S') := by
  have key : okC (phi_law [.rol (ns.map .int)] []) fun d _ => d = .bl true := by
    unfold phi_law
    refine okC_fn rfl ?_
    rw [law_q]
    simp only [startE, List.map, List.length, List.replicate, List.cons_append, List.nil_append]
    unfold q0
    refine okS_seq (okS_asg ?_)
    rw [okM_opA]
    refine okM_cons.mpr ?_
    rw [okM_call]
    refine okM_cons.mpr (okM_var.mpr ⟨_, rfl, okM_cons.mpr (okM_ret.mpr (okM_nil.mpr ?_))⟩)
    rw [draws_eq]
    refine ok_draws 420 (by decide) ns hn _ fun rs xs hx => ?_
    refine okM_cons.mpr (okM_ret.mpr (okM_nil.mpr ?_))
    rw [DD.fLst_ok (by simp), okF_some]
    have hH : Hand ([O.lst (rs.map .int), .lst (xs.map .int)] ++ [.lst [.ref 1, .int 0]]) := ⟨xs, 0, rfl, by decide, rfl, hx⟩
    generalize [O.lst (rs.map .int), .lst (xs.map .int)] ++ [.lst [.ref 1, .int 0]] = S0 at hH
    -- sides, many
    unfold q1
    refine okS_seq (okS_asg ?_)
    rw [okM_call]
    refine okM_cons.mpr (okM_var.mpr ⟨.ref 2, rfl, okM_nil.mpr (sp_ldrawn_sides hH fun l S1 g hS1 g1 => ?_)⟩)
    have g6 : ∀ p ∈ l, p.2 ≤ 6 := fun p hp => (g.2.1 p hp).2.2
    have h200 := g.2.2.2.1
    have hpos : 1 ≤ manyL l := many_pos l (fun p hp => (g.2.1 p hp).2.1) 1 (Nat.le_refl _)
    unfold q2
    refine okS_seq (okS_asg ?_)
    rw [okM_call]
    refine okM_cons.mpr (okM_var.mpr ⟨_, rfl, okM_nil.mpr (sp_lmany (b := true) (l := l) rfl g.1 g6 ?_)⟩)
    -- cells
    unfold q3
    refine okS_seq (okS_asg (okM_drawn hS1 (V := fun v => v.natAbs < 10 ^ 359) (many := manyL l) ?_ (by omega) (fun j U hU => ⟨_, rfl, ?_⟩) fun zs S2 hzl hz hS2 g2 e2 => ?_))
    · exact okM_cons.mpr (okM_var.mpr ⟨_, rfl, okM_nil.mpr ⟨rfl, rfl⟩⟩)
    · rw [okM_call]
      exact okM_cons.mpr (okM_var.mpr ⟨.ref 2, rfl, okM_nil.mpr (sp_lnumber hU fun v W hv hW gW => ⟨v, rfl, hv, hW, gW⟩)⟩)
    have l1 := hS1.len
    have l2 : S1.length < S2.length := (List.getElem?_eq_some_iff.mp e2).1
    -- listed, handed
    refine okS_seq (s_listed (l := l) (by omega) (by have := g.1; omega) rfl (by simp) fun S3 k3 hL3 => ?_)
    have l3 := k3.len
    have l3' : S2.length < S3.length := by
      obtain ⟨_, ds, d1, _⟩ := hL3
      exact (List.getElem?_eq_some_iff.mp d1).1
    unfold q5
    refine okS_seq (okS_asg ?_)
    rw [okM_opA]
    refine okM_cons.mpr (okM_var.mpr ⟨.ref S1.length, rfl, okM_nil.mpr ?_⟩)
    rw [fList_ref (k3 _ _ e2), okF_some]
    have k4 : Keep S3 (S3 ++ [O.lst (zs.map .int)]) := Keep.app _ _
    have e4 : (S3 ++ [O.lst (zs.map .int)])[S3.length]? = some (.lst (zs.map .int)) := get_new
    have hS4 := hand_keep hS2 (k3.trans k4)
    have l4 : (S3 ++ [O.lst (zs.map D.int)]).length = S3.length + 1 := by simp
    have c4 := (k3.trans k4) _ _ e2
    have hL4 := hL3.grow (grow_keep k4)
    generalize S3 ++ [O.lst (zs.map .int)] = S4 at k4 e4 hS4 l4 c4 hL4
    -- array
    refine okS_seq (s_made (l := l) (zs := zs) (n6 := S2.length) (n8 := S3.length) hS4 g rfl rfl rfl rfl hL4 (by omega) e4 hzl fun S5 a hS5 g5 e5 ha => ?_)
    have l5 := g5.1
    refine okS_seq (s_three g rfl rfl (hL4.grow g5) fun S6 k6 => ?_)
    have g6' := g5.trans (grow_keep k6)
    unfold q8
    refine okS_seq (okS_asg ?_)
    rw [okM_call]
    refine okM_cons.mpr (okM_var.mpr ⟨_, rfl, okM_nil.mpr (sp_lplaces (b := true) (l := l) rfl g.1 g6 fun S7 r k7 e7 => ?_)⟩)
    have g7 := g6'.trans (grow_keep k7)
    have hL7 := hL4.grow g7
    refine okS_seq (w_places g rfl rfl rfl hL7 e7 fun S8 k8 => ?_)
    have g8 := g7.trans (grow_keep k8)
    have hS8 : Hand S8 := hand_keep hS5 ((k6.trans k7).trans k8)
    have a8 : S8[a]? = some (arrO (tupsP l) zs) := ((k6.trans k7).trans k8) _ _ e5
    have c8 : S8[S1.length]? = some (.lst (zs.map .int)) := g8.2 _ _ (by omega) c4
    have h8 : S8[S3.length]? = some (.lst (zs.map .int)) := g8.2 _ _ (by omega) e4
    have r8 := k8 _ _ e7
    have hL8 := hL4.grow g8
    obtain ⟨_, ds, d1, d2⟩ := hL8
    have rl : 1 ≤ (rowsL (l.map (·.2))).length := by rw [rows_count _ l rfl]; exact hpos
    have r_n8 : r ≠ S3.length := fun z => by
      rw [z, h8] at r8
      exact rows_ne_ints rl (O.lst.inj (Option.some.inj r8)).symm
    have r_n6 : r ≠ S2.length := fun z => by
      rw [z, d1] at r8
      rw [O.lst.inj (Option.some.inj r8)] at d2
      exact rows_ne_lists rl d2
    have a_n8 : a ≠ S3.length := by omega
    have a_n6 : a ≠ S2.length := by omega
    -- appends
    unfold q10
    refine okS_seq (okS_expr ?_)
    rw [okM_meth]
    refine okM_var.mpr ⟨.ref S3.length, rfl, isL_ref h8, okM_cons.mpr (okM_ret.mpr (okM_nil.mpr ?_))⟩
    rw [fAppend_ref h8 (by have := line200k; simp; omega), okF_some]
    have hS9 := hS8.set (n := S3.length) (o := .lst (zs.map .int ++ [.int 0])) (by omega) (by omega)
    have b9 : ∀ n q, n ≠ S3.length → S8[n]? = some q → (S8.set S3.length (.lst (zs.map .int ++ [.int 0])))[n]? = some q := fun n q hn hq => by
      rw [List.getElem?_set_ne (Ne.symm hn)]
      exact hq
    generalize S8.set S3.length (.lst (zs.map .int ++ [.int 0])) = S9 at hS9 b9
    unfold q11
    refine okS_seq (okS_expr ?_)
    rw [okM_meth]
    have d9 := b9 _ _ (by omega) d1
    refine okM_var.mpr ⟨.ref S2.length, rfl, isL_ref d9, okM_cons.mpr ?_⟩
    rw [okM_opA]
    refine okM_cons.mpr (okM_ret.mpr (okM_cons.mpr (okM_ret.mpr (okM_nil.mpr ?_))))
    rw [DD.fLst_ok (by simp), okF_some, okM_nil]
    have kz : Keep S9 (S9 ++ [O.lst [.str "zz", .int 2]]) := Keep.app _ _
    have dl : ds.length ≤ 4 := by
      have := d2.len
      simp [listsP] at this
      have := g.1
      omega
    rw [fAppend_ref (kz _ _ d9) (by have := line200k; omega), okF_some]
    have hS10 := (hand_keep hS9 kz).set (n := S2.length) (o := .lst (ds ++ [.ref S9.length])) (by omega) (by omega)
    have b10 : ∀ n q, n ≠ S2.length → S9[n]? = some q → ((S9 ++ [O.lst [.str "zz", .int 2]]).set S2.length (.lst (ds ++ [.ref S9.length])))[n]? = some q := fun n q hn hq => by
      rw [List.getElem?_set_ne (Ne.symm hn)]
      exact kz _ _ hq
    generalize (S9 ++ [O.lst [.str "zz", .int 2]]).set S2.length (.lst (ds ++ [.ref S9.length])) = S10 at hS10 b10
    have a10 := b10 _ _ a_n6 (b9 _ _ a_n8 a8)
    have c10 := b10 _ _ (by omega) (b9 _ _ (by omega) c8)
    have r10 := b10 _ _ r_n6 (b9 _ _ r_n8 r8)
    -- what the array keeps
    refine okS_seq (w_pair g (by omega) hz rfl rfl rfl c10 a10 ?_)
    refine okS_seq (w_cells (s5 := .no) g hzl hz rfl (by simp) rfl rfl rfl rfl c10 a10 r10 fun s5 => ?_)
    refine okS_seq (w_alike (l := l) (a := a) (c := S1.length) g hzl (by omega) rfl rfl rfl c10 a10 fun S11 k11 => ?_)
    have hS11 := hand_keep hS10 k11
    unfold q15
    refine okS_seq (okS_asg ?_)
    rw [okM_call]
    refine okM_cons.mpr (okM_var.mpr ⟨.ref 2, rfl, okM_cons.mpr (okM_var.mpr ⟨.int (manyL l : Nat), rfl, okM_nil.mpr (sp_take hS11 (by omega) (by omega) fun v S12 v0 v1 hS12 g12 l12 => ?_)⟩)⟩)
    obtain ⟨at_, rfl⟩ := Int.eq_ofNat_of_zero_le v0
    have a12 := g12.2 _ _ (by omega) (k11 _ _ a10)
    have c12 := g12.2 _ _ (by omega) (k11 _ _ c10)
    have l12' := hS12.len
    refine okS_seq (w_others (l := l) (zs := zs) (a := a) (at_ := at_) (c := S1.length) g hzl (by omega) (by omega) (by omega) rfl rfl rfl rfl c12 a12 fun S13 o ys k13 ho hyl e13 hu => ?_)
    have hS13 := hand_keep hS12 k13
    have lc12 : S1.length < S12.length := (List.getElem?_eq_some_iff.mp c12).1
    have la12 : a < S12.length := (List.getElem?_eq_some_iff.mp a12).1
    have l13 := k13.len
    refine okS_seq (w_more (l := l) (zs := zs) (a := a) (c := S1.length) (o := o) g (by omega) (by omega) (by omega) rfl rfl rfl (k13 _ _ c12) (by omega) (by omega) (by omega) (k13 _ _ a12) e13 hyl hu fun S14 ws b14 l14 e14 hw hu14 => ?_)
    have hS14 := hand_but hS13 b14 (by omega)
    have a14 := b14 _ _ (by omega) (k13 _ _ a12)
    refine okS_seq (w_unlike (s13 := .no) (a := a) (o := o) rfl (by simp) rfl rfl a14 e14 hu14 fun s13 => ?_)
    -- what is refused
    unfold q19
    refine okS_seq (okS_asg ?_)
    rw [okM_call]
    refine okM_cons.mpr (okM_var.mpr ⟨.ref 2, rfl, okM_nil.mpr (sp_lno_sides hS14 fun d p S15 hp hd hS15 g15 => ?_)⟩)
    unfold q20
    refine okS_seq (okS_asg ?_)
    rw [okM_op2, okM_ret, okM_opA]
    refine okM_cons.mpr (okM_var.mpr ⟨d, rfl, okM_nil.mpr ?_⟩)
    have lp := no_short p hp
    rw [fRepr_ok (Py.nine (dat_py (by decide) hd)) (no_facts p hp).2.2, okF_some, fAdd_str (by rw [sizeLine_eq]; show 6 + _ ≤ _; omega), okF_some]
    unfold q21
    refine okS_seq (okS_asg ?_)
    rw [okM_call]
    refine okM_cons.mpr (okM_var.mpr ⟨.ref 2, rfl, okM_cons.mpr (okM_var.mpr ⟨.int (manyL l : Nat), rfl, okM_nil.mpr (sp_lno_cells hS15 hpos h200 fun db pb S16 hdb hbad hS16 g16 => ?_)⟩)⟩)
    unfold q22
    refine okS_seq (okS_asg ?_)
    rw [okM_op2, okM_ret, okM_opA]
    refine okM_cons.mpr (okM_var.mpr ⟨db, rfl, okM_nil.mpr ?_⟩)
    have lb := hbad.2.1.short
    rw [repr_ok (dat_py (by decide) hdb) hbad.2.1 (by decide) (by decide), okF_some, fAdd_str (by rw [sizeLine_eq]; show 6 + _ ≤ _; omega), okF_some]
    refine okS_seq (w_refused (p := p) (d := d) (db := db) (pb := pb) hS16 rfl rfl rfl rfl hp (dat_py (by decide) (dat_grow g16 hd)) (fun T gT => dat_py (by decide) (dat_grow (g16.trans gT) hd)) fun S17 hS17 g17 => ?_)
    exact w_last (l := l) (pb := pb) (db := db) g rfl rfl rfl (dat_py (by decide) (dat_grow g17 hdb)) hbad
  obtain ⟨d, S', h1, h2⟩ := key
  subst h2
  exact ⟨S', h1⟩
end K02

set_option Elab.async false
set_option linter.all false
set_option maxRecDepth 100000
set_option maxHeartbeats 0
namespace K02
open PySem PySem.Spec PyProof.Rows L2 DD
def dn (x : Str) (i : Nat) : He.DefD := ⟨(x, none), x, x, defArgs (top i), defBody (top i), defScope (top i), [], []⟩
def dm (x m qual : Str) (i j : Nat) : He.DefD := ⟨(x, some m), m, qual, defArgs (DD.inClass (top i) j), defBody (DD.inClass (top i) j), defScope (DD.inClass (top i) j), [], []⟩
def fns : List He.DefD := [dn "is_integer" 2, dn "is_integer_within" 3, dn "is_row" 4, dn "is_word" 5, dn "are_ascending" 6, dn "are_sizes" 7, dn "product_of" 8, dn "combined" 9, dn "place_number" 10, dn "as_tuples" 11, dn "_is_sized_word" 12, dn "places" 24, dn "is_sides" 25, dn "_are_cells" 26, dn "_law_draws" 28, dn "_law_take" 29, dn "_law_places" 30, dn "_law_many" 31, dn "_law_drawn_sides" 32, dn "_law_number" 33, dn "_law_no_sides" 34, dn "_law_no_cells" 35, dn "_law_refusal" 36, dn "_law_is_unlike" 37, dn "law" 38, dm "InvalidSides" "__init__" "InvalidSides.__init__" 15 0, dm "InvalidCells" "__init__" "InvalidCells.__init__" 16 0, dm "InvalidInputs" "__init__" "InvalidInputs.__init__" 17 0, dm "NoFit" "__init__" "NoFit.__init__" 18 0, dm "Array" "__init__" "Array.__init__" 23 0, dm "Array" "cell" "Array.cell" 23 1, dm "Array" "__eq__" "Array.__eq__" 23 2]
abbrev R : PySem.W.OpenRow := PySem.W.OpenLaw.row PySem.Challenge.rw_dealtarrays_k02_sides_and_arrays
abbrev hk : PySem.W.Hook := hookC 6 askc.ok fns
def ob (s : PySem.W.SharedT) : DD.Seen := seenCG 6 askc.ok fns (HandSHeadRun.getT s)
theorem ob_eq (s : PySem.W.SharedT) : ob s = hk.obs s.abs := seenCG_eq (HandSHeadRun.getT_eq s)
def loose : List Str := "DealError" :: "Array" :: "InvalidSides" :: "InvalidCells" :: "InvalidInputs" :: "NoFit" :: "is_integer" :: "is_integer_within" :: "is_row" :: "is_word" :: "are_ascending" :: "are_sizes" :: "product_of" :: "combined" :: "place_number" :: "as_tuples" :: "_is_sized_word" :: "places" :: "is_sides" :: "_are_cells" :: "_law_draws" :: "_law_take" :: "_law_places" :: "_law_many" :: "_law_drawn_sides" :: "_law_number" :: "_law_no_sides" :: "_law_no_cells" :: "_law_refusal" :: "_law_is_unlike" :: "LONGEST_WORD" :: "MOST_CELLS" :: "MOST_PLACES" :: "MOST_SIDES" :: []
theorem run (w : World) : HandSHeadRun.RunEq R (PySem.W.view R.prog [38]) hk ob 9000 loose w := by
  intro os
  kernel_rfl
end K02

set_option Elab.async false
set_option linter.all false
set_option maxRecDepth 100000
set_option maxHeartbeats 0
namespace K02
open PySem PySem.Spec PyProof.Rows L2 DD
section
variable {P : Program} {w : World} {K : PySem.W.Frag} {mg : Str → Option Value} {base : Heap}
theorem x_InvalidSides (c : ToldC askc.ok fns K) (hm : mg "InvalidSides" = some (.ref (He.ga K "InvalidSides"))) : XiN P w K mg base "InvalidSides" ["sides"] := by
  obtain ⟨fd, FD⟩ := c.def_ 25 (d := dm "InvalidSides" "__init__" "InvalidSides.__init__" 15 0) rfl
  have k : ClsK K "InvalidSides" ["sides"] := Ask.cls (AskC.q_ok c.ok) (p := ("InvalidSides", ["sides"])) (List.mem_of_getElem? (i := 0) rfl)
  exact xin1 (st := (DD.inClass (top 15) 0)) FD k hm ⟨rfl, rfl, rfl, by decide +kernel, rfl, by decide +kernel, by decide +kernel⟩ rfl (.inl rfl) (.inl rfl) rfl rfl (fun _ _ _ _ _ _ _ _ => rfl) (fun _ _ _ _ _ _ _ _ => rfl)
theorem x_InvalidCells (c : ToldC askc.ok fns K) (hm : mg "InvalidCells" = some (.ref (He.ga K "InvalidCells"))) : XiN P w K mg base "InvalidCells" ["cells"] := by
  obtain ⟨fd, FD⟩ := c.def_ 26 (d := dm "InvalidCells" "__init__" "InvalidCells.__init__" 16 0) rfl
  have k : ClsK K "InvalidCells" ["cells"] := Ask.cls (AskC.q_ok c.ok) (p := ("InvalidCells", ["cells"])) (List.mem_of_getElem? (i := 1) rfl)
  exact xin1 (st := (DD.inClass (top 16) 0)) FD k hm ⟨rfl, rfl, rfl, by decide +kernel, rfl, by decide +kernel, by decide +kernel⟩ rfl (.inl rfl) (.inl rfl) rfl rfl (fun _ _ _ _ _ _ _ _ => rfl) (fun _ _ _ _ _ _ _ _ => rfl)
theorem x_InvalidInputs (c : ToldC askc.ok fns K) (hm : mg "InvalidInputs" = some (.ref (He.ga K "InvalidInputs"))) : XiN P w K mg base "InvalidInputs" ["inputs"] := by
  obtain ⟨fd, FD⟩ := c.def_ 27 (d := dm "InvalidInputs" "__init__" "InvalidInputs.__init__" 17 0) rfl
  have k : ClsK K "InvalidInputs" ["inputs"] := Ask.cls (AskC.q_ok c.ok) (p := ("InvalidInputs", ["inputs"])) (List.mem_of_getElem? (i := 2) rfl)
  exact xin1 (st := (DD.inClass (top 17) 0)) FD k hm ⟨rfl, rfl, rfl, by decide +kernel, rfl, by decide +kernel, by decide +kernel⟩ rfl (.inl rfl) (.inl rfl) rfl rfl (fun _ _ _ _ _ _ _ _ => rfl) (fun _ _ _ _ _ _ _ _ => rfl)
theorem x_NoFit (c : ToldC askc.ok fns K) (hm : mg "NoFit" = some (.ref (He.ga K "NoFit"))) : XiN P w K mg base "NoFit" ["number"] := by
  obtain ⟨fd, FD⟩ := c.def_ 28 (d := dm "NoFit" "__init__" "NoFit.__init__" 18 0) rfl
  have k : ClsK K "NoFit" ["number"] := Ask.cls (AskC.q_ok c.ok) (p := ("NoFit", ["number"])) (List.mem_of_getElem? (i := 3) rfl)
  exact xin1 (st := (DD.inClass (top 18) 0)) FD k hm ⟨rfl, rfl, rfl, by decide +kernel, rfl, by decide +kernel, by decide +kernel⟩ rfl (.inl rfl) (.inl rfl) rfl rfl (fun _ _ _ _ _ _ _ _ => rfl) (fun _ _ _ _ _ _ _ _ => rfl)
theorem closed : askc.closed = true := by decide +kernel
theorem globs_in : ∀ x ∈ globs, x ∈ askc.q.glos := by decide +kernel
theorem all {h : Heap} {fa : Addr} (KX : K.In h) (G : h.Ns mainGlobals mg) (hfa : mg "law" = some (.ref fa)) (c : ToldC askc.ok fns K) : ∃ fd : FuncData, (∀ (s : Shared) (u : Value), BindsTo s fd ⟨[u], []⟩ [("script", u)]) ∧ ∀ base : Heap, K.In base → base.Ns mainGlobals mg → FnG P w K mg base 9 fa fd ["script"] phi_law := by
  have gl : ∀ (x : Str), x ∈ askc.q.glos → mg x = some (.ref (He.ga K x)) := fun x e => Ask.glo (AskC.q_ok c.ok) KX G e
  have z : Z mg := fun i x e => Ask.fre (AskC.q_ok c.ok) KX G (List.mem_of_getElem? e)
  have gs : Gs mg := fun i x e => ⟨_, gl x (globs_in x (List.mem_of_getElem? e))⟩
  have gi : Gi mg := fun i x v e => He.int_ok KX G (AskC.fa_ok c.ok (f := .int x v) (List.mem_append_right _ (List.mem_map.mpr ⟨(x, v), List.mem_of_getElem? e, rfl⟩)))
  have hF : Facts (GK K mg) tb := AskC.facts c.ok closed KX G
  have hN : Named (GK K mg) tb := AskC.named c.ok closed KX G
  have hC : Catch (GK K mg) (catL askc.exms) := AskC.catch c.ok closed KX G
  have hNF : ∀ x, NotF (GK K mg) x (nfL askc.nfs x) := AskC.notF c.ok closed KX G
  have mem : ∀ {x : Str}, askc.q.glos.contains x = true → mg x = some (.ref (He.ga K x)) := fun e => gl _ (by simpa using e)
  obtain ⟨fd_is_integer, D_is_integer⟩ := c.def_ 0 (d := dn "is_integer" 2) rfl
  have m_is_integer : mg "is_integer" = some (.ref (He.ga K "is_integer")) := mem (by decide +kernel)
  obtain ⟨fd_is_integer_within, D_is_integer_within⟩ := c.def_ 1 (d := dn "is_integer_within" 3) rfl
  have m_is_integer_within : mg "is_integer_within" = some (.ref (He.ga K "is_integer_within")) := mem (by decide +kernel)
  obtain ⟨fd_is_row, D_is_row⟩ := c.def_ 2 (d := dn "is_row" 4) rfl
  have m_is_row : mg "is_row" = some (.ref (He.ga K "is_row")) := mem (by decide +kernel)
  obtain ⟨fd_is_word, D_is_word⟩ := c.def_ 3 (d := dn "is_word" 5) rfl
  have m_is_word : mg "is_word" = some (.ref (He.ga K "is_word")) := mem (by decide +kernel)
  obtain ⟨fd_are_ascending, D_are_ascending⟩ := c.def_ 4 (d := dn "are_ascending" 6) rfl
  have m_are_ascending : mg "are_ascending" = some (.ref (He.ga K "are_ascending")) := mem (by decide +kernel)
  obtain ⟨fd_are_sizes, D_are_sizes⟩ := c.def_ 5 (d := dn "are_sizes" 7) rfl
  have m_are_sizes : mg "are_sizes" = some (.ref (He.ga K "are_sizes")) := mem (by decide +kernel)
  obtain ⟨fd_product_of, D_product_of⟩ := c.def_ 6 (d := dn "product_of" 8) rfl
  have m_product_of : mg "product_of" = some (.ref (He.ga K "product_of")) := mem (by decide +kernel)
  obtain ⟨fd_combined, D_combined⟩ := c.def_ 7 (d := dn "combined" 9) rfl
  have m_combined : mg "combined" = some (.ref (He.ga K "combined")) := mem (by decide +kernel)
  obtain ⟨fd_place_number, D_place_number⟩ := c.def_ 8 (d := dn "place_number" 10) rfl
  have m_place_number : mg "place_number" = some (.ref (He.ga K "place_number")) := mem (by decide +kernel)
  obtain ⟨fd_as_tuples, D_as_tuples⟩ := c.def_ 9 (d := dn "as_tuples" 11) rfl
  have m_as_tuples : mg "as_tuples" = some (.ref (He.ga K "as_tuples")) := mem (by decide +kernel)
  obtain ⟨fd_is_sized_word, D_is_sized_word⟩ := c.def_ 10 (d := dn "_is_sized_word" 12) rfl
  have m_is_sized_word : mg "_is_sized_word" = some (.ref (He.ga K "_is_sized_word")) := mem (by decide +kernel)
  obtain ⟨fd_places, D_places⟩ := c.def_ 11 (d := dn "places" 24) rfl
  have m_places : mg "places" = some (.ref (He.ga K "places")) := mem (by decide +kernel)
  obtain ⟨fd_is_sides, D_is_sides⟩ := c.def_ 12 (d := dn "is_sides" 25) rfl
  have m_is_sides : mg "is_sides" = some (.ref (He.ga K "is_sides")) := mem (by decide +kernel)
  obtain ⟨fd_are_cells, D_are_cells⟩ := c.def_ 13 (d := dn "_are_cells" 26) rfl
  have m_are_cells : mg "_are_cells" = some (.ref (He.ga K "_are_cells")) := mem (by decide +kernel)
  obtain ⟨fd_ldraws, D_ldraws⟩ := c.def_ 14 (d := dn "_law_draws" 28) rfl
  have m_ldraws : mg "_law_draws" = some (.ref (He.ga K "_law_draws")) := mem (by decide +kernel)
  obtain ⟨fd_ltake, D_ltake⟩ := c.def_ 15 (d := dn "_law_take" 29) rfl
  have m_ltake : mg "_law_take" = some (.ref (He.ga K "_law_take")) := mem (by decide +kernel)
  obtain ⟨fd_lplaces, D_lplaces⟩ := c.def_ 16 (d := dn "_law_places" 30) rfl
  have m_lplaces : mg "_law_places" = some (.ref (He.ga K "_law_places")) := mem (by decide +kernel)
  obtain ⟨fd_lmany, D_lmany⟩ := c.def_ 17 (d := dn "_law_many" 31) rfl
  have m_lmany : mg "_law_many" = some (.ref (He.ga K "_law_many")) := mem (by decide +kernel)
  obtain ⟨fd_ldrawn_sides, D_ldrawn_sides⟩ := c.def_ 18 (d := dn "_law_drawn_sides" 32) rfl
  have m_ldrawn_sides : mg "_law_drawn_sides" = some (.ref (He.ga K "_law_drawn_sides")) := mem (by decide +kernel)
  obtain ⟨fd_lnumber, D_lnumber⟩ := c.def_ 19 (d := dn "_law_number" 33) rfl
  have m_lnumber : mg "_law_number" = some (.ref (He.ga K "_law_number")) := mem (by decide +kernel)
  obtain ⟨fd_lno_sides, D_lno_sides⟩ := c.def_ 20 (d := dn "_law_no_sides" 34) rfl
  have m_lno_sides : mg "_law_no_sides" = some (.ref (He.ga K "_law_no_sides")) := mem (by decide +kernel)
  obtain ⟨fd_lno_cells, D_lno_cells⟩ := c.def_ 21 (d := dn "_law_no_cells" 35) rfl
  have m_lno_cells : mg "_law_no_cells" = some (.ref (He.ga K "_law_no_cells")) := mem (by decide +kernel)
  obtain ⟨fd_lrefusal, D_lrefusal⟩ := c.def_ 22 (d := dn "_law_refusal" 36) rfl
  have m_lrefusal : mg "_law_refusal" = some (.ref (He.ga K "_law_refusal")) := mem (by decide +kernel)
  obtain ⟨fd_lis_unlike, D_lis_unlike⟩ := c.def_ 23 (d := dn "_law_is_unlike" 37) rfl
  have m_lis_unlike : mg "_law_is_unlike" = some (.ref (He.ga K "_law_is_unlike")) := mem (by decide +kernel)
  obtain ⟨fd_law, D_law⟩ := c.def_ 24 (d := dn "law" 38) rfl
  have m_law : mg "law" = some (.ref (He.ga K "law")) := mem (by decide +kernel)
  have m_Array : mg "Array" = some (.ref (He.ga K "Array")) := mem (by decide +kernel)
  obtain ⟨fd_Array_init, D_Array_init⟩ := c.def_ 29 (d := dm "Array" "__init__" "Array.__init__" 23 0) rfl
  obtain ⟨fd_Array_cell, D_Array_cell⟩ := c.def_ 30 (d := dm "Array" "cell" "Array.cell" 23 1) rfl
  obtain ⟨fd_Array_eq, D_Array_eq⟩ := c.def_ 31 (d := dm "Array" "__eq__" "Array.__eq__" 23 2) rfl
  have e := hfa.symm.trans m_law
  cases e
  refine ⟨fd_law, fun s u => binds_eq D_law (fun _ _ _ _ _ _ => rfl) s, fun base KB GB => ?_⟩
  have X_InvalidSides : XiN P w K mg base "InvalidSides" _ := x_InvalidSides c (mem (by decide +kernel))
  have X_InvalidCells : XiN P w K mg base "InvalidCells" _ := x_InvalidCells c (mem (by decide +kernel))
  have X_InvalidInputs : XiN P w K mg base "InvalidInputs" _ := x_InvalidInputs c (mem (by decide +kernel))
  have X_NoFit : XiN P w K mg base "NoFit" _ := x_NoFit c (mem (by decide +kernel))
  have f_is_integer := d_is_integer (P := P) (w := w) (base := base) hF hN hC hNF z gs gi  D_is_integer m_is_integer
  have f_is_integer_within := d_is_integer_within (P := P) (w := w) (base := base) hF hN hC hNF z gs gi f_is_integer D_is_integer_within m_is_integer_within
  have f_is_row := d_is_row (P := P) (w := w) (base := base) hF hN hC hNF z gs gi  D_is_row m_is_row
  have f_is_word := d_is_word (P := P) (w := w) (base := base) hF hN hC hNF z gs gi  D_is_word m_is_word
  have f_are_ascending := d_are_ascending (P := P) (w := w) (base := base) hF hN hC hNF z gs gi  D_are_ascending m_are_ascending
  have f_is_sized_word := d_is_sized_word (P := P) (w := w) (base := base) hF hN hC hNF z gs gi f_is_row f_is_word f_is_integer_within D_is_sized_word m_is_sized_word
  have f_product_of := d_product_of (P := P) (w := w) (base := base) hF hN hC hNF z gs gi  D_product_of m_product_of
  have f_are_sizes := d_are_sizes (P := P) (w := w) (base := base) hF hN hC hNF z gs gi f_is_row f_is_sized_word f_are_ascending f_product_of D_are_sizes m_are_sizes
  have f_combined := d_combined (P := P) (w := w) (base := base) hF hN hC hNF z gs gi  D_combined m_combined
  have f_place_number := d_place_number (P := P) (w := w) (base := base) hF hN hC hNF z gs gi  D_place_number m_place_number
  have f_as_tuples := d_as_tuples (P := P) (w := w) (base := base) hF hN hC hNF z gs gi f_is_row D_as_tuples m_as_tuples
  have f_are_cells := d_are_cells (P := P) (w := w) (base := base) hF hN hC hNF z gs gi f_is_row f_product_of f_is_integer D_are_cells m_are_cells
  have f_is_sides := d_is_sides (P := P) (w := w) (base := base) hF hN hC hNF z gs gi f_are_sizes D_is_sides m_is_sides
  obtain ⟨a_Array_init, b_Array_init⟩ := d_Array_init (P := P) (w := w) (base := base) hF hN hC hNF z gs gi f_is_sides X_InvalidSides f_are_cells X_InvalidCells f_as_tuples D_Array_init
  have K_Array : MkN P w K mg base _ "Array" _ phi_Array_init := ⟨⟨_, _, _, He.mkr_ok (AskC.fa_ok c.ok (f := .mkr "Array") (List.mem_append_left _ (by simp))), a_Array_init, m_Array, b_Array_init⟩⟩
  obtain ⟨a_Array_cell, b_Array_cell⟩ := d_Array_cell (P := P) (w := w) (base := base) hF hN hC hNF z gs gi f_place_number D_Array_cell
  have T_Array_cell : MthN P w K mg base _ "Array" "cell" _ phi_Array_cell := ⟨⟨_, _, _, He.cls_ok (AskC.fa_ok c.ok (f := .cls "Array") (List.mem_append_left _ (by simp))), He.meth_ok (AskC.fa_ok c.ok (f := .meth "Array" "cell") (List.mem_append_left _ (by simp))), a_Array_cell, m_Array, b_Array_cell⟩⟩
  obtain ⟨a_Array_eq, b_Array_eq⟩ := d_Array_eq (P := P) (w := w) (base := base) hF hN hC hNF z gs gi  D_Array_eq
  have Q_Array : EqN P w K mg base _ "Array" _ phi_Array_eq := ⟨⟨_, _, _, AskC.eq_ok c.ok (x := "Array") (by decide +kernel), a_Array_eq, m_Array, b_Array_eq⟩⟩
  have f_places := d_places (P := P) (w := w) (base := base) hF hN hC hNF z gs gi f_combined D_places m_places
  have f_ldraws := d_ldraws (P := P) (w := w) (base := base) hF hN hC hNF z gs gi  D_ldraws m_ldraws
  have f_ltake := d_ltake (P := P) (w := w) (base := base) hF hN hC hNF z gs gi  D_ltake m_ltake
  have f_lplaces := d_lplaces (P := P) (w := w) (base := base) hF hN hC hNF z gs gi  D_lplaces m_lplaces
  have f_lmany := d_lmany (P := P) (w := w) (base := base) hF hN hC hNF z gs gi  D_lmany m_lmany
  have f_ldrawn_sides := d_ldrawn_sides (P := P) (w := w) (base := base) hF hN hC hNF z gs gi f_ltake f_lmany D_ldrawn_sides m_ldrawn_sides
  have f_lnumber := d_lnumber (P := P) (w := w) (base := base) hF hN hC hNF z gs gi f_ltake D_lnumber m_lnumber
  have f_lno_sides := d_lno_sides (P := P) (w := w) (base := base) hF hN hC hNF z gs gi f_ltake D_lno_sides m_lno_sides
  have f_lno_cells := d_lno_cells (P := P) (w := w) (base := base) hF hN hC hNF z gs gi f_ltake D_lno_cells m_lno_cells
  have f_lrefusal := d_lrefusal (P := P) (w := w) (base := base) hF hN hC hNF z gs gi K_Array D_lrefusal m_lrefusal
  have f_lis_unlike := d_lis_unlike (P := P) (w := w) (base := base) hF hN hC hNF z gs gi Q_Array D_lis_unlike m_lis_unlike
  exact d_law (P := P) (w := w) (base := base) hF hN hC hNF z gs gi f_ldraws f_ldrawn_sides f_lmany f_lnumber K_Array f_ltake f_is_sides f_lplaces f_places T_Array_cell Q_Array f_lis_unlike f_lno_sides f_lno_cells f_lrefusal D_law m_law
end
end K02
open PySem PySem.W PySem.Calls PyProof.Rows
theorem PySem.Challenge.cw_dealtarrays_k02_sides_and_arrays_holds : PySem.Challenge.rw_dealtarrays_k02_sides_and_arrays.Holds := by
  w_on; o_law
  refine HandSHeadRun.head_any (r := OpenLaw.row PySem.Challenge.rw_dealtarrays_k02_sides_and_arrays) (q := view (OpenLaw.row PySem.Challenge.rw_dealtarrays_k02_sides_and_arrays).prog [38]) (H := K02.hk) (ob := K02.ob) (M := 9000) (loose := K02.loose) (d := HandSHeadRun.topDef (OpenLaw.row PySem.Challenge.rw_dealtarrays_k02_sides_and_arrays).prog 38) (kwd := []) K02.ob_eq
    (by kernel_rfl) (fun s => by kernel_rfl) K02.run (by kernel_rfl) (by kernel_rfl) (by kernel_rfl) (by rfl) (by first | assumption | decide +kernel) (by decide +kernel) ⟨rfl, rfl, rfl, rfl, rfl, by decide +kernel⟩ ?hw ?hc
  case hw => w_witness2
  case hc =>
    refine DD.walk_D (l := PySem.Challenge.rw_dealtarrays_k02_sides_and_arrays) (n := 63) (k := 9) (x := "script") rfl (by decide) (by kernel_rfl) ⟨rfl, by decide, by decide⟩ ?F
    intro w mg fa h Y G hmg0
    obtain ⟨K, KX, c⟩ := Y
    have hmg : mg ("law" : PySem.Str) = some (.ref fa) := by
      have e : (HandSHeadRun.topDef (OpenLaw.row PySem.Challenge.rw_dealtarrays_k02_sides_and_arrays).prog 38).name = ("law" : PySem.Str) := by kernel_rfl
      rw [← e]
      exact hmg0
    obtain ⟨fd, hb, hF⟩ := K02.all (P := (PySem.Challenge.rw_dealtarrays_k02_sides_and_arrays).prog) (w := w) KX G hmg c
    exact ⟨K, fd, K02.phi_law, KX, hb, fun ns hn _ => K02.law_true ns hn, hF⟩

