import PyProof.Rows.All
import Wide.All
import OpenK.AllK
import Wide.FinOn
import HandS.ForMost
import HandS.IsInst
import HandS.Conv
import HandS.TupLe
import PySem.Challenge.RW_sealedreach_k08_rooms_and_greatest_highs
set_option Elab.async false
set_option linter.all false
set_option maxRecDepth 100000
set_option maxHeartbeats 4000000
namespace My
open PySem PySem.Spec PyProof.Rows L2
/-! ### calls of a def by its name alone -/
structure Cal (P : Program) (w : World) (K : PySem.W.Frag) (mg : Str → Option Value) (base : Heap) (x : Str) (k : Nat) (ps : List Str) (sp : Sp) : Prop where
  ex : ∃ (f : Addr) (fd : FuncData), FnOk P w K mg base CX0 k f fd ps sp ∧ mg x = some (.ref f) ∧ PySem.W.keepIn K (.ref f) = true ∧ Binds K fd ps []
theorem pe_cal {X : Cx} {x : Str} {k : Nat} {ps : List Str} {sp : Sp} {e : Expr} {es : List Expr} {t : TA} {p pos : Pos} (C : Cal X.prog X.w X.K X.mg X.base x k ps sp) (hr : Room k X.A)
    (ha : PA X (e :: es) t) (hg : Gl X x := by rfl) (hdb : (x == ("__debug__" : Str)) = false := by decide) (he : starEach (e :: es) X.env = (false, eval e X.env) :: starEach es X.env := by rfl) (hpl : (backTo pos (starEach es X.env)).any (·.1) = false := by rfl) :
    PE X (.Call (.Name x p) (e :: es) [] pos) (tCall sp [] E0 t) := by
  obtain ⟨f, fd, G, g, kp, b⟩ := C.ex
  exact pe_call G hr hg g kp b .nil pass0 ha hdb he hpl
/-! ### tests -/
theorem ifnd {p : Prop} [Decidable p] {A B : Prop} (h1 : ¬ p → A) (h2 : p → B) : if (!decide p) = true then A else B := by
  by_cases h : p
  · rw [decide_eq_true h]; exact h2 h
  · rw [decide_eq_false h]; exact h1 h
theorem ifnb {c : Bool} {A B : Prop} (h1 : c = false → A) (h2 : c = true → B) : if (!c) = true then A else B := by
  cases c with
  | true => exact h2 rfl
  | false => exact h1 rfl
theorem ifd {p : Prop} [Decidable p] {A B : Prop} (h1 : p → A) (h2 : ¬ p → B) : if decide p = true then A else B := by
  by_cases h : p
  · rw [if_pos (decide_eq_true h)]; exact h1 h
  · rw [decide_eq_false h, if_neg Bool.false_ne_true]; exact h2 h
theorem ifP {p : Prop} [Decidable p] {A B : Prop} (h : p) (h1 : A) : if decide p = true then A else B := by
  rw [if_pos (decide_eq_true h)]; exact h1
theorem ifN {p : Prop} [Decidable p] {A B : Prop} (h : ¬ p) (h1 : B) : if decide p = true then A else B := by
  rw [decide_eq_false h, if_neg Bool.false_ne_true]; exact h1
theorem ifb {c : Bool} {A B : Prop} (h1 : c = true → A) (h2 : c = false → B) : if c = true then A else B := by
  cases c with
  | true => rw [if_pos rfl]; exact h1 rfl
  | false => rw [if_neg Bool.false_ne_true]; exact h2 rfl
theorem ifbT {c : Bool} {A B : Prop} (h : c = true) (h1 : A) : if c = true then A else B := by rw [if_pos h]; exact h1
theorem ifbF {c : Bool} {A B : Prop} (h : c = false) (h1 : B) : if c = true then A else B := by rw [h, if_neg Bool.false_ne_true]; exact h1
/-! ### heaps -/
theorem viaS {H H' : Hp} {b : Addr} {o : HO} (s : Same H H') (h : H b = some o) : H' b = some o := s b o h
theorem same_new {H : Hp} {p : Addr} {o : HO} (h : H p = none) : Same H (upd H p o) := fun b x e => by
  rw [upd_ne (ne_of_none e h)]; exact e
/-- all but what stands at a is as it was -/
def But (a : Addr) (H H' : Hp) : Prop := ∀ b o, b ≠ a → H b = some o → H' b = some o
theorem viaB {H H' : Hp} {a b : Addr} {o : HO} (s : But a H H') (n : b ≠ a) (h : H b = some o) : H' b = some o := s b o n h
theorem But.refl (a : Addr) (H : Hp) : But a H H := fun _ _ _ h => h
theorem But.of {a : Addr} {H H' : Hp} (s : Same H H') : But a H H' := fun b o _ h => s b o h
theorem But.trans {a : Addr} {H H1 H2 : Hp} (s : But a H H1) (t : But a H1 H2) : But a H H2 := fun b o n h => t b o n (s b o n h)
theorem But.upd {a : Addr} {H H' : Hp} {o : HO} (s : But a H H') : But a H (upd H' a o) := fun b x n h => by
  rw [upd_ne n]; exact s b x n h
theorem But.new {a p : Addr} {H H' : Hp} {o : HO} (s : But a H H') (n : H' p = none) : But a H (L2.upd H' p o) := fun b x nb h => by
  have e := s b x nb h
  rw [upd_ne (ne_of_none e n)]; exact e
theorem sameN {p : Addr} {H H' : Hp} {o : HO} (s : Same H H') (n : H' p = none) : Same H (L2.upd H' p o) := fun b x h => by
  have e := s b x h
  rw [upd_ne (ne_of_none e n)]; exact e
theorem updK {H : Hp} {a b : Addr} {o u : HO} (n : b ≠ a) (h : H b = some u) : L2.upd H a o b = some u := by rw [upd_ne n]; exact h
/-- the pool of a law: a list of two numbers, the second small -/
def Pool (H : Hp) (a : Addr) (x y : Int) : Prop := H a = some (.lst [.int x, .int y]) ∧ 0 ≤ x ∧ 0 ≤ y ∧ y < 2147483647

local macro_rules | `(tactic| walk_at "ne") => `(tactic| first | assumption | (apply Ne.symm; assumption) | (refine ne_of_none ?_ (by assumption); walk_at "at") | (apply Ne.symm; refine ne_of_none ?_ (by assumption); walk_at "at"))
local macro_rules | `(tactic| walk_at "at") => `(tactic| first | assumption | exact upd_same | (refine updK ?n ?h; (case n => walk_at "ne"); (case h => walk_at "at")) | (refine viaS (by assumption) ?_; walk_at "at") | (refine viaB (by assumption) ?n ?h; (case n => walk_at "ne"); (case h => walk_at "at")))
local macro_rules | `(tactic| walk_at "side") => `(tactic| first | rfl | omega | decide | (refine ⟨by omega, by omega, ?_⟩; first | decide | omega) | (refine Or.inl ⟨by omega, by omega⟩) | (refine Or.inr ⟨by omega, by omega⟩) | exact ⟨by omega, by omega⟩)
/-- one step of a reading whose answers are plain -/
local macro_rules | `(tactic| walk_at "g1") => `(tactic| first | refine ⟨_, rfl, ?_⟩ | refine ⟨_, _, rfl, rfl, ?_⟩ | refine ⟨by walk_at "side", ?_⟩)
local macro_rules | `(tactic| walk_at "g") => `(tactic| repeat walk_at "g1")
theorem sz {n : Nat} (h : n ≤ 1000) : n ≤ sizeLine := Nat.le_of_lt (small1000 h)
theorem Pool.new {H : Hp} {p q : Addr} {x y : Int} {o : HO} (h : Pool H p x y) (n : H q = none) : Pool (upd H q o) p x y := ⟨by rw [upd_ne (ne_of_none h.1 n)]; exact h.1, h.2⟩
def rep (c L : Int) : Int := if (if c < L then c else L) > 1 then (if c < L then c else L) else 1
theorem rep_le {c L : Int} (h : 1 ≤ c) (h2 : c ≤ 63) : 1 ≤ rep c L ∧ rep c L ≤ c := by
  unfold rep
  by_cases d : c < L
  · simp only [if_pos d]; split <;> omega
  · simp only [if_neg d]; split <;> omega
theorem rep_lo {c L : Int} (h : 1 ≤ c) (h2 : c ≤ 63) : -(2 ^ 62) ≤ rep c L := by have := (rep_le (L := L) h h2).1; omega
theorem rep_hi {c L : Int} (h : 1 ≤ c) (h2 : c ≤ 63) : rep c L < 2 ^ 62 := by have := (rep_le (L := L) h h2).2; omega
theorem rep_i {c L : Int} {i : Nat} (h : 1 ≤ c) (h2 : c ≤ 63) (k : i < (rep c L).toNat) : i ≤ 63 := by have := (rep_le (L := L) h h2).2; omega
/-- a pool's own changes leave what stood ahead of it -/
theorem sameP {H H1 H2 H3 : Hp} {p : Addr} (s : Same H H1) (s1 : Same H1 H2) (n : H1 p = none) (b : But p H2 H3) : Same H H3 := fun c o e =>
  b c o (ne_of_none (s c o e) n) (s1 _ _ (s _ _ e))
theorem pick {xs : List V} {r : Int} (P : V → Prop) (h0 : 0 ≤ r) (h1 : r < (xs.length : Int)) (hP : ∀ v ∈ xs, P v) : ∃ v, atI xs r = some v ∧ P v := by
  obtain ⟨j, rfl⟩ : ∃ j : Nat, r = (j : Int) := ⟨r.toNat, by omega⟩
  have hj : j < xs.length := by omega
  exact ⟨xs[j], atI_nat (List.getElem?_eq_getElem hj), hP _ (List.getElem_mem hj)⟩
theorem cut63 {ns : List Int} (h : ns.length ≤ 63) : cutV (ns.map V.int) none (some 63) = ns.map V.int := by
  unfold cutV
  rw [show HT.sIx (ns.map V.int).length (ns.map V.int).length (some 63) = min 63 (ns.map V.int).length from HT.sIx_nat _ _ 63, HT.sIx_none]
  rw [List.drop_zero, Nat.sub_zero, List.length_map, Nat.min_eq_right h]
  exact List.take_of_length_le (by simp)
theorem qb {Q : VK} {H : Hp} {b b' : Bool} (q : Q (.bl b') H) (e : b = b') : Q (.bl b) H := e ▸ q
theorem qi {Q : VK} {H : Hp} {i j : Int} (q : Q (.int j) H) (e : i = j) : Q (.int i) H := e ▸ q

theorem b01 (k : Bool) : -(2 ^ 64) < (if k then (1 : Int) else 0) ∧ (if k then (1 : Int) else 0) < 2 ^ 64 := by cases k <;> decide
theorem mixb (z : Int) : -(2 ^ 64) < z % 2147483647 ∧ z % 2147483647 < 2 ^ 64 := by omega
theorem sizeb (c : Int) (k : Bool) : 0 ≤ (if c < 0 then -c else c) * (if k then (1 : Int) else 0) := by
  cases k
  · simp
  · simp; split <;> omega

/-! ### the mathematics of bounds -/
def Dd (lo hi : Int) (t : Nat) : Int := (hi - 1) / 2 ^ t - lo / 2 ^ t
def StepIs (lo hi : Int) (s : Nat) : Prop := s ≤ 8 ∧ Dd lo hi s ≤ 15 ∧ ∀ t, t < s → 15 < Dd lo hi t
def Bd (lo hi : Int) : Prop := 0 ≤ lo ∧ lo < hi ∧ hi ≤ 4096
def Ex (lo hi : Int) (s : Nat) : Prop := StepIs lo hi s ∧ lo / 2 ^ s * 2 ^ s = lo ∧ ((hi - 1) / 2 ^ s + 1) * 2 ^ s = hi
theorem le8 {s : Nat} (h : s ≤ 8) : s = 0 ∨ s = 1 ∨ s = 2 ∨ s = 3 ∨ s = 4 ∨ s = 5 ∨ s = 6 ∨ s = 7 ∨ s = 8 := by omega
theorem StepIs.uniq {lo hi : Int} {s t : Nat} (h : StepIs lo hi s) (k : StepIs lo hi t) : s = t := by
  rcases Nat.lt_trichotomy s t with c | c | c
  · have := k.2.2 s c; have := h.2.1; omega
  · exact c
  · have := h.2.2 t c; have := k.2.1; omega
theorem pow_pos2 (s : Nat) : (0 : Int) < 2 ^ s := Int.pow_pos (by decide)
theorem over_eq (lo hi : Int) (s : Nat) : (hi + 1 * 2 ^ s - 1) / 2 ^ s - lo / 2 ^ s = Dd lo hi s + 1 := by
  have e : hi + 1 * 2 ^ s - 1 = (hi - 1) + 1 * 2 ^ s := by omega
  rw [e, Int.add_mul_ediv_right _ _ (Int.ne_of_gt (pow_pos2 s))]
  unfold Dd
  omega
theorem first_over (lo hi : Int) (s : Nat) : lo / 2 ^ s + (Dd lo hi s + 1) = (hi - 1) / 2 ^ s + 1 := by
  unfold Dd; omega
theorem dd8 {lo hi : Int} (b : Bd lo hi) : Dd lo hi 8 ≤ 15 := by
  obtain ⟨h1, h2, h3⟩ := b
  unfold Dd
  have e : (2 : Int) ^ 8 = 256 := by decide
  rw [e]; omega
/-- going up from nought: below s all are too many -/
theorem lt8 {lo hi : Int} {s : Nat} (b : Bd lo hi) (h : 15 < Dd lo hi s) (u : s ≤ 8) : s < 8 := by
  rcases Nat.lt_or_ge s 8 with c | c
  · exact c
  · have e : s = 8 := by omega
    subst e
    have := dd8 b
    omega
/-- what a shift asks -/
theorem p8 {s : Nat} (h : s ≤ 8) : (2 : Int) ^ s ≤ 256 := by
  rcases le8 h with e | e | e | e | e | e | e | e | e <;> subst e <;> decide
theorem na {x : Int} (h0 : 0 ≤ x) (h1 : x ≤ 100000) : x.natAbs < 2 ^ 64 := by omega
theorem div_le' {x : Int} {s : Nat} (h0 : 0 ≤ x) : 0 ≤ x / 2 ^ s ∧ x / 2 ^ s ≤ x :=
  ⟨Int.ediv_nonneg h0 (Int.le_of_lt (pow_pos2 s)), Int.ediv_le_self _ h0⟩
theorem bc {lo hi : Int} {s : Nat} (b : Bd lo hi) (h : s ≤ 8) : CPow (lo / 2 ^ s) (s : Int) := by
  have := div_le' (s := s) b.1
  have := b.2
  exact ⟨by omega, by omega, na (by omega) (by omega)⟩
theorem bc2 {lo hi : Int} {s : Nat} (b : Bd lo hi) (h : StepIs lo hi s) : CPow (lo / 2 ^ s + (Dd lo hi s + 1)) (s : Int) := by
  have h8 := h.1
  obtain ⟨b1, b2, b3⟩ := b
  have := div_le' (s := s) (x := hi - 1) (by omega)
  rw [first_over]
  exact ⟨by omega, by omega, na (by omega) (by omega)⟩
theorem dd0 (n : Int) (s : Nat) : Dd 0 n s + 1 = (n - 1) / 2 ^ s + 1 := by
  unfold Dd; rw [Int.zero_ediv]; omega
theorem bc3 {n : Int} {s : Nat} (h : StepIs 0 n s) (b : Bd 0 n) : CPow (Dd 0 n s + 1) (s : Int) := by
  have h8 := h.1
  obtain ⟨b1, b2, b3⟩ := b
  have := div_le' (s := s) (x := n - 1) (by omega)
  rw [dd0]
  exact ⟨by omega, by omega, na (by omega) (by omega)⟩
def Can (lo hi : Int) (s : Nat) : Prop := lo % 2 ^ s = 0 ∧ 9 ≤ (hi - lo) / 2 ^ s
def GH (lo hi : Int) (s : Nat) : Prop := s ≤ 8 ∧ (s = 0 ∨ Can lo hi s) ∧ ∀ t, s < t → t ≤ 8 → ¬ Can lo hi t
def mn (lo hi : Int) (s : Nat) : Int := if (hi - lo) / 2 ^ s < 16 then (hi - lo) / 2 ^ s else 16
theorem cmn {lo hi : Int} {s : Nat} (b : Bd lo hi) (h : s ≤ 8) : CPow (mn lo hi s) (s : Int) := by
  obtain ⟨b1, b2, b3⟩ := b
  have := div_le' (s := s) (x := hi - lo) (by omega)
  unfold mn
  refine ⟨by omega, by omega, na ?_ ?_⟩ <;> split <;> omega
theorem bl_int {a b : Int} : decide (V.int a = V.int b) = decide (a = b) := by
  by_cases h : a = b
  · subst h; simp
  · have : ¬ (V.int a = V.int b) := fun e => h (V.int.inj e)
    simp [h, this]
theorem t2_eqv {a b c d : Int} : PyData.eqv (.tuple [.int a, .int b]) (.tuple [.int c, .int d]) = true ↔ a = c ∧ b = d := by
  simp [PyData.eqv, PyData.eqvAll]
theorem t2_no {a b c d : Int} (e : PyData.eqv (.tuple [.int a, .int b]) (.tuple [.int c, .int d]) = false) (h1 : a = c) (h2 : b = d) : False := by
  rw [t2_eqv.mpr ⟨h1, h2⟩] at e; cases e
theorem dp2 {K : PySem.W.Frag} {H : Hp} {p : Addr} {a b : Int} (h : H p = some (.tup [.int a, .int b])) : Dp K H (.ref p) (.tuple [.int a, .int b]) :=
  .tup (.of h) (.cons (.int a) (.cons (.int b) .nil))
theorem t3_eqv {a b x c d y : Int} : PyData.eqv (.tuple [.int a, .int b, .int x]) (.tuple [.int c, .int d, .int y]) = true ↔ a = c ∧ b = d ∧ x = y := by
  simp [PyData.eqv, PyData.eqvAll]
theorem dp3 {K : PySem.W.Frag} {H : Hp} {p : Addr} {a b c : Int} (h : H p = some (.tup [.int a, .int b, .int c])) : Dp K H (.ref p) (.tuple [.int a, .int b, .int c]) :=
  .tup (.of h) (.cons (.int a) (.cons (.int b) (.cons (.int c) .nil)))

/-! ### rooms and greatest highs -/
theorem room_eq {n : Int} {s : Nat} (b : Bd 0 n) (h : s ≤ 8) (g : n ≤ 16 * 2 ^ s) (hb : ∀ t, t < s → 16 * 2 ^ t < n) : StepIs 0 n s := by
  obtain ⟨b1, b2, b3⟩ := b
  refine ⟨h, ?_, fun t ht => ?_⟩
  · unfold Dd
    rcases le8 h with e | e | e | e | e | e | e | e | e <;> subst e <;> omega
  · have := hb t ht
    unfold Dd
    have h8 : t ≤ 8 := by omega
    rcases le8 h8 with e | e | e | e | e | e | e | e | e <;> subst e <;> omega
/-- from a multiple of a step on, a room's size is told exactly -/
theorem spot_ex {n r : Int} {s : Nat} (h : StepIs 0 n s) (b : Bd 0 n) (r0 : 0 ≤ r) : Ex (r * 2 ^ s) (r * 2 ^ s + ((n - 1) / 2 ^ s + 1) * 2 ^ s) s := by
  obtain ⟨h8, h1, h2⟩ := h
  obtain ⟨b1, b2, b3⟩ := b
  have h3 : s = 0 ∨ 15 < Dd 0 n (s - 1) := by
    rcases Nat.eq_zero_or_pos s with e | e
    · exact .inl e
    · exact .inr (h2 _ (by omega))
  clear h2
  unfold Ex StepIs Dd at *
  refine ⟨⟨h8, ?_, fun t ht => ?_⟩, ?_, ?_⟩
  · rcases le8 h8 with e | e | e | e | e | e | e | e | e <;> subst e <;> simp at * <;> omega
  · have h9 : t ≤ 8 := by omega
    rcases le8 h8 with e | e | e | e | e | e | e | e | e <;> subst e <;> rcases le8 h9 with e | e | e | e | e | e | e | e | e <;> subst e <;> first | omega | (simp at *; omega)
  · rcases le8 h8 with e | e | e | e | e | e | e | e | e <;> subst e <;> simp at * <;> omega
  · rcases le8 h8 with e | e | e | e | e | e | e | e | e <;> subst e <;> simp at * <;> omega
theorem spot_bd {n r : Int} {s : Nat} (h : StepIs 0 n s) (b : Bd 0 n) (r0 : 0 ≤ r) (r1 : r < (4096 - ((n - 1) / 2 ^ s + 1) * 2 ^ s) / 2 ^ s + 1) : Bd (r * 2 ^ s) (r * 2 ^ s + ((n - 1) / 2 ^ s + 1) * 2 ^ s) := by
  obtain ⟨h8, h1, h2⟩ := h
  obtain ⟨b1, b2, b3⟩ := b
  clear h2 h1
  unfold Bd
  rcases le8 h8 with e | e | e | e | e | e | e | e | e <;> subst e <;> omega
theorem spots_ok {n : Int} {s : Nat} (h : StepIs 0 n s) (b : Bd 0 n) : 0 < (4096 - ((n - 1) / 2 ^ s + 1) * 2 ^ s) / 2 ^ s + 1 ∧ (4096 - ((n - 1) / 2 ^ s + 1) * 2 ^ s) / 2 ^ s + 1 < 5000 := by
  obtain ⟨h8, h1, h2⟩ := h
  obtain ⟨b1, b2, b3⟩ := b
  clear h2 h1
  rcases le8 h8 with e | e | e | e | e | e | e | e | e <;> subst e <;> omega
/-- what is told exactly: a multiple, up to sixteen, from nine on above step 0 -/
theorem ex_can {lo h hi : Int} {t : Nat} (b : Bd lo h) (e : Ex lo h t) (hh : h ≤ hi) : t = 0 ∧ h - lo ≤ 16 ∨ Can lo hi t ∧ h - lo ≤ 16 * 2 ^ t := by
  obtain ⟨⟨h8, h1, h2⟩, e1, e2⟩ := e
  obtain ⟨b1, b2, b3⟩ := b
  have h3 : t = 0 ∨ 15 < Dd lo h (t - 1) := by
    rcases Nat.eq_zero_or_pos t with e | e
    · exact .inl e
    · exact .inr (h2 _ (by omega))
  clear h2
  unfold Can Dd at *
  rcases le8 h8 with e | e | e | e | e | e | e | e | e <;> subst e <;> simp at * <;> omega
theorem gh_ex {lo hi : Int} {s : Nat} (b : Bd lo hi) (h : GH lo hi s) : Bd lo (lo + mn lo hi s * 2 ^ s) ∧ lo + mn lo hi s * 2 ^ s ≤ hi ∧ Ex lo (lo + mn lo hi s * 2 ^ s) s := by
  obtain ⟨h8, h1, h2⟩ := h
  obtain ⟨b1, b2, b3⟩ := b
  clear h2
  unfold Can at h1
  have hm : mn lo hi s = (hi - lo) / 2 ^ s ∧ (hi - lo) / 2 ^ s < 16 ∨ mn lo hi s = 16 ∧ 16 ≤ (hi - lo) / 2 ^ s := by
    unfold mn; split <;> omega
  generalize mn lo hi s = c at hm
  unfold Ex StepIs Dd Bd
  refine ⟨?_, ?_, ⟨h8, ?_, fun t ht => ?_⟩, ?_, ?_⟩
  · rcases le8 h8 with e | e | e | e | e | e | e | e | e <;> subst e <;> simp at * <;> omega
  · rcases le8 h8 with e | e | e | e | e | e | e | e | e <;> subst e <;> simp at * <;> omega
  · rcases le8 h8 with e | e | e | e | e | e | e | e | e <;> subst e <;> simp at * <;> omega
  · have h9 : t ≤ 8 := by omega
    rcases le8 h8 with e | e | e | e | e | e | e | e | e <;> subst e <;> rcases le8 h9 with e | e | e | e | e | e | e | e | e <;> subst e <;> first | omega | (simp at *; omega)
  · rcases le8 h8 with e | e | e | e | e | e | e | e | e <;> subst e <;> simp at * <;> omega
  · rcases le8 h8 with e | e | e | e | e | e | e | e | e <;> subst e <;> simp at * <;> omega
/-- none between the told one and the asked one is told exactly -/
theorem gh_max {lo hi h : Int} {s t : Nat} (b : Bd lo hi) (g : GH lo hi s) (l : lo + mn lo hi s * 2 ^ s < h) (u : h ≤ hi) : ¬ Ex lo h t := by
  intro e
  have bh : Bd lo h := by
    have := (gh_ex b g).1.2.1
    unfold Bd at *; omega
  have k := ex_can bh e u
  have t8 := e.1.1
  obtain ⟨h8, h1, h2⟩ := g
  obtain ⟨b1, b2, b3⟩ := b
  have hm : mn lo hi s = (hi - lo) / 2 ^ s ∧ (hi - lo) / 2 ^ s < 16 ∨ mn lo hi s = 16 ∧ 16 ≤ (hi - lo) / 2 ^ s := by
    unfold mn; split <;> omega
  have k2 : t ≤ s := by
    rcases Nat.lt_or_ge s t with c | c
    · rcases k with k | k
      · omega
      · exact absurd k.1 (h2 t c t8)
    · exact c
  have e1 := e.2.1
  have e2 := e.2.2
  generalize mn lo hi s = c at hm l
  clear h2 e bh
  unfold Can at *
  rcases le8 h8 with e | e | e | e | e | e | e | e | e <;> subst e <;> rcases le8 t8 with e | e | e | e | e | e | e | e | e <;> subst e <;> first | omega | (simp at *; omega)

theorem bc4 {lo hi : Int} {s : Nat} (b : Bd lo hi) (h : s ≤ 8) : CPow ((hi - 1) / 2 ^ s + 1) (s : Int) := by
  obtain ⟨b1, b2, b3⟩ := b
  have := div_le' (s := s) (x := hi - 1) (by omega)
  exact ⟨by omega, by omega, na (by omega) (by omega)⟩
theorem bc5 {z : Int} {s : Nat} (h0 : 0 ≤ z) (h1 : z ≤ 100000) (h : s ≤ 8) : CPow (z / 2 ^ s) (s : Int) := by
  have := div_le' (s := s) (x := z) (by omega)
  exact ⟨by omega, by omega, na (by omega) (by omega)⟩
theorem tgt {n : Int} {s : Nat} (b : Bd 0 n) (h : s ≤ 8) : n ≤ ((n - 1) / 2 ^ s + 1) * 2 ^ s ∧ ((n - 1) / 2 ^ s + 1) * 2 ^ s ≤ 5000 := by
  obtain ⟨b1, b2, b3⟩ := b
  rcases le8 h with e | e | e | e | e | e | e | e | e <;> subst e <;> omega
theorem tgt_eq {n z : Int} {s : Nat} (b : Bd 0 n) (h : s ≤ 8) (h1 : n ≤ z) (h2 : z ≤ ((n - 1) / 2 ^ s + 1) * 2 ^ s) (e : z / 2 ^ s * 2 ^ s = z) : z = ((n - 1) / 2 ^ s + 1) * 2 ^ s := by
  obtain ⟨b1, b2, b3⟩ := b
  rcases le8 h with e | e | e | e | e | e | e | e | e <;> subst e <;> omega
theorem tgt_ne {n z : Int} {s : Nat} (b : Bd 0 n) (h : s ≤ 8) (h2 : z ≤ ((n - 1) / 2 ^ s + 1) * 2 ^ s) (e : ¬ z / 2 ^ s * 2 ^ s = z) : z < ((n - 1) / 2 ^ s + 1) * 2 ^ s := by
  rcases Int.lt_or_eq_of_le h2 with c | c
  · exact c
  · exact absurd (by rw [c, Int.mul_ediv_cancel _ (Int.ne_of_gt (pow_pos2 s))]) e
theorem up16 {n : Int} {s : Nat} (b : Bd 0 n) (h : s ≤ 8) (c : 16 * 2 ^ s < n) : s < 8 := by
  rcases Nat.lt_or_ge s 8 with d | d
  · exact d
  · have : s = 8 := by omega
    subst this
    have := b.2.2
    omega
theorem ex_one {lo : Int} (b : Bd lo (lo + 1)) : Ex lo (lo + 1) 0 := by
  obtain ⟨b1, b2, b3⟩ := b
  unfold Ex StepIs Dd
  refine ⟨⟨by omega, by omega, fun t h => by omega⟩, by omega, by omega⟩
theorem ghv {s : Nat} (h : GH 0 4096 s) : 0 + mn 0 4096 s * 2 ^ s = 4096 := by
  obtain ⟨h8, h1, h2⟩ := h
  have k : s = 8 := by
    rcases Nat.lt_or_ge s 8 with c | c
    · exact absurd (by unfold Can; omega) (h2 8 c (Nat.le_refl _))
    · omega
  subst k
  unfold mn
  decide
theorem ghv2 {s : Nat} (h : GH 256 4096 s) : 256 + mn 256 4096 s * 2 ^ s = 4096 := by
  obtain ⟨h8, h1, h2⟩ := h
  have k : s = 8 := by
    rcases Nat.lt_or_ge s 8 with c | c
    · exact absurd (by unfold Can; omega) (h2 8 c (Nat.le_refl _))
    · omega
  subst k
  unfold mn
  decide
theorem ghv3 {s : Nat} (h : GH 1 4096 s) : 1 + mn 1 4096 s * 2 ^ s = 17 := by
  obtain ⟨h8, h1, h2⟩ := h
  have k : s = 0 := by
    rcases h1 with c | c
    · exact c
    · unfold Can at c
      rcases le8 h8 with e | e | e | e | e | e | e | e | e <;> subst e <;> first | rfl | omega
  subst k
  unfold mn
  decide
theorem three_eqv : PyData.eqv (.list [.int 4096, .int 4096, .int 17]) (.list [.int 4096, .int 4096, .int 17]) = true := by decide

theorem rg_map : rgV 1 81 = ((List.range 80).map fun (i : Nat) => (1 : Int) + (i : Int)).map V.int := by
  unfold rgV; rw [List.map_map]; rfl
theorem rg_pos : ∀ z ∈ (List.range 80).map fun (i : Nat) => (1 : Int) + (i : Int), 0 < z := by
  intro z hz
  obtain ⟨i, _, rfl⟩ := List.mem_map.mp hz
  omega
theorem k16 {i : Nat} (h : i ≤ 8) : 16 ≤ 16 * (2 : Int) ^ i := by
  have := pow_pos2 i; omega

def topS (i : Nat) : Stmt := PySem.Challenge.pw_sealedreach_k08_rooms_and_greatest_highs.main.body.getD i (.Pass ⟨0, 0, 0, 0⟩)
abbrev s_is_whole : Stmt := topS 4
abbrev s_are_bounds : Stmt := topS 10
abbrev s_look_at_bounds : Stmt := topS 11
abbrev s__steps_over : Stmt := topS 17
abbrev s_in_bits : Stmt := topS 14
abbrev s_least_bounds : Stmt := topS 13
abbrev s_is_exact : Stmt := topS 12
abbrev s_room_of : Stmt := topS 15
abbrev s__can_begin : Stmt := topS 18
abbrev s_greatest_high : Stmt := topS 16
abbrev s__law_take : Stmt := topS 21
abbrev s__law_pool : Stmt := topS 20
abbrev s__law_least : Stmt := topS 22
abbrev s__law_room : Stmt := topS 23
abbrev s__law_high : Stmt := topS 24
abbrev s__law_room_so : Stmt := topS 25
abbrev s_law : Stmt := topS 26
theorem sc_is_whole : FnScope ["thing", "least", "most"] ["thing", "least", "most"] (defScope s_is_whole) := ⟨rfl, rfl, rfl, by decide +kernel, rfl, by decide +kernel, by decide +kernel⟩
theorem sc_are_bounds : FnScope ["low", "high"] ["low", "high"] (defScope s_are_bounds) := ⟨rfl, rfl, rfl, by decide +kernel, rfl, by decide +kernel, by decide +kernel⟩
theorem sc_look_at_bounds : FnScope ["low", "high"] ["low", "high"] (defScope s_look_at_bounds) := ⟨rfl, rfl, rfl, by decide +kernel, rfl, by decide +kernel, by decide +kernel⟩
theorem sc__steps_over : FnScope ["low", "high", "step", "first", "behind"] ["low", "high", "step"] (defScope s__steps_over) := ⟨rfl, rfl, rfl, by decide +kernel, rfl, by decide +kernel, by decide +kernel⟩
theorem sc_in_bits : FnScope ["low", "high", "step"] ["low", "high"] (defScope s_in_bits) := ⟨rfl, rfl, rfl, by decide +kernel, rfl, by decide +kernel, by decide +kernel⟩
theorem sc_least_bounds : FnScope ["low", "high", "step", "first", "count"] ["low", "high"] (defScope s_least_bounds) := ⟨rfl, rfl, rfl, by decide +kernel, rfl, by decide +kernel, by decide +kernel⟩
theorem sc_is_exact : FnScope ["low", "high"] ["low", "high"] (defScope s_is_exact) := ⟨rfl, rfl, rfl, by decide +kernel, rfl, by decide +kernel, by decide +kernel⟩
theorem sc_room_of : FnScope ["many", "step", "_", "count"] ["many"] (defScope s_room_of) := ⟨rfl, rfl, rfl, by decide +kernel, rfl, by decide +kernel, by decide +kernel⟩
theorem sc__can_begin : FnScope ["low", "high", "step"] ["low", "high", "step"] (defScope s__can_begin) := ⟨rfl, rfl, rfl, by decide +kernel, rfl, by decide +kernel, by decide +kernel⟩
theorem sc_greatest_high : FnScope ["low", "high", "step"] ["low", "high"] (defScope s_greatest_high) := ⟨rfl, rfl, rfl, by decide +kernel, rfl, by decide +kernel, by decide +kernel⟩
theorem sc__law_take : FnScope ["_law_pool_here", "_law_many", "_law_found"] ["_law_pool_here", "_law_many"] (defScope s__law_take) := ⟨rfl, rfl, rfl, by decide +kernel, rfl, by decide +kernel, by decide +kernel⟩
theorem sc__law_pool : FnScope ["_law_script", "_law_k", "_law_cell", "_law_size", "_law_mixed"] ["_law_script", "_law_k"] (defScope s__law_pool) := ⟨rfl, rfl, rfl, by decide +kernel, rfl, by decide +kernel, by decide +kernel⟩
theorem sc__law_least : FnScope ["_law_low", "_law_high_here", "_law_step"] ["_law_low", "_law_high_here"] (defScope s__law_least) := ⟨rfl, rfl, rfl, by decide +kernel, rfl, by decide +kernel, by decide +kernel⟩
theorem sc__law_room : FnScope ["_law_many", "_law_step", "_law_size"] ["_law_many"] (defScope s__law_room) := ⟨rfl, rfl, rfl, by decide +kernel, rfl, by decide +kernel, by decide +kernel⟩
theorem sc__law_high : FnScope ["_law_low", "_law_high_here"] ["_law_low", "_law_high_here"] (defScope s__law_high) := ⟨rfl, rfl, rfl, by decide +kernel, rfl, by decide +kernel, by decide +kernel⟩
theorem sc__law_room_so : FnScope ["_law_pool_here", "_law_many", "_law_found", "_law_size", "_law_step", "_law_spots", "_law_low"] ["_law_pool_here", "_law_many"] (defScope s__law_room_so) := ⟨rfl, rfl, rfl, by decide +kernel, rfl, by decide +kernel, by decide +kernel⟩
theorem sc_law : FnScope ["_law_script", "_law_some", "_law_step", "_law_many", "_law_k", "_law_pool_here", "_law_turn", "_law_low", "_law_high_here"] ["_law_script"] (defScope s_law) := ⟨rfl, rfl, rfl, by decide +kernel, rfl, by decide +kernel, by decide +kernel⟩
structure Txt (K : PySem.W.Frag) (mg : Str → Option Value) : Prop where
  z_abs : mg "abs" = none
  z_bool : mg "bool" = none
  z_int : mg "int" = none
  z_isinstance : mg "isinstance" = none
  z_len : mg "len" = none
  z_list : mg "list" = none
  z_max : mg "max" = none
  z_min : mg "min" = none
  z_range : mg "range" = none
  z_sum : mg "sum" = none
  z_tuple : mg "tuple" = none
  c_CELLS : ∃ t, mg "CELLS" = some (.int 4096 t)
  c_LEAST_COUNT : ∃ t, mg "LEAST_COUNT" = some (.int 9 t)
  c_TOP_COUNT : ∃ t, mg "TOP_COUNT" = some (.int 16 t)
  c_TOP_STEP : ∃ t, mg "TOP_STEP" = some (.int 8 t)
section
variable {P : Program} {w : World} {K : PySem.W.Frag} {mg : Str → Option Value} {base : Heap}

def sp_is_whole (K : PySem.W.Frag) : Sp := fun vs H Q _ => ∃ n l m, vs = [.int n, .int l, .int m] ∧ ∀ b, (b = true ↔ l ≤ n ∧ n ≤ m) → Q (.bl b) H
theorem ok_is_whole {f : Addr} {fd : FuncData} (F : Fun K "is_whole" "is_whole" s_is_whole f fd) (T : Txt K mg) : FnOk P w K mg base CX0 1 f fd ["thing", "least", "most"] (sp_is_whole K) := by
  refine F.ok sc_is_whole (fun vs H Q E h => ?_) (fun cdv A outer s H vs Q E hr h => ?_)
  · obtain ⟨n, l, m, rfl, q⟩ := h; rfl
  · obtain ⟨n, l, m, rfl, q⟩ := h
    refine ⟨_, (pss_one (ps_ret (pe_and (pe_callB call_isi (by rfl) T.z_isinstance (by decide +kernel) (pa_cons (pv 0) (pa_cons (pe_bltn (v := .ty "int") (by rfl) T.z_int (by decide +kernel) rfl) pa_nil))) (pe_and (pe_not (pe_callB call_isi (by rfl) T.z_isinstance (by decide +kernel) (pa_cons (pv 0) (pa_cons (pe_bltn (v := .ty "bool") (by rfl) T.z_bool (by decide +kernel) rfl) pa_nil)))) (pe_one (pe_chain op_le op_le (pv 1) (pv 0) (pv 2))))))), ?_⟩
    refine ⟨_, rfl, _, _, _, _, true, rfl, .ty "int", .base (.int n), kit_ty (by decide +kernel), true, rfl, iteT ?_⟩
    refine ⟨_, rfl, _, _, _, _, false, rfl, .ty "bool", .base (.int n), kit_ty (by decide +kernel), false, rfl, true, rfl, iteT ?_⟩
    refine ⟨_, rfl, _, rfl, _, _, rfl, rfl, _, rfl, ifd (fun h1 => ?_) (fun h1 => ?_)⟩
    · refine ⟨_, rfl, _, _, rfl, rfl, q _ ?_⟩
      simp [h1]
    · refine q _ ?_
      simp; omega

def sp_are_bounds (K : PySem.W.Frag) : Sp := fun vs H Q _ => ∃ lo hi, vs = [.int lo, .int hi] ∧ ∀ b, (b = true ↔ Bd lo hi) → Q (.bl b) H
theorem ok_are_bounds {f : Addr} {fd : FuncData} (F : Fun K "are_bounds" "are_bounds" s_are_bounds f fd) (T : Txt K mg) (C_is_whole : Cal P w K mg base "is_whole" 1 ["thing", "least", "most"] (sp_is_whole K)) : FnOk P w K mg base CX0 2 f fd ["low", "high"] (sp_are_bounds K) := by
  obtain ⟨t_CELLS, hc_CELLS⟩ := T.c_CELLS
  refine F.ok sc_are_bounds (fun vs H Q E h => ?_) (fun cdv A outer s H vs Q E hr h => ?_)
  · obtain ⟨lo, hi, rfl, q⟩ := h; rfl
  · obtain ⟨lo, hi, rfl, q⟩ := h
    refine ⟨_, (pss_one (ps_ret (pe_and (pe_cal C_is_whole (hr.mono (by decide)) (pa_cons (pv 0) (pa_cons pe_int (pa_cons (pe_glob (v := .int 4096) (by rfl) hc_CELLS ⟨_, rfl⟩) pa_nil)))) (pe_and (pe_cal C_is_whole (hr.mono (by decide)) (pa_cons (pv 1) (pa_cons pe_int (pa_cons (pe_glob (v := .int 4096) (by rfl) hc_CELLS ⟨_, rfl⟩) pa_nil)))) (pe_one (pe_cmpR op_lt (pv 0) (pv 1) (nomark _))))))), ?_⟩
    refine ⟨_, rfl, _, _, _, rfl, fun b hb => ⟨_, rfl, ifb (fun e => ?_) (fun e => ?_)⟩⟩
    · refine ⟨_, rfl, _, _, _, rfl, fun c hc => ⟨_, rfl, ifb (fun e2 => ?_) (fun e2 => ?_)⟩⟩
      · refine ⟨_, rfl, _, rfl, _, _, rfl, rfl, q _ ?_⟩
        have h1 := hb.mp e
        have h2 := hc.mp e2
        unfold Bd
        simp; omega
      · refine q _ ?_
        have h1 := hb.mp e
        have h2 : ¬ (0 ≤ hi ∧ hi ≤ 4096) := fun z => by rw [hc.mpr z] at e2; cases e2
        unfold Bd
        simp; omega
    · refine q _ ?_
      have h2 : ¬ (0 ≤ lo ∧ lo ≤ 4096) := fun z => by rw [hb.mpr z] at e; cases e
      unfold Bd
      simp; omega

def sp_look_at_bounds (K : PySem.W.Frag) : Sp := fun vs H Q _ => ∃ lo hi, vs = [.int lo, .int hi] ∧ Bd lo hi ∧ Q .non H
theorem ok_look_at_bounds {f : Addr} {fd : FuncData} (F : Fun K "look_at_bounds" "look_at_bounds" s_look_at_bounds f fd) (T : Txt K mg) (C_are_bounds : Cal P w K mg base "are_bounds" 2 ["low", "high"] (sp_are_bounds K)) : FnOk P w K mg base CX0 3 f fd ["low", "high"] (sp_look_at_bounds K) := by
  refine F.ok sc_look_at_bounds (fun vs H Q E h => ?_) (fun cdv A outer s H vs Q E hr h => ?_)
  · obtain ⟨lo, hi, rfl, hb, q⟩ := h; rfl
  · obtain ⟨lo, hi, rfl, hb, q⟩ := h
    refine ⟨_, (pss_one (ps_if (pt_not (pt_val (pe_cal C_are_bounds (hr.mono (by decide)) (pa_cons (pv 0) (pa_cons (pv 1) pa_nil))))) (pss_one ps_never) pss_nil)), ?_⟩
    refine ⟨_, rfl, _, rfl, lo, hi, rfl, fun b hb2 => ⟨_, rfl, ?_⟩⟩
    have e : b = true := hb2.mpr hb
    subst e
    exact q

def sp__steps_over (K : PySem.W.Frag) : Sp := fun vs H Q _ => ∃ (lo hi : Int) (s : Nat), vs = [.int lo, .int hi, .int s] ∧ s ≤ 1000 ∧ Q (.int (Dd lo hi s + 1)) H
theorem ok__steps_over {f : Addr} {fd : FuncData} (F : Fun K "_steps_over" "_steps_over" s__steps_over f fd) (T : Txt K mg) : FnOk P w K mg base CX0 1 f fd ["low", "high", "step"] (sp__steps_over K) := by
  refine F.ok sc__steps_over (fun vs H Q E h => ?_) (fun cdv A outer s H vs Q E hr h => ?_)
  · obtain ⟨lo, hi, s, rfl, hs, q⟩ := h; rfl
  · obtain ⟨lo, hi, s, rfl, hs, q⟩ := h
    refine ⟨_, (pss_cons (ps_set (i := 3) sc__steps_over.nd rfl (.inl rfl) (pe_op op_shr (pv 0) (pv 2)))
      (pss_cons (ps_set (i := 4) sc__steps_over.nd rfl (.inl rfl) (pe_op op_shr (pe_op op_sub (pe_op op_add (pv 1) (pe_op op_shl pe_int (pv 2))) pe_int) (pv 2)))
      (pss_one (ps_ret (pe_op op_sub (pv 4) (pv 3)))))), ?_⟩
    walk_at "g"
    rw [← over_eq] at q
    exact q

def sp_in_bits (K : PySem.W.Frag) : Sp := fun vs H Q _ => ∃ lo hi, vs = [.int lo, .int hi] ∧ Bd lo hi ∧ ∀ (s : Nat) p, StepIs lo hi s → H p = none → Q (.ref p) (upd H p (.tup [.int s, .int (lo / 2 ^ s), .int (Dd lo hi s + 1)]))
theorem ok_in_bits {f : Addr} {fd : FuncData} (F : Fun K "in_bits" "in_bits" s_in_bits f fd) (T : Txt K mg) (C_look_at_bounds : Cal P w K mg base "look_at_bounds" 3 ["low", "high"] (sp_look_at_bounds K)) (C__steps_over : Cal P w K mg base "_steps_over" 1 ["low", "high", "step"] (sp__steps_over K)) : FnOk P w K mg base CX0 4 f fd ["low", "high"] (sp_in_bits K) := by
  obtain ⟨t_TOP_COUNT, hc_TOP_COUNT⟩ := T.c_TOP_COUNT
  refine F.ok sc_in_bits (fun vs H Q E h => ?_) (fun cdv A outer s H vs Q E hr h => ?_)
  · obtain ⟨lo, hi, rfl, hb, q⟩ := h; rfl
  · obtain ⟨lo, hi, rfl, hb, q⟩ := h
    refine ⟨_, (pss_cons (ps_expr (pe_cal C_look_at_bounds (hr.mono (by decide)) (pa_cons (pv 0) (pa_cons (pv 1) pa_nil))))
      (pss_cons (ps_set (i := 2) sc_in_bits.nd rfl (.inl rfl) pe_int)
      (pss_cons (ps_while PassesOwn.never (pt_cmpR op_gt (pe_cal C__steps_over (hr.mono (by decide)) (pa_cons (pv 0) (pa_cons (pv 1) (pa_cons (pv 2) pa_nil)))) (pe_glob (v := .int 16) (by rfl) hc_TOP_COUNT ⟨_, rfl⟩) (nomark _)) (pss_one (ps_aug (i := 2) sc_in_bits.nd rfl (.inl rfl) pe_int ip_add)))
      (pss_one (ps_ret (pe_tup (pa_cons (pv 2) (pa_cons (pe_op op_shr (pv 0) (pv 2)) (pa_cons (pe_cal C__steps_over (hr.mono (by decide)) (pa_cons (pv 0) (pa_cons (pv 1) (pa_cons (pv 2) pa_nil)))) pa_nil))))))))), ?_⟩
    refine ⟨_, rfl, _, rfl, lo, hi, rfl, hb, ?_⟩
    refine ⟨fun m σ H' => ∃ s : Nat, σ = [some (.int lo), some (.int hi), some (.int s)] ∧ H' = H ∧ s ≤ 8 ∧ m = 8 - s ∧ ∀ t, t < s → 15 < Dd lo hi t, ⟨8, 0, rfl, rfl, by omega, rfl, fun t ht => by omega⟩, ?_⟩
    rintro m σ H' ⟨s, rfl, rfl, h8, em, hbl⟩
    refine ⟨_, rfl, _, rfl, _, rfl, lo, hi, s, rfl, by omega, ?_⟩
    refine ⟨_, _, rfl, rfl, _, rfl, ifd (fun c => ?_) (fun c => ?_)⟩
    · have l8 := lt8 hb (by omega) h8
      refine ⟨_, fun _ _ h => h, ?_⟩
      refine ⟨_, rfl, _, _, rfl, rfl, 8 - (s + 1), by omega, s + 1, rfl, rfl, by omega, rfl, fun t ht => ?_⟩
      rcases Nat.lt_or_ge t s with d | d
      · exact hbl t d
      · have : t = s := by omega
        subst this; omega
    · refine ⟨_, rfl, _, rfl, _, rfl, _, _, rfl, rfl, by omega, ?_⟩
      refine ⟨_, rfl, _, rfl, _, rfl, lo, hi, s, rfl, by omega, ?_⟩
      refine ⟨sz (by simp), fun p hp => ?_⟩
      exact q s p ⟨h8, by omega, hbl⟩ hp

def sp_least_bounds (K : PySem.W.Frag) : Sp := fun vs H Q _ => ∃ lo hi, vs = [.int lo, .int hi] ∧ Bd lo hi ∧ ∀ (s : Nat) p H', StepIs lo hi s → Same H H' → H p = none → H' p = some (.tup [.int (lo / 2 ^ s * 2 ^ s), .int (((hi - 1) / 2 ^ s + 1) * 2 ^ s)]) → Q (.ref p) H'
theorem ok_least_bounds {f : Addr} {fd : FuncData} (F : Fun K "least_bounds" "least_bounds" s_least_bounds f fd) (T : Txt K mg) (C_in_bits : Cal P w K mg base "in_bits" 4 ["low", "high"] (sp_in_bits K)) : FnOk P w K mg base CX0 5 f fd ["low", "high"] (sp_least_bounds K) := by
  refine F.ok sc_least_bounds (fun vs H Q E h => ?_) (fun cdv A outer s H vs Q E hr h => ?_)
  · obtain ⟨lo, hi, rfl, hb, q⟩ := h; rfl
  · obtain ⟨lo, hi, rfl, hb, q⟩ := h
    refine ⟨_, (pss_cons (ps_asg (pe_cal C_in_bits (hr.mono (by decide)) (pa_cons (pv 0) (pa_cons (pv 1) pa_nil))) (pg_tup rfl (pgs_cons (pg_name (i := 2) sc_least_bounds.nd rfl (.inl rfl)) (pgs_cons (pg_name (i := 3) sc_least_bounds.nd rfl (.inl rfl)) (pgs_cons (pg_name (i := 4) sc_least_bounds.nd rfl (.inl rfl)) pgs_nil)))))
      (pss_one (ps_ret (pe_tup (pa_cons (pe_op op_shl (pv 3) (pv 2)) (pa_cons (pe_op op_shl (pe_op op_add (pv 3) (pv 4)) (pv 2)) pa_nil)))))), ?_⟩
    refine ⟨_, rfl, _, rfl, lo, hi, rfl, hb, fun s p hs hp => ?_⟩
    refine ⟨p, _, rfl, .of upd_same, rfl, _, _, rfl, _, _, rfl, _, _, rfl, rfl, ?_⟩
    have h8 := hs.1
    refine ⟨_, rfl, _, rfl, _, _, rfl, rfl, bc hb h8, ?_⟩
    refine ⟨_, rfl, _, rfl, _, _, rfl, rfl, _, rfl, _, _, rfl, rfl, bc2 hb hs, sz (by simp), fun p2 hp2 => ?_⟩
    have n : p ≠ p2 := ne_of_none upd_same hp2
    refine q s p2 _ hs (sameN (same_new hp) hp2) ?_ ?_
    · exact Same.free (same_new hp) hp2
    · rw [upd_same, first_over]; rfl

def sp_is_exact (K : PySem.W.Frag) : Sp := fun vs H Q _ => ∃ lo hi, vs = [.int lo, .int hi] ∧ Bd lo hi ∧ ∀ b H', Same H H' → (b = true ↔ ∃ s, Ex lo hi s) → Q (.bl b) H'
theorem ok_is_exact {f : Addr} {fd : FuncData} (F : Fun K "is_exact" "is_exact" s_is_exact f fd) (T : Txt K mg) (C_least_bounds : Cal P w K mg base "least_bounds" 5 ["low", "high"] (sp_least_bounds K)) : FnOk P w K mg base CX0 6 f fd ["low", "high"] (sp_is_exact K) := by
  refine F.ok sc_is_exact (fun vs H Q E h => ?_) (fun cdv A outer s H vs Q E hr h => ?_)
  · obtain ⟨lo, hi, rfl, hb, q⟩ := h; rfl
  · obtain ⟨lo, hi, rfl, hb, q⟩ := h
    refine ⟨_, (pss_one (ps_ret (pe_cmpR (r := rEqD K) (op_eqD hr.units) (pe_cal C_least_bounds (hr.mono (by decide)) (pa_cons (pv 0) (pa_cons (pv 1) pa_nil))) (pe_tup (pa_cons (pv 0) (pa_cons (pv 1) pa_nil))) (nomark _)))), ?_⟩
    refine ⟨_, rfl, _, rfl, lo, hi, rfl, hb, fun s p H1 hs sm hp hp1 => ?_⟩
    refine ⟨_, rfl, _, rfl, sz (by simp), fun p2 hp2 => ?_⟩
    have n : p ≠ p2 := ne_of_none hp1 hp2
    refine ⟨_, _, dp2 (by walk_at "at"), dp2 upd_same, rfl, rfl, ?_⟩
    refine q _ _ (sameN sm hp2) ?_
    rw [t2_eqv]
    constructor
    · intro e; exact ⟨s, hs, e.1, e.2⟩
    · rintro ⟨t, ht, e1, e2⟩
      have : t = s := ht.uniq hs
      subst this
      exact ⟨e1, e2⟩

def sp_room_of (K : PySem.W.Frag) : Sp := fun vs H Q _ => ∃ n, vs = [.int n] ∧ Bd 0 n ∧ ∀ (s : Nat) p H', StepIs 0 n s → Same H H' → H p = none → H' p = some (.tup [.int (((n - 1) / 2 ^ s + 1) * 2 ^ s), .int s]) → Q (.ref p) H'
theorem ok_room_of {f : Addr} {fd : FuncData} (F : Fun K "room_of" "room_of" s_room_of f fd) (T : Txt K mg) (C_in_bits : Cal P w K mg base "in_bits" 4 ["low", "high"] (sp_in_bits K)) : FnOk P w K mg base CX0 5 f fd ["many"] (sp_room_of K) := by
  refine F.ok sc_room_of (fun vs H Q E h => ?_) (fun cdv A outer s H vs Q E hr h => ?_)
  · obtain ⟨n, rfl, hb, q⟩ := h; rfl
  · obtain ⟨n, rfl, hb, q⟩ := h
    refine ⟨_, (pss_cons (ps_asg (pe_cal C_in_bits (hr.mono (by decide)) (pa_cons pe_int (pa_cons (pv 0) pa_nil))) (pg_tup rfl (pgs_cons (pg_name (i := 1) sc_room_of.nd rfl (.inl rfl)) (pgs_cons (pg_name (i := 2) sc_room_of.nd rfl (.inl rfl)) (pgs_cons (pg_name (i := 3) sc_room_of.nd rfl (.inl rfl)) pgs_nil)))))
      (pss_one (ps_ret (pe_tup (pa_cons (pe_op op_shl (pv 3) (pv 1)) (pa_cons (pv 1) pa_nil)))))), ?_⟩
    refine ⟨_, rfl, 0, n, rfl, hb, fun s p hs hp => ?_⟩
    refine ⟨p, _, rfl, .of upd_same, rfl, _, _, rfl, _, _, rfl, _, _, rfl, rfl, ?_⟩
    have h8 := hs.1
    refine ⟨_, rfl, _, rfl, _, _, rfl, rfl, bc3 hs hb, _, rfl, sz (by simp), fun p2 hp2 => ?_⟩
    refine q s p2 _ hs (sameN (same_new hp) hp2) (Same.free (same_new hp) hp2) ?_
    rw [upd_same, dd0]; rfl

def sp__can_begin (K : PySem.W.Frag) : Sp := fun vs H Q _ => ∃ (lo hi : Int) (s : Nat), vs = [.int lo, .int hi, .int s] ∧ s ≤ 1000 ∧ ∀ b, (b = true ↔ Can lo hi s) → Q (.bl b) H
theorem ok__can_begin {f : Addr} {fd : FuncData} (F : Fun K "_can_begin" "_can_begin" s__can_begin f fd) (T : Txt K mg) : FnOk P w K mg base CX0 1 f fd ["low", "high", "step"] (sp__can_begin K) := by
  obtain ⟨t_LEAST_COUNT, hc_LEAST_COUNT⟩ := T.c_LEAST_COUNT
  refine F.ok sc__can_begin (fun vs H Q E h => ?_) (fun cdv A outer s H vs Q E hr h => ?_)
  · obtain ⟨lo, hi, s, rfl, hs, q⟩ := h; rfl
  · obtain ⟨lo, hi, s, rfl, hs, q⟩ := h
    refine ⟨_, (pss_one (ps_ret (pe_and (pe_cmpR op_eq (pe_op op_mod (pv 0) (pe_op op_shl pe_int (pv 2))) pe_int (nomark _)) (pe_one (pe_cmpR op_ge (pe_op op_shr (pe_op op_sub (pv 1) (pv 0)) (pv 2)) (pe_glob (v := .int 9) (by rfl) hc_LEAST_COUNT ⟨_, rfl⟩) (nomark _)))))), ?_⟩
    refine ⟨_, rfl, _, rfl, _, _, rfl, rfl, ⟨by omega, by omega, by decide⟩, _, _, rfl, rfl, by show (0 : Int) < 1 * 2 ^ s; have := pow_pos2 s; omega, rfl, _, rfl, ifd (fun e => ?_) (fun e => ?_)⟩
    · refine ⟨_, rfl, _, rfl, _, _, rfl, rfl, _, rfl, _, _, rfl, rfl, by omega, _, _, rfl, rfl, q _ ?_⟩
      have e1 : lo % (1 * 2 ^ s) = 0 := V.int.inj e
      rw [Int.one_mul] at e1
      rw [decide_eq_true_iff]
      exact ⟨fun h => ⟨e1, h⟩, fun h => h.2⟩
    · refine q _ ?_
      have e1 : ¬ lo % (1 * 2 ^ s) = 0 := fun z => e (by rw [← z]; rfl)
      rw [Int.one_mul] at e1
      exact ⟨fun h => Bool.noConfusion h, fun h => absurd h.1 e1⟩

def sp_greatest_high (K : PySem.W.Frag) : Sp := fun vs H Q _ => ∃ lo hi, vs = [.int lo, .int hi] ∧ Bd lo hi ∧ ∀ s : Nat, GH lo hi s → Q (.int (lo + mn lo hi s * 2 ^ s)) H
theorem ok_greatest_high {f : Addr} {fd : FuncData} (F : Fun K "greatest_high" "greatest_high" s_greatest_high f fd) (T : Txt K mg) (C_look_at_bounds : Cal P w K mg base "look_at_bounds" 3 ["low", "high"] (sp_look_at_bounds K)) (C__can_begin : Cal P w K mg base "_can_begin" 1 ["low", "high", "step"] (sp__can_begin K)) : FnOk P w K mg base CX0 4 f fd ["low", "high"] (sp_greatest_high K) := by
  obtain ⟨t_TOP_COUNT, hc_TOP_COUNT⟩ := T.c_TOP_COUNT
  obtain ⟨t_TOP_STEP, hc_TOP_STEP⟩ := T.c_TOP_STEP
  refine F.ok sc_greatest_high (fun vs H Q E h => ?_) (fun cdv A outer s H vs Q E hr h => ?_)
  · obtain ⟨lo, hi, rfl, hb, q⟩ := h; rfl
  · obtain ⟨lo, hi, rfl, hb, q⟩ := h
    refine ⟨_, (pss_cons (ps_expr (pe_cal C_look_at_bounds (hr.mono (by decide)) (pa_cons (pv 0) (pa_cons (pv 1) pa_nil))))
      (pss_cons (ps_set (i := 2) sc_greatest_high.nd rfl (.inl rfl) (pe_glob (v := .int 8) (by rfl) hc_TOP_STEP ⟨_, rfl⟩))
      (pss_cons (ps_while PassesOwn.never (PW.pt (pw_and (pt_cmpR op_gt (pv 2) pe_int (nomark _)) (pw_and1 (pt_not (pt_val (pe_cal C__can_begin (hr.mono (by decide)) (pa_cons (pv 0) (pa_cons (pv 1) (pa_cons (pv 2) pa_nil))))))))) (pss_one (ps_aug (i := 2) sc_greatest_high.nd rfl (.inl rfl) pe_int ip_sub)))
      (pss_one (ps_ret (pe_op op_add (pv 0) (pe_op op_shl (pe_callB (call_min2 rfl) (by rfl) T.z_min (by decide +kernel) (pa_cons (pe_glob (v := .int 16) (by rfl) hc_TOP_COUNT ⟨_, rfl⟩) (pa_cons (pe_op op_shr (pe_op op_sub (pv 1) (pv 0)) (pv 2)) pa_nil))) (pv 2)))))))), ?_⟩
    refine ⟨_, rfl, _, rfl, lo, hi, rfl, hb, ?_⟩
    refine ⟨fun m σ H' => ∃ s : Nat, σ = [some (.int lo), some (.int hi), some (.int s)] ∧ H' = H ∧ s ≤ 8 ∧ m = s ∧ ∀ t, s < t → t ≤ 8 → ¬ Can lo hi t, ⟨8, 8, rfl, rfl, by omega, rfl, fun t h1 h2 => by omega⟩, ?_⟩
    rintro m σ H' ⟨s, rfl, rfl, h8, em, hbl⟩
    have fin : (s = 0 ∨ Can lo hi s) → Q (.int (lo + mn lo hi s * 2 ^ s)) H' := fun z => q s ⟨h8, z, hbl⟩
    refine ⟨_, rfl, _, _, rfl, rfl, _, rfl, ifd (fun c => ?_) (fun c => ?_)⟩
    · refine ⟨_, rfl, _, rfl, _, rfl, lo, hi, s, rfl, by omega, fun b hb2 => ⟨_, rfl, ifnb (fun e => ?_) (fun e => ?_)⟩⟩
      · refine ⟨_, fun _ _ h => h, ?_⟩
        refine ⟨_, rfl, _, _, rfl, rfl, s - 1, (by have c2 : (0 : Int) < (s : Int) := c; omega), s - 1, ?_, rfl, by omega, rfl, fun t ht h8 => ?_⟩
        · have z : ((s - 1 : Nat) : Int) = (s : Int) - 1 := by have c2 : (0 : Int) < (s : Int) := c; omega
          rw [z]; rfl
        · rcases Nat.lt_or_ge s t with d | d
          · exact hbl t d h8
          · have : t = s := by omega
            subst this
            intro z
            rw [hb2.mpr z] at e; cases e
      · refine ⟨_, rfl, _, rfl, _, rfl, _, _, rfl, rfl, _, rfl, _, _, rfl, rfl, by omega, _, _, rfl, _, rfl, _, _, rfl, rfl, cmn hb h8, _, _, rfl, rfl, fin (.inr (hb2.mp e))⟩
    · refine ⟨_, rfl, _, rfl, _, rfl, _, _, rfl, rfl, _, rfl, _, _, rfl, rfl, by omega, _, _, rfl, _, rfl, _, _, rfl, rfl, cmn hb h8, _, _, rfl, rfl, fin (.inl (by have c2 : ¬ ((0 : Int) < (s : Int)) := c; omega))⟩

def sp__law_take (K : PySem.W.Frag) : Sp := fun vs H Q _ => ∃ (a : Addr) (x y m : Int), vs = [.ref a, .int m] ∧ Pool H a x y ∧ 0 < m ∧ m < 1073741824 ∧ ∀ r x1 y1, 0 ≤ r → r < m → Pool (upd H a (.lst [.int x1, .int y1])) a x1 y1 → Q (.int r) (upd H a (.lst [.int x1, .int y1]))
theorem ok__law_take {f : Addr} {fd : FuncData} (F : Fun K "_law_take" "_law_take" s__law_take f fd) (T : Txt K mg) : FnOk P w K mg base CX0 1 f fd ["_law_pool_here", "_law_many"] (sp__law_take K) := by
  refine F.ok sc__law_take (fun vs H Q E h => ?_) (fun cdv A outer s H vs Q E hr h => ?_)
  · obtain ⟨a, x, y, m, rfl, hp, hm, hm2, q⟩ := h; rfl
  · obtain ⟨a, x, y, m, rfl, hp, hm, hm2, q⟩ := h
    refine ⟨_, (pss_cons (ps_if (pt_cmpR op_gt (pe_ix (r := rIxL K) ix_list (pv 0) pe_int (fun _ _ => rfl)) pe_int (nomark _)) (pss_cons (ps_set (i := 2) sc__law_take.nd rfl (.inl rfl) (pe_op op_mod (pe_ix (r := rIxL K) ix_list (pv 0) pe_int (fun _ _ => rfl)) (pv 1)))
      (pss_cons (ps_asg (pe_op op_fdiv (pe_ix (r := rIxL K) ix_list (pv 0) pe_int (fun _ _ => rfl)) (pv 1)) (pg_sub (pv 0) pe_int set_list))
      (pss_one (ps_ret (pv 2))))) pss_nil)
      (pss_cons (ps_asg (pe_op op_mod (pe_op op_add (pe_op op_mul (pe_ix (r := rIxL K) ix_list (pv 0) pe_int (fun _ _ => rfl)) pe_int) pe_int) pe_int) (pg_sub (pv 0) pe_int set_list))
      (pss_one (ps_ret (pe_op op_mod (pe_op op_fdiv (pe_op op_mod (pe_op op_mul (pe_ix (r := rIxL K) ix_list (pv 0) pe_int (fun _ _ => rfl)) (pe_ix (r := rIxL K) ix_list (pv 0) pe_int (fun _ _ => rfl))) pe_int) pe_int) (pv 1)))))), ?_⟩
    obtain ⟨hp, x0, y0, y1⟩ := hp
    refine ⟨_, rfl, a, _, 0, _, rfl, rfl, .of hp, atI_nat (j := 0) rfl, _, _, rfl, rfl, _, rfl, ifd (fun c => ?_) (fun c => ?_)⟩
    · refine ⟨_, rfl, a, _, 0, _, rfl, rfl, .of hp, atI_nat (j := 0) rfl, _, rfl, _, _, rfl, rfl, hm, ?_⟩
      refine ⟨_, rfl, a, _, 0, _, rfl, rfl, .of hp, atI_nat (j := 0) rfl, _, rfl, _, _, rfl, rfl, ⟨hm, hm2⟩, ?_⟩
      refine ⟨_, rfl, a, _, 0, 0, rfl, rfl, hp, rfl, ?_⟩
      refine ⟨_, rfl, q (x % m) (x / m) y (Int.emod_nonneg _ (by omega)) (Int.emod_lt_of_pos _ hm) ⟨upd_same, Int.ediv_nonneg x0 (by omega), y0, y1⟩⟩
    · refine ⟨_, rfl, a, _, 1, _, rfl, rfl, .of hp, atI_nat (j := 1) rfl, _, _, rfl, rfl, .inr ⟨by decide, by decide⟩, _, _, rfl, rfl, _, _, rfl, rfl, (by show (0 : Int) < _; decide), ?_⟩
      refine ⟨_, rfl, a, _, 1, 1, rfl, rfl, hp, rfl, ?_⟩
      have u1 : 0 ≤ (y * 48271 + 11) % 2147483647 := Int.emod_nonneg _ (by decide)
      have u2 : (y * 48271 + 11) % 2147483647 < 2147483647 := Int.emod_lt_of_pos _ (by decide)
      refine ⟨_, rfl, a, _, 1, _, rfl, rfl, .of upd_same, atI_nat (j := 1) rfl, _, rfl, a, _, 1, _, rfl, rfl, .of upd_same, atI_nat (j := 1) rfl, _, _, rfl, rfl, .inl ⟨by omega, by omega⟩, _, _, rfl, rfl, (by show (0 : Int) < _; decide), _, _, rfl, rfl, ⟨by decide, by decide⟩, _, rfl, _, _, rfl, rfl, hm, ?_⟩
      exact q _ x ((y * 48271 + 11) % 2147483647) (Int.emod_nonneg _ (by omega)) (Int.emod_lt_of_pos _ hm) ⟨upd_same, x0, u1, u2⟩

def sp__law_pool (K : PySem.W.Frag) : Sp := fun vs H Q _ => ∃ (a : Addr) (ns : List Int) (k : Nat), vs = [.ref a, .int k] ∧ SqL K H a (ns.map V.int) ∧ ns.length ≤ 63 ∧ k ≤ 63 ∧ ∀ x y p H', Same H H' → H p = none → Pool H' p x y → Q (.ref p) H'
theorem ok__law_pool {f : Addr} {fd : FuncData} (F : Fun K "_law_pool" "_law_pool" s__law_pool f fd) (T : Txt K mg) : FnOk P w K mg base CX0 1 f fd ["_law_script", "_law_k"] (sp__law_pool K) := by
  refine F.ok sc__law_pool (fun vs H Q E h => ?_) (fun cdv A outer s H vs Q E hr h => ?_)
  · obtain ⟨a, ns, k, rfl, hS, hlen, hk, q⟩ := h; rfl
  · obtain ⟨a, ns, k, rfl, hS, hlen, hk, q⟩ := h
    refine ⟨_, (pss_cons (ps_set (i := 2) sc__law_pool.nd rfl (.inl rfl) (pe_op op_add (pe_op op_mul pe_int (pe_callB (cr_sum rfl) (by rfl) T.z_sum (by decide +kernel) (pa_cons (pe_slice sl_list (pv 0) po_none (po_some pe_int)) pa_nil))) (pv 1)))
      (pss_cons (ps_if (pt_cmpR op_lt (pv 1) (pe_callB call_len_seq (by rfl) T.z_len (by decide +kernel) (pa_cons (pv 0) pa_nil)) (nomark _)) (pss_one (ps_set (i := 2) sc__law_pool.nd rfl (.inl rfl) (pe_ix (r := rIxL K) ix_list (pv 0) (pv 1) (fun _ _ => rfl)))) pss_nil)
      (pss_cons (ps_set (i := 3) sc__law_pool.nd rfl (.inl rfl) (pe_callB call_abs (by rfl) T.z_abs (by decide +kernel) (pa_cons (pv 2) pa_nil)))
      (pss_cons (ps_set (i := 4) sc__law_pool.nd rfl (.inl rfl) (pe_op op_mod (pe_op op_mul (pe_op op_add (pe_op op_add (pe_op op_add (pe_op op_mod (pv 3) pe_int) (pe_op op_mul (pe_op op_mul pe_int (pv 1)) (pv 1))) (pe_op op_mul pe_int (pv 1))) pe_int) pe_int) pe_int))
      (pss_one (ps_ret (pe_lst (pa_cons (pe_op op_mul (pv 3) (pe_callTy call_int1 (by rfl) T.z_int (by decide +kernel) (pa_cons (pe_cmpR op_ge (pv 3) (pe_op op_pow pe_int pe_int) (nomark _)) pa_nil))) (pa_cons (pe_op op_mod (pe_op op_mul (pv 4) (pv 4)) pe_int) pa_nil))))))))), ?_⟩
    refine ⟨_, rfl, _, rfl, a, _, rfl, hS, fun p hp => ?_⟩
    have s1 : Same H (upd H p (.lst (cutV (ns.map V.int) none (some 63)))) := same_new hp
    have hS1 : SqL K (upd H p (.lst (cutV (ns.map V.int) none (some 63)))) a (ns.map V.int) := s1.seq hS
    refine ⟨p, ns, rfl, .of (by rw [upd_same, cut63 hlen]), _, _, rfl, rfl, .inl ⟨by decide, by decide⟩, _, rfl, _, _, rfl, rfl, ?_⟩
    refine ⟨_, rfl, _, rfl, a, _, rfl, .inl hS1, _, _, rfl, rfl, _, rfl, ifd (fun c => ?_) (fun c => ?_)⟩
    · rw [List.length_map] at c
      have hk2 : k < ns.length := by omega
      refine ⟨_, rfl, _, rfl, a, _, (k : Int), .int ns[k], rfl, rfl, hS1, atI_nat (by rw [List.getElem?_map, List.getElem?_eq_getElem hk2]; rfl), ?_⟩
      refine ⟨_, rfl, _, rfl, ?_⟩
      refine ⟨_, rfl, _, _, rfl, rfl, (by show (0 : Int) < _; decide), _, rfl, _, _, rfl, rfl, .inl ⟨by decide, by decide⟩, _, rfl, _, _, rfl, rfl, .inr ⟨by omega, by omega⟩, _, _, rfl, rfl, _, rfl, _, _, rfl, rfl, .inl ⟨by decide, by decide⟩, _, _, rfl, rfl, _, _, rfl, rfl, _, _, rfl, rfl, .inr ⟨by decide, by decide⟩, _, _, rfl, rfl, (by show (0 : Int) < _; decide), ?_⟩
      refine ⟨_, rfl, _, rfl, _, _, rfl, rfl, ⟨by decide, by decide, by decide⟩, _, _, rfl, rfl, .inr ⟨_, rfl, _, _, rfl, rfl, .inr (b01 _), ?_⟩⟩
      refine ⟨_, rfl, _, rfl, _, _, rfl, rfl, .inl (mixb _), _, _, rfl, rfl, (by show (0 : Int) < _; decide), sz (by simp), fun p2 hp2 => ?_⟩
      exact q _ _ p2 _ (sameN s1 hp2) (Same.free s1 hp2) ⟨upd_same, sizeb _ _, Int.emod_nonneg _ (by decide), Int.lt_trans (Int.emod_lt_of_pos _ (by decide)) (by decide)⟩
    · refine ⟨_, rfl, _, rfl, ?_⟩
      refine ⟨_, rfl, _, _, rfl, rfl, (by show (0 : Int) < _; decide), _, rfl, _, _, rfl, rfl, .inl ⟨by decide, by decide⟩, _, rfl, _, _, rfl, rfl, .inr ⟨by omega, by omega⟩, _, _, rfl, rfl, _, rfl, _, _, rfl, rfl, .inl ⟨by decide, by decide⟩, _, _, rfl, rfl, _, _, rfl, rfl, _, _, rfl, rfl, .inr ⟨by decide, by decide⟩, _, _, rfl, rfl, (by show (0 : Int) < _; decide), ?_⟩
      refine ⟨_, rfl, _, rfl, _, _, rfl, rfl, ⟨by decide, by decide, by decide⟩, _, _, rfl, rfl, .inr ⟨_, rfl, _, _, rfl, rfl, .inr (b01 _), ?_⟩⟩
      refine ⟨_, rfl, _, rfl, _, _, rfl, rfl, .inl (mixb _), _, _, rfl, rfl, (by show (0 : Int) < _; decide), sz (by simp), fun p2 hp2 => ?_⟩
      exact q _ _ p2 _ (sameN s1 hp2) (Same.free s1 hp2) ⟨upd_same, sizeb _ _, Int.emod_nonneg _ (by decide), Int.lt_trans (Int.emod_lt_of_pos _ (by decide)) (by decide)⟩

def sp__law_least (K : PySem.W.Frag) : Sp := fun vs H Q _ => ∃ lo hi, vs = [.int lo, .int hi] ∧ Bd lo hi ∧ ∀ (s : Nat) p, StepIs lo hi s → H p = none → Q (.ref p) (upd H p (.tup [.int (lo / 2 ^ s * 2 ^ s), .int (((hi - 1) / 2 ^ s + 1) * 2 ^ s), .int s]))
theorem ok__law_least {f : Addr} {fd : FuncData} (F : Fun K "_law_least" "_law_least" s__law_least f fd) (T : Txt K mg) : FnOk P w K mg base CX0 1 f fd ["_law_low", "_law_high_here"] (sp__law_least K) := by
  refine F.ok sc__law_least (fun vs H Q E h => ?_) (fun cdv A outer s H vs Q E hr h => ?_)
  · obtain ⟨lo, hi, rfl, hb, q⟩ := h; rfl
  · obtain ⟨lo, hi, rfl, hb, q⟩ := h
    refine ⟨_, (pss_cons (ps_set (i := 2) sc__law_least.nd rfl (.inl rfl) pe_int)
      (pss_cons (ps_while PassesOwn.never (pt_cmpR op_gt (pe_op op_sub (pe_op op_shr (pe_op op_sub (pv 1) pe_int) (pv 2)) (pe_op op_shr (pv 0) (pv 2))) pe_int (nomark _)) (pss_one (ps_set (i := 2) sc__law_least.nd rfl (.inl rfl) (pe_op op_add (pv 2) pe_int))))
      (pss_one (ps_ret (pe_tup (pa_cons (pe_op op_shl (pe_op op_shr (pv 0) (pv 2)) (pv 2)) (pa_cons (pe_op op_shl (pe_op op_add (pe_op op_shr (pe_op op_sub (pv 1) pe_int) (pv 2)) pe_int) (pv 2)) (pa_cons (pv 2) pa_nil)))))))), ?_⟩
    refine ⟨fun m σ H' => ∃ s : Nat, σ = [some (.int lo), some (.int hi), some (.int s)] ∧ H' = H ∧ s ≤ 8 ∧ m = 8 - s ∧ ∀ t, t < s → 15 < Dd lo hi t, ⟨8, 0, rfl, rfl, by omega, rfl, fun t ht => by omega⟩, ?_⟩
    rintro m σ H' ⟨s, rfl, rfl, h8, em, hbl⟩
    refine ⟨_, rfl, _, _, rfl, rfl, _, rfl, _, _, rfl, rfl, by omega, _, rfl, _, rfl, _, _, rfl, rfl, by omega, _, _, rfl, rfl, _, _, rfl, rfl, _, rfl, ifd (fun c => ?_) (fun c => ?_)⟩
    · have c2 : 15 < Dd lo hi s := c
      have l8 := lt8 hb c2 h8
      refine ⟨_, fun _ _ h => h, ?_⟩
      refine ⟨_, rfl, _, _, rfl, rfl, 8 - (s + 1), by omega, s + 1, rfl, rfl, by omega, rfl, fun t ht => ?_⟩
      rcases Nat.lt_or_ge t s with d | d
      · exact hbl t d
      · have : t = s := by omega
        subst this; exact c2
    · have c2 : ¬ 15 < Dd lo hi s := c
      refine ⟨_, rfl, _, rfl, _, _, rfl, rfl, by omega, _, rfl, _, _, rfl, rfl, bc hb h8, _, rfl, _, _, rfl, rfl, _, rfl, _, _, rfl, rfl, by omega, _, _, rfl, rfl, _, rfl, _, _, rfl, rfl, bc4 hb h8, _, rfl, sz (by simp), fun p hp => ?_⟩
      exact q s p ⟨h8, by omega, hbl⟩ hp

def sp__law_room (K : PySem.W.Frag) : Sp := fun vs H Q _ => ∃ n, vs = [.int n] ∧ Bd 0 n ∧ ∀ (s : Nat) p, StepIs 0 n s → H p = none → Q (.ref p) (upd H p (.tup [.int (((n - 1) / 2 ^ s + 1) * 2 ^ s), .int s]))
theorem ok__law_room {f : Addr} {fd : FuncData} (F : Fun K "_law_room" "_law_room" s__law_room f fd) (T : Txt K mg) : FnOk P w K mg base CX0 1 f fd ["_law_many"] (sp__law_room K) := by
  refine F.ok sc__law_room (fun vs H Q E h => ?_) (fun cdv A outer s H vs Q E hr h => ?_)
  · obtain ⟨n, rfl, hb, q⟩ := h; rfl
  · obtain ⟨n, rfl, hb, q⟩ := h
    refine ⟨_, (pss_cons (ps_set (i := 1) sc__law_room.nd rfl (.inl rfl) pe_int)
      (pss_cons (ps_while PassesOwn.never (pt_cmpR op_lt (pe_op op_shl pe_int (pv 1)) (pv 0) (nomark _)) (pss_one (ps_set (i := 1) sc__law_room.nd rfl (.inl rfl) (pe_op op_add (pv 1) pe_int))))
      (pss_cons (ps_set (i := 2) sc__law_room.nd rfl (.inl rfl) (pv 0))
      (pss_cons (ps_while PassesOwn.never (pt_cmpR op_ne (pe_op op_shl (pe_op op_shr (pv 2) (pv 1)) (pv 1)) (pv 2) (nomark _)) (pss_one (ps_set (i := 2) sc__law_room.nd rfl (.inl rfl) (pe_op op_add (pv 2) pe_int))))
      (pss_one (ps_ret (pe_tup (pa_cons (pv 2) (pa_cons (pv 1) pa_nil))))))))), ?_⟩
    refine ⟨fun m σ H' => ∃ s : Nat, σ = [some (.int n), some (.int s), none] ∧ H' = H ∧ s ≤ 8 ∧ m = 8 - s ∧ ∀ t, t < s → 16 * 2 ^ t < n, ⟨8, 0, rfl, rfl, by omega, rfl, fun t ht => by omega⟩, ?_⟩
    rintro m σ H' ⟨s, rfl, rfl, h8, em, hbl⟩
    refine ⟨_, rfl, _, _, rfl, rfl, ⟨by omega, by omega, by decide⟩, _, rfl, _, _, rfl, rfl, _, rfl, ifd (fun c => ?_) (fun c => ?_)⟩
    · have c2 : 16 * 2 ^ s < n := c
      have l8 := up16 hb h8 c2
      refine ⟨_, fun _ _ h => h, ?_⟩
      refine ⟨_, rfl, _, _, rfl, rfl, 8 - (s + 1), by omega, s + 1, rfl, rfl, by omega, rfl, fun t ht => ?_⟩
      rcases Nat.lt_or_ge t s with d | d
      · exact hbl t d
      · have : t = s := by omega
        subst this; exact c2
    · have c2 : ¬ 16 * 2 ^ s < n := c
      have hst := room_eq hb h8 (by omega) hbl
      have tg := tgt hb h8
      have n0 := hb.2.1
      refine ⟨_, rfl, ?_⟩
      refine ⟨fun m σ H2 => ∃ z : Int, σ = [some (.int n), some (.int s), some (.int z)] ∧ H2 = H' ∧ n ≤ z ∧ z ≤ ((n - 1) / 2 ^ s + 1) * 2 ^ s ∧ m = (((n - 1) / 2 ^ s + 1) * 2 ^ s - z).toNat, ⟨_, n, rfl, rfl, by omega, tg.1, rfl⟩, ?_⟩
      rintro m σ H2 ⟨z, rfl, rfl, z1, z2, em⟩
      refine ⟨_, rfl, _, rfl, _, _, rfl, rfl, by omega, _, rfl, _, _, rfl, rfl, bc5 (by omega) (by omega) h8, _, rfl, rfl, _, rfl, ifnd (fun c => ?_) (fun c => ?_)⟩
      · have c3 : ¬ z / 2 ^ s * 2 ^ s = z := fun e => c (congrArg V.int e)
        have c4 := tgt_ne hb h8 z2 c3
        refine ⟨_, fun _ _ h => h, ?_⟩
        refine ⟨_, rfl, _, _, rfl, rfl, _, ?_, z + 1, rfl, rfl, by omega, by omega, rfl⟩
        omega
      · have c3 : z / 2 ^ s * 2 ^ s = z := V.int.inj c
        have e := tgt_eq hb h8 z1 z2 c3
        refine ⟨_, rfl, _, rfl, sz (by simp), fun p hp => ?_⟩
        subst e
        exact q s p hst hp

def sp__law_high (K : PySem.W.Frag) : Sp := fun vs H Q _ => ∃ lo hi, vs = [.int lo, .int hi] ∧ Bd lo hi ∧ ∀ h H', Same H H' → Bd lo h → h ≤ hi → (∃ s, Ex lo h s) → (∀ h1 t, h < h1 → h1 ≤ hi → ¬ Ex lo h1 t) → Q (.int h) H'
theorem ok__law_high {f : Addr} {fd : FuncData} (F : Fun K "_law_high" "_law_high" s__law_high f fd) (T : Txt K mg) (C__law_least : Cal P w K mg base "_law_least" 1 ["_law_low", "_law_high_here"] (sp__law_least K)) : FnOk P w K mg base CX0 2 f fd ["_law_low", "_law_high_here"] (sp__law_high K) := by
  refine F.ok sc__law_high (fun vs H Q E h => ?_) (fun cdv A outer s H vs Q E hr h => ?_)
  · obtain ⟨lo, hi, rfl, hb, q⟩ := h; rfl
  · obtain ⟨lo, hi, rfl, hb, q⟩ := h
    refine ⟨_, (pss_cons (ps_while PassesOwn.never (pt_cmpR (r := rNeD K) (op_neD hr.units) (pe_slice sl_tup (pe_cal C__law_least (hr.mono (by decide)) (pa_cons (pv 0) (pa_cons (pv 1) pa_nil))) po_none (po_some pe_int)) (pe_tup (pa_cons (pv 0) (pa_cons (pv 1) pa_nil))) (nomark _)) (pss_one (ps_set (i := 1) sc__law_high.nd rfl (.inl rfl) (pe_op op_sub (pv 1) pe_int))))
      (pss_one (ps_ret (pv 1)))), ?_⟩
    refine ⟨fun m σ H' => ∃ h : Int, σ = [some (.int lo), some (.int h)] ∧ Same H H' ∧ Bd lo h ∧ h ≤ hi ∧ m = (h - lo).toNat ∧ ∀ h1 t, h < h1 → h1 ≤ hi → ¬ Ex lo h1 t, ⟨_, hi, rfl, Same.refl _, hb, by omega, rfl, fun h1 t h2 h3 => by omega⟩, ?_⟩
    rintro m σ H' ⟨h, rfl, sm, bh, hh, em, hmax⟩
    refine ⟨_, rfl, _, rfl, lo, h, rfl, bh, fun s p hs hp => ?_⟩
    refine ⟨2, rfl, p, _, rfl, .of upd_same, (by show ¬ (HT.sIx 3 0 none = 0 ∧ HT.sIx 3 3 (some 2) = 3); decide), fun p2 hp2 => ?_⟩
    refine ⟨_, rfl, _, rfl, sz (by simp), fun p3 hp3 => ?_⟩
    have n23 : p2 ≠ p3 := ne_of_none upd_same hp3
    have f2 : (upd (upd (upd H' p (.tup [.int (lo / 2 ^ s * 2 ^ s), .int (((h - 1) / 2 ^ s + 1) * 2 ^ s), .int s])) p2 (.tup [.int (lo / 2 ^ s * 2 ^ s), .int (((h - 1) / 2 ^ s + 1) * 2 ^ s)])) p3 (.tup [.int lo, .int h])) p2 = some (.tup [.int (lo / 2 ^ s * 2 ^ s), .int (((h - 1) / 2 ^ s + 1) * 2 ^ s)]) := by rw [upd_ne n23, upd_same]
    have s2 : Same H (upd (upd (upd H' p (.tup [.int (lo / 2 ^ s * 2 ^ s), .int (((h - 1) / 2 ^ s + 1) * 2 ^ s), .int s])) p2 (.tup [.int (lo / 2 ^ s * 2 ^ s), .int (((h - 1) / 2 ^ s + 1) * 2 ^ s)])) p3 (.tup [.int lo, .int h])) := sameN (sameN (sameN sm hp) hp2) hp3
    refine ⟨_, _, dp2 f2, dp2 upd_same, rfl, rfl, _, rfl, ifnb (fun e => ?_) (fun e => ?_)⟩
    · have c : ¬ (lo / 2 ^ s * 2 ^ s = lo ∧ ((h - 1) / 2 ^ s + 1) * 2 ^ s = h) := fun z => by rw [t2_eqv.mpr z] at e; cases e
      have b0 := bh.2.1
      have h2 : lo + 1 < h := by
        rcases Int.lt_or_le (lo + 1) h with d | d
        · exact d
        · have d2 : h = lo + 1 := by omega
          subst d2
          have x1 := ex_one bh
          have : s = 0 := hs.uniq x1.1
          subst this
          exact absurd x1.2 c
      refine ⟨_, fun _ _ h => h, ?_⟩
      refine ⟨_, rfl, _, _, rfl, rfl, _, ?_, h - 1, rfl, s2, ?_, by omega, rfl, fun h1 t h3 h4 => ?_⟩
      · omega
      · unfold Bd at *; omega
      · rcases Int.lt_or_le h h1 with d | d
        · exact hmax h1 t d h4
        · have d2 : h1 = h := by omega
          subst d2
          intro x
          have : t = s := x.1.uniq hs
          subst this
          exact c x.2
    · have c := t2_eqv.mp e
      exact ⟨_, rfl, q h _ s2 bh hh ⟨s, hs, c.1, c.2⟩ hmax⟩

def sp__law_room_so (K : PySem.W.Frag) : Sp := fun vs H Q _ => ∃ (a : Addr) (x y n : Int), vs = [.ref a, .int n] ∧ Pool H a x y ∧ Bd 0 n ∧ ∀ x1 y1 H', But a H H' → Pool H' a x1 y1 → Q (.bl true) H'
theorem ok__law_room_so {f : Addr} {fd : FuncData} (F : Fun K "_law_room_so" "_law_room_so" s__law_room_so f fd) (T : Txt K mg) (C_is_exact : Cal P w K mg base "is_exact" 6 ["low", "high"] (sp_is_exact K)) (C_room_of : Cal P w K mg base "room_of" 5 ["many"] (sp_room_of K)) (C__law_take : Cal P w K mg base "_law_take" 1 ["_law_pool_here", "_law_many"] (sp__law_take K)) (C__law_room : Cal P w K mg base "_law_room" 1 ["_law_many"] (sp__law_room K)) : FnOk P w K mg base CX0 7 f fd ["_law_pool_here", "_law_many"] (sp__law_room_so K) := by
  refine F.ok sc__law_room_so (fun vs H Q E h => ?_) (fun cdv A outer s H vs Q E hr h => ?_)
  · obtain ⟨a, x, y, n, rfl, hp, hb, q⟩ := h; rfl
  · obtain ⟨a, x, y, n, rfl, hp, hb, q⟩ := h
    refine ⟨_, (pss_cons (ps_set (i := 2) sc__law_room_so.nd rfl (.inl rfl) (pe_cal C_room_of (hr.mono (by decide)) (pa_cons (pv 1) pa_nil)))
      (pss_cons (ps_if (PW.pt (pw_or (pt_cmpR (r := rNeD K) (op_neD hr.units) (pv 2) (pe_cal C__law_room (hr.mono (by decide)) (pa_cons (pv 1) pa_nil)) (nomark _)) (pw_or1 (pt_not (pt_val (pe_callB call_isi (by rfl) T.z_isinstance (by decide +kernel) (pa_cons (pv 2) (pa_cons (pe_bltn (v := .ty "tuple") (by rfl) T.z_tuple (by decide +kernel) rfl) pa_nil)))))))) (pss_one (ps_ret pe_bl)) pss_nil)
      (pss_cons (ps_asg (pv 2) (pg_tup rfl (pgs_cons (pg_name (i := 3) sc__law_room_so.nd rfl (.inl rfl)) (pgs_cons (pg_name (i := 4) sc__law_room_so.nd rfl (.inl rfl)) pgs_nil))))
      (pss_cons (ps_set (i := 5) sc__law_room_so.nd rfl (.inl rfl) (pe_op op_add (pe_op op_shr (pe_op op_sub pe_int (pv 3)) (pv 4)) pe_int))
      (pss_cons (ps_set (i := 6) sc__law_room_so.nd rfl (.inl rfl) (pe_op op_shl (pe_cal C__law_take (hr.mono (by decide)) (pa_cons (pv 0) (pa_cons (pv 5) pa_nil))) (pv 4)))
      (pss_one (ps_ret (pe_cmpR op_is_bl (pe_cal C_is_exact (hr.mono (by decide)) (pa_cons (pv 6) (pa_cons (pe_op op_add (pv 6) (pv 3)) pa_nil))) pe_bl (nomark _))))))))), ?_⟩
    refine ⟨_, rfl, n, rfl, hb, fun s p H1 hs sm hp0 hp1 => ?_⟩
    refine ⟨_, rfl, _, rfl, n, rfl, hb, fun s2 p2 hs2 hp2 => ?_⟩
    have es : s2 = s := hs2.uniq hs
    subst es
    have h8 := hs.1
    have n12 : p ≠ p2 := ne_of_none hp1 hp2
    have f1 : (upd H1 p2 (.tup [.int (((n - 1) / 2 ^ s2 + 1) * 2 ^ s2), .int s2])) p = some (.tup [.int (((n - 1) / 2 ^ s2 + 1) * 2 ^ s2), .int s2]) := by rw [upd_ne n12]; exact hp1
    refine ⟨_, _, dp2 f1, dp2 upd_same, rfl, rfl, _, rfl, ifnb (fun e => ?_) (fun e => ?_)⟩
    · rw [t2_eqv.mpr ⟨rfl, rfl⟩] at e; cases e
    refine ⟨_, rfl, _, _, _, _, true, rfl, .ty "tuple", .base (.tup f1), kit_ty (by decide +kernel), true, rfl, ?_⟩
    refine ⟨_, rfl, p, _, rfl, .of f1, rfl, _, _, rfl, _, _, rfl, rfl, ?_⟩
    refine ⟨_, rfl, _, _, rfl, rfl, _, rfl, _, _, rfl, rfl, by omega, _, _, rfl, rfl, ?_⟩
    have sp := spots_ok hs hb
    have na1 : a ≠ p2 := ne_of_none (sm _ _ hp.1) hp2
    have P2 : Pool (upd H1 p2 (.tup [.int (((n - 1) / 2 ^ s2 + 1) * 2 ^ s2), .int s2])) a x y := ⟨by rw [upd_ne na1]; exact sm _ _ hp.1, hp.2⟩
    refine ⟨_, rfl, _, rfl, a, x, y, _, rfl, P2, sp.1, Int.lt_trans sp.2 (by decide), fun r x1 y1 r0 r1 P3 => ?_⟩
    have rb : r < 5000 := Int.lt_trans r1 sp.2
    refine ⟨_, rfl, _, _, rfl, rfl, ⟨by omega, by omega, na r0 (by omega)⟩, ?_⟩
    refine ⟨_, rfl, _, rfl, _, rfl, _, _, rfl, rfl, _, _, rfl, spot_bd hs hb r0 r1, fun b H4 sm4 hb4 => ?_⟩
    have eb : b = true := hb4.mpr ⟨s2, spot_ex hs hb r0⟩
    subst eb
    refine ⟨_, _, rfl, rfl, ?_⟩
    refine q x1 y1 H4 (fun b o nb hbo => ?_) ⟨sm4 _ _ P3.1, P3.2⟩
    refine sm4 _ _ ?_
    rw [upd_ne nb]
    exact sameN sm hp2 _ _ hbo

def sp_law (K : PySem.W.Frag) : Sp := fun vs H Q _ => ∃ (a : Addr) (ns : List Int), vs = [.ref a] ∧ SqL K H a (ns.map V.int) ∧ ns.length ≤ 63 ∧ ∀ H', Q (.bl true) H'
theorem ok_law {f : Addr} {fd : FuncData} (F : Fun K "law" "law" s_law f fd) (T : Txt K mg) (C_greatest_high : Cal P w K mg base "greatest_high" 4 ["low", "high"] (sp_greatest_high K)) (C__law_take : Cal P w K mg base "_law_take" 1 ["_law_pool_here", "_law_many"] (sp__law_take K)) (C__law_pool : Cal P w K mg base "_law_pool" 1 ["_law_script", "_law_k"] (sp__law_pool K)) (C__law_high : Cal P w K mg base "_law_high" 2 ["_law_low", "_law_high_here"] (sp__law_high K)) (C__law_room_so : Cal P w K mg base "_law_room_so" 7 ["_law_pool_here", "_law_many"] (sp__law_room_so K)) : FnOk P w K mg base CX0 8 f fd ["_law_script"] (sp_law K) := by
  refine F.ok sc_law (fun vs H Q E h => ?_) (fun cdv A outer s H vs Q E hr h => ?_)
  · obtain ⟨a, ns, rfl, hS, hlen, q⟩ := h; rfl
  · obtain ⟨a, ns, rfl, hS, hlen, q⟩ := h
    refine ⟨_, (pss_cons (ps_set (i := 1) sc_law.nd rfl (.inl rfl) (pe_listRg rfl (by rfl) T.z_list (prg_2 (by rfl) T.z_range pe_int pe_int)))
      (pss_cons (ps_for PassesOwn.never rfl (pi_range1 (by rfl) T.z_range (pa_cons pe_int pa_nil)) (pg_name (i := 2) sc_law.nd rfl (.inl rfl)) (pss_one (ps_set (i := 1) sc_law.nd rfl (.inl rfl) (pe_op op_cat (pv 1) (pe_lst (pa_cons (pe_op op_sub (pe_op op_shl pe_int (pv 2)) pe_int) (pa_cons (pe_op op_shl pe_int (pv 2)) (pa_cons (pe_op op_add (pe_op op_shl pe_int (pv 2)) pe_int) pa_nil))))))))
      (pss_cons (ps_for PassesOwn.never rfl (pi_list (pv 1)) (pg_name (i := 3) sc_law.nd rfl (.inl rfl)) (pss_one (ps_if (PW.pt (pw_and (pt_cmpR op_le (pv 3) pe_int (nomark _)) (pw_and1 (pt_not (pt_val (pe_cal C__law_room_so (hr.mono (by decide)) (pa_cons (pe_lst (pa_cons pe_int (pa_cons (pv 3) pa_nil))) (pa_cons (pv 3) pa_nil)))))))) (pss_one (ps_ret pe_bl)) pss_nil)))
      (pss_cons (ps_if (pt_cmpR (r := rNeD K) (op_neD hr.units) (pe_lst (pa_cons (pe_cal C_greatest_high (hr.mono (by decide)) (pa_cons pe_int (pa_cons pe_int pa_nil))) (pa_cons (pe_cal C_greatest_high (hr.mono (by decide)) (pa_cons pe_int (pa_cons pe_int pa_nil))) (pa_cons (pe_cal C_greatest_high (hr.mono (by decide)) (pa_cons pe_int (pa_cons pe_int pa_nil))) pa_nil)))) (pe_lst (pa_cons pe_int (pa_cons pe_int (pa_cons pe_int pa_nil)))) (nomark _)) (pss_one (ps_ret pe_bl)) pss_nil)
      (pss_cons (ps_for PassesOwn.never rfl (pi_range1 (by rfl) T.z_range (pa_cons (pe_callB (call_max2 rfl) (by rfl) T.z_max (by decide +kernel) (pa_cons pe_int (pa_cons (pe_callB (call_min2 rfl) (by rfl) T.z_min (by decide +kernel) (pa_cons (pe_callB call_len_seq (by rfl) T.z_len (by decide +kernel) (pa_cons (pv 0) pa_nil)) (pa_cons pe_int pa_nil))) pa_nil))) pa_nil)) (pg_name (i := 4) sc_law.nd rfl (.inl rfl)) (pss_cons (ps_set (i := 5) sc_law.nd rfl (.inl rfl) (pe_cal C__law_pool (hr.mono (by decide)) (pa_cons (pv 0) (pa_cons (pv 4) pa_nil))))
      (pss_one (ps_for PassesOwn.never rfl (pi_range1 (by rfl) T.z_range (pa_cons pe_int pa_nil)) (pg_name (i := 6) sc_law.nd rfl (.inl rfl)) (pss_cons (ps_if (pt_not (pt_val (pe_cal C__law_room_so (hr.mono (by decide)) (pa_cons (pv 5) (pa_cons (pe_op op_add pe_int (pe_cal C__law_take (hr.mono (by decide)) (pa_cons (pv 5) (pa_cons pe_int pa_nil)))) pa_nil))))) (pss_one (ps_ret pe_bl)) pss_nil)
      (pss_cons (ps_set (i := 7) sc_law.nd rfl (.inl rfl) (pe_ix (r := rIxL K) ix_list (pe_lst (pa_cons pe_int (pa_cons pe_int (pa_cons (pe_cal C__law_take (hr.mono (by decide)) (pa_cons (pv 5) (pa_cons pe_int pa_nil))) (pa_cons (pe_op op_mul pe_int (pe_cal C__law_take (hr.mono (by decide)) (pa_cons (pv 5) (pa_cons pe_int pa_nil)))) pa_nil))))) (pe_cal C__law_take (hr.mono (by decide)) (pa_cons (pv 5) (pa_cons pe_int pa_nil))) (fun _ _ => rfl)))
      (pss_cons (ps_set (i := 8) sc_law.nd rfl (.inl rfl) (pe_callB (call_min2 rfl) (by rfl) T.z_min (by decide +kernel) (pa_cons pe_int (pa_cons (pe_op op_add (pe_op op_add (pv 7) pe_int) (pe_ix (r := rIxL K) ix_list (pe_lst (pa_cons (pe_cal C__law_take (hr.mono (by decide)) (pa_cons (pv 5) (pa_cons pe_int pa_nil))) (pa_cons (pe_cal C__law_take (hr.mono (by decide)) (pa_cons (pv 5) (pa_cons pe_int pa_nil))) pa_nil))) (pe_cal C__law_take (hr.mono (by decide)) (pa_cons (pv 5) (pa_cons pe_int pa_nil))) (fun _ _ => rfl))) pa_nil))))
      (pss_one (ps_if (pt_cmpR op_ne (pe_cal C_greatest_high (hr.mono (by decide)) (pa_cons (pv 7) (pa_cons (pv 8) pa_nil))) (pe_cal C__law_high (hr.mono (by decide)) (pa_cons (pv 7) (pa_cons (pv 8) pa_nil))) (nomark _)) (pss_one (ps_ret pe_bl)) pss_nil)))))))))
      (pss_one (ps_ret pe_bl))))))), ?_⟩
    have hS63 : ∀ H', Same H H' → SqL K H' a (ns.map V.int) := fun H' sm => sm.seq hS
    refine ⟨_, _, rfl, rfl, RgOk.of_le (by decide) (by decide) (by decide) (by decide), fun p hp => ?_⟩
    refine ⟨_, rfl, (by decide), (by decide), for_range (n := 9) (fun i σ H' => ∃ l xs v, σ = [some (.ref a), some (.ref l), v, none, none, none, none, none, none] ∧ Same H H' ∧ H' l = some (.lst (xs.map V.int)) ∧ (∀ z ∈ xs, 0 < z) ∧ xs.length ≤ 80 + 3 * i) ⟨p, _, none, rfl, same_new hp, (by rw [upd_same, rg_map]), rg_pos, (by decide)⟩ ?_ ?_⟩
    · rintro i σ H1 hi ⟨l, xs, v, rfl, sm, hl, hpos, hle⟩
      have hi2 : i ≤ 8 := by omega
      have e0 : (0 : Int) + (i : Int) = (i : Int) := by omega
      rw [e0]
      have k := k16 hi2
      refine ⟨_, rfl, _, rfl, _, _, rfl, rfl, ⟨by omega, by omega, by decide⟩, _, _, rfl, rfl, _, rfl, _, _, rfl, rfl, ⟨by omega, by omega, by decide⟩, _, rfl, _, _, rfl, rfl, ⟨by omega, by omega, by decide⟩, _, _, rfl, rfl, sz (by simp), fun p2 hp2 => ?_⟩
      have nl : l ≠ p2 := ne_of_none hl hp2
      refine ⟨l, p2, xs.map V.int, _, rfl, rfl, by rw [upd_ne nl]; exact hl, upd_same, ?_, fun p3 hp3 => ?_⟩
      · exact sz (by simp; omega)
      refine ⟨p3, xs ++ [16 * 2 ^ i - 1, 16 * 2 ^ i, 16 * 2 ^ i + 1], _, rfl, sameN (sameN sm hp2) hp3, ?_, ?_, ?_⟩
      · rw [upd_same, List.map_append]; rfl
      · intro z hz
        rcases List.mem_append.mp hz with h | h
        · exact hpos z h
        · simp at h
          rcases h with h | h | h <;> omega
      · simp; omega
    rintro σ H1 ⟨l, xs, v, rfl, sm, hl, hpos, hle⟩
    refine ⟨_, rfl, l, rfl, ⟨_, .of hl⟩, for_list (K := K) (a := l) (xs := xs.map V.int) (fun i σ H' => ∃ v2, σ = [some (.ref a), some (.ref l), v, v2, none, none, none, none, none] ∧ Same H1 H') ⟨none, rfl, Same.refl _⟩ (fun i σ H' _ ⟨_, _, s5⟩ => .of (s5 _ _ hl)) ?_ ?_⟩
    · rintro i y σ H' hi ⟨v2, rfl, s5⟩
      obtain ⟨z, hz, rfl⟩ : ∃ z, z ∈ xs ∧ y = V.int z := by
        rw [List.getElem?_map] at hi
        cases e : xs[i]? with
        | none => rw [e] at hi; cases hi
        | some z => rw [e] at hi; exact ⟨z, List.mem_of_getElem? e, (Option.some.inj hi).symm⟩
      have z0 := hpos z hz
      refine ⟨_, rfl, _, _, rfl, rfl, _, rfl, ifd (fun c => ?_) (fun c => ?_)⟩
      · have c2 : z ≤ 4096 := c
        refine ⟨_, rfl, sz (by simp), fun p hp => ?_⟩
        refine ⟨_, rfl, p, 0, z, z, rfl, ⟨upd_same, by omega, by omega, by omega⟩, ⟨by omega, by omega, by omega⟩, fun x1 y1 H2 bt P2 => ⟨_, rfl, ?_⟩⟩
        refine ⟨_, rfl, fun b o hb => ?_⟩
        have e := s5 b o hb
        have nb := ne_of_none e hp
        exact bt b o nb (by rw [upd_ne nb]; exact e)
      · exact ⟨_, rfl, s5⟩
    rintro σ H2 ⟨v2, rfl, s5⟩
    have B1 : Bd 0 4096 := by unfold Bd; omega
    have B2 : Bd 256 4096 := by unfold Bd; omega
    have B3 : Bd 1 4096 := by unfold Bd; omega
    refine ⟨0, 4096, rfl, B1, fun t1 g1 => ⟨256, 4096, rfl, B2, fun t2 g2 => ⟨1, 4096, rfl, B3, fun t3 g3 => ⟨sz (by simp), fun p1 hp1 => ⟨sz (by simp), fun p2 hp2 => ?_⟩⟩⟩⟩⟩
    rw [ghv g1, ghv2 g2, ghv3 g3]
    have n12 : p1 ≠ p2 := ne_of_none upd_same hp2
    refine ⟨_, _, .lst (.of (show (upd (upd H2 p1 (.lst [.int 4096, .int 4096, .int 17])) p2 _) p1 = _ by rw [upd_ne n12, upd_same])) (.cons (.int _) (.cons (.int _) (.cons (.int _) .nil))), .lst (.of upd_same) (.cons (.int _) (.cons (.int _) (.cons (.int _) .nil))), rfl, rfl, _, rfl, ?_⟩
    rw [three_eqv]
    have s6 : Same H (upd (upd H2 p1 (.lst [.int 4096, .int 4096, .int 17])) p2 (.lst [.int 4096, .int 4096, .int 17])) := by
      rw [ghv g1, ghv2 g2, ghv3 g3] at hp2
      exact sameN (sameN (sm.trans s5) hp1) hp2
    have hS6 := hS63 _ s6
    refine ⟨_, rfl, a, _, rfl, .inl hS6, _, _, rfl, _, _, rfl, _, rfl, rep_lo (c := 8) (by decide) (by decide), rep_hi (c := 8) (by decide) (by decide), for_range (fun i σ H' => ∃ x4 x5 x6 x7 x8, σ = [some (.ref a), some (.ref l), v, v2, x4, x5, x6, x7, x8] ∧ Same H H') ⟨_, _, _, _, _, rfl, s6⟩ ?_ ?_⟩
    · rintro i σ H3 hi ⟨x4, x5, x6, x7, x8, rfl, s3⟩
      have hi63 := rep_i (c := 8) (by decide) (by decide) hi
      have e0 : (0 : Int) + (i : Int) = (i : Int) := by omega
      rw [e0]
      refine ⟨_, rfl, _, rfl, a, ns, i, rfl, hS63 _ s3, hlen, hi63, fun x y p H4 sm4 hp0 P4 => ?_⟩
      refine ⟨3, rfl, by decide, by decide, for_range (n := 3) (fun j σ H' => ∃ x6 x7 x8 x1 y1, σ = [some (.ref a), some (.ref l), v, v2, some (.int i), some (.ref p), x6, x7, x8] ∧ But p H4 H' ∧ Pool H' p x1 y1) ⟨_, _, _, _, _, rfl, But.refl _ _, P4⟩ ?_ ?_⟩
      · rintro j σ H5 hj ⟨x6, x7, x8, x1, y1, rfl, b5, P5⟩
        refine ⟨_, rfl, _, rfl, p, x1, y1, _, rfl, P5, by decide, by decide, fun r1 xa ya r10 r11 Pa => ⟨_, _, rfl, rfl, p, xa, ya, _, rfl, Pa, ⟨by omega, by omega, by omega⟩, fun xb yb H6 b6 P6 => ⟨_, rfl, ?_⟩⟩⟩
        refine ⟨_, rfl, p, xb, yb, _, rfl, P6, by decide, by decide, fun r2 xc yc r20 r21 Pc => ?_⟩
        refine ⟨_, rfl, p, xc, yc, _, rfl, Pc, by decide, by decide, fun r3 xd yd r30 r31 Pd => ⟨_, _, rfl, rfl, .inl ⟨by decide, by decide⟩, sz (by simp), fun q1 hq1 => ?_⟩⟩
        refine ⟨_, rfl, p, xd, yd, _, rfl, Pd.new hq1, by decide, by decide, fun r4 xe ye r40 r41 Pe => ?_⟩
        have n1 : q1 ≠ p := (ne_of_none Pd.1 hq1).symm
        obtain ⟨lv, hv, lo, rfl, lo0, lo1⟩ := pick (xs := [.int 0, .int 32, .int r2, .int (16 * r3)]) (fun v => ∃ z, v = .int z ∧ 0 ≤ z ∧ z ≤ 4095) r40 r41 (by
          intro v hv
          simp at hv
          rcases hv with h | h | h | h <;> exact ⟨_, h, by omega, by omega⟩)
        refine ⟨q1, _, _, _, rfl, rfl, .of (by rw [upd_ne n1, upd_same]), hv, ?_⟩
        refine ⟨_, rfl, _, _, rfl, rfl, _, rfl, p, xe, ye, _, rfl, Pe, by decide, by decide, fun r5 xf yf r50 r51 Pf => ?_⟩
        refine ⟨_, rfl, p, xf, yf, _, rfl, Pf, by decide, by decide, fun r6 xg yg r60 r61 Pg => ⟨sz (by simp), fun q2 hq2 => ?_⟩⟩
        refine ⟨_, rfl, p, xg, yg, _, rfl, Pg.new hq2, by decide, by decide, fun r7 xh yh r70 r71 Ph => ?_⟩
        have n2 : q2 ≠ p := (ne_of_none Pg.1 hq2).symm
        obtain ⟨hv2, hv3, z, rfl, z0, z1⟩ := pick (xs := [.int r5, .int r6]) (fun v => ∃ z, v = .int z ∧ 0 ≤ z ∧ z ≤ 4095) r70 r71 (by
          intro v hv
          simp at hv
          rcases hv with h | h <;> exact ⟨_, h, by omega, by omega⟩)
        refine ⟨q2, _, _, _, rfl, rfl, .of (by rw [upd_ne n2, upd_same]), hv3, _, _, rfl, rfl, _, _, rfl, ?_⟩
        obtain ⟨hh, ehh⟩ : ∃ hh : Int, hh = (if lo + 1 + z < 4096 then lo + 1 + z else 4096) := ⟨_, rfl⟩
        have bh : Bd lo hh := by
          unfold Bd; rw [ehh]
          refine ⟨lo0, ?_, ?_⟩ <;> split <;> omega
        rw [← ehh]
        refine ⟨_, rfl, _, rfl, lo, hh, rfl, bh, fun t g => ⟨_, rfl, _, rfl, lo, hh, rfl, bh, fun h H7 s7 bh7 hh7 ex7 hmax => ?_⟩⟩
        have eq : lo + mn lo hh t * 2 ^ t = h := by
          have gx := gh_ex bh g
          rcases Int.lt_trichotomy (lo + mn lo hh t * 2 ^ t) h with c | c | c
          · obtain ⟨u, eu⟩ := ex7
            exact absurd eu (gh_max bh g c hh7)
          · exact c
          · exact absurd gx.2.2 (hmax _ t c gx.2.1)
        refine ⟨rfl, _, rfl, ifnd (fun c => absurd (congrArg V.int eq) c) (fun _ => ?_)⟩
        refine ⟨_, _, _, xh, yh, rfl, ?_, ⟨s7 _ _ Ph.1, Ph.2⟩⟩
        exact But.trans (But.upd (But.new (But.upd (But.upd (But.upd (But.new (But.upd (But.upd (But.trans (But.upd b5) b6))) hq1)))) hq2)) (But.of s7)
      · rintro σ H5 ⟨x6, x7, x8, x1, y1, rfl, b5, P5⟩
        exact ⟨_, _, _, _, _, rfl, sameP s3 sm4 hp0 b5⟩
    · rintro σ H3 ⟨x4, x5, x6, x7, x8, rfl, s3⟩
      exact q _
end
theorem all_mk {l : PySem.W.OpenLaw} {w : World} {K : PySem.W.Frag} {h : Heap} {mg : Str → Option Value} {fa f0 f1 f2 f3 f4 f5 f6 f7 f8 f9 f10 f11 f12 f13 f14 f15 f16 : Addr} (X : K.In h) (G : h.Ns mainGlobals mg) (hfa : mg "law" = some (.ref fa))
    {od0 an0 od1 an1 od2 an2 od3 an3 od4 an4 od5 an5 od6 an6 od7 an7 od8 an8 od9 an9 od10 an10 od11 an11 od12 an12 od13 an13 od14 an14 od15 an15 od16 an16 : Option Addr} {sl0 sl1 sl2 sl3 sl4 sl5 sl6 sl7 sl8 sl9 sl10 sl11 sl12 sl13 sl14 sl15 sl16 : Array (Option Value)} {oc0 kV0 dc0 pm0 cd0 ct0 oc1 kV1 dc1 pm1 cd1 ct1 oc2 kV2 dc2 pm2 cd2 ct2 oc3 kV3 dc3 pm3 cd3 ct3 oc4 kV4 dc4 pm4 cd4 ct4 oc5 kV5 dc5 pm5 cd5 ct5 oc6 kV6 dc6 pm6 cd6 ct6 oc7 kV7 dc7 pm7 cd7 ct7 oc8 kV8 dc8 pm8 cd8 ct8 oc9 kV9 dc9 pm9 cd9 ct9 oc10 kV10 dc10 pm10 cd10 ct10 oc11 kV11 dc11 pm11 cd11 ct11 oc12 kV12 dc12 pm12 cd12 ct12 oc13 kV13 dc13 pm13 cd13 ct13 oc14 kV14 dc14 pm14 cd14 ct14 oc15 kV15 dc15 pm15 cd15 ct15 oc16 kV16 dc16 pm16 cd16 ct16 : Value}
    (a0 : PySem.W.nsIn K mainGlobals "is_whole" = some (some (.ref f0))) (l0 : K.lookup f0 = some ⟨oc0, od0, .func (PySem.W.fnOf "is_whole" "is_whole" (defArgs s_is_whole) (defBody s_is_whole) (defScope s_is_whole) .none kV0 dc0 pm0 an0 cd0 ct0), sl0⟩) (c0 : PySem.W.codeIn K cd0 "is_whole" = true) (k0 : PySem.W.keepIn K (.ref f0) = true)
    (a1 : PySem.W.nsIn K mainGlobals "are_bounds" = some (some (.ref f1))) (l1 : K.lookup f1 = some ⟨oc1, od1, .func (PySem.W.fnOf "are_bounds" "are_bounds" (defArgs s_are_bounds) (defBody s_are_bounds) (defScope s_are_bounds) .none kV1 dc1 pm1 an1 cd1 ct1), sl1⟩) (c1 : PySem.W.codeIn K cd1 "are_bounds" = true) (k1 : PySem.W.keepIn K (.ref f1) = true)
    (a2 : PySem.W.nsIn K mainGlobals "look_at_bounds" = some (some (.ref f2))) (l2 : K.lookup f2 = some ⟨oc2, od2, .func (PySem.W.fnOf "look_at_bounds" "look_at_bounds" (defArgs s_look_at_bounds) (defBody s_look_at_bounds) (defScope s_look_at_bounds) .none kV2 dc2 pm2 an2 cd2 ct2), sl2⟩) (c2 : PySem.W.codeIn K cd2 "look_at_bounds" = true) (k2 : PySem.W.keepIn K (.ref f2) = true)
    (a3 : PySem.W.nsIn K mainGlobals "_steps_over" = some (some (.ref f3))) (l3 : K.lookup f3 = some ⟨oc3, od3, .func (PySem.W.fnOf "_steps_over" "_steps_over" (defArgs s__steps_over) (defBody s__steps_over) (defScope s__steps_over) .none kV3 dc3 pm3 an3 cd3 ct3), sl3⟩) (c3 : PySem.W.codeIn K cd3 "_steps_over" = true) (k3 : PySem.W.keepIn K (.ref f3) = true)
    (a4 : PySem.W.nsIn K mainGlobals "in_bits" = some (some (.ref f4))) (l4 : K.lookup f4 = some ⟨oc4, od4, .func (PySem.W.fnOf "in_bits" "in_bits" (defArgs s_in_bits) (defBody s_in_bits) (defScope s_in_bits) .none kV4 dc4 pm4 an4 cd4 ct4), sl4⟩) (c4 : PySem.W.codeIn K cd4 "in_bits" = true) (k4 : PySem.W.keepIn K (.ref f4) = true)
    (a5 : PySem.W.nsIn K mainGlobals "least_bounds" = some (some (.ref f5))) (l5 : K.lookup f5 = some ⟨oc5, od5, .func (PySem.W.fnOf "least_bounds" "least_bounds" (defArgs s_least_bounds) (defBody s_least_bounds) (defScope s_least_bounds) .none kV5 dc5 pm5 an5 cd5 ct5), sl5⟩) (c5 : PySem.W.codeIn K cd5 "least_bounds" = true) (k5 : PySem.W.keepIn K (.ref f5) = true)
    (a6 : PySem.W.nsIn K mainGlobals "is_exact" = some (some (.ref f6))) (l6 : K.lookup f6 = some ⟨oc6, od6, .func (PySem.W.fnOf "is_exact" "is_exact" (defArgs s_is_exact) (defBody s_is_exact) (defScope s_is_exact) .none kV6 dc6 pm6 an6 cd6 ct6), sl6⟩) (c6 : PySem.W.codeIn K cd6 "is_exact" = true) (k6 : PySem.W.keepIn K (.ref f6) = true)
    (a7 : PySem.W.nsIn K mainGlobals "room_of" = some (some (.ref f7))) (l7 : K.lookup f7 = some ⟨oc7, od7, .func (PySem.W.fnOf "room_of" "room_of" (defArgs s_room_of) (defBody s_room_of) (defScope s_room_of) .none kV7 dc7 pm7 an7 cd7 ct7), sl7⟩) (c7 : PySem.W.codeIn K cd7 "room_of" = true) (k7 : PySem.W.keepIn K (.ref f7) = true)
    (a8 : PySem.W.nsIn K mainGlobals "_can_begin" = some (some (.ref f8))) (l8 : K.lookup f8 = some ⟨oc8, od8, .func (PySem.W.fnOf "_can_begin" "_can_begin" (defArgs s__can_begin) (defBody s__can_begin) (defScope s__can_begin) .none kV8 dc8 pm8 an8 cd8 ct8), sl8⟩) (c8 : PySem.W.codeIn K cd8 "_can_begin" = true) (k8 : PySem.W.keepIn K (.ref f8) = true)
    (a9 : PySem.W.nsIn K mainGlobals "greatest_high" = some (some (.ref f9))) (l9 : K.lookup f9 = some ⟨oc9, od9, .func (PySem.W.fnOf "greatest_high" "greatest_high" (defArgs s_greatest_high) (defBody s_greatest_high) (defScope s_greatest_high) .none kV9 dc9 pm9 an9 cd9 ct9), sl9⟩) (c9 : PySem.W.codeIn K cd9 "greatest_high" = true) (k9 : PySem.W.keepIn K (.ref f9) = true)
    (a10 : PySem.W.nsIn K mainGlobals "_law_take" = some (some (.ref f10))) (l10 : K.lookup f10 = some ⟨oc10, od10, .func (PySem.W.fnOf "_law_take" "_law_take" (defArgs s__law_take) (defBody s__law_take) (defScope s__law_take) .none kV10 dc10 pm10 an10 cd10 ct10), sl10⟩) (c10 : PySem.W.codeIn K cd10 "_law_take" = true) (k10 : PySem.W.keepIn K (.ref f10) = true)
    (a11 : PySem.W.nsIn K mainGlobals "_law_pool" = some (some (.ref f11))) (l11 : K.lookup f11 = some ⟨oc11, od11, .func (PySem.W.fnOf "_law_pool" "_law_pool" (defArgs s__law_pool) (defBody s__law_pool) (defScope s__law_pool) .none kV11 dc11 pm11 an11 cd11 ct11), sl11⟩) (c11 : PySem.W.codeIn K cd11 "_law_pool" = true) (k11 : PySem.W.keepIn K (.ref f11) = true)
    (a12 : PySem.W.nsIn K mainGlobals "_law_least" = some (some (.ref f12))) (l12 : K.lookup f12 = some ⟨oc12, od12, .func (PySem.W.fnOf "_law_least" "_law_least" (defArgs s__law_least) (defBody s__law_least) (defScope s__law_least) .none kV12 dc12 pm12 an12 cd12 ct12), sl12⟩) (c12 : PySem.W.codeIn K cd12 "_law_least" = true) (k12 : PySem.W.keepIn K (.ref f12) = true)
    (a13 : PySem.W.nsIn K mainGlobals "_law_room" = some (some (.ref f13))) (l13 : K.lookup f13 = some ⟨oc13, od13, .func (PySem.W.fnOf "_law_room" "_law_room" (defArgs s__law_room) (defBody s__law_room) (defScope s__law_room) .none kV13 dc13 pm13 an13 cd13 ct13), sl13⟩) (c13 : PySem.W.codeIn K cd13 "_law_room" = true) (k13 : PySem.W.keepIn K (.ref f13) = true)
    (a14 : PySem.W.nsIn K mainGlobals "_law_high" = some (some (.ref f14))) (l14 : K.lookup f14 = some ⟨oc14, od14, .func (PySem.W.fnOf "_law_high" "_law_high" (defArgs s__law_high) (defBody s__law_high) (defScope s__law_high) .none kV14 dc14 pm14 an14 cd14 ct14), sl14⟩) (c14 : PySem.W.codeIn K cd14 "_law_high" = true) (k14 : PySem.W.keepIn K (.ref f14) = true)
    (a15 : PySem.W.nsIn K mainGlobals "_law_room_so" = some (some (.ref f15))) (l15 : K.lookup f15 = some ⟨oc15, od15, .func (PySem.W.fnOf "_law_room_so" "_law_room_so" (defArgs s__law_room_so) (defBody s__law_room_so) (defScope s__law_room_so) .none kV15 dc15 pm15 an15 cd15 ct15), sl15⟩) (c15 : PySem.W.codeIn K cd15 "_law_room_so" = true) (k15 : PySem.W.keepIn K (.ref f15) = true)
    (a16 : PySem.W.nsIn K mainGlobals "law" = some (some (.ref f16))) (l16 : K.lookup f16 = some ⟨oc16, od16, .func (PySem.W.fnOf "law" "law" (defArgs s_law) (defBody s_law) (defScope s_law) .none kV16 dc16 pm16 an16 cd16 ct16), sl16⟩) (c16 : PySem.W.codeIn K cd16 "law" = true) (k16 : PySem.W.keepIn K (.ref f16) = true)
    (z_abs : PySem.W.nsIn K mainGlobals "abs" = some none)
    (z_bool : PySem.W.nsIn K mainGlobals "bool" = some none)
    (z_int : PySem.W.nsIn K mainGlobals "int" = some none)
    (z_isinstance : PySem.W.nsIn K mainGlobals "isinstance" = some none)
    (z_len : PySem.W.nsIn K mainGlobals "len" = some none)
    (z_list : PySem.W.nsIn K mainGlobals "list" = some none)
    (z_max : PySem.W.nsIn K mainGlobals "max" = some none)
    (z_min : PySem.W.nsIn K mainGlobals "min" = some none)
    (z_range : PySem.W.nsIn K mainGlobals "range" = some none)
    (z_sum : PySem.W.nsIn K mainGlobals "sum" = some none)
    (z_tuple : PySem.W.nsIn K mainGlobals "tuple" = some none)
    {t_CELLS : Tok} (v_CELLS : PySem.W.nsIn K mainGlobals "CELLS" = some (some (.int 4096 t_CELLS)))
    {t_LEAST_COUNT : Tok} (v_LEAST_COUNT : PySem.W.nsIn K mainGlobals "LEAST_COUNT" = some (some (.int 9 t_LEAST_COUNT)))
    {t_TOP_COUNT : Tok} (v_TOP_COUNT : PySem.W.nsIn K mainGlobals "TOP_COUNT" = some (some (.int 16 t_TOP_COUNT)))
    {t_TOP_STEP : Tok} (v_TOP_STEP : PySem.W.nsIn K mainGlobals "TOP_STEP" = some (some (.int 8 t_TOP_STEP)))
    : ∃ fd : FuncData, (∀ (s : Shared) (v : Value), BindsTo s fd ⟨[v], []⟩ [("_law_script", v)]) ∧ ∀ base : Heap, K.In base → base.Ns mainGlobals mg → FnOk l.prog w K mg base CX0 8 fa fd ["_law_script"] (sp_law K) := by
  have e := hfa.symm.trans (PySem.W.mg_of X G a16)
  cases e
  have F0 := fun_mk (st := s_is_whole) l0 c0 k0
  have F1 := fun_mk (st := s_are_bounds) l1 c1 k1
  have F2 := fun_mk (st := s_look_at_bounds) l2 c2 k2
  have F3 := fun_mk (st := s__steps_over) l3 c3 k3
  have F4 := fun_mk (st := s_in_bits) l4 c4 k4
  have F5 := fun_mk (st := s_least_bounds) l5 c5 k5
  have F6 := fun_mk (st := s_is_exact) l6 c6 k6
  have F7 := fun_mk (st := s_room_of) l7 c7 k7
  have F8 := fun_mk (st := s__can_begin) l8 c8 k8
  have F9 := fun_mk (st := s_greatest_high) l9 c9 k9
  have F10 := fun_mk (st := s__law_take) l10 c10 k10
  have F11 := fun_mk (st := s__law_pool) l11 c11 k11
  have F12 := fun_mk (st := s__law_least) l12 c12 k12
  have F13 := fun_mk (st := s__law_room) l13 c13 k13
  have F14 := fun_mk (st := s__law_high) l14 c14 k14
  have F15 := fun_mk (st := s__law_room_so) l15 c15 k15
  have F16 := fun_mk (st := s_law) l16 c16 k16
  have T : Txt K mg := ⟨PySem.W.mg_none_of X G z_abs, PySem.W.mg_none_of X G z_bool, PySem.W.mg_none_of X G z_int, PySem.W.mg_none_of X G z_isinstance, PySem.W.mg_none_of X G z_len, PySem.W.mg_none_of X G z_list, PySem.W.mg_none_of X G z_max, PySem.W.mg_none_of X G z_min, PySem.W.mg_none_of X G z_range, PySem.W.mg_none_of X G z_sum, PySem.W.mg_none_of X G z_tuple, ⟨_, PySem.W.mg_of X G v_CELLS⟩, ⟨_, PySem.W.mg_of X G v_LEAST_COUNT⟩, ⟨_, PySem.W.mg_of X G v_TOP_COUNT⟩, ⟨_, PySem.W.mg_of X G v_TOP_STEP⟩⟩
  refine ⟨PySem.W.fnOf "law" "law" (defArgs s_law) (defBody s_law) (defScope s_law) .none kV16 dc16 pm16 an16 cd16 ct16, fun s v => .of_eq rfl, fun base _ _ => ?_⟩
  have C_is_whole : Cal l.prog w K mg base "is_whole" 1 ["thing", "least", "most"] (sp_is_whole K) := ⟨_, _, ok_is_whole F0 T, PySem.W.mg_of X G a0, F0.kp, F0.binds fun _ _ _ _ _ _ us hl => match us, hl with | [_, _, _], _ => rfl⟩
  have C_are_bounds : Cal l.prog w K mg base "are_bounds" 2 ["low", "high"] (sp_are_bounds K) := ⟨_, _, ok_are_bounds F1 T C_is_whole, PySem.W.mg_of X G a1, F1.kp, F1.binds fun _ _ _ _ _ _ us hl => match us, hl with | [_, _], _ => rfl⟩
  have C_look_at_bounds : Cal l.prog w K mg base "look_at_bounds" 3 ["low", "high"] (sp_look_at_bounds K) := ⟨_, _, ok_look_at_bounds F2 T C_are_bounds, PySem.W.mg_of X G a2, F2.kp, F2.binds fun _ _ _ _ _ _ us hl => match us, hl with | [_, _], _ => rfl⟩
  have C__steps_over : Cal l.prog w K mg base "_steps_over" 1 ["low", "high", "step"] (sp__steps_over K) := ⟨_, _, ok__steps_over F3 T, PySem.W.mg_of X G a3, F3.kp, F3.binds fun _ _ _ _ _ _ us hl => match us, hl with | [_, _, _], _ => rfl⟩
  have C_in_bits : Cal l.prog w K mg base "in_bits" 4 ["low", "high"] (sp_in_bits K) := ⟨_, _, ok_in_bits F4 T C_look_at_bounds C__steps_over, PySem.W.mg_of X G a4, F4.kp, F4.binds fun _ _ _ _ _ _ us hl => match us, hl with | [_, _], _ => rfl⟩
  have C_least_bounds : Cal l.prog w K mg base "least_bounds" 5 ["low", "high"] (sp_least_bounds K) := ⟨_, _, ok_least_bounds F5 T C_in_bits, PySem.W.mg_of X G a5, F5.kp, F5.binds fun _ _ _ _ _ _ us hl => match us, hl with | [_, _], _ => rfl⟩
  have C_is_exact : Cal l.prog w K mg base "is_exact" 6 ["low", "high"] (sp_is_exact K) := ⟨_, _, ok_is_exact F6 T C_least_bounds, PySem.W.mg_of X G a6, F6.kp, F6.binds fun _ _ _ _ _ _ us hl => match us, hl with | [_, _], _ => rfl⟩
  have C_room_of : Cal l.prog w K mg base "room_of" 5 ["many"] (sp_room_of K) := ⟨_, _, ok_room_of F7 T C_in_bits, PySem.W.mg_of X G a7, F7.kp, F7.binds fun _ _ _ _ _ _ us hl => match us, hl with | [_], _ => rfl⟩
  have C__can_begin : Cal l.prog w K mg base "_can_begin" 1 ["low", "high", "step"] (sp__can_begin K) := ⟨_, _, ok__can_begin F8 T, PySem.W.mg_of X G a8, F8.kp, F8.binds fun _ _ _ _ _ _ us hl => match us, hl with | [_, _, _], _ => rfl⟩
  have C_greatest_high : Cal l.prog w K mg base "greatest_high" 4 ["low", "high"] (sp_greatest_high K) := ⟨_, _, ok_greatest_high F9 T C_look_at_bounds C__can_begin, PySem.W.mg_of X G a9, F9.kp, F9.binds fun _ _ _ _ _ _ us hl => match us, hl with | [_, _], _ => rfl⟩
  have C__law_take : Cal l.prog w K mg base "_law_take" 1 ["_law_pool_here", "_law_many"] (sp__law_take K) := ⟨_, _, ok__law_take F10 T, PySem.W.mg_of X G a10, F10.kp, F10.binds fun _ _ _ _ _ _ us hl => match us, hl with | [_, _], _ => rfl⟩
  have C__law_pool : Cal l.prog w K mg base "_law_pool" 1 ["_law_script", "_law_k"] (sp__law_pool K) := ⟨_, _, ok__law_pool F11 T, PySem.W.mg_of X G a11, F11.kp, F11.binds fun _ _ _ _ _ _ us hl => match us, hl with | [_, _], _ => rfl⟩
  have C__law_least : Cal l.prog w K mg base "_law_least" 1 ["_law_low", "_law_high_here"] (sp__law_least K) := ⟨_, _, ok__law_least F12 T, PySem.W.mg_of X G a12, F12.kp, F12.binds fun _ _ _ _ _ _ us hl => match us, hl with | [_, _], _ => rfl⟩
  have C__law_room : Cal l.prog w K mg base "_law_room" 1 ["_law_many"] (sp__law_room K) := ⟨_, _, ok__law_room F13 T, PySem.W.mg_of X G a13, F13.kp, F13.binds fun _ _ _ _ _ _ us hl => match us, hl with | [_], _ => rfl⟩
  have C__law_high : Cal l.prog w K mg base "_law_high" 2 ["_law_low", "_law_high_here"] (sp__law_high K) := ⟨_, _, ok__law_high F14 T C__law_least, PySem.W.mg_of X G a14, F14.kp, F14.binds fun _ _ _ _ _ _ us hl => match us, hl with | [_, _], _ => rfl⟩
  have C__law_room_so : Cal l.prog w K mg base "_law_room_so" 7 ["_law_pool_here", "_law_many"] (sp__law_room_so K) := ⟨_, _, ok__law_room_so F15 T C_is_exact C_room_of C__law_take C__law_room, PySem.W.mg_of X G a15, F15.kp, F15.binds fun _ _ _ _ _ _ us hl => match us, hl with | [_, _], _ => rfl⟩
  exact ok_law F16 T C_greatest_high C__law_take C__law_pool C__law_high C__law_room_so
end My
open PySem PySem.W PyProof.Rows
set_option maxRecDepth 100000 in
set_option maxHeartbeats 0 in
theorem PySem.Challenge.cw_sealedreach_k08_rooms_and_greatest_highs_holds : PySem.Challenge.rw_sealedreach_k08_rooms_and_greatest_highs.Holds := by
  w_on; o_law; k_head; (case hw => w_witness2)
  k_fill
  refine L2.walk_of (l := PySem.Challenge.rw_sealedreach_k08_rooms_and_greatest_highs) (n := 63) (k := 8) (x := "_law_script") (CX := fun _ => L2.CX0) (sp := fun w => My.sp_law _) rfl (by decide) rfl ⟨rfl, by decide, by decide⟩ (fun w h Y => PySem.W.kIn_of Y) ?F (fun _ _ a ns hl _ hS => ⟨a, ns, rfl, hS, hl, fun _ => rfl⟩) (fun _ _ _ _ _ h => h)
  case F =>
    intro w mg fa h KX G hmg
    refine' My.all_mk KX G hmg ?a0 ?l0 ?c0 ?k0 ?a1 ?l1 ?c1 ?k1 ?a2 ?l2 ?c2 ?k2 ?a3 ?l3 ?c3 ?k3 ?a4 ?l4 ?c4 ?k4 ?a5 ?l5 ?c5 ?k5 ?a6 ?l6 ?c6 ?k6 ?a7 ?l7 ?c7 ?k7 ?a8 ?l8 ?c8 ?k8 ?a9 ?l9 ?c9 ?k9 ?a10 ?l10 ?c10 ?k10 ?a11 ?l11 ?c11 ?k11 ?a12 ?l12 ?c12 ?k12 ?a13 ?l13 ?c13 ?k13 ?a14 ?l14 ?c14 ?k14 ?a15 ?l15 ?c15 ?k15 ?a16 ?l16 ?c16 ?k16 ?z_abs ?z_bool ?z_int ?z_isinstance ?z_len ?z_list ?z_max ?z_min ?z_range ?z_sum ?z_tuple ?v_CELLS ?v_LEAST_COUNT ?v_TOP_COUNT ?v_TOP_STEP
    (case a0 => k_is)
    (case l0 => k_is)
    (case c0 => k_is)
    (case k0 => k_is)
    (case a1 => k_is)
    (case l1 => k_is)
    (case c1 => k_is)
    (case k1 => k_is)
    (case a2 => k_is)
    (case l2 => k_is)
    (case c2 => k_is)
    (case k2 => k_is)
    (case a3 => k_is)
    (case l3 => k_is)
    (case c3 => k_is)
    (case k3 => k_is)
    (case a4 => k_is)
    (case l4 => k_is)
    (case c4 => k_is)
    (case k4 => k_is)
    (case a5 => k_is)
    (case l5 => k_is)
    (case c5 => k_is)
    (case k5 => k_is)
    (case a6 => k_is)
    (case l6 => k_is)
    (case c6 => k_is)
    (case k6 => k_is)
    (case a7 => k_is)
    (case l7 => k_is)
    (case c7 => k_is)
    (case k7 => k_is)
    (case a8 => k_is)
    (case l8 => k_is)
    (case c8 => k_is)
    (case k8 => k_is)
    (case a9 => k_is)
    (case l9 => k_is)
    (case c9 => k_is)
    (case k9 => k_is)
    (case a10 => k_is)
    (case l10 => k_is)
    (case c10 => k_is)
    (case k10 => k_is)
    (case a11 => k_is)
    (case l11 => k_is)
    (case c11 => k_is)
    (case k11 => k_is)
    (case a12 => k_is)
    (case l12 => k_is)
    (case c12 => k_is)
    (case k12 => k_is)
    (case a13 => k_is)
    (case l13 => k_is)
    (case c13 => k_is)
    (case k13 => k_is)
    (case a14 => k_is)
    (case l14 => k_is)
    (case c14 => k_is)
    (case k14 => k_is)
    (case a15 => k_is)
    (case l15 => k_is)
    (case c15 => k_is)
    (case k15 => k_is)
    (case a16 => k_is)
    (case l16 => k_is)
    (case c16 => k_is)
    (case k16 => k_is)
    (case z_abs => k_is)
    (case z_bool => k_is)
    (case z_int => k_is)
    (case z_isinstance => k_is)
    (case z_len => k_is)
    (case z_list => k_is)
    (case z_max => k_is)
    (case z_min => k_is)
    (case z_range => k_is)
    (case z_sum => k_is)
    (case z_tuple => k_is)
    (case v_CELLS => k_is)
    (case v_LEAST_COUNT => k_is)
    (case v_TOP_COUNT => k_is)
    (case v_TOP_STEP => k_is)
