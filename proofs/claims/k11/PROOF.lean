import PyProof.Rows.All
import Wide.All
import OpenK.AllK
import Wide.FinOn
import HandS.ForMost
import HandS.IsInst
import HandS.Conv
import HandS.TupLe
import HandS.Walk
import HandS.Zip
import HandS.Wide
import HandS.SetFor
import PySem.Challenge.RW_sealedreach_k11_words_within_words
set_option Elab.async false
set_option linter.all false
set_option maxRecDepth 100000
set_option maxHeartbeats 4000000
namespace My
open PySem PySem.Spec PyProof.Rows L2
/-! ### calls of a def by its name alone -/
structure Cal (P : Program) (w : World) (K : PySem.W.Frag) (mg : Str → Option Value) (base : Heap) (x : Str) (k : Nat) (ps : List Str) (sp : Sp) : Prop where
  ex : ∃ (f : Addr) (fd : FuncData), FnOk P w K mg base CX0 k f fd ps sp ∧ mg x = some (.ref f) ∧ PySem.W.keepIn K (.ref f) = true ∧ Binds K fd ps []
theorem pe_cal {X : Cx} {x : Str} {k : Nat} {ps : List Str} {sp : Sp} {e : Expr} {es : List Expr} {t : TA} {p pos : Pos} (C : Cal X.prog X.w X.K X.mg X.base x k ps sp) (hr : Room k X.A)
    (ha : PA X (e :: es) t) (hg : Gl X x := by rfl) (hdb : (x == ("__debug__" : Str)) = false := by decide) (he : starEach (e :: es) X.env = (false, eval e X.env) :: starEach es X.env := by rfl) (hpl : (backTo pos (starEach es X.env)).any (·.1) = false := by rfl) :
    PE X (.Call (.Name x p) (e :: es) [] pos) (tCall sp [] E0 t) := by
  obtain ⟨f, fd, G, g, kp, b⟩ := C.ex
  exact pe_call G hr hg g kp b .nil pass0 ha hdb he hpl
/-! ### tests -/
theorem ifnd {p : Prop} [Decidable p] {A B : Prop} (h1 : ¬ p → A) (h2 : p → B) : if (!decide p) = true then A else B := by
  by_cases h : p
  · rw [decide_eq_true h]; exact h2 h
  · rw [decide_eq_false h]; exact h1 h
theorem ifnb {c : Bool} {A B : Prop} (h1 : c = false → A) (h2 : c = true → B) : if (!c) = true then A else B := by
  cases c with
  | true => exact h2 rfl
  | false => exact h1 rfl
theorem ifd {p : Prop} [Decidable p] {A B : Prop} (h1 : p → A) (h2 : ¬ p → B) : if decide p = true then A else B := by
  by_cases h : p
  · rw [if_pos (decide_eq_true h)]; exact h1 h
  · rw [decide_eq_false h, if_neg Bool.false_ne_true]; exact h2 h
theorem ifP {p : Prop} [Decidable p] {A B : Prop} (h : p) (h1 : A) : if decide p = true then A else B := by
  rw [if_pos (decide_eq_true h)]; exact h1
theorem ifN {p : Prop} [Decidable p] {A B : Prop} (h : ¬ p) (h1 : B) : if decide p = true then A else B := by
  rw [decide_eq_false h, if_neg Bool.false_ne_true]; exact h1
theorem ifb {c : Bool} {A B : Prop} (h1 : c = true → A) (h2 : c = false → B) : if c = true then A else B := by
  cases c with
  | true => rw [if_pos rfl]; exact h1 rfl
  | false => rw [if_neg Bool.false_ne_true]; exact h2 rfl
theorem ifbT {c : Bool} {A B : Prop} (h : c = true) (h1 : A) : if c = true then A else B := by rw [if_pos h]; exact h1
theorem ifbF {c : Bool} {A B : Prop} (h : c = false) (h1 : B) : if c = true then A else B := by rw [h, if_neg Bool.false_ne_true]; exact h1
/-! ### heaps -/
theorem viaS {H H' : Hp} {b : Addr} {o : HO} (s : Same H H') (h : H b = some o) : H' b = some o := s b o h
theorem same_new {H : Hp} {p : Addr} {o : HO} (h : H p = none) : Same H (upd H p o) := fun b x e => by
  rw [upd_ne (ne_of_none e h)]; exact e
/-- all but what stands at a is as it was -/
def But (a : Addr) (H H' : Hp) : Prop := ∀ b o, b ≠ a → H b = some o → H' b = some o
theorem viaB {H H' : Hp} {a b : Addr} {o : HO} (s : But a H H') (n : b ≠ a) (h : H b = some o) : H' b = some o := s b o n h
theorem But.refl (a : Addr) (H : Hp) : But a H H := fun _ _ _ h => h
theorem But.of {a : Addr} {H H' : Hp} (s : Same H H') : But a H H' := fun b o _ h => s b o h
theorem But.trans {a : Addr} {H H1 H2 : Hp} (s : But a H H1) (t : But a H1 H2) : But a H H2 := fun b o n h => t b o n (s b o n h)
theorem But.upd {a : Addr} {H H' : Hp} {o : HO} (s : But a H H') : But a H (upd H' a o) := fun b x n h => by
  rw [upd_ne n]; exact s b x n h
theorem But.new {a p : Addr} {H H' : Hp} {o : HO} (s : But a H H') (n : H' p = none) : But a H (L2.upd H' p o) := fun b x nb h => by
  have e := s b x nb h
  rw [upd_ne (ne_of_none e n)]; exact e
theorem sameN {p : Addr} {H H' : Hp} {o : HO} (s : Same H H') (n : H' p = none) : Same H (L2.upd H' p o) := fun b x h => by
  have e := s b x h
  rw [upd_ne (ne_of_none e n)]; exact e
theorem updK {H : Hp} {a b : Addr} {o u : HO} (n : b ≠ a) (h : H b = some u) : L2.upd H a o b = some u := by rw [upd_ne n]; exact h
/-- the pool of a law: a list of two numbers, the second small -/
def Pool (H : Hp) (a : Addr) (x y : Int) : Prop := H a = some (.lst [.int x, .int y]) ∧ 0 ≤ x ∧ 0 ≤ y ∧ y < 2147483647

local macro_rules | `(tactic| walk_at "ne") => `(tactic| first | assumption | (apply Ne.symm; assumption) | (refine ne_of_none ?_ (by assumption); walk_at "at") | (apply Ne.symm; refine ne_of_none ?_ (by assumption); walk_at "at"))
local macro_rules | `(tactic| walk_at "at") => `(tactic| first | assumption | exact upd_same | (refine updK ?n ?h; (case n => walk_at "ne"); (case h => walk_at "at")) | (refine viaS (by assumption) ?_; walk_at "at") | (refine viaB (by assumption) ?n ?h; (case n => walk_at "ne"); (case h => walk_at "at")))
local macro_rules | `(tactic| walk_at "side") => `(tactic| first | rfl | omega | decide | (refine ⟨by omega, by omega, ?_⟩; first | decide | omega) | (refine Or.inl ⟨by omega, by omega⟩) | (refine Or.inr ⟨by omega, by omega⟩) | exact ⟨by omega, by omega⟩)
/-- one step of a reading whose answers are plain -/
local macro_rules | `(tactic| walk_at "g1") => `(tactic| first | refine ⟨_, rfl, ?_⟩ | refine ⟨_, _, rfl, rfl, ?_⟩ | refine ⟨by walk_at "side", ?_⟩)
local macro_rules | `(tactic| walk_at "g") => `(tactic| repeat walk_at "g1")
theorem sz {n : Nat} (h : n ≤ 1000) : n ≤ sizeLine := Nat.le_of_lt (small1000 h)
theorem Pool.new {H : Hp} {p q : Addr} {x y : Int} {o : HO} (h : Pool H p x y) (n : H q = none) : Pool (upd H q o) p x y := ⟨by rw [upd_ne (ne_of_none h.1 n)]; exact h.1, h.2⟩
def rep (c L : Int) : Int := if (if c < L then c else L) > 1 then (if c < L then c else L) else 1
theorem rep_le {c L : Int} (h : 1 ≤ c) (h2 : c ≤ 63) : 1 ≤ rep c L ∧ rep c L ≤ c := by
  unfold rep
  by_cases d : c < L
  · simp only [if_pos d]; split <;> omega
  · simp only [if_neg d]; split <;> omega
theorem rep_lo {c L : Int} (h : 1 ≤ c) (h2 : c ≤ 63) : -(2 ^ 62) ≤ rep c L := by have := (rep_le (L := L) h h2).1; omega
theorem rep_hi {c L : Int} (h : 1 ≤ c) (h2 : c ≤ 63) : rep c L < 2 ^ 62 := by have := (rep_le (L := L) h h2).2; omega
theorem rep_i {c L : Int} {i : Nat} (h : 1 ≤ c) (h2 : c ≤ 63) (k : i < (rep c L).toNat) : i ≤ 63 := by have := (rep_le (L := L) h h2).2; omega
/-- a pool's own changes leave what stood ahead of it -/
theorem sameP {H H1 H2 H3 : Hp} {p : Addr} (s : Same H H1) (s1 : Same H1 H2) (n : H1 p = none) (b : But p H2 H3) : Same H H3 := fun c o e =>
  b c o (ne_of_none (s c o e) n) (s1 _ _ (s _ _ e))
theorem pick {xs : List V} {r : Int} (P : V → Prop) (h0 : 0 ≤ r) (h1 : r < (xs.length : Int)) (hP : ∀ v ∈ xs, P v) : ∃ v, atI xs r = some v ∧ P v := by
  obtain ⟨j, rfl⟩ : ∃ j : Nat, r = (j : Int) := ⟨r.toNat, by omega⟩
  have hj : j < xs.length := by omega
  exact ⟨xs[j], atI_nat (List.getElem?_eq_getElem hj), hP _ (List.getElem_mem hj)⟩
theorem cut63 {ns : List Int} (h : ns.length ≤ 63) : cutV (ns.map V.int) none (some 63) = ns.map V.int := by
  unfold cutV
  rw [show HT.sIx (ns.map V.int).length (ns.map V.int).length (some 63) = min 63 (ns.map V.int).length from HT.sIx_nat _ _ 63, HT.sIx_none]
  rw [List.drop_zero, Nat.sub_zero, List.length_map, Nat.min_eq_right h]
  exact List.take_of_length_le (by simp)
theorem qb {Q : VK} {H : Hp} {b b' : Bool} (q : Q (.bl b') H) (e : b = b') : Q (.bl b) H := e ▸ q
theorem qi {Q : VK} {H : Hp} {i j : Int} (q : Q (.int j) H) (e : i = j) : Q (.int i) H := e ▸ q
/-! ### enumerate over a text -/
def Ies (x : Str) : It := ⟨fun i _ => i < x.cps.size, fun i H v H' => ∃ T c, v = .ref T ∧ H T = none ∧ H' = upd H T (.tup [.int (i : Nat), .str ⟨#[c]⟩]) ∧ x.cps[i]? = some c, fun i _ => i = x.cps.size⟩
theorem turn_enumS {P : Program} {w : World} {K : PySem.W.Frag} {elts : List Expr} {kk : Nat} {tpos : Pos} (e it : Addr) (x : Str) (t : Tok) :
    Turn P w K (.Tuple elts kk tpos) (Ies x) [e, it] e (fun i h => (∃ old, IsEnum h e it ((i : Nat) : Int) old) ∧ h.IsStrIter it (strIterType x) x t i ∧ e ≠ it) where
  mem := by simp
  obj := fun i h st b hb => by
    obtain ⟨⟨old, he⟩, ⟨o, ho, hc, hd⟩, _⟩ := st
    have e' : b = e ∨ b = it := by simpa using hb
    rcases e' with z | z
    · rw [z]; exact ⟨_, he, fun v q => nomatch q⟩
    · rw [z]; exact ⟨o, ho, fun v q => by rw [hd] at q; cases q⟩
  keep := fun i h h' st k => let ⟨⟨old, he⟩, ⟨o, ho, r⟩, hne⟩ := st; ⟨⟨old, k e (by simp) _ he⟩, ⟨o, k it (by simp) o ho, r⟩, hne⟩
  item := by
    intro X hP hw hK hc i pins s σ H E I hf st hg
    subst hP hw hK
    obtain ⟨⟨old, he⟩, hit, hne⟩ := st
    have hel : e < s.heap.objs.size := Heap.lt_size he
    have hil : it < s.heap.objs.size := by obtain ⟨_, q, _⟩ := hit; exact Heap.lt_size q
    have hd : X.A.in1.handled = none := I.ok.hd hc
    have D : Draws X.prog X.w X.A.in1 it [it] x.cps.size (fun i v => ∃ c u, x.cps[i]? = some c ∧ v = .str ⟨#[c]⟩ u) (fun i h => h.IsStrIter it (strIterType x) x t i) := by
      unfold strIterType
      split
      · exact Draws.strAscii hd it x t
      · exact Draws.strWide hd it x t
    refine wpAny_pyNext_enum_itemD D he hit hg hne (by simpa using hne) fun v h' tk hv ho hit' hT hsz hk => ?_
    obtain ⟨c, u, hcx, rfl⟩ := hv
    refine ⟨_, rfl, wpAny_letOwnedTupleGo_enum (s := { s with heap := h', toks := tk + 1 }) ho fun h'' he' sb => ?_⟩
    have hT2 : h''.get? s.heap.objs.size = some { cls := .type "tuple", data := .seq #[.int i tk, .str ⟨#[c]⟩ u] } := (sb.2 _ (Nat.ne_of_gt hel)).trans hT
    have new : ObjOk X.prog X.w (upd H s.heap.objs.size (.tup [.int (i : Nat), .str ⟨#[c]⟩])) h'' s.heap.objs.size (.tup [.int (i : Nat), .str ⟨#[c]⟩]) :=
      ⟨by show 2 ≤ sizeLine; decide, [.int i tk, .str ⟨#[c]⟩ u], .cons ⟨_, rfl⟩ (.cons ⟨_, rfl⟩ .nil), ⟨_, hT2, rfl, _, rfl⟩⟩
    have I1 : Inv X pins σ (upd H s.heap.objs.size (.tup [.int (i : Nat), .str ⟨#[c]⟩])) { s with heap := h'', toks := tk + 1 } :=
      I.turnedNew (ch := [e, it]) (fun b ob hb q => (sb.2 b (fun z => hb (by simp [z]))).trans (hk b ob (fun z => hb (by simp [z])) (fun z => hb (by simp [z])) q)) hf (Nat.le_refl _) new
    refine ⟨.ref s.heap.objs.size, _, I1, rfl, ⟨_, c, rfl, I.hok.fresh (Nat.le_refl _), rfl, hcx⟩, ⟨⟨.str ⟨#[c]⟩ u, ?_⟩, ?_, hne⟩, fun b hb => ?_⟩
    · have e1 : ((i + 1 : Nat) : Int) = (i : Int) + 1 := by omega
      rw [e1]; exact he'
    · obtain ⟨o2, q2, r2⟩ := hit'
      exact ⟨o2, (sb.2 it (Ne.symm hne)).trans q2, r2⟩
    · have hb' : b < s.heap.objs.size := by
        have e' : b = e ∨ b = it := by simpa using hb
        rcases e' with z | z
        · rw [z]; exact hel
        · rw [z]; exact hil
      rw [upd_ne (Nat.ne_of_lt hb')]
      exact (hf b hb).1
  done := by
    intro X hP hw hK hc i pins s σ H E I hf st hg
    subst hP hw hK
    obtain ⟨⟨old, he⟩, hit, hne⟩ := st
    have hg' : i = x.cps.size := hg
    subst hg'
    have hd : X.A.in1.handled = none := I.ok.hd hc
    have D : Draws X.prog X.w X.A.in1 it [it] x.cps.size (fun i v => ∃ c u, x.cps[i]? = some c ∧ v = .str ⟨#[c]⟩ u) (fun i h => h.IsStrIter it (strIterType x) x t i) := by
      unfold strIterType
      split
      · exact Draws.strAscii hd it x t
      · exact Draws.strWide hd it x t
    obtain ⟨f0, f1, f2, f3, f4, f5⟩ := hf it (by simp)
    exact wpAny_pyNext_enum_endD D he hit fun h' eb => ⟨rfl, I.turned (t' := s.toks) (fun b o hb q => eb b o hb q) f0 f1 f3 f4 f5⟩
  self := fun A i s Q E st h => let ⟨⟨_, he⟩, _⟩ := st; wpAny_pyIter_enum he h
def iEnumS (ta : TA) : TI := fun σ H R => ta σ H fun vs H1 => ∃ x : Str, vs = [.str x] ∧ R (Ies x) H1
theorem pi_enumS {X : Cx} {e : Expr} {ta : TA} {p pos tpos : Pos} {elts : List Expr} {kk : Nat} (hg : Gl X "enumerate") (hm : X.mg "enumerate" = none) (ha : PA X [e] ta) (hs : starEach [e] X.env = [(false, eval e X.env)] := by rfl) :
    PI X (.Tuple elts kk tpos) (.Call (.Name "enumerate" p) [e] [] pos) (iEnumS ta) := by
  refine ⟨fun pins s σ H R I h => ?_⟩
  refine Call_ (ld_blt I hg hm boot_enumerate (PyProof.Rows.callWith_type1 (thn (ha.run pos pins s σ H _ I h) fun us s1 ⟨vs, H1, I1, r1, q1⟩ => ?_) hs rfl))
  obtain ⟨x, ex, q⟩ := q1
  subst ex
  cases r1 with
  | cons r rr =>
    cases rr
    obtain ⟨t, rfl⟩ := r
    refine call_enumerate_str fun h' he hit hsz hk => wpAny_pyIter_enum he ?_
    have I2 : Inv X pins σ H1 { s1 with heap := h' } := I1.kept (t' := s1.toks) hk
    refine ⟨s1.heap.objs.size + 1, [s1.heap.objs.size + 1, s1.heap.objs.size], _, _, H1, rfl, I2, turn_enumS (s1.heap.objs.size + 1) s1.heap.objs.size x t, ⟨⟨.none, he⟩, hit, Nat.succ_ne_self _⟩, fun b hb => ?_, q⟩
    have e' : b = s1.heap.objs.size + 1 ∨ b = s1.heap.objs.size := by simpa using hb
    have hle : s1.heap.objs.size ≤ b := by
      rcases e' with z | z
      · rw [z]; exact Nat.le_add_right _ _
      · rw [z]; exact Nat.le_refl _
    exact I1.fpOk hle (I1.hok.fresh hle)
theorem walk_enumS {z : Str} : Walk (Ies z) z.cps.size (fun _ => True) (YPair (fun i => some (.int (i : Nat))) (fun i => (z.cps[i]?).map fun c => .str ⟨#[c]⟩)) where
  goes := fun i H hi _ => hi
  stops := fun H _ => rfl
  yields := fun i H x H' hi _ y => by
    obtain ⟨T, c, rfl, hn, rfl, hc⟩ := y
    exact ⟨T, _, _, rfl, hn, rfl, rfl, by simp [hc]⟩
theorem walk_zipT {K : PySem.W.Frag} {a b : Addr} {xs ys : List V} {n : Nat} (hn : n = min xs.length ys.length) : Walk (RZ.ItzT K a b) n (fun H => SqT K H a xs ∧ SqT K H b ys) (YPair (fun i => xs[i]?) (fun i => ys[i]?)) where
  goes := fun i H hi h => by
    have h1 : i < xs.length := by omega
    have h2 : i < ys.length := by omega
    exact ⟨xs, ys, xs[i], ys[i], h.1, h.2, List.getElem?_eq_getElem h1, List.getElem?_eq_getElem h2⟩
  stops := fun H h => ⟨xs, ys, h.1, h.2, by omega⟩
  yields := fun i H x H' hi h y => by
    obtain ⟨T, x1, y1, rfl, hn', rfl, h1, h2⟩ := y
    exact ⟨T, x1, y1, rfl, hn', rfl, h1 xs h.1, h2 ys h.2⟩

theorem b01 (k : Bool) : -(2 ^ 64) < (if k then (1 : Int) else 0) ∧ (if k then (1 : Int) else 0) < 2 ^ 64 := by cases k <;> decide
theorem mixb (z : Int) : -(2 ^ 64) < z % 2147483647 ∧ z % 2147483647 < 2 ^ 64 := by omega
theorem sizeb (c : Int) (k : Bool) : 0 ≤ (if c < 0 then -c else c) * (if k then (1 : Int) else 0) := by
  cases k
  · simp
  · simp; split <;> omega

/-! ### the mathematics of bounds -/
def Dd (lo hi : Int) (t : Nat) : Int := (hi - 1) / 2 ^ t - lo / 2 ^ t
def StepIs (lo hi : Int) (s : Nat) : Prop := s ≤ 8 ∧ Dd lo hi s ≤ 15 ∧ ∀ t, t < s → 15 < Dd lo hi t
def Bd (lo hi : Int) : Prop := 0 ≤ lo ∧ lo < hi ∧ hi ≤ 4096
def Ex (lo hi : Int) (s : Nat) : Prop := StepIs lo hi s ∧ lo / 2 ^ s * 2 ^ s = lo ∧ ((hi - 1) / 2 ^ s + 1) * 2 ^ s = hi
theorem le8 {s : Nat} (h : s ≤ 8) : s = 0 ∨ s = 1 ∨ s = 2 ∨ s = 3 ∨ s = 4 ∨ s = 5 ∨ s = 6 ∨ s = 7 ∨ s = 8 := by omega
theorem StepIs.uniq {lo hi : Int} {s t : Nat} (h : StepIs lo hi s) (k : StepIs lo hi t) : s = t := by
  rcases Nat.lt_trichotomy s t with c | c | c
  · have := k.2.2 s c; have := h.2.1; omega
  · exact c
  · have := h.2.2 t c; have := k.2.1; omega
theorem pow_pos2 (s : Nat) : (0 : Int) < 2 ^ s := Int.pow_pos (by decide)
theorem over_eq (lo hi : Int) (s : Nat) : (hi + 1 * 2 ^ s - 1) / 2 ^ s - lo / 2 ^ s = Dd lo hi s + 1 := by
  have e : hi + 1 * 2 ^ s - 1 = (hi - 1) + 1 * 2 ^ s := by omega
  rw [e, Int.add_mul_ediv_right _ _ (Int.ne_of_gt (pow_pos2 s))]
  unfold Dd
  omega
theorem first_over (lo hi : Int) (s : Nat) : lo / 2 ^ s + (Dd lo hi s + 1) = (hi - 1) / 2 ^ s + 1 := by
  unfold Dd; omega
theorem dd8 {lo hi : Int} (b : Bd lo hi) : Dd lo hi 8 ≤ 15 := by
  obtain ⟨h1, h2, h3⟩ := b
  unfold Dd
  have e : (2 : Int) ^ 8 = 256 := by decide
  rw [e]; omega
/-- going up from nought: below s all are too many -/
theorem lt8 {lo hi : Int} {s : Nat} (b : Bd lo hi) (h : 15 < Dd lo hi s) (u : s ≤ 8) : s < 8 := by
  rcases Nat.lt_or_ge s 8 with c | c
  · exact c
  · have e : s = 8 := by omega
    subst e
    have := dd8 b
    omega
/-- what a shift asks -/
theorem p8 {s : Nat} (h : s ≤ 8) : (2 : Int) ^ s ≤ 256 := by
  rcases le8 h with e | e | e | e | e | e | e | e | e <;> subst e <;> decide
theorem na {x : Int} (h0 : 0 ≤ x) (h1 : x ≤ 100000) : x.natAbs < 2 ^ 64 := by omega
theorem div_le' {x : Int} {s : Nat} (h0 : 0 ≤ x) : 0 ≤ x / 2 ^ s ∧ x / 2 ^ s ≤ x :=
  ⟨Int.ediv_nonneg h0 (Int.le_of_lt (pow_pos2 s)), Int.ediv_le_self _ h0⟩
theorem bc {lo hi : Int} {s : Nat} (b : Bd lo hi) (h : s ≤ 8) : CPow (lo / 2 ^ s) (s : Int) := by
  have := div_le' (s := s) b.1
  have := b.2
  exact ⟨by omega, by omega, na (by omega) (by omega)⟩
theorem bc2 {lo hi : Int} {s : Nat} (b : Bd lo hi) (h : StepIs lo hi s) : CPow (lo / 2 ^ s + (Dd lo hi s + 1)) (s : Int) := by
  have h8 := h.1
  obtain ⟨b1, b2, b3⟩ := b
  have := div_le' (s := s) (x := hi - 1) (by omega)
  rw [first_over]
  exact ⟨by omega, by omega, na (by omega) (by omega)⟩
theorem dd0 (n : Int) (s : Nat) : Dd 0 n s + 1 = (n - 1) / 2 ^ s + 1 := by
  unfold Dd; rw [Int.zero_ediv]; omega
theorem bc3 {n : Int} {s : Nat} (h : StepIs 0 n s) (b : Bd 0 n) : CPow (Dd 0 n s + 1) (s : Int) := by
  have h8 := h.1
  obtain ⟨b1, b2, b3⟩ := b
  have := div_le' (s := s) (x := n - 1) (by omega)
  rw [dd0]
  exact ⟨by omega, by omega, na (by omega) (by omega)⟩
def Can (lo hi : Int) (s : Nat) : Prop := lo % 2 ^ s = 0 ∧ 9 ≤ (hi - lo) / 2 ^ s
def GH (lo hi : Int) (s : Nat) : Prop := s ≤ 8 ∧ (s = 0 ∨ Can lo hi s) ∧ ∀ t, s < t → t ≤ 8 → ¬ Can lo hi t
def mn (lo hi : Int) (s : Nat) : Int := if (hi - lo) / 2 ^ s < 16 then (hi - lo) / 2 ^ s else 16
theorem cmn {lo hi : Int} {s : Nat} (b : Bd lo hi) (h : s ≤ 8) : CPow (mn lo hi s) (s : Int) := by
  obtain ⟨b1, b2, b3⟩ := b
  have := div_le' (s := s) (x := hi - lo) (by omega)
  unfold mn
  refine ⟨by omega, by omega, na ?_ ?_⟩ <;> split <;> omega
theorem bl_int {a b : Int} : decide (V.int a = V.int b) = decide (a = b) := by
  by_cases h : a = b
  · subst h; simp
  · have : ¬ (V.int a = V.int b) := fun e => h (V.int.inj e)
    simp [h, this]
theorem t2_eqv {a b c d : Int} : PyData.eqv (.tuple [.int a, .int b]) (.tuple [.int c, .int d]) = true ↔ a = c ∧ b = d := by
  simp [PyData.eqv, PyData.eqvAll]
theorem t2_no {a b c d : Int} (e : PyData.eqv (.tuple [.int a, .int b]) (.tuple [.int c, .int d]) = false) (h1 : a = c) (h2 : b = d) : False := by
  rw [t2_eqv.mpr ⟨h1, h2⟩] at e; cases e
theorem dp2 {K : PySem.W.Frag} {H : Hp} {p : Addr} {a b : Int} (h : H p = some (.tup [.int a, .int b])) : Dp K H (.ref p) (.tuple [.int a, .int b]) :=
  .tup (.of h) (.cons (.int a) (.cons (.int b) .nil))
theorem t3_eqv {a b x c d y : Int} : PyData.eqv (.tuple [.int a, .int b, .int x]) (.tuple [.int c, .int d, .int y]) = true ↔ a = c ∧ b = d ∧ x = y := by
  simp [PyData.eqv, PyData.eqvAll]
theorem dp3 {K : PySem.W.Frag} {H : Hp} {p : Addr} {a b c : Int} (h : H p = some (.tup [.int a, .int b, .int c])) : Dp K H (.ref p) (.tuple [.int a, .int b, .int c]) :=
  .tup (.of h) (.cons (.int a) (.cons (.int b) (.cons (.int c) .nil)))

/-! ### things of any kind -/
inductive Kd (H : Hp) : V → Prop where
  | non : Kd H .non
  | bl (b : Bool) : Kd H (.bl b)
  | int (i : Int) : Kd H (.int i)
  | str (x : Str) : Kd H (.str x)
  | lst {p : Addr} {xs : List V} (e : H p = some (.lst xs)) : Kd H (.ref p)
  | tup {p : Addr} {xs : List V} (e : H p = some (.tup xs)) : Kd H (.ref p)
  | dk {p : Addr} {kvs : List (Key × V)} (e : H p = some (.dK kvs)) : Kd H (.ref p)
theorem Kd.same {H H' : Hp} {v : V} (k : Kd H v) (s : Same H H') : Kd H' v := by
  cases k with
  | non => exact .non
  | bl b => exact .bl b
  | int i => exact .int i
  | str x => exact .str x
  | lst e => exact .lst (s _ _ e)
  | tup e => exact .tup (s _ _ e)
  | dk e => exact .dk (s _ _ e)
def isI : V → Bool | .int _ => true | .bl _ => true | _ => false
def isB : V → Bool | .bl _ => true | _ => false
def isS : V → Bool | .str _ => true | _ => false
theorem Kd.int? {K : PySem.W.Frag} {H : Hp} {v : V} (k : Kd H v) : ∃ t, TyX K H v t ∧ PySem.W.kitOne K t (.type "int") = some (isI v) := by
  cases k with
  | non => exact ⟨_, .base .non, kit_ty (r := false) (by decide +kernel)⟩
  | bl b => exact ⟨_, .base (.bl b), kit_ty (r := true) (by decide +kernel)⟩
  | int i => exact ⟨_, .base (.int i), kit_ty (r := true) (by decide +kernel)⟩
  | str x => exact ⟨_, .base (.str x), kit_ty (r := false) (by decide +kernel)⟩
  | lst e => exact ⟨_, .base (.lst e), kit_ty (r := false) (by decide +kernel)⟩
  | tup e => exact ⟨_, .base (.tup e), kit_ty (r := false) (by decide +kernel)⟩
  | dk e => exact ⟨_, .base (.dK e), kit_ty (r := false) (by decide +kernel)⟩
theorem Kd.bool? {K : PySem.W.Frag} {H : Hp} {v : V} (k : Kd H v) : ∃ t, TyX K H v t ∧ PySem.W.kitOne K t (.type "bool") = some (isB v) := by
  cases k with
  | non => exact ⟨_, .base .non, kit_ty (r := false) (by decide +kernel)⟩
  | bl b => exact ⟨_, .base (.bl b), kit_ty (r := true) (by decide +kernel)⟩
  | int i => exact ⟨_, .base (.int i), kit_ty (r := false) (by decide +kernel)⟩
  | str x => exact ⟨_, .base (.str x), kit_ty (r := false) (by decide +kernel)⟩
  | lst e => exact ⟨_, .base (.lst e), kit_ty (r := false) (by decide +kernel)⟩
  | tup e => exact ⟨_, .base (.tup e), kit_ty (r := false) (by decide +kernel)⟩
  | dk e => exact ⟨_, .base (.dK e), kit_ty (r := false) (by decide +kernel)⟩
theorem Kd.str? {K : PySem.W.Frag} {H : Hp} {v : V} (k : Kd H v) : ∃ t, TyX K H v t ∧ PySem.W.kitOne K t (.type "str") = some (isS v) := by
  cases k with
  | non => exact ⟨_, .base .non, kit_ty (r := false) (by decide +kernel)⟩
  | bl b => exact ⟨_, .base (.bl b), kit_ty (r := false) (by decide +kernel)⟩
  | int i => exact ⟨_, .base (.int i), kit_ty (r := false) (by decide +kernel)⟩
  | str x => exact ⟨_, .base (.str x), kit_ty (r := true) (by decide +kernel)⟩
  | lst e => exact ⟨_, .base (.lst e), kit_ty (r := false) (by decide +kernel)⟩
  | tup e => exact ⟨_, .base (.tup e), kit_ty (r := false) (by decide +kernel)⟩
  | dk e => exact ⟨_, .base (.dK e), kit_ty (r := false) (by decide +kernel)⟩
/-- it is no tuple -/
inductive NoT (H : Hp) : V → Prop where
  | non : NoT H .non
  | bl (b : Bool) : NoT H (.bl b)
  | int (i : Int) : NoT H (.int i)
  | str (x : Str) : NoT H (.str x)
  | lst {p : Addr} {xs : List V} (e : H p = some (.lst xs)) : NoT H (.ref p)
  | dk {p : Addr} {kvs : List (Key × V)} (e : H p = some (.dK kvs)) : NoT H (.ref p)
theorem NoT.tup? {K : PySem.W.Frag} {H : Hp} {v : V} (k : NoT H v) : ∃ t, TyX K H v t ∧ PySem.W.kitOne K t (.type "tuple") = some false := by
  cases k with
  | non => exact ⟨_, .base .non, kit_ty (by decide +kernel)⟩
  | bl b => exact ⟨_, .base (.bl b), kit_ty (by decide +kernel)⟩
  | int i => exact ⟨_, .base (.int i), kit_ty (by decide +kernel)⟩
  | str x => exact ⟨_, .base (.str x), kit_ty (by decide +kernel)⟩
  | lst e => exact ⟨_, .base (.lst e), kit_ty (by decide +kernel)⟩
  | dk e => exact ⟨_, .base (.dK e), kit_ty (by decide +kernel)⟩
/-! ### texts of rights -/
def RT : Str := Str.ofString "rwlsnfxco"
def code (k : Nat) : Nat := [114, 119, 108, 115, 110, 102, 120, 99, 111].getD k 0
def one (c : Nat) : Str := ⟨#[c]⟩
theorem RT_size : RT.cps.size = 9 := by decide +kernel
theorem RT_get : ∀ k, k < 9 → RT.cps[k]? = some (code k) := by decide +kernel
theorem code_inj : ∀ j, j < 9 → ∀ k, k < 9 → code j = code k → j = k := by decide +kernel
def rcs (p : Nat → Bool) (i : Nat) : List Str := ((List.range i).filter p).map fun k => one (code k)
def rtx (p : Nat → Bool) : Str := Txt.join (Str.ofString "") (rcs p 9)
theorem joinL_nil : ∀ l : List (List Nat), TL.joinL [] l = l.flatten
  | [] => rfl
  | [p] => by simp [TL.joinL]
  | p :: q :: r => by
    show p ++ ([] ++ TL.joinL [] (q :: r)) = _
    rw [joinL_nil (q :: r)]; simp
theorem rtx_codes (p : Nat → Bool) : (rtx p).cps.toList = ((List.range 9).filter p).map code := by
  unfold rtx
  rw [TL.join_eq]
  show TL.tl (Str.join _ _) = _
  rw [TL.tl_join]
  have e : TL.tl (Str.ofString "") = [] := by decide +kernel
  rw [e, joinL_nil]
  unfold rcs
  generalize (List.range 9).filter p = l
  induction l with
  | nil => rfl
  | cons x r ih =>
    simp only [List.map_cons, List.flatten_cons] at *
    rw [ih]; rfl
theorem rtx_mem (p : Nat → Bool) {k : Nat} (hk : k < 9) : code k ∈ (rtx p).cps.toList ↔ p k = true := by
  rw [rtx_codes, List.mem_map]
  constructor
  · rintro ⟨j, hj, e⟩
    obtain ⟨h1, h2⟩ := List.mem_filter.mp hj
    have : j = k := code_inj j (List.mem_range.mp h1) k hk e
    subst this; exact h2
  · intro h
    exact ⟨k, List.mem_filter.mpr ⟨List.mem_range.mpr hk, h⟩, rfl⟩
theorem rcs_succ (p : Nat → Bool) (i : Nat) : rcs p (i + 1) = rcs p i ++ (if p i = true then [one (code i)] else []) := by
  unfold rcs
  rw [List.range_succ, List.filter_append, List.map_append]
  congr 1
  by_cases h : p i = true
  · simp [h]
  · simp [h]
theorem rcs_len (p : Nat → Bool) (i : Nat) : (rcs p i).length ≤ i := by
  unfold rcs
  rw [List.length_map]
  exact Nat.le_trans (List.length_filter_le _ _) (by rw [List.length_range]; exact Nat.le_refl _)
theorem rcs_one (p : Nat → Bool) (i : Nat) : ((rcs p i).map (·.length)).sum = (rcs p i).length := by
  unfold rcs
  generalize (List.range i).filter p = l
  induction l with
  | nil => rfl
  | cons x r ih =>
    simp only [List.map_cons, List.sum_cons, List.length_cons] at *
    rw [ih]
    show 1 + _ = _
    omega
theorem rcs_fit (p : Nat → Bool) : ((rcs p 9).map (·.length)).sum + (rcs p 9).length * (Str.ofString "").length ≤ 16777216 := by
  have e : (Str.ofString "").length = 0 := by decide +kernel
  rw [e, rcs_one]
  have := rcs_len p 9
  omega
theorem szn {n : Nat} (h : n < 1000) : n < sizeLine := small1000 (Nat.le_of_lt h)
/-- the right k is in a text -/
def hasR (r : Str) (k : Nat) : Bool := decide (code k ∈ r.cps.toList)
def hasG (r g : Str) : Bool := g.cps.toList.any fun c => decide (c ∈ r.cps.toList)
def G0 : Str := Str.ofString "rwlsn"
def G1 : Str := Str.ofString "x"
def G2 : Str := Str.ofString "co"
def OneW (r : Str) : Prop := ([G0, G1, G2].filter (hasG r)).length ≤ 1
def mask (p : Nat → Bool) (i : Nat) : List Int := ((List.range i).filter p).map fun k => (2 : Int) ^ k
def maskOf (r : Str) : Int := (mask (hasR r) 9).sum
theorem mask_succ (p : Nat → Bool) (i : Nat) : mask p (i + 1) = mask p i ++ (if p i = true then [(2 : Int) ^ i] else []) := by
  unfold mask
  rw [List.range_succ, List.filter_append, List.map_append]
  congr 1
  by_cases h : p i = true
  · simp [h]
  · simp [h]
theorem mask_len (p : Nat → Bool) (i : Nat) : (mask p i).length ≤ i := by
  unfold mask
  rw [List.length_map]
  exact Nat.le_trans (List.length_filter_le _ _) (by rw [List.length_range]; exact Nat.le_refl _)
theorem i0 (i : Nat) : (0 : Int) + (i : Int) = (i : Int) := by omega
theorem take_any {g r : Str} {i : Nat} (hi : i < g.cps.size) : (g.cps.toList.take (i + 1)).map (fun c => decide (c ∈ r.cps.toList)) = (g.cps.toList.take i).map (fun c => decide (c ∈ r.cps.toList)) ++ [decide (g.cps[i] ∈ r.cps.toList)] := by
  rw [List.take_add_one, List.map_append]
  congr 1
  simp [hi]
theorem wipe_in {σ : L2.St} {i : Nat} : ∀ {vs : List Nat}, i ∈ vs → (wipe σ vs)[i]? = if i < σ.length then some none else none
  | [], h => by cases h
  | a :: vs, h => by
    show ((wipe σ vs).set a none)[i]? = _
    by_cases e : a = i
    · subst e
      rw [List.getElem?_set_self']
      by_cases l : a < σ.length
      · rw [if_pos l, List.getElem?_eq_getElem (by rw [wipe_length]; exact l)]; rfl
      · rw [if_neg l, List.getElem?_eq_none (by rw [wipe_length]; omega)]; rfl
    · rw [List.getElem?_set_ne e]
      exact wipe_in (by rcases List.mem_cons.mp h with q | q; exact absurd q.symm e; exact q)
theorem wipe_set {σ : L2.St} {vs : List Nat} {j : Nat} {v : Option V} (h : j ∈ vs) : wipe (σ.set j v) vs = wipe σ vs := by
  refine List.ext_getElem? fun i => ?_
  by_cases c : i ∈ vs
  · rw [wipe_in c, wipe_in c, List.length_set]
  · have n : j ≠ i := fun e => c (e ▸ h)
    rw [wipe_out c, wipe_out c, List.getElem?_set_ne n]
theorem wipe_wipe {σ : L2.St} {vs : List Nat} : wipe (wipe σ vs) vs = wipe σ vs := by
  refine List.ext_getElem? fun i => ?_
  by_cases c : i ∈ vs
  · rw [wipe_in c, wipe_in c, wipe_length]
  · rw [wipe_out c]
theorem wp1 {σ : L2.St} {vs : List Nat} {j : Nat} {v : Option V} (h : j ∈ vs) : wipe ((wipe σ vs).set j v) vs = wipe σ vs := by rw [wipe_set h, wipe_wipe]
theorem wp2 {σ : L2.St} {vs : List Nat} {j k : Nat} {v u : Option V} (h : j ∈ vs) (h2 : k ∈ vs) : wipe (((wipe σ vs).set j v).set k u) vs = wipe σ vs := by rw [wipe_set h2, wipe_set h, wipe_wipe]
def bitp (m : Int) : Nat → Bool := fun k => decide (m / 2 ^ k % 2 = 1)
/-- what bits tell -/
def fAt (b : Int) : Int := b / 2 ^ 0 % 2 ^ 12
def fFirst (b : Int) : Int := b / 2 ^ 12 % 2 ^ 12
def fCnt (b : Int) : Int := b / 2 ^ 24 % 2 ^ 4 + 1
def fStep (b : Int) : Int := b / 2 ^ 28 % 2 ^ 4
def fRts (b : Int) : Int := b / 2 ^ 32 % 2 ^ 9
def fKind (b : Int) : Int := b / 2 ^ 41 % 2 ^ 4
def Tells (b : Int) : Prop := fStep b ≤ 8 ∧ (fStep b = 0 ∨ 9 ≤ fCnt b) ∧ (fFirst b + fCnt b) * 2 ^ (fStep b).toNat ≤ 4096
theorem fb (b : Int) : 0 ≤ fStep b ∧ fStep b ≤ 15 ∧ 1 ≤ fCnt b ∧ fCnt b ≤ 16 ∧ 0 ≤ fFirst b ∧ fFirst b ≤ 4095 := by
  unfold fStep fCnt fFirst; omega
theorem cpw {z s : Int} (h0 : 0 ≤ z) (h1 : z ≤ 10000000000000) (h2 : 0 ≤ s) (h3 : s ≤ 1000) : CPow z s := ⟨h2, by omega, by omega⟩
/-- the fields of a lawful marked word -/
def F5 (xs : List V) : Prop := ∃ (lo hi at' : Int) (r : Str) (kd : Int), xs = [.int lo, .int hi, .int at', .str r, .int kd] ∧ Bd lo hi ∧ (∃ s, Ex lo hi s) ∧ 0 ≤ at' ∧ at' ≤ 4095 ∧ 0 ≤ kd ∧ kd ≤ 15 ∧ r = rtx (hasR r) ∧ OneW r
def wl (a b c d e f : Int) : List Int := [a * 2 ^ 0, b * 2 ^ 12, c * 2 ^ 24, d * 2 ^ 28, e * 2 ^ 32, f * 2 ^ 41]
def wbits (lo hi at' mr kd : Int) (s : Nat) : Int := (wl at' (lo / 2 ^ s) (Dd lo hi s + 1 - 1) s mr kd).sum
def BW (z : Int) : Prop := 0 ≤ z ∧ z ≤ 10000000000000
theorem six_at {K : PySem.W.Frag} {pA pF pC pS pR pK : Addr} {a b c d e f : Int} {i : Nat} {x1 y1 : V} (hi : i < 6) (hx : [V.ref pA, .ref pF, .ref pC, .ref pS, .ref pR, .ref pK][i]? = some x1) (hy : [V.int a, .int b, .int c, .int d, .int e, .int f][i]? = some y1)
    (sA : ∀ H, SqT K H pA [.int 0, .int 12]) (sF : ∀ H, SqT K H pF [.int 12, .int 12]) (sC : ∀ H, SqT K H pC [.int 24, .int 4]) (sS : ∀ H, SqT K H pS [.int 28, .int 4]) (sR : ∀ H, SqT K H pR [.int 32, .int 9]) (sK : ∀ H, SqT K H pK [.int 41, .int 4])
    (ba : BW a) (bb : BW b) (bc : BW c) (bd : BW d) (be : BW e) (bf : BW f) :
    ∃ (p : Addr) (lo mn : Nat) (z : Int), x1 = .ref p ∧ (∀ H, SqT K H p [.int lo, .int mn]) ∧ lo ≤ 100 ∧ y1 = .int z ∧ BW z ∧ (wl a b c d e f).take (i + 1) = (wl a b c d e f).take i ++ [z * 2 ^ lo] := by
  have six : i = 0 ∨ i = 1 ∨ i = 2 ∨ i = 3 ∨ i = 4 ∨ i = 5 := by omega
  rcases six with h | h | h | h | h | h <;> subst h
  · exact ⟨pA, 0, 12, a, (Option.some.inj hx).symm, sA, by decide, (Option.some.inj hy).symm, ba, rfl⟩
  · exact ⟨pF, 12, 12, b, (Option.some.inj hx).symm, sF, by decide, (Option.some.inj hy).symm, bb, rfl⟩
  · exact ⟨pC, 24, 4, c, (Option.some.inj hx).symm, sC, by decide, (Option.some.inj hy).symm, bc, rfl⟩
  · exact ⟨pS, 28, 4, d, (Option.some.inj hx).symm, sS, by decide, (Option.some.inj hy).symm, bd, rfl⟩
  · exact ⟨pR, 32, 9, e, (Option.some.inj hx).symm, sR, by decide, (Option.some.inj hy).symm, be, rfl⟩
  · exact ⟨pK, 41, 4, f, (Option.some.inj hx).symm, sK, by decide, (Option.some.inj hy).symm, bf, rfl⟩
theorem mask_b (p : Nat → Bool) : ∀ i, i ≤ 9 → 0 ≤ (mask p i).sum ∧ (mask p i).sum < 2 ^ i
  | 0, _ => by unfold mask; simp
  | i + 1, h => by
    have ih := mask_b p i (by omega)
    rw [mask_succ, List.sum_append]
    have e : (2 : Int) ^ (i + 1) = 2 * 2 ^ i := by rw [Int.pow_succ]; omega
    rw [e]
    by_cases c : p i = true
    · simp only [if_pos c, List.sum_cons, List.sum_nil]; omega
    · simp only [if_neg c, List.sum_nil]; omega
theorem maskOf_b (r : Str) : 0 ≤ maskOf r ∧ maskOf r < 512 := by
  have := mask_b (hasR r) 9 (Nat.le_refl _)
  unfold maskOf; omega
instance (b : Int) : Decidable (Tells b) := by unfold Tells; infer_instance

/-! ### bits and fields there and back -/
theorem wb_eq (lo hi at' mr kd : Int) (s : Nat) : wbits lo hi at' mr kd s = at' + lo / 2 ^ s * 4096 + Dd lo hi s * 16777216 + (s : Int) * 268435456 + mr * 4294967296 + kd * 2199023255552 := by
  unfold wbits wl
  simp only [List.sum_cons, List.sum_nil]
  omega
theorem bits6 {a F D s m k : Int} (a0 : 0 ≤ a) (a1 : a ≤ 4095) (F0 : 0 ≤ F) (F1 : F ≤ 4095) (D0 : 0 ≤ D) (D1 : D ≤ 15) (s0 : 0 ≤ s) (s1 : s ≤ 8) (m0 : 0 ≤ m) (m1 : m < 512) (k0 : 0 ≤ k) (k1 : k ≤ 15) :
    fStep (a + F * 4096 + D * 16777216 + s * 268435456 + m * 4294967296 + k * 2199023255552) = s ∧ fFirst (a + F * 4096 + D * 16777216 + s * 268435456 + m * 4294967296 + k * 2199023255552) = F ∧ fCnt (a + F * 4096 + D * 16777216 + s * 268435456 + m * 4294967296 + k * 2199023255552) = D + 1 ∧
    fAt (a + F * 4096 + D * 16777216 + s * 268435456 + m * 4294967296 + k * 2199023255552) = a ∧ fRts (a + F * 4096 + D * 16777216 + s * 268435456 + m * 4294967296 + k * 2199023255552) = m ∧ fKind (a + F * 4096 + D * 16777216 + s * 268435456 + m * 4294967296 + k * 2199023255552) = k := by
  unfold fStep fFirst fCnt fAt fRts fKind
  rw [show (2 : Int) ^ 0 = 1 by decide, show (2 : Int) ^ 4 = 16 by decide, show (2 : Int) ^ 9 = 512 by decide, show (2 : Int) ^ 12 = 4096 by decide, show (2 : Int) ^ 24 = 16777216 by decide, show (2 : Int) ^ 28 = 268435456 by decide, show (2 : Int) ^ 32 = 4294967296 by decide, show (2 : Int) ^ 41 = 2199023255552 by decide]
  generalize hb : a + F * 4096 + D * 16777216 + s * 268435456 + m * 4294967296 + k * 2199023255552 = b
  have q1 : b / 4096 = F + 4096 * (D + 16 * (s + 16 * (m + 512 * k))) := by omega
  have q2 : b / 16777216 = D + 16 * (s + 16 * (m + 512 * k)) := by omega
  have q3 : b / 268435456 = s + 16 * (m + 512 * k) := by omega
  have q4 : b / 4294967296 = m + 512 * k := by omega
  have q5 : b / 2199023255552 = k := by omega
  rw [q1, q2, q3, q4, q5]
  refine ⟨?_, ?_, ?_, ?_, ?_, ?_⟩ <;> omega
theorem wb_dec {lo hi at' mr kd : Int} {s : Nat} (b : Bd lo hi) (e : Ex lo hi s) (a0 : 0 ≤ at') (a1 : at' ≤ 4095) (m0 : 0 ≤ mr) (m1 : mr < 512) (k0 : 0 ≤ kd) (k1 : kd ≤ 15) :
    0 ≤ wbits lo hi at' mr kd s ∧ Tells (wbits lo hi at' mr kd s) ∧ fFirst (wbits lo hi at' mr kd s) * 2 ^ (fStep (wbits lo hi at' mr kd s)).toNat = lo ∧ (fFirst (wbits lo hi at' mr kd s) + fCnt (wbits lo hi at' mr kd s)) * 2 ^ (fStep (wbits lo hi at' mr kd s)).toNat = hi ∧
    fAt (wbits lo hi at' mr kd s) = at' ∧ fRts (wbits lo hi at' mr kd s) = mr ∧ fKind (wbits lo hi at' mr kd s) = kd := by
  obtain ⟨⟨s8, e1, e2⟩, e3, e4⟩ := e
  obtain ⟨b1, b2, b3⟩ := b
  have dl := div_le' (s := s) b1
  have d0 : 0 ≤ Dd lo hi s := by
    unfold Dd
    have := Int.ediv_le_ediv (pow_pos2 s) (show lo ≤ hi - 1 by omega)
    omega
  have fo := first_over lo hi s
  have h9 : s = 0 ∨ 9 ≤ Dd lo hi s + 1 := by
    rcases Nat.eq_zero_or_pos s with c | c
    · exact .inl c
    · right
      have := e2 (s - 1) (by omega)
      clear e2 fo
      unfold Dd at *
      rcases le8 s8 with e | e | e | e | e | e | e | e | e <;> subst e <;> first | omega | (simp at *; omega)
  have ed : Dd lo hi s + 1 = (hi - 1) / 2 ^ s + 1 - lo / 2 ^ s := by omega
  rw [wb_eq]
  have eF : lo / 2 ^ s ≤ 4095 := by omega
  generalize hF : lo / 2 ^ s = F at *
  generalize hD : Dd lo hi s = D at *
  have s0 : (0 : Int) ≤ (s : Int) ∧ (s : Int) ≤ 8 := by omega
  have F0 : 0 ≤ F := dl.1
  obtain ⟨x1, x2, x3, x4, x5, x6⟩ := bits6 (a := at') (F := F) (D := D) (s := (s : Int)) (m := mr) (k := kd) a0 a1 F0 eF d0 e1 s0.1 s0.2 m0 m1 k0 k1
  have e5 : (F + (D + 1)) * 2 ^ s = hi := by rw [fo]; exact e4
  refine ⟨by omega, ⟨?_, ?_, ?_⟩, ?_, ?_, x4, x5, x6⟩
  · rw [x1]; omega
  · rw [x1, x3]; omega
  · rw [x1, x2, x3]
    show (F + (D + 1)) * 2 ^ s ≤ 4096
    rw [e5]; exact b3
  · rw [x1, x2]; exact e3
  · rw [x1, x2, x3]; exact e5
theorem R_ok : Str.ofString "r" = rtx (hasR (Str.ofString "r")) := by decide +kernel
theorem R_one : OneW (Str.ofString "r") := by unfold OneW; decide +kernel
theorem R_rtx : rtx (bitp (maskOf (Str.ofString "r"))) = Str.ofString "r" := by decide +kernel
theorem dp5 {K : PySem.W.Frag} {H : Hp} {p : Addr} {a b c d : Int} {r : Str} (h : H p = some (.tup [.int a, .int b, .int c, .str r, .int d])) : Dp K H (.ref p) (.tuple [.int a, .int b, .int c, .str r, .int d]) :=
  .tup (.of h) (.cons (.int a) (.cons (.int b) (.cons (.int c) (.cons (.str r) (.cons (.int d) .nil)))))
theorem d5_sh (a b c d : Int) (r : Str) (h : PyData.canLay0 (.str r) = true) : SeqAt.shaped (.tuple [.int a, .int b, .int c, .str r, .int d]) = true := by
  have e : PyData.canLay0 (.tuple [.int a, .int b, .int c, .str r, .int d]) = true := by
    simp only [PyData.canLay0, PyData.canLayAll0, Bool.true_and, Bool.and_true] at *
    exact h
  unfold SeqAt.shaped
  rw [e]
  simp [PyData.depth, PyData.depthAll]
theorem d5_refl (a b c d : Int) (r : Str) : PyData.eqv (.tuple [.int a, .int b, .int c, .str r, .int d]) (.tuple [.int a, .int b, .int c, .str r, .int d]) = true := by
  simp [PyData.eqv, PyData.eqvAll]

theorem mt_lcountB {X : Cx} : MtR X "list.count" (fun x xs H Q => ∃ (p : Addr) (bs : List Bool), x = .ref p ∧ xs = [.bl true] ∧ SqL X.K H p (bs.map V.bl) ∧ Q (.int ((bs.filter id).length : Nat)) H) := by
  intro pins s σ H x xs v us Q I rx rxs h
  obtain ⟨p, bs, rfl, rfl, hs, q⟩ := h
  cases rx
  obtain ⟨u, rfl, ru⟩ := rxs.one
  obtain rfl : u = Value.bool true := ru
  obtain ⟨its, rv, ⟨⟨cls, dd, data, sl⟩, n, ho, hc, hdn, hd⟩, hlen⟩ := I.list hs
  simp only at hc hd
  subst hc hd
  have hb := Vals.bls rv
  subst hb
  refine call_meets PySem.F.slot_list_count ⟨_, ho, rfl⟩ PySem.F.entry_list_count (PySem.F.args_list_count_2 _ _)
    (SeqAt.list_countAt p (bs.map Value.bool).toArray n dd sl (.bool true) (eqU (.bl true))) ⟨ho, fun y hy => mem_eqAt (x := .bl true) rfl rfl rv (by simp [flatV]) y (by simpa using hy), ?_⟩
  have ec : (bs.map Value.bool).toArray.toList.countP (eqU (.bl true)) = (bs.filter id).length := by
    show (bs.map Value.bool).countP (eqU (.bl true)) = _
    rw [List.countP_map, List.countP_eq_length_filter]
    congr 1
    refine List.filter_congr fun b _ => ?_
    cases b <;> rfl
  refine ⟨.int ((bs.filter id).length : Nat), H, I.tok _, ⟨s.toks, ?_⟩, q⟩
  show Value.int (((bs.map Value.bool).toArray.toList.countP (eqU (.bl true)) : Nat) : Int) s.toks = _
  rw [ec]
/-- bits that a marked word may have -/
def Law (b : Int) : Prop := Tells b ∧ OneW (rtx (bitp (fRts b)))
def W45 (b : Int) : Prop := 0 ≤ b ∧ b < 35184372088832

theorem bit_lift (b : Int) {i : Nat} (h : i < 9) : b / 2 ^ (32 + i) % 2 = fRts b / 2 ^ i % 2 := by
  unfold fRts
  rw [show (2 : Int) ^ 32 = 4294967296 by decide, show (2 : Int) ^ 9 = 512 by decide]
  rcases le8 (show i ≤ 8 by omega) with e | e | e | e | e | e | e | e | e <;> subst e
  · rw [show (2 : Int) ^ (32 + 0) = 4294967296 by decide, show (2 : Int) ^ 0 = 1 by decide]; omega
  · rw [show (2 : Int) ^ (32 + 1) = 8589934592 by decide, show (2 : Int) ^ 1 = 2 by decide]; omega
  · rw [show (2 : Int) ^ (32 + 2) = 17179869184 by decide, show (2 : Int) ^ 2 = 4 by decide]; omega
  · rw [show (2 : Int) ^ (32 + 3) = 34359738368 by decide, show (2 : Int) ^ 3 = 8 by decide]; omega
  · rw [show (2 : Int) ^ (32 + 4) = 68719476736 by decide, show (2 : Int) ^ 4 = 16 by decide]; omega
  · rw [show (2 : Int) ^ (32 + 5) = 137438953472 by decide, show (2 : Int) ^ 5 = 32 by decide]; omega
  · rw [show (2 : Int) ^ (32 + 6) = 274877906944 by decide, show (2 : Int) ^ 6 = 64 by decide]; omega
  · rw [show (2 : Int) ^ (32 + 7) = 549755813888 by decide, show (2 : Int) ^ 7 = 128 by decide]; omega
  · rw [show (2 : Int) ^ (32 + 8) = 1099511627776 by decide, show (2 : Int) ^ 8 = 256 by decide]; omega

theorem rtx_len (p : Nat → Bool) : (rtx p).cps.size ≤ 9 := by
  have e : (rtx p).cps.size = (rtx p).cps.toList.length := by simp
  rw [e, rtx_codes, List.length_map]
  exact Nat.le_trans (List.length_filter_le _ _) (by decide)
theorem code_ok : ∀ k, k < 9 → PyData.canLay0 (.str (one (code k))) = true := by decide +kernel
theorem rtx_ok (p : Nat → Bool) {c : Nat} (h : c ∈ (rtx p).cps.toList) : PyData.canLay0 (.str (one c)) = true := by
  rw [rtx_codes] at h
  obtain ⟨k, hk, rfl⟩ := List.mem_map.mp h
  exact code_ok k (List.mem_range.mp (List.mem_filter.mp hk).1)
theorem strs_lay : ∀ {l : List Nat}, (∀ c ∈ l, PyData.canLay0 (.str (one c)) = true) → PyData.canLayAll0 (l.map fun c => .str (one c)) = true
  | [], _ => by simp [PyData.canLayAll0]
  | c :: l, h => by
    have ih := strs_lay (l := l) fun x hx => h x (List.mem_cons_of_mem _ hx)
    simp only [List.map_cons, PyData.canLayAll0, ih, h c (List.mem_cons_self ..), Bool.and_self]
theorem strs_depth : ∀ l : List Nat, PyData.depthAll (l.map fun c => .str (one c)) = 0
  | [] => by simp [PyData.depthAll]
  | c :: l => by simp only [List.map_cons, PyData.depthAll, PyData.depth, strs_depth l]; rfl
theorem strs_shape {l : List Nat} (h : ∀ c ∈ l, PyData.canLay0 (.str (one c)) = true) : SeqAt.shaped (.list (l.map fun c => .str (one c))) = true := by
  have e : PyData.canLay0 (.list (l.map fun c => .str (one c))) = true := by
    simp only [PyData.canLay0]; exact strs_lay h
  unfold SeqAt.shaped
  rw [e]
  simp only [PyData.depth, strs_depth]; rfl
theorem dp_strs {K : PySem.W.Frag} {H : Hp} : ∀ l : List Nat, DpAll K H (l.map fun c => V.str (one c)) (l.map fun c => .str (one c))
  | [] => .nil
  | c :: l => .cons (.str (one c)) (dp_strs l)
theorem strs_eqv (l : List Nat) : PyData.eqv (.list (l.map fun c => .str (one c))) (.list []) = l.isEmpty := by
  cases l with
  | nil => rfl
  | cons c l => simp [PyData.eqv, PyData.eqvAll]
theorem hasG_iff (r g : Str) : (!(r.cps.toList.filter fun c => decide (c ∈ g.cps.toList)).isEmpty) = hasG r g := by
  unfold hasG
  rw [Bool.eq_iff_iff, List.any_eq_true]
  constructor
  · intro h
    cases e : r.cps.toList.filter fun c => decide (c ∈ g.cps.toList) with
    | nil => rw [e] at h; cases h
    | cons c l =>
      have m : c ∈ r.cps.toList.filter fun c => decide (c ∈ g.cps.toList) := by rw [e]; exact List.mem_cons_self ..
      obtain ⟨m1, m2⟩ := List.mem_filter.mp m
      exact ⟨c, of_decide_eq_true m2, decide_eq_true m1⟩
  · rintro ⟨c, m1, m2⟩
    have m : c ∈ r.cps.toList.filter fun c => decide (c ∈ g.cps.toList) := List.mem_filter.mpr ⟨of_decide_eq_true m2, decide_eq_true m1⟩
    cases e : r.cps.toList.filter fun c => decide (c ∈ g.cps.toList) with
    | nil => rw [e] at m; cases m
    | cons c l => rfl

/-! ### words and their fields there and back -/
theorem tw_eqv {m n : Bool} {a b : Int} : PyData.eqv (.tuple [.bool m, .int a]) (.tuple [.bool n, .int b]) = true ↔ m = n ∧ a = b := by
  simp [PyData.eqv, PyData.eqvAll]
theorem tw_no {m : Bool} {a b : Int} (e : PyData.eqv (.tuple [.bool m, .int a]) (.tuple [.bool m, .int b]) = false) (h : a = b) : False := by
  rw [tw_eqv.mpr ⟨rfl, h⟩] at e; cases e
theorem dpw {K : PySem.W.Frag} {H : Hp} {p : Addr} {m : Bool} {a : Int} (h : H p = some (.tup [.bl m, .int a])) : Dp K H (.ref p) (.tuple [.bool m, .int a]) :=
  .tup (.of h) (.cons (.bl m) (.cons (.int a) .nil))
theorem d5_eqv {a b c d a' b' c' d' : Int} {r r' : Str} : PyData.eqv (.tuple [.int a, .int b, .int c, .str r, .int d]) (.tuple [.int a', .int b', .int c', .str r', .int d']) = true ↔ a = a' ∧ b = b' ∧ c = c' ∧ r = r' ∧ d = d' := by
  simp [PyData.eqv, PyData.eqvAll]
theorem d5_no {a b c d : Int} {r : Str} (e : PyData.eqv (.tuple [.int a, .int b, .int c, .str r, .int d]) (.tuple [.int a, .int b, .int c, .str r, .int d]) = false) : False := by
  rw [d5_refl] at e; cases e
theorem rtx_congr {p q : Nat → Bool} (h : ∀ k, k < 9 → p k = q k) : rtx p = rtx q := by
  unfold rtx rcs
  rw [List.filter_congr fun k hk => h k (List.mem_range.mp hk)]
theorem hasR_rtx (p : Nat → Bool) {k : Nat} (h : k < 9) : hasR (rtx p) k = p k := by
  unfold hasR
  rw [Bool.eq_iff_iff, decide_eq_true_iff]
  exact rtx_mem p h
theorem rtx_self (p : Nat → Bool) : rtx p = rtx (hasR (rtx p)) := rtx_congr fun k h => (hasR_rtx p h).symm
theorem mask_congr {p q : Nat → Bool} (h : ∀ k, k < 9 → p k = q k) : mask p 9 = mask q 9 := by
  unfold mask
  rw [List.filter_congr fun k hk => h k (List.mem_range.mp hk)]
theorem maskOf_rtx (p : Nat → Bool) : maskOf (rtx p) = (mask p 9).sum := by
  unfold maskOf
  rw [mask_congr fun k h => hasR_rtx p h]
theorem mask512 : ∀ m : Fin 512, (mask (bitp (m.val : Int)) 9).sum = (m.val : Int) := by decide +kernel
theorem mask_bitp {m : Int} (h0 : 0 ≤ m) (h1 : m < 512) : (mask (bitp m) 9).sum = m := by
  have h := mask512 ⟨m.toNat, by omega⟩
  have e : ((m.toNat : Nat) : Int) = m := by omega
  rw [e] at h
  exact h
theorem rtx_can (p : Nat → Bool) : PyData.canLay0 (.str (rtx p)) = true := by
  simp only [PyData.canLay0, PyData.strOk]
  rw [Array.all_eq_true_iff_forall_mem]
  intro c hc
  have h := rtx_ok p (c := c) (by simpa using hc)
  simp only [PyData.canLay0, PyData.strOk] at h
  simpa [one] using h
structure WF (b lo hi at' : Int) (p : Nat → Bool) (kd : Int) (s : Nat) : Prop where
  bd : Bd lo hi
  ex : Ex lo hi s
  a0 : 0 ≤ at'
  a1 : at' ≤ 4095
  k0 : 0 ≤ kd
  k1 : kd ≤ 15
  ow : OneW (rtx p)
  wb : wbits lo hi at' (maskOf (rtx p)) kd s = b
theorem WF.f5 {b lo hi at' kd : Int} {p : Nat → Bool} {s : Nat} (W : WF b lo hi at' p kd s) : F5 [.int lo, .int hi, .int at', .str (rtx p), .int kd] :=
  ⟨lo, hi, at', _, kd, rfl, W.bd, ⟨s, W.ex⟩, W.a0, W.a1, W.k0, W.k1, rtx_self p, W.ow⟩
theorem wf_of {b : Int} (w : W45 b) (L : Law b) : ∃ (lo hi at' : Int) (p : Nat → Bool) (kd : Int) (s : Nat), [V.int (fFirst b * 2 ^ (fStep b).toNat), .int ((fFirst b + fCnt b) * 2 ^ (fStep b).toNat), .int (fAt b), .str (rtx (bitp (fRts b))), .int (fKind b)] = [.int lo, .int hi, .int at', .str (rtx p), .int kd] ∧ WF b lo hi at' p kd s := by
  obtain ⟨⟨t1, t2, t3⟩, ow⟩ := L
  obtain ⟨w0, w1⟩ := w
  have f := fb b
  have r0 : 0 ≤ fRts b := Int.emod_nonneg _ (by decide)
  have r1 : fRts b < 512 := Int.emod_lt_of_pos _ (by decide)
  have a0 : 0 ≤ fAt b := Int.emod_nonneg _ (by decide)
  have a1 : fAt b < 4096 := Int.emod_lt_of_pos _ (by decide)
  have k0 : 0 ≤ fKind b := Int.emod_nonneg _ (by decide)
  have k1 : fKind b < 16 := Int.emod_lt_of_pos _ (by decide)
  have sum : b = fAt b + fFirst b * 4096 + (fCnt b - 1) * 16777216 + fStep b * 268435456 + fRts b * 4294967296 + fKind b * 2199023255552 := by
    clear t1 t2 t3 ow f r0 r1 a0 a1 k0 k1
    unfold fAt fFirst fCnt fStep fRts fKind
    rw [show (2 : Int) ^ 0 = 1 by decide, show (2 : Int) ^ 4 = 16 by decide, show (2 : Int) ^ 9 = 512 by decide, show (2 : Int) ^ 12 = 4096 by decide, show (2 : Int) ^ 24 = 16777216 by decide, show (2 : Int) ^ 28 = 268435456 by decide, show (2 : Int) ^ 32 = 4294967296 by decide, show (2 : Int) ^ 41 = 2199023255552 by decide]
    omega
  obtain ⟨s, es⟩ : ∃ s : Nat, fStep b = (s : Int) := ⟨(fStep b).toNat, by omega⟩
  rw [es] at t1 t2 t3 sum ⊢
  have e1 : ((s : Int)).toNat = s := rfl
  rw [e1] at t3 ⊢
  generalize fFirst b = F at *
  generalize fCnt b = C at *
  have s8 : s ≤ 8 := by omega
  have core : Bd (F * 2 ^ s) ((F + C) * 2 ^ s) ∧ Ex (F * 2 ^ s) ((F + C) * 2 ^ s) s ∧ F * 2 ^ s / 2 ^ s = F ∧ Dd (F * 2 ^ s) ((F + C) * 2 ^ s) s + 1 = C := by
    have c9 : s = 0 ∨ 9 ≤ C := by omega
    clear sum es t2
    unfold Ex StepIs Dd Bd
    refine ⟨?_, ⟨⟨s8, ?_, fun t ht => ?_⟩, ?_, ?_⟩, ?_, ?_⟩
    · rcases le8 s8 with e | e | e | e | e | e | e | e | e <;> subst e <;> omega
    · rcases le8 s8 with e | e | e | e | e | e | e | e | e <;> subst e <;> omega
    · have t8 : t ≤ 8 := by omega
      rcases le8 s8 with e | e | e | e | e | e | e | e | e <;> subst e <;> rcases le8 t8 with e | e | e | e | e | e | e | e | e <;> subst e <;> first | omega | (simp at *; omega)
    all_goals (rcases le8 s8 with e | e | e | e | e | e | e | e | e <;> subst e <;> omega)
  refine ⟨_, _, _, bitp (fRts b), _, s, rfl, ⟨core.1, core.2.1, a0, by omega, k0, by omega, ow, ?_⟩⟩
  rw [wb_eq, core.2.2.1, maskOf_rtx, mask_bitp r0 r1]
  have := core.2.2.2
  omega
/-- one right less -/
def lessp (p : Nat → Bool) (i : Nat) : Nat → Bool := fun k => p k && decide (k ≠ i)
theorem less_mask (p : Nat → Bool) (i : Nat) (hp : p i = true) : ∀ n, (mask p n).sum = (mask (lessp p i) n).sum + (if i < n then (2 : Int) ^ i else 0)
  | 0 => by unfold mask; simp
  | n + 1 => by
    have ih := less_mask p i hp n
    rw [mask_succ, mask_succ, List.sum_append, List.sum_append, ih]
    unfold lessp
    rcases Nat.lt_trichotomy i n with c | c | c
    · have h1 : decide (n ≠ i) = true := decide_eq_true (by omega)
      rw [h1, Bool.and_true, if_pos c, if_pos (show i < n + 1 by omega)]
      omega
    · subst c
      have h1 : decide (i ≠ i) = false := decide_eq_false (by simp)
      rw [h1, Bool.and_false, if_pos hp, if_neg (Nat.lt_irrefl i), if_neg Bool.false_ne_true, if_pos (Nat.lt_succ_self i)]
      simp
    · have h1 : decide (n ≠ i) = true := decide_eq_true (by omega)
      rw [h1, Bool.and_true, if_neg (show ¬ i < n by omega), if_neg (show ¬ i < n + 1 by omega)]
      omega
theorem less_codes (p : Nat → Bool) {i : Nat} (hi : i < 9) : (((rtx p).cps.toList.filter fun c => !decide (V.str (one c) = V.str (one (code i)))).map one) = rcs (lessp p i) 9 := by
  rw [rtx_codes]
  unfold rcs lessp
  rw [List.filter_map, List.map_map, ← List.filter_filter]
  congr 1
  rw [List.filter_filter, List.filter_filter]
  refine List.filter_congr fun k hk => ?_
  have hk9 := List.mem_range.mp hk
  have e : decide (V.str (one (code k)) = V.str (one (code i))) = decide (k = i) := by
    rw [decide_eq_decide]
    constructor
    · intro h
      have h2 := V.str.inj h
      have h3 : code k = code i := by
        have h4 := congrArg (fun x : Str => x.cps.toList) h2
        simpa [one] using h4
      exact code_inj k hk9 i hi h3
    · intro h; rw [h]
  simp only [Function.comp]
  rw [e]
  by_cases c : k = i
  · simp [c]
  · simp [c]
theorem less_one {p : Nat → Bool} {i : Nat} (h : OneW (rtx p)) : OneW (rtx (lessp p i)) := by
  unfold OneW at *
  refine Nat.le_trans ?_ h
  have key : ∀ l : List Str, (l.filter (hasG (rtx (lessp p i)))).length ≤ (l.filter (hasG (rtx p))).length := by
    intro l
    induction l with
    | nil => exact Nat.le_refl _
    | cons g l ih =>
      have mono : hasG (rtx (lessp p i)) g = true → hasG (rtx p) g = true := by
        unfold hasG
        rw [List.any_eq_true, List.any_eq_true]
        rintro ⟨c, c1, c2⟩
        refine ⟨c, c1, decide_eq_true ?_⟩
        have c3 := of_decide_eq_true c2
        rw [rtx_codes] at c3 ⊢
        obtain ⟨k, k1, k2⟩ := List.mem_map.mp c3
        obtain ⟨k3, k4⟩ := List.mem_filter.mp k1
        refine List.mem_map.mpr ⟨k, List.mem_filter.mpr ⟨k3, ?_⟩, k2⟩
        unfold lessp at k4
        exact (Bool.and_eq_true_iff.mp k4).1
      rw [List.filter_cons, List.filter_cons]
      by_cases c : hasG (rtx (lessp p i)) g = true
      · rw [if_pos c, if_pos (mono c)]
        simp only [List.length_cons]
        omega
      · rw [if_neg c]
        split
        · simp only [List.length_cons]; omega
        · exact ih
  exact key _
theorem least_in {lo hi il ih : Int} {t s : Nat} (b : Bd lo hi) (e : Ex lo hi t) (h1 : lo ≤ il) (h2 : il < ih) (h3 : ih ≤ hi) (g : StepIs il ih s) : lo ≤ il / 2 ^ s * 2 ^ s ∧ ((ih - 1) / 2 ^ s + 1) * 2 ^ s ≤ hi := by
  obtain ⟨⟨t8, e1, e2⟩, e3, e4⟩ := e
  obtain ⟨b1, b2, b3⟩ := b
  have st : s ≤ t := by
    rcases Nat.lt_or_ge t s with c | c
    · have := g.2.2 t c
      exfalso
      clear e2 g
      unfold Dd at *
      rcases le8 t8 with e | e | e | e | e | e | e | e | e <;> subst e <;> omega
    · exact c
  have s8 := g.1
  clear e2 g
  unfold Dd at *
  rcases le8 t8 with e | e | e | e | e | e | e | e | e <;> subst e <;> rcases le8 s8 with e | e | e | e | e | e | e | e | e <;> subst e <;> first | omega | (simp at *; omega)
theorem least_ex {il ih : Int} {s : Nat} (b : Bd il ih) (g : StepIs il ih s) : Bd (il / 2 ^ s * 2 ^ s) (((ih - 1) / 2 ^ s + 1) * 2 ^ s) ∧ Ex (il / 2 ^ s * 2 ^ s) (((ih - 1) / 2 ^ s + 1) * 2 ^ s) s ∧ il / 2 ^ s * 2 ^ s ≤ il ∧ ih ≤ ((ih - 1) / 2 ^ s + 1) * 2 ^ s ∧ il / 2 ^ s * 2 ^ s / 2 ^ s = il / 2 ^ s ∧ Dd (il / 2 ^ s * 2 ^ s) (((ih - 1) / 2 ^ s + 1) * 2 ^ s) s = Dd il ih s := by
  obtain ⟨b1, b2, b3⟩ := b
  have s8 := g.1
  have g1 := g.2.1
  have g2 := g.2.2
  refine ⟨?_, ⟨⟨s8, ?_, fun t ht => ?_⟩, ?_, ?_⟩, ?_, ?_, ?_, ?_⟩
  · unfold Bd
    rcases le8 s8 with e | e | e | e | e | e | e | e | e <;> subst e <;> omega
  · unfold Dd at *
    clear g2 g
    rcases le8 s8 with e | e | e | e | e | e | e | e | e <;> subst e <;> omega
  · have g3 := g2 t ht
    have t8 : t ≤ 8 := by omega
    clear g2 g
    unfold Dd at *
    rcases le8 s8 with e | e | e | e | e | e | e | e | e <;> subst e <;> rcases le8 t8 with e | e | e | e | e | e | e | e | e <;> subst e <;> first | omega | (simp at *; omega)
  all_goals (clear g2 g; unfold Dd at *; rcases le8 s8 with e | e | e | e | e | e | e | e | e <;> subst e <;> omega)
theorem bc4 {lo hi : Int} {s : Nat} (b : Bd lo hi) (h : s ≤ 8) : CPow ((hi - 1) / 2 ^ s + 1) (s : Int) := by
  obtain ⟨b1, b2, b3⟩ := b
  have := div_le' (s := s) (x := hi - 1) (by omega)
  exact ⟨by omega, by omega, na (by omega) (by omega)⟩

/-! ### what is drawn: heaps -/
theorem seqT' {K : PySem.W.Frag} {H H' : Hp} {a : Addr} {xs : List V} (e : Same H H') (h : SqT K H a xs) : SqT K H' a xs := by
  rcases h with (h | ⟨o, h⟩) | h
  · exact .inl (.inl (e _ _ h))
  · exact .inl (.inr ⟨o, e _ _ h⟩)
  · exact .inr h
theorem Pool.same {H H' : Hp} {p : Addr} {x y : Int} (h : Pool H p x y) (s : Same H H') : Pool H' p x y := ⟨s _ _ h.1, h.2⟩
theorem But.free {H H' : Hp} {a q : Addr} {x y : Int} (b : But a H H') (P : Pool H' a x y) (n : H' q = none) : H q = none := by
  cases e : H q with
  | none => rfl
  | some o =>
    by_cases c : q = a
    · subst c; rw [P.1] at n; cases n
    · rw [b q o c e] at n; cases n
local macro_rules | `(tactic| walk_at "but") => `(tactic| first | assumption | exact But.refl _ _ | (refine But.trans ?_ (by assumption); walk_at "but") | (refine But.trans ?_ (But.of (by assumption)); walk_at "but") | (refine But.new ?_ (by assumption); walk_at "but") | (refine But.upd ?_; walk_at "but"))
local macro_rules | `(tactic| walk_at "same") => `(tactic| first | assumption | exact Same.refl _ | (refine Same.trans ?_ (by assumption); walk_at "same") | (refine sameN ?_ (by assumption); walk_at "same"))
/-! ### words as they lie in memory -/
def tup5 (b : Int) : List V := [.int (fFirst b * 2 ^ (fStep b).toNat), .int ((fFirst b + fCnt b) * 2 ^ (fStep b).toNat), .int (fAt b), .str (rtx (bitp (fRts b))), .int (fKind b)]
structure Wd (H : Hp) (q : Addr) (m : Bool) (b : Int) : Prop where
  at' : H q = some (.tup [.bl m, .int b])
  w : W45 b
  law : m = true → Law b
theorem Wd.same {H H' : Hp} {q : Addr} {m : Bool} {b : Int} (h : Wd H q m b) (s : Same H H') : Wd H' q m b := ⟨s _ _ h.at', h.w, h.law⟩
theorem Wd.ne {H : Hp} {q a : Addr} {m : Bool} {b x y : Int} (h : Wd H q m b) (P : Pool H a x y) : q ≠ a := by
  intro e; subst e
  have := h.at'
  rw [P.1] at this; cases this
theorem Wd.but {H H' : Hp} {q a : Addr} {m : Bool} {b : Int} (h : Wd H q m b) (s : But a H H') (n : q ≠ a) : Wd H' q m b := ⟨s _ _ n h.at', h.w, h.law⟩
theorem sum_ite (c : Bool) (z : Int) : (if c = true then [z] else []).sum = if c = true then z else 0 := by cases c <;> simp
theorem mask_val (p : Nat → Bool) : (mask p 9).sum = (if p 0 = true then 1 else 0) + (if p 1 = true then 2 else 0) + (if p 2 = true then 4 else 0) + (if p 3 = true then 8 else 0) + (if p 4 = true then 16 else 0) + (if p 5 = true then 32 else 0) + (if p 6 = true then 64 else 0) + (if p 7 = true then 128 else 0) + (if p 8 = true then 256 else 0) := by
  have e0 : (mask p 0).sum = 0 := by unfold mask; simp
  simp only [mask_succ, List.sum_append, sum_ite, e0]
  simp
theorem bit01 (c : Bool) (z : Int) : ∃ x : Int, (0 ≤ x ∧ x ≤ 1) ∧ (if c = true then z else 0) = z * x ∧ c = decide (x = 1) := by
  cases c
  · exact ⟨0, by omega, by simp, by decide⟩
  · exact ⟨1, by omega, by simp, by decide⟩
theorem bitp_mask (p : Nat → Bool) {k : Nat} (h : k < 9) : bitp ((mask p 9).sum) k = p k := by
  unfold bitp
  rw [mask_val]
  obtain ⟨x0, b0, e0, d0⟩ := bit01 (p 0) 1
  obtain ⟨x1, b1, e1, d1⟩ := bit01 (p 1) 2
  obtain ⟨x2, b2, e2, d2⟩ := bit01 (p 2) 4
  obtain ⟨x3, b3, e3, d3⟩ := bit01 (p 3) 8
  obtain ⟨x4, b4, e4, d4⟩ := bit01 (p 4) 16
  obtain ⟨x5, b5, e5, d5⟩ := bit01 (p 5) 32
  obtain ⟨x6, b6, e6, d6⟩ := bit01 (p 6) 64
  obtain ⟨x7, b7, e7, d7⟩ := bit01 (p 7) 128
  obtain ⟨x8, b8, e8, d8⟩ := bit01 (p 8) 256
  rw [e0, e1, e2, e3, e4, e5, e6, e7, e8]
  rcases le8 (show k ≤ 8 by omega) with e | e | e | e | e | e | e | e | e <;> subst e
  · rw [d0, decide_eq_decide]; omega
  · rw [d1, decide_eq_decide]; omega
  · rw [d2, decide_eq_decide]; omega
  · rw [d3, decide_eq_decide]; omega
  · rw [d4, decide_eq_decide]; omega
  · rw [d5, decide_eq_decide]; omega
  · rw [d6, decide_eq_decide]; omega
  · rw [d7, decide_eq_decide]; omega
  · rw [d8, decide_eq_decide]; omega
theorem WF.all {b lo hi at' kd : Int} {p : Nat → Bool} {s : Nat} (W : WF b lo hi at' p kd s) : W45 b ∧ Law b ∧ tup5 b = [.int lo, .int hi, .int at', .str (rtx p), .int kd] ∧ fKind b = kd ∧ fAt b = at' ∧ fRts b = (mask p 9).sum := by
  have mb := maskOf_b (rtx p)
  have D := wb_dec W.bd W.ex W.a0 W.a1 mb.1 mb.2 W.k0 W.k1
  have e := wb_eq lo hi at' (maskOf (rtx p)) kd s
  rw [W.wb] at D e
  obtain ⟨d0, t, e1, e2, e3, e4, e5⟩ := D
  have er : rtx (bitp (fRts b)) = rtx p := by
    rw [e4, maskOf_rtx]
    exact rtx_congr fun k h => bitp_mask p h
  have x := W.ex
  obtain ⟨⟨s8, x1, x2⟩, x3, x4⟩ := x
  obtain ⟨b1, b2, b3⟩ := W.bd
  have dl := div_le' (s := s) b1
  have w := W.a1
  have k := W.k1
  refine ⟨⟨d0, ?_⟩, ⟨t, ?_⟩, ?_, e5, e3, by rw [e4, maskOf_rtx]⟩
  · clear x2 x3 x4 t e1 e2 e3 e4 e5 er
    have : lo / 2 ^ s ≤ 4095 := by omega
    omega
  · rw [er]; exact W.ow
  · unfold tup5
    rw [e1, e2, e3, er, e5]
theorem rtx_inj {p q : Nat → Bool} (h : rtx p = rtx q) {k : Nat} (hk : k < 9) : p k = q k := by
  rw [← hasR_rtx p hk, ← hasR_rtx q hk, h]
theorem ow_sub {p q : Nat → Bool} (h : ∀ k, k < 9 → q k = true → p k = true) (o : OneW (rtx p)) : OneW (rtx q) := by
  unfold OneW at *
  refine Nat.le_trans ?_ o
  have key : ∀ l : List Str, (l.filter (hasG (rtx q))).length ≤ (l.filter (hasG (rtx p))).length := by
    intro l
    induction l with
    | nil => exact Nat.le_refl _
    | cons g l ih =>
      have mono : hasG (rtx q) g = true → hasG (rtx p) g = true := by
        unfold hasG
        rw [List.any_eq_true, List.any_eq_true]
        rintro ⟨c, c1, c2⟩
        refine ⟨c, c1, decide_eq_true ?_⟩
        have c3 := of_decide_eq_true c2
        rw [rtx_codes] at c3 ⊢
        obtain ⟨k, k1, k2⟩ := List.mem_map.mp c3
        obtain ⟨k3, k4⟩ := List.mem_filter.mp k1
        exact List.mem_map.mpr ⟨k, List.mem_filter.mpr ⟨k3, h k (List.mem_range.mp k3) k4⟩, k2⟩
      rw [List.filter_cons, List.filter_cons]
      by_cases c : hasG (rtx q) g = true
      · rw [if_pos c, if_pos (mono c)]
        simp only [List.length_cons]
        omega
      · rw [if_neg c]
        split
        · simp only [List.length_cons]; omega
        · exact ih
  exact key _
/-- the rights to cells and f alone go together -/
theorem ow_low {p : Nat → Bool} (h : ∀ k, k < 9 → 6 ≤ k → p k = false) : OneW (rtx p) := by
  have e : OneW (rtx fun k => decide (k < 6)) := by unfold OneW; decide +kernel
  refine ow_sub (fun k hk hp => ?_) e
  rcases Nat.lt_or_ge k 6 with c | c
  · exact decide_eq_true c
  · rw [h k hk c] at hp; cases hp
/-- a text of rights that is good -/
def RV (v : V) : Prop := ∃ p, v = .str (rtx p) ∧ OneW (rtx p)
theorem rv {s : Str} (h : s = rtx (hasR s)) (o : OneW s) : RV (.str s) := ⟨hasR s, congrArg V.str h, h ▸ o⟩
theorem rvd {s : Str} (h : (decide (s = rtx (hasR s)) && decide (([G0, G1, G2].filter (hasG s)).length ≤ 1)) = true) : RV (.str s) := by
  rw [Bool.and_eq_true] at h
  exact rv (of_decide_eq_true h.1) (of_decide_eq_true (p := ([G0, G1, G2].filter (hasG s)).length ≤ 1) h.2)
/-- one word within another -/
def Within (b c : Int) : Prop := fFirst c * 2 ^ (fStep c).toNat ≤ fFirst b * 2 ^ (fStep b).toNat ∧ (fFirst b + fCnt b) * 2 ^ (fStep b).toNat ≤ (fFirst c + fCnt c) * 2 ^ (fStep c).toNat ∧ (∀ k, k < 9 → bitp (fRts b) k = true → bitp (fRts c) k = true) ∧ (fKind b = fKind c ∨ (fKind c = 0 ∧ fKind b ≠ 2))
theorem Within.refl (b : Int) : Within b b := ⟨Int.le_refl _, Int.le_refl _, fun _ _ h => h, .inl rfl⟩
theorem sub_iff {p q : Nat → Bool} : (∀ c ∈ (rtx p).cps.toList, c ∈ (rtx q).cps.toList) ↔ ∀ k, k < 9 → p k = true → q k = true := by
  constructor
  · intro h k hk hp
    exact (rtx_mem q hk).mp (h _ ((rtx_mem p hk).mpr hp))
  · intro h c hc
    rw [rtx_codes] at hc
    obtain ⟨k, hk, rfl⟩ := List.mem_map.mp hc
    obtain ⟨k1, k2⟩ := List.mem_filter.mp hk
    have k9 := List.mem_range.mp k1
    exact (rtx_mem q k9).mpr (h k k9 k2)
theorem WF.uniq {b lo hi at' kd lo' hi' a' kd' : Int} {p p' : Nat → Bool} {s s' : Nat} (W : WF b lo hi at' p kd s) (W' : WF b lo' hi' a' p' kd' s') : lo = lo' ∧ hi = hi' ∧ at' = a' ∧ rtx p = rtx p' ∧ kd = kd' ∧ s = s' := by
  have e := W.all.2.2.1.symm.trans W'.all.2.2.1
  injection e with g1 e
  injection e with g2 e
  injection e with g3 e
  injection e with g4 e
  injection e with g5 _
  have h1 := V.int.inj g1
  have h2 := V.int.inj g2
  refine ⟨h1, h2, V.int.inj g3, V.str.inj g4, V.int.inj g5, ?_⟩
  have x := W.ex.1
  rw [h1, h2] at x
  exact x.uniq W'.ex.1
theorem WF.within {b c lo hi at' kd lo' hi' a' kd' : Int} {p p' : Nat → Bool} {s s' : Nat} (W : WF b lo hi at' p kd s) (W' : WF c lo' hi' a' p' kd' s') : Within b c ↔ lo' ≤ lo ∧ hi ≤ hi' ∧ (∀ k, k < 9 → p k = true → p' k = true) ∧ (kd = kd' ∨ (kd' = 0 ∧ kd ≠ 2)) := by
  have e := W.all.2.2.1
  have e' := W'.all.2.2.1
  unfold tup5 at e e'
  injection e with g1 e
  injection e with g2 e
  injection e with g3 e
  injection e with g4 e
  injection e with g5 _
  injection e' with h1 e'
  injection e' with h2 e'
  injection e' with h3 e'
  injection e' with h4 e'
  injection e' with h5 _
  unfold Within
  rw [V.int.inj g1, V.int.inj g2, V.int.inj g5, V.int.inj h1, V.int.inj h2, V.int.inj h5]
  have r1 : ∀ k, k < 9 → bitp (fRts b) k = p k := fun k hk => rtx_inj (V.str.inj g4) hk
  have r2 : ∀ k, k < 9 → bitp (fRts c) k = p' k := fun k hk => rtx_inj (V.str.inj h4) hk
  constructor
  · rintro ⟨a1, a2, a3, a4⟩
    exact ⟨a1, a2, fun k hk hp => by rw [← r2 k hk]; exact a3 k hk (by rw [r1 k hk]; exact hp), a4⟩
  · rintro ⟨a1, a2, a3, a4⟩
    exact ⟨a1, a2, fun k hk hp => by rw [r2 k hk]; exact a3 k hk (by rw [← r1 k hk]; exact hp), a4⟩
def andp (p q : Nat → Bool) : Nat → Bool := fun k => p k && q k
theorem bitp_nat (n k : Nat) : bitp (n : Int) k = n.testBit k := by
  unfold bitp
  rw [Nat.testBit_eq_decide_div_mod_eq, decide_eq_decide]
  have e : (n : Int) / 2 ^ k % 2 = ((n / 2 ^ k % 2 : Nat) : Int) := by
    rw [Int.natCast_emod, Int.natCast_ediv, Int.natCast_pow]; rfl
  rw [e]; omega
theorem mask_and (p q : Nat → Bool) : Builtin.bitAnd ((mask p 9).sum) ((mask q 9).sum) = (mask (andp p q) 9).sum := by
  have hp := mask_b p 9 (Nat.le_refl _)
  have hq := mask_b q 9 (Nat.le_refl _)
  rw [PyProof.Rows.bitAnd_pp hp.1 hq.1]
  have ep : (((mask p 9).sum.toNat : Nat) : Int) = (mask p 9).sum := by omega
  have eq : (((mask q 9).sum.toNat : Nat) : Int) = (mask q 9).sum := by omega
  have lt : (mask p 9).sum.toNat &&& (mask q 9).sum.toNat < 512 := Nat.lt_of_le_of_lt Nat.and_le_left (by omega)
  rw [← mask_bitp (m := (((mask p 9).sum.toNat &&& (mask q 9).sum.toNat : Nat) : Int)) (by omega) (by omega)]
  rw [mask_congr fun k hk => ?_]
  rw [bitp_nat, Nat.testBit_and, ← bitp_nat, ← bitp_nat, ep, eq, bitp_mask p hk, bitp_mask q hk]
  rfl
theorem WF.lohi {b lo hi at' kd : Int} {p : Nat → Bool} {s : Nat} (W : WF b lo hi at' p kd s) : fFirst b * 2 ^ (fStep b).toNat = lo ∧ (fFirst b + fCnt b) * 2 ^ (fStep b).toNat = hi := by
  have e := W.all.2.2.1
  unfold tup5 at e
  injection e with g1 e
  injection e with g2 e
  exact ⟨V.int.inj g1, V.int.inj g2⟩
theorem mask_sub (p q : Nat → Bool) : Builtin.bitAnd ((mask p 9).sum) ((mask q 9).sum) = (mask p 9).sum ↔ ∀ k, k < 9 → p k = true → q k = true := by
  rw [mask_and]
  constructor
  · intro h k hk hp
    have e : bitp ((mask (andp p q) 9).sum) k = bitp ((mask p 9).sum) k := by rw [h]
    rw [bitp_mask _ hk, bitp_mask _ hk, hp] at e
    unfold andp at e
    exact (Bool.and_eq_true_iff.mp e).2
  · intro h
    rw [mask_congr fun k hk => ?_]
    unfold andp
    cases e : p k
    · rfl
    · rw [h k hk e]; rfl

theorem made_eq {lo hi : Int} {s : Nat} (x : Ex lo hi s) : (hi - lo) / 2 ^ s - 1 = Dd lo hi s := by
  obtain ⟨h1, h2, h3⟩ := x
  have p := pow_pos2 s
  have e : hi - lo = ((hi - 1) / 2 ^ s + 1 - lo / 2 ^ s) * 2 ^ s := by
    rw [Int.sub_mul, h2, h3]
  rw [e, Int.mul_ediv_cancel _ (Int.ne_of_gt p)]
  unfold Dd; omega
theorem made_step {p : Nat → Bool} {j : Nat} {b z : Int} {c : Bool} (hc : c = p j) (h : b = z + (mask p j).sum * 4294967296) : b + (if c = true then (1 : Int) else 0) * 2 ^ (32 + (j : Int)).toNat = z + (mask p (j + 1)).sum * 4294967296 := by
  have e : (32 + (j : Int)).toNat = 32 + j := by omega
  rw [e, Int.pow_add, show (2 : Int) ^ 32 = 4294967296 by decide, mask_succ, List.sum_append, sum_ite, hc, h, Int.add_mul]
  cases p j with
  | false => simp
  | true =>
    rw [if_pos rfl, if_pos rfl, Int.one_mul]
    omega
theorem with_fin {A P G : Prop} (h : A → P) (k : (A → P) → G) : G := k h

theorem RL_get : ∀ k, k < 6 → (Str.ofString "rwlsnf").cps[k]? = some (code k) := by decide +kernel
theorem RL_size : (Str.ofString "rwlsnf").cps.size = 6 := by decide +kernel
theorem rcs_congr {p q : Nat → Bool} {i : Nat} (h : ∀ k, k < i → p k = q k) : rcs p i = rcs q i := by
  unfold rcs
  rw [List.filter_congr fun k hk => h k (List.mem_range.mp hk)]
def setp (p : Nat → Bool) (i : Nat) (c : Bool) : Nat → Bool := fun k => if k = i then c else p k
theorem rcs_set (p : Nat → Bool) (i : Nat) (c : Bool) : rcs (setp p i c) (i + 1) = rcs p i ++ (if c = true then [one (code i)] else []) := by
  rw [rcs_succ, rcs_congr (p := setp p i c) (q := p) fun k hk => by unfold setp; rw [if_neg (by omega)]]
  unfold setp
  rw [if_pos rfl]
def lowp (p : Nat → Bool) : Nat → Bool := fun k => p k && decide (k < 6)
theorem rcs_low (p : Nat → Bool) : rcs p 6 = rcs (lowp p) 9 := by
  rw [rcs_succ (lowp p) 8, rcs_succ (lowp p) 7, rcs_succ (lowp p) 6]
  have h6 : lowp p 6 = false := by unfold lowp; simp
  have h7 : lowp p 7 = false := by unfold lowp; simp
  have h8 : lowp p 8 = false := by unfold lowp; simp
  rw [h6, h7, h8]
  simp only [Bool.false_eq_true, if_false, List.append_nil]
  refine rcs_congr fun k hk => ?_
  unfold lowp
  rw [decide_eq_true hk, Bool.and_true]
theorem ow_lowp (p : Nat → Bool) : OneW (rtx (lowp p)) := ow_low fun k _ h => by
  unfold lowp
  rw [decide_eq_false (by omega), Bool.and_false]
theorem rcs_fit6 (p : Nat → Bool) : ((rcs p 6).map (·.length)).sum + (rcs p 6).length * (Str.ofString "").length ≤ 16777216 := by
  rw [rcs_low]; exact rcs_fit _
theorem join_low (p : Nat → Bool) : Txt.join (Str.ofString "") (rcs p 6) = rtx (lowp p) := by
  rw [rcs_low]; rfl

theorem with_finW {A P : Int → Int → Hp → Prop} {G : Prop} (h : ∀ lo hi H, A lo hi H → P lo hi H) (k : (∀ lo hi H, A lo hi H → P lo hi H) → G) : G := k h
theorem small_ex {lo hi : Int} (h1 : lo < hi) (h2 : hi - lo ≤ 16) : ∃ s, Ex lo hi s := by
  refine ⟨0, ⟨by omega, ?_, fun t ht => absurd ht (Nat.not_lt_zero t)⟩, ?_, ?_⟩
  · unfold Dd; simp; omega
  · simp
  · simp
theorem W45_of {n : Nat} (h : n < 35184372088832) : W45 (n : Int) := by unfold W45; omega
theorem sub_nodup : ∀ {L l : List Nat}, l.Sublist L → L.Nodup → l = L.filter (fun k => decide (k ∈ l)) := by
  intro L l h
  induction h with
  | slnil => intro _; rfl
  | @cons l L a h ih =>
    intro n
    obtain ⟨n1, n2⟩ := List.nodup_cons.mp n
    have na : a ∉ l := fun z => n1 (h.subset z)
    rw [List.filter_cons, if_neg (by simpa using na)]
    exact ih n2
  | @cons_cons l L a h ih =>
    intro n
    obtain ⟨n1, n2⟩ := List.nodup_cons.mp n
    rw [List.filter_cons, if_pos (by simp)]
    congr 1
    refine (ih n2).trans (List.filter_congr fun k hk => ?_)
    have nk : k ≠ a := fun z => n1 (z ▸ hk)
    rw [decide_eq_decide]
    simp [nk]
theorem sub_rtx {p : Nat → Bool} {l : List Nat} (h : l.Sublist (rtx p).cps.toList) : ∃ q : Nat → Bool, (∀ k, k < 9 → q k = true → p k = true) ∧ l.map one = rcs q 9 := by
  rw [rtx_codes] at h
  obtain ⟨l', h1, rfl⟩ := List.sublist_map_iff.mp h
  have h2 : l'.Sublist (List.range 9) := h1.trans List.filter_sublist
  have e := sub_nodup h2 List.nodup_range
  refine ⟨fun k => decide (k ∈ l'), fun k _ hk => ?_, ?_⟩
  · have m := h1.subset (of_decide_eq_true hk)
    exact (List.mem_filter.mp m).2
  · unfold rcs
    rw [List.map_map, ← e]
    rfl
theorem sub_snoc {l L : List Nat} {i c : Nat} (h : l.Sublist (L.take i)) (e : L[i]? = some c) : (l ++ [c]).Sublist (L.take (i + 1)) := by
  rw [List.take_add_one, e]
  exact h.append (List.Sublist.refl _)
theorem sub_skip {l L : List Nat} {i : Nat} (h : l.Sublist (L.take i)) : l.Sublist (L.take (i + 1)) := by
  rw [List.take_add_one]
  exact h.trans (List.sublist_append_left _ _)
theorem sub_len {l : List Nat} {i : Nat} {p : Nat → Bool} (h : l.Sublist ((rtx p).cps.toList.take i)) : l.length < 1000 := by
  have h1 := h.length_le
  rw [List.length_take] at h1
  have := rtx_len p
  have e : (rtx p).cps.toList.length = (rtx p).cps.size := by simp
  omega

theorem ex1648 : ∃ s, Ex 16 48 s := ⟨1, ⟨by decide, by decide, fun t ht => by
  have : t = 0 := by omega
  subst this; decide⟩, by decide, by decide⟩
theorem take_all {α : Type} {l : List α} {n : Nat} (h : n = l.length) : l.take n = l := by rw [h, List.take_length]
theorem size_len (z : Str) : z.cps.size = z.cps.toList.length := by simp
theorem strs_fit {l : List Nat} (h : l.length < 1000) : (((l.map one)).map (·.length)).sum + (l.map one).length * (Str.ofString "").length ≤ 16777216 := by
  have e : (Str.ofString "").length = 0 := by decide +kernel
  have e2 : ((l.map one).map (·.length)).sum = l.length := by
    clear h e
    induction l with
    | nil => rfl
    | cons x r ih =>
      simp only [List.map_cons, List.sum_cons, List.length_cons] at *
      rw [ih]
      show 1 + _ = _
      omega
  rw [e, e2]
  omega
theorem filt_nil {l : List Nat} {f : Nat → Bool} : (l.filter f).isEmpty = true ↔ ∀ c ∈ l, ¬ f c = true := by
  rw [List.isEmpty_iff, List.filter_eq_nil_iff]

def topS (i : Nat) : Stmt := PySem.Challenge.pw_sealedreach_k11_words_within_words.main.body.getD i (.Pass ⟨0, 0, 0, 0⟩)
abbrev s_field : Stmt := topS 8
abbrev s_bounds_in : Stmt := topS 9
abbrev s__has_bounds : Stmt := topS 12
abbrev s_lies_within : Stmt := topS 11
abbrev s__law_take : Stmt := topS 15
abbrev s__law_pool : Stmt := topS 14
abbrev s__law_least : Stmt := topS 16
abbrev s__law_fields : Stmt := topS 17
abbrev s__law_made : Stmt := topS 18
abbrev s__law_bounds : Stmt := topS 19
abbrev s__law_rights : Stmt := topS 20
abbrev s__law_word : Stmt := topS 21
abbrev s__law_marked : Stmt := topS 22
abbrev s__law_less : Stmt := topS 23
abbrev s__law_within : Stmt := topS 24
abbrev s_law : Stmt := topS 25
theorem sc_field : FnScope ["bits", "place", "lowest", "many"] ["bits", "place"] (defScope s_field) := ⟨rfl, rfl, rfl, by decide +kernel, rfl, by decide +kernel, by decide +kernel⟩
theorem sc_bounds_in : FnScope ["bits", "step", "first"] ["bits"] (defScope s_bounds_in) := ⟨rfl, rfl, rfl, by decide +kernel, rfl, by decide +kernel, by decide +kernel⟩
theorem sc__has_bounds : FnScope ["word", "bounds", "low", "high"] ["word", "bounds"] (defScope s__has_bounds) := ⟨rfl, rfl, rfl, by decide +kernel, rfl, by decide +kernel, by decide +kernel⟩
theorem sc_lies_within : FnScope ["one", "other", "rights", "kind", "other_kind"] ["one", "other"] (defScope s_lies_within) := ⟨rfl, rfl, rfl, by decide +kernel, rfl, by decide +kernel, by decide +kernel⟩
theorem sc__law_take : FnScope ["_law_pool_here", "_law_many", "_law_found"] ["_law_pool_here", "_law_many"] (defScope s__law_take) := ⟨rfl, rfl, rfl, by decide +kernel, rfl, by decide +kernel, by decide +kernel⟩
theorem sc__law_pool : FnScope ["_law_script", "_law_k", "_law_cell", "_law_size", "_law_mixed"] ["_law_script", "_law_k"] (defScope s__law_pool) := ⟨rfl, rfl, rfl, by decide +kernel, rfl, by decide +kernel, by decide +kernel⟩
theorem sc__law_least : FnScope ["_law_low", "_law_high", "_law_step"] ["_law_low", "_law_high"] (defScope s__law_least) := ⟨rfl, rfl, rfl, by decide +kernel, rfl, by decide +kernel, by decide +kernel⟩
theorem sc__law_fields : FnScope ["_law_word_here", "_law_bits", "_law_first", "_law_count", "_law_step", "_law_signs", "_law_k", "_law_rights_here"] ["_law_word_here"] (defScope s__law_fields) := ⟨rfl, rfl, rfl, by decide +kernel, rfl, by decide +kernel, by decide +kernel⟩
theorem sc__law_made : FnScope ["_law_low", "_law_high", "_law_at", "_law_rights_here", "_law_kind", "_law_step", "_law_bits", "_law_place", "_law_sign"] ["_law_low", "_law_high", "_law_at", "_law_rights_here", "_law_kind"] (defScope s__law_made) := ⟨rfl, rfl, rfl, by decide +kernel, rfl, by decide +kernel, by decide +kernel⟩
theorem sc__law_bounds : FnScope ["_law_pool_here", "_law_low", "_law_many", "_law_own_low", "_law_own_high", "_law_step"] ["_law_pool_here"] (defScope s__law_bounds) := ⟨rfl, rfl, rfl, by decide +kernel, rfl, by decide +kernel, by decide +kernel⟩
theorem sc__law_rights : FnScope ["_law_pool_here", "_law_way", "_law_sign"] ["_law_pool_here"] (defScope s__law_rights) := ⟨rfl, rfl, rfl, by decide +kernel, rfl, by decide +kernel, by decide +kernel⟩
theorem sc__law_word : FnScope ["_law_pool_here", "_law_low", "_law_high", "_law_rights_here", "_law_at", "_law_kind", "_law_word_here"] ["_law_pool_here"] (defScope s__law_word) := ⟨rfl, rfl, rfl, by decide +kernel, rfl, by decide +kernel, by decide +kernel⟩
theorem sc__law_marked : FnScope ["_law_pool_here", "_law_word_here"] ["_law_pool_here"] (defScope s__law_marked) := ⟨rfl, rfl, rfl, by decide +kernel, rfl, by decide +kernel, by decide +kernel⟩
theorem sc__law_less : FnScope ["_law_pool_here", "_law_word_here", "_law_low", "_law_high", "_law_at", "_law_rights_here", "_law_kind", "_law_own_low", "_law_own_high", "_law_step", "_law_sign", "_law_some", "_law_kinds"] ["_law_pool_here", "_law_word_here"] (defScope s__law_less) := ⟨rfl, rfl, rfl, by decide +kernel, rfl, by decide +kernel, by decide +kernel⟩
theorem sc__law_within : FnScope ["_law_one", "_law_other", "_law_low", "_law_high", "_law_at", "_law_rights_here", "_law_kind", "_law_other_low", "_law_other_high", "_law_other_at", "_law_other_rights", "_law_other_kind", "_law_sign"] ["_law_one", "_law_other"] (defScope s__law_within) := ⟨rfl, rfl, rfl, by decide +kernel, rfl, by decide +kernel, by decide +kernel⟩
theorem sc_law : FnScope ["_law_script", "_law_k", "_law_pool_here", "_law_one", "_law_some", "_law_first", "_law_second", "_law_found"] ["_law_script"] (defScope s_law) := ⟨rfl, rfl, rfl, by decide +kernel, rfl, by decide +kernel, by decide +kernel⟩
structure Txt (K : PySem.W.Frag) (mg : Str → Option Value) : Prop where
  z_abs : mg "abs" = none
  z_bool : mg "bool" = none
  z_enumerate : mg "enumerate" = none
  z_int : mg "int" = none
  z_isinstance : mg "isinstance" = none
  z_len : mg "len" = none
  z_max : mg "max" = none
  z_min : mg "min" = none
  z_range : mg "range" = none
  z_sum : mg "sum" = none
  c_COUNT_LESS_ONE : ∃ p, mg "COUNT_LESS_ONE" = some (.ref p) ∧ ∀ H, SqT K H p [.int 24, .int 4]
  c_FIRST : ∃ p, mg "FIRST" = some (.ref p) ∧ ∀ H, SqT K H p [.int 12, .int 12]
  c_GATE : ∃ t, mg "GATE" = some (.int 2 t)
  c_KIND : ∃ p, mg "KIND" = some (.ref p) ∧ ∀ H, SqT K H p [.int 41, .int 4]
  c_NOT_SEALED : ∃ t, mg "NOT_SEALED" = some (.int 0 t)
  c_RIGHTS_BITS : ∃ p, mg "RIGHTS_BITS" = some (.ref p) ∧ ∀ H, SqT K H p [.int 32, .int 9]
  c_STEP : ∃ p, mg "STEP" = some (.ref p) ∧ ∀ H, SqT K H p [.int 28, .int 4]
section
variable {P : Program} {w : World} {K : PySem.W.Frag} {mg : Str → Option Value} {base : Heap}

def sp_field (K : PySem.W.Frag) : Sp := fun vs H Q _ => ∃ (b : Int) (p : Addr) (lo mn : Nat), vs = [.int b, .ref p] ∧ SqT K H p [.int lo, .int mn] ∧ 0 ≤ b ∧ lo ≤ 100 ∧ mn ≤ 100 ∧ Q (.int (b / 2 ^ lo % 2 ^ mn)) H
theorem ok_field {f : Addr} {fd : FuncData} (F : Fun K "field" "field" s_field f fd) (T : Txt K mg) : FnOk P w K mg base CX0 1 f fd ["bits", "place"] (sp_field K) := by
  refine F.ok sc_field (fun vs H Q E h => ?_) (fun cdv A outer s H vs Q E hr h => ?_)
  · obtain ⟨b, p, lo, mn, rfl, hp, hb, hlo, hmn, q⟩ := h; rfl
  · obtain ⟨b, p, lo, mn, rfl, hp, hb, hlo, hmn, q⟩ := h
    refine ⟨_, (pss_cons (ps_asg (pv 1) (pg_tup rfl (pgs_cons (pg_name (i := 2) sc_field.nd rfl (.inl rfl)) (pgs_cons (pg_name (i := 3) sc_field.nd rfl (.inl rfl)) pgs_nil))))
      (pss_one (ps_ret (pe_op op_and (pe_op op_shr (pv 0) (pv 2)) (pe_op op_sub (pe_op op_shl pe_int (pv 3)) pe_int))))), ?_⟩
    refine ⟨_, rfl, p, _, rfl, hp, rfl, _, _, rfl, _, _, rfl, rfl, ?_⟩
    refine ⟨_, rfl, _, rfl, _, _, rfl, rfl, by omega, _, rfl, _, _, rfl, rfl, ⟨by omega, by omega, by decide⟩, _, _, rfl, rfl, _, _, rfl, rfl, ?_⟩
    have e : Builtin.bitAnd (b / 2 ^ lo) (1 * 2 ^ mn - 1) = b / 2 ^ lo % 2 ^ mn := by
      rw [Int.one_mul, Bits.bitAnd_mask mn (Int.ediv_nonneg hb (Int.le_of_lt (pow_pos2 lo)))]
    exact qi q e

def sp_bounds_in (K : PySem.W.Frag) : Sp := fun vs H Q _ => ∃ b : Int, vs = [.int b] ∧ 0 ≤ b ∧ ∀ p H', Same H H' → H p = none → H' p = some (.tup [.int (fFirst b * 2 ^ (fStep b).toNat), .int ((fFirst b + fCnt b) * 2 ^ (fStep b).toNat)]) → Q (.ref p) H'
theorem ok_bounds_in {f : Addr} {fd : FuncData} (F : Fun K "bounds_in" "bounds_in" s_bounds_in f fd) (T : Txt K mg) (C_field : Cal P w K mg base "field" 1 ["bits", "place"] (sp_field K)) : FnOk P w K mg base CX0 2 f fd ["bits"] (sp_bounds_in K) := by
  obtain ⟨p_COUNT_LESS_ONE, hc_COUNT_LESS_ONE, hs_COUNT_LESS_ONE⟩ := T.c_COUNT_LESS_ONE
  obtain ⟨p_FIRST, hc_FIRST, hs_FIRST⟩ := T.c_FIRST
  obtain ⟨p_STEP, hc_STEP, hs_STEP⟩ := T.c_STEP
  refine F.ok sc_bounds_in (fun vs H Q E h => ?_) (fun cdv A outer s H vs Q E hr h => ?_)
  · obtain ⟨b, rfl, hb, q⟩ := h; rfl
  · obtain ⟨b, rfl, hb, q⟩ := h
    refine ⟨_, (pss_cons (ps_set (i := 1) sc_bounds_in.nd rfl (.inl rfl) (pe_cal C_field (hr.mono (by decide)) (pa_cons (pv 0) (pa_cons (pe_glob (v := .ref p_STEP) (by rfl) hc_STEP rfl) pa_nil))))
      (pss_cons (ps_set (i := 2) sc_bounds_in.nd rfl (.inl rfl) (pe_cal C_field (hr.mono (by decide)) (pa_cons (pv 0) (pa_cons (pe_glob (v := .ref p_FIRST) (by rfl) hc_FIRST rfl) pa_nil))))
      (pss_one (ps_ret (pe_tup (pa_cons (pe_op op_shl (pv 2) (pv 1)) (pa_cons (pe_op op_shl (pe_op op_add (pe_op op_add (pv 2) (pe_cal C_field (hr.mono (by decide)) (pa_cons (pv 0) (pa_cons (pe_glob (v := .ref p_COUNT_LESS_ONE) (by rfl) hc_COUNT_LESS_ONE rfl) pa_nil)))) pe_int) (pv 1)) pa_nil))))))), ?_⟩
    have f := fb b
    refine ⟨_, rfl, b, p_STEP, 28, 4, rfl, hs_STEP _, hb, by decide, by decide, ?_⟩
    refine ⟨_, rfl, b, p_FIRST, 12, 12, rfl, hs_FIRST _, hb, by decide, by decide, ?_⟩
    refine ⟨_, rfl, _, rfl, _, _, rfl, rfl, cpw (z := fFirst b) (s := fStep b) (by omega) (by omega) (by omega) (by omega), ?_⟩
    refine ⟨_, rfl, _, rfl, b, p_COUNT_LESS_ONE, 24, 4, rfl, hs_COUNT_LESS_ONE _, hb, by decide, by decide, _, _, rfl, rfl, _, _, rfl, rfl, _, rfl, _, _, rfl, rfl, cpw (z := fFirst b + (b / 2 ^ 24 % 2 ^ 4) + 1) (s := fStep b) (by unfold fCnt at f; omega) (by unfold fCnt at f; omega) (by omega) (by omega), sz (by simp), fun p hp => ?_⟩
    refine q p _ (same_new hp) hp ?_
    rw [upd_same]
    have e2 : fFirst b + (b / 2 ^ 24 % 2 ^ 4) + 1 = fFirst b + fCnt b := by unfold fCnt; omega
    rw [← e2]
    rfl

def sp__has_bounds (K : PySem.W.Frag) : Sp := fun vs H Q _ => ∃ p q lo hi at' kd l h s b pr, vs = [.ref p, .ref q] ∧ Wd H p true b ∧ WF b lo hi at' pr kd s ∧ SqT K H q [.int l, .int h] ∧ ∀ r H', Same H H' → (r = true ↔ lo ≤ l ∧ h ≤ hi) → Q (.bl r) H'
theorem ok__has_bounds {f : Addr} {fd : FuncData} (F : Fun K "_has_bounds" "_has_bounds" s__has_bounds f fd) (T : Txt K mg) (C_bounds_in : Cal P w K mg base "bounds_in" 2 ["bits"] (sp_bounds_in K)) : FnOk P w K mg base CX0 3 f fd ["word", "bounds"] (sp__has_bounds K) := by
  refine F.ok sc__has_bounds (fun vs H Q E h => ?_) (fun cdv A outer s H vs Q E hr h => ?_)
  · obtain ⟨p, q1, lo, hi, at', kd, l, h, s1, b, pr, rfl, hw, W, hq, q⟩ := h; rfl
  · obtain ⟨p, q1, lo, hi, at', kd, l, h, s1, b, pr, rfl, hw, W, hq, q⟩ := h
    refine ⟨_, (pss_cons (ps_asg (pe_cal C_bounds_in (hr.mono (by decide)) (pa_cons (pe_ix (r := rIxT K) ix_tup (pv 0) pe_int (fun _ _ => rfl)) pa_nil)) (pg_tup rfl (pgs_cons (pg_name (i := 2) sc__has_bounds.nd rfl (.inl rfl)) (pgs_cons (pg_name (i := 3) sc__has_bounds.nd rfl (.inl rfl)) pgs_nil))))
      (pss_one (ps_ret (pe_and (pe_cmpR op_le (pv 2) (pe_ix (r := rIxT K) ix_tup (pv 1) pe_int (fun _ _ => rfl)) (nomark _)) (pe_one (pe_cmpR op_le (pe_ix (r := rIxT K) ix_tup (pv 1) pe_int (fun _ _ => rfl)) (pv 3) (nomark _))))))), ?_⟩
    refine ⟨_, rfl, p, _, 1, _, rfl, rfl, .of hw.at', atI_nat (j := 1) rfl, b, rfl, hw.w.1, fun f1 H1 s1 hf1 hf12 => ?_⟩
    rw [W.lohi.1, W.lohi.2] at hf12
    refine ⟨f1, _, rfl, .of hf12, rfl, _, _, rfl, _, _, rfl, rfl, ?_⟩
    refine ⟨_, rfl, _, rfl, q1, _, 0, _, rfl, rfl, (seqT' s1 hq), atI_nat (j := 0) rfl, _, _, rfl, rfl, _, rfl, ifd (fun c => ?_) (fun c => ?_)⟩
    · refine ⟨_, rfl, q1, _, 1, _, rfl, rfl, (seqT' s1 hq), atI_nat (j := 1) rfl, _, rfl, _, _, rfl, rfl, q _ _ s1 ?_⟩
      rw [decide_eq_true_iff]
      exact ⟨fun h => ⟨c, h⟩, fun h => h.2⟩
    · exact q _ _ s1 ⟨fun h => Bool.noConfusion h, fun h => absurd h.1 c⟩

def sp_lies_within (K : PySem.W.Frag) : Sp := fun vs H Q _ => ∃ p q m n b c, vs = [.ref p, .ref q] ∧ Wd H p m b ∧ Wd H q n c ∧ ∀ r H', Same H H' → (r = true ↔ m = true ∧ n = true ∧ Within b c) → Q (.bl r) H'
theorem ok_lies_within {f : Addr} {fd : FuncData} (F : Fun K "lies_within" "lies_within" s_lies_within f fd) (T : Txt K mg) (C_field : Cal P w K mg base "field" 1 ["bits", "place"] (sp_field K)) (C_bounds_in : Cal P w K mg base "bounds_in" 2 ["bits"] (sp_bounds_in K)) (C__has_bounds : Cal P w K mg base "_has_bounds" 3 ["word", "bounds"] (sp__has_bounds K)) : FnOk P w K mg base CX0 4 f fd ["one", "other"] (sp_lies_within K) := by
  obtain ⟨t_GATE, hc_GATE⟩ := T.c_GATE
  obtain ⟨p_KIND, hc_KIND, hs_KIND⟩ := T.c_KIND
  obtain ⟨t_NOT_SEALED, hc_NOT_SEALED⟩ := T.c_NOT_SEALED
  obtain ⟨p_RIGHTS_BITS, hc_RIGHTS_BITS, hs_RIGHTS_BITS⟩ := T.c_RIGHTS_BITS
  refine F.ok sc_lies_within (fun vs H Q E h => ?_) (fun cdv A outer s H vs Q E hr h => ?_)
  · obtain ⟨p, q1, m, n, b, c, rfl, hp, hq, q⟩ := h; rfl
  · obtain ⟨p, q1, m, n, b, c, rfl, hp, hq, q⟩ := h
    refine ⟨_, (pss_cons (ps_if (PW.pt (pw_or (pt_not (pt_val (pe_ix (r := rIxT K) ix_tup (pv 0) pe_int (fun _ _ => rfl)))) (pw_or1 (pt_not (pt_val (pe_ix (r := rIxT K) ix_tup (pv 1) pe_int (fun _ _ => rfl))))))) (pss_one (ps_ret pe_bl)) pss_nil)
      (pss_cons (ps_if (pt_not (pt_val (pe_cal C__has_bounds (hr.mono (by decide)) (pa_cons (pv 1) (pa_cons (pe_cal C_bounds_in (hr.mono (by decide)) (pa_cons (pe_ix (r := rIxT K) ix_tup (pv 0) pe_int (fun _ _ => rfl)) pa_nil)) pa_nil))))) (pss_one (ps_ret pe_bl)) pss_nil)
      (pss_cons (ps_set (i := 2) sc_lies_within.nd rfl (.inl rfl) (pe_cal C_field (hr.mono (by decide)) (pa_cons (pe_ix (r := rIxT K) ix_tup (pv 0) pe_int (fun _ _ => rfl)) (pa_cons (pe_glob (v := .ref p_RIGHTS_BITS) (by rfl) hc_RIGHTS_BITS rfl) pa_nil))))
      (pss_cons (ps_if (pt_cmpR op_ne (pe_op op_and (pv 2) (pe_cal C_field (hr.mono (by decide)) (pa_cons (pe_ix (r := rIxT K) ix_tup (pv 1) pe_int (fun _ _ => rfl)) (pa_cons (pe_glob (v := .ref p_RIGHTS_BITS) (by rfl) hc_RIGHTS_BITS rfl) pa_nil)))) (pv 2) (nomark _)) (pss_one (ps_ret pe_bl)) pss_nil)
      (pss_cons (ps_par (i := 3) (j := 4) rfl sc_lies_within.nd rfl rfl (by decide) rfl rfl (pa_cons (pe_cal C_field (hr.mono (by decide)) (pa_cons (pe_ix (r := rIxT K) ix_tup (pv 0) pe_int (fun _ _ => rfl)) (pa_cons (pe_glob (v := .ref p_KIND) (by rfl) hc_KIND rfl) pa_nil))) (pa_cons (pe_cal C_field (hr.mono (by decide)) (pa_cons (pe_ix (r := rIxT K) ix_tup (pv 1) pe_int (fun _ _ => rfl)) (pa_cons (pe_glob (v := .ref p_KIND) (by rfl) hc_KIND rfl) pa_nil))) pa_nil)) (by rfl))
      (pss_one (ps_ret (pe_or (pe_cmpR op_eq (pv 3) (pv 4) (nomark _)) (pe_one (pe_and (pe_cmpR op_eq (pv 4) (pe_glob (v := .int 0) (by rfl) hc_NOT_SEALED ⟨_, rfl⟩) (nomark _)) (pe_one (pe_cmpR op_ne (pv 3) (pe_glob (v := .int 2) (by rfl) hc_GATE ⟨_, rfl⟩) (nomark _))))))))))))), ?_⟩
    have no : ∀ H', Same H H' → ¬ (m = true ∧ n = true ∧ Within b c) → Q (.bl false) H' := fun H' s z => q _ _ s ⟨fun h => Bool.noConfusion h, fun h => absurd h z⟩
    refine ⟨_, rfl, p, _, 0, _, rfl, rfl, .of hp.at', atI_nat (j := 0) rfl, m, rfl, ifnb (fun e => ?_) (fun e1 => ?_)⟩
    · show Q (.bl false) H
      exact no _ (Same.refl _) (fun z => by rw [z.1] at e; cases e)
    refine ⟨_, rfl, q1, _, 0, _, rfl, rfl, .of hq.at', atI_nat (j := 0) rfl, n, rfl, ifnb (fun e => ?_) (fun e2 => ?_)⟩
    · show Q (.bl false) H
      exact no _ (Same.refl _) (fun z => by rw [z.2.1] at e; cases e)
    subst e1 e2
    obtain ⟨lo, hi, at', pr, kd, s0, _, W⟩ := wf_of hp.w (hp.law rfl)
    obtain ⟨lo2, hi2, at2, pr2, kd2, s02, _, W2⟩ := wf_of hq.w (hq.law rfl)
    have wi := W.within W2
    have ek : fKind b = kd := W.all.2.2.2.1
    have ek2 : fKind c = kd2 := W2.all.2.2.2.1
    refine ⟨_, rfl, _, rfl, p, _, 1, _, rfl, rfl, .of hp.at', atI_nat (j := 1) rfl, b, rfl, hp.w.1, fun f1 H1 s1 hf1 hf12 => ?_⟩
    rw [W.lohi.1, W.lohi.2] at hf12
    refine ⟨q1, f1, lo2, hi2, at2, kd2, lo, hi, s02, c, pr2, rfl, hq.same s1, W2, .of hf12, fun r H2 s2 hr => ⟨_, rfl, ifnb (fun e => ?_) (fun e => ?_)⟩⟩
    · show Q (.bl false) H2
      exact no _ (s1.trans s2) (fun z => by have t := wi.mp z.2.2; rw [hr.mpr ⟨t.1, t.2.1⟩] at e; cases e)
    have c1 := hr.mp e
    have S2 := s1.trans s2
    have hp2 := (hp.same S2).at'
    have hq2 := (hq.same S2).at'
    refine ⟨_, rfl, p, _, 1, _, rfl, rfl, .of hp2, atI_nat (j := 1) rfl, b, p_RIGHTS_BITS, 32, 9, rfl, hs_RIGHTS_BITS _, hp.w.1, by decide, by decide, ?_⟩
    have er : b / 2 ^ 32 % 2 ^ 9 = (mask pr 9).sum := W.all.2.2.2.2.2
    have er2 : c / 2 ^ 32 % 2 ^ 9 = (mask pr2 9).sum := W2.all.2.2.2.2.2
    have ms := mask_sub pr pr2
    rw [← er, ← er2] at ms
    refine ⟨_, rfl, _, rfl, q1, _, 1, _, rfl, rfl, .of hq2, atI_nat (j := 1) rfl, c, p_RIGHTS_BITS, 32, 9, rfl, hs_RIGHTS_BITS _, hq.w.1, by decide, by decide, _, _, rfl, rfl, _, rfl, rfl, _, rfl, ifnd (fun c2 => ?_) (fun c2 => ?_)⟩
    · show Q (.bl false) H2
      exact no _ S2 (fun z => c2 (congrArg V.int (ms.mpr (wi.mp z.2.2).2.2.1)))
    have c3 := ms.mp (V.int.inj c2)
    clear ms er er2
    refine ⟨_, rfl, p, _, 1, _, rfl, rfl, .of hp2, atI_nat (j := 1) rfl, b, p_KIND, 41, 4, rfl, hs_KIND _, hp.w.1, by decide, by decide, _, rfl, q1, _, 1, _, rfl, rfl, .of hq2, atI_nat (j := 1) rfl, c, p_KIND, 41, 4, rfl, hs_KIND _, hq.w.1, by decide, by decide, _, _, rfl, ?_⟩
    have fin : ∀ r, (r = true ↔ (fKind b = fKind c ∨ (fKind c = 0 ∧ fKind b ≠ 2))) → Q (.bl r) H2 := fun r hr => q r _ S2 (by
      rw [hr, wi, ek, ek2]
      exact ⟨fun h => ⟨rfl, rfl, c1.1, c1.2, c3, h⟩, fun h => h.2.2.2.2.2⟩)
    refine ⟨_, rfl, _, rfl, rfl, _, rfl, ifd (fun k1 => ?_) (fun k1 => ?_)⟩
    · exact fin _ ⟨fun _ => .inl (V.int.inj k1), fun _ => rfl⟩
    have k1' : fKind b ≠ fKind c := fun z => k1 (congrArg V.int z)
    refine ⟨_, rfl, rfl, _, rfl, ifd (fun k2 => ?_) (fun k2 => ?_)⟩
    · refine ⟨_, rfl, rfl, fin _ ?_⟩
      have k2' := V.int.inj k2
      rw [Bool.not_eq_true', decide_eq_false_iff_not]
      exact ⟨fun h => .inr ⟨k2', fun z => h (congrArg V.int z)⟩, fun h z => by
        rcases h with h | h
        · exact k1' h
        · exact h.2 (V.int.inj z)⟩
    · refine fin _ ⟨fun h => Bool.noConfusion h, fun h => ?_⟩
      rcases h with h | h
      · exact absurd h k1'
      · exact absurd (congrArg V.int h.1) k2

def sp__law_take (K : PySem.W.Frag) : Sp := fun vs H Q _ => ∃ (a : Addr) (x y m : Int), vs = [.ref a, .int m] ∧ Pool H a x y ∧ 0 < m ∧ m < 4611686018427387904 ∧ ∀ r x1 y1 H', 0 ≤ r → r < m → But a H H' → Pool H' a x1 y1 → Q (.int r) H'
theorem ok__law_take {f : Addr} {fd : FuncData} (F : Fun K "_law_take" "_law_take" s__law_take f fd) (T : Txt K mg) : FnOk P w K mg base CX0 1 f fd ["_law_pool_here", "_law_many"] (sp__law_take K) := by
  refine F.ok sc__law_take (fun vs H Q E h => ?_) (fun cdv A outer s H vs Q E hr h => ?_)
  · obtain ⟨a, x, y, m, rfl, hp, hm, hm2, q⟩ := h; rfl
  · obtain ⟨a, x, y, m, rfl, hp, hm, hm2, q⟩ := h
    refine ⟨_, (pss_cons (ps_if (pt_cmpR op_gt (pe_ix (r := rIxL K) ix_list (pv 0) pe_int (fun _ _ => rfl)) pe_int (nomark _)) (pss_cons (ps_set (i := 2) sc__law_take.nd rfl (.inl rfl) (pe_op op_mod (pe_ix (r := rIxL K) ix_list (pv 0) pe_int (fun _ _ => rfl)) (pv 1)))
      (pss_cons (ps_asg (pe_op op_fdivW (pe_ix (r := rIxL K) ix_list (pv 0) pe_int (fun _ _ => rfl)) (pv 1)) (pg_sub (pv 0) pe_int set_list))
      (pss_one (ps_ret (pv 2))))) pss_nil)
      (pss_cons (ps_asg (pe_op op_mod (pe_op op_add (pe_op op_mul (pe_ix (r := rIxL K) ix_list (pv 0) pe_int (fun _ _ => rfl)) pe_int) pe_int) pe_int) (pg_sub (pv 0) pe_int set_list))
      (pss_one (ps_ret (pe_op op_mod (pe_op op_fdivW (pe_op op_mod (pe_op op_mul (pe_ix (r := rIxL K) ix_list (pv 0) pe_int (fun _ _ => rfl)) (pe_ix (r := rIxL K) ix_list (pv 0) pe_int (fun _ _ => rfl))) pe_int) pe_int) (pv 1)))))), ?_⟩
    obtain ⟨hp, x0, y0, y1⟩ := hp
    refine ⟨_, rfl, a, _, 0, _, rfl, rfl, .of hp, atI_nat (j := 0) rfl, _, _, rfl, rfl, _, rfl, ifd (fun c => ?_) (fun c => ?_)⟩
    · refine ⟨_, rfl, a, _, 0, _, rfl, rfl, .of hp, atI_nat (j := 0) rfl, _, rfl, _, _, rfl, rfl, hm, ?_⟩
      refine ⟨_, rfl, a, _, 0, _, rfl, rfl, .of hp, atI_nat (j := 0) rfl, _, rfl, _, _, rfl, rfl, wide_div hm (b := 62) (by omega) (by decide) (by decide), ?_⟩
      refine ⟨_, rfl, a, _, 0, 0, rfl, rfl, hp, rfl, ?_⟩
      refine ⟨_, rfl, q (x % m) (x / m) y _ (Int.emod_nonneg _ (by omega)) (Int.emod_lt_of_pos _ hm) (But.upd (But.refl _ _)) ⟨upd_same, Int.ediv_nonneg x0 (by omega), y0, y1⟩⟩
    · refine ⟨_, rfl, a, _, 1, _, rfl, rfl, .of hp, atI_nat (j := 1) rfl, _, _, rfl, rfl, .inr ⟨by decide, by decide⟩, _, _, rfl, rfl, _, _, rfl, rfl, (by show (0 : Int) < _; decide), ?_⟩
      refine ⟨_, rfl, a, _, 1, 1, rfl, rfl, hp, rfl, ?_⟩
      have u1 : 0 ≤ (y * 48271 + 11) % 2147483647 := Int.emod_nonneg _ (by decide)
      have u2 : (y * 48271 + 11) % 2147483647 < 2147483647 := Int.emod_lt_of_pos _ (by decide)
      refine ⟨_, rfl, a, _, 1, _, rfl, rfl, .of upd_same, atI_nat (j := 1) rfl, _, rfl, a, _, 1, _, rfl, rfl, .of upd_same, atI_nat (j := 1) rfl, _, _, rfl, rfl, .inl ⟨by omega, by omega⟩, _, _, rfl, rfl, (by show (0 : Int) < _; decide), _, _, rfl, rfl, wide_div (by decide) (b := 62) (by decide) (by decide) (by decide), _, rfl, _, _, rfl, rfl, hm, ?_⟩
      exact q _ x ((y * 48271 + 11) % 2147483647) _ (Int.emod_nonneg _ (by omega)) (Int.emod_lt_of_pos _ hm) (But.upd (But.refl _ _)) ⟨upd_same, x0, u1, u2⟩

def sp__law_pool (K : PySem.W.Frag) : Sp := fun vs H Q _ => ∃ (a : Addr) (ns : List Int) (k : Nat), vs = [.ref a, .int k] ∧ SqL K H a (ns.map V.int) ∧ ns.length ≤ 63 ∧ k ≤ 63 ∧ ∀ x y p H', Same H H' → H p = none → Pool H' p x y → Q (.ref p) H'
theorem ok__law_pool {f : Addr} {fd : FuncData} (F : Fun K "_law_pool" "_law_pool" s__law_pool f fd) (T : Txt K mg) : FnOk P w K mg base CX0 1 f fd ["_law_script", "_law_k"] (sp__law_pool K) := by
  refine F.ok sc__law_pool (fun vs H Q E h => ?_) (fun cdv A outer s H vs Q E hr h => ?_)
  · obtain ⟨a, ns, k, rfl, hS, hlen, hk, q⟩ := h; rfl
  · obtain ⟨a, ns, k, rfl, hS, hlen, hk, q⟩ := h
    refine ⟨_, (pss_cons (ps_set (i := 2) sc__law_pool.nd rfl (.inl rfl) (pe_op op_add (pe_op op_mul pe_int (pe_callB (cr_sum rfl) (by rfl) T.z_sum (by decide +kernel) (pa_cons (pe_slice sl_list (pv 0) po_none (po_some pe_int)) pa_nil))) (pv 1)))
      (pss_cons (ps_if (pt_cmpR op_lt (pv 1) (pe_callB call_len_seq (by rfl) T.z_len (by decide +kernel) (pa_cons (pv 0) pa_nil)) (nomark _)) (pss_one (ps_set (i := 2) sc__law_pool.nd rfl (.inl rfl) (pe_ix (r := rIxL K) ix_list (pv 0) (pv 1) (fun _ _ => rfl)))) pss_nil)
      (pss_cons (ps_set (i := 3) sc__law_pool.nd rfl (.inl rfl) (pe_callB call_abs (by rfl) T.z_abs (by decide +kernel) (pa_cons (pv 2) pa_nil)))
      (pss_cons (ps_set (i := 4) sc__law_pool.nd rfl (.inl rfl) (pe_op op_mod (pe_op op_mul (pe_op op_add (pe_op op_add (pe_op op_add (pe_op op_mod (pv 3) pe_int) (pe_op op_mul (pe_op op_mul pe_int (pv 1)) (pv 1))) (pe_op op_mul pe_int (pv 1))) pe_int) pe_int) pe_int))
      (pss_one (ps_ret (pe_lst (pa_cons (pe_op op_mul (pv 3) (pe_callTy call_int1 (by rfl) T.z_int (by decide +kernel) (pa_cons (pe_cmpR op_ge (pv 3) (pe_op op_pow pe_int pe_int) (nomark _)) pa_nil))) (pa_cons (pe_op op_mod (pe_op op_mul (pv 4) (pv 4)) pe_int) pa_nil))))))))), ?_⟩
    refine ⟨_, rfl, _, rfl, a, _, rfl, hS, fun p hp => ?_⟩
    have s1 : Same H (upd H p (.lst (cutV (ns.map V.int) none (some 63)))) := same_new hp
    have hS1 : SqL K (upd H p (.lst (cutV (ns.map V.int) none (some 63)))) a (ns.map V.int) := s1.seq hS
    refine ⟨p, ns, rfl, .of (by rw [upd_same, cut63 hlen]), _, _, rfl, rfl, .inl ⟨by decide, by decide⟩, _, rfl, _, _, rfl, rfl, ?_⟩
    refine ⟨_, rfl, _, rfl, a, _, rfl, .inl hS1, _, _, rfl, rfl, _, rfl, ifd (fun c => ?_) (fun c => ?_)⟩
    · rw [List.length_map] at c
      have hk2 : k < ns.length := by omega
      refine ⟨_, rfl, _, rfl, a, _, (k : Int), .int ns[k], rfl, rfl, hS1, atI_nat (by rw [List.getElem?_map, List.getElem?_eq_getElem hk2]; rfl), ?_⟩
      refine ⟨_, rfl, _, rfl, ?_⟩
      refine ⟨_, rfl, _, _, rfl, rfl, (by show (0 : Int) < _; decide), _, rfl, _, _, rfl, rfl, .inl ⟨by decide, by decide⟩, _, rfl, _, _, rfl, rfl, .inr ⟨by omega, by omega⟩, _, _, rfl, rfl, _, rfl, _, _, rfl, rfl, .inl ⟨by decide, by decide⟩, _, _, rfl, rfl, _, _, rfl, rfl, _, _, rfl, rfl, .inr ⟨by decide, by decide⟩, _, _, rfl, rfl, (by show (0 : Int) < _; decide), ?_⟩
      refine ⟨_, rfl, _, rfl, _, _, rfl, rfl, ⟨by decide, by decide, by decide⟩, _, _, rfl, rfl, .inr ⟨_, rfl, _, _, rfl, rfl, .inr (b01 _), ?_⟩⟩
      refine ⟨_, rfl, _, rfl, _, _, rfl, rfl, .inl (mixb _), _, _, rfl, rfl, (by show (0 : Int) < _; decide), sz (by simp), fun p2 hp2 => ?_⟩
      exact q _ _ p2 _ (sameN s1 hp2) (Same.free s1 hp2) ⟨upd_same, sizeb _ _, Int.emod_nonneg _ (by decide), Int.lt_trans (Int.emod_lt_of_pos _ (by decide)) (by decide)⟩
    · refine ⟨_, rfl, _, rfl, ?_⟩
      refine ⟨_, rfl, _, _, rfl, rfl, (by show (0 : Int) < _; decide), _, rfl, _, _, rfl, rfl, .inl ⟨by decide, by decide⟩, _, rfl, _, _, rfl, rfl, .inr ⟨by omega, by omega⟩, _, _, rfl, rfl, _, rfl, _, _, rfl, rfl, .inl ⟨by decide, by decide⟩, _, _, rfl, rfl, _, _, rfl, rfl, _, _, rfl, rfl, .inr ⟨by decide, by decide⟩, _, _, rfl, rfl, (by show (0 : Int) < _; decide), ?_⟩
      refine ⟨_, rfl, _, rfl, _, _, rfl, rfl, ⟨by decide, by decide, by decide⟩, _, _, rfl, rfl, .inr ⟨_, rfl, _, _, rfl, rfl, .inr (b01 _), ?_⟩⟩
      refine ⟨_, rfl, _, rfl, _, _, rfl, rfl, .inl (mixb _), _, _, rfl, rfl, (by show (0 : Int) < _; decide), sz (by simp), fun p2 hp2 => ?_⟩
      exact q _ _ p2 _ (sameN s1 hp2) (Same.free s1 hp2) ⟨upd_same, sizeb _ _, Int.emod_nonneg _ (by decide), Int.lt_trans (Int.emod_lt_of_pos _ (by decide)) (by decide)⟩

def sp__law_least (K : PySem.W.Frag) : Sp := fun vs H Q _ => ∃ lo hi, vs = [.int lo, .int hi] ∧ Bd lo hi ∧ ∀ (s : Nat) p, StepIs lo hi s → H p = none → Q (.ref p) (upd H p (.tup [.int (lo / 2 ^ s * 2 ^ s), .int (((hi - 1) / 2 ^ s + 1) * 2 ^ s), .int s]))
theorem ok__law_least {f : Addr} {fd : FuncData} (F : Fun K "_law_least" "_law_least" s__law_least f fd) (T : Txt K mg) : FnOk P w K mg base CX0 1 f fd ["_law_low", "_law_high"] (sp__law_least K) := by
  refine F.ok sc__law_least (fun vs H Q E h => ?_) (fun cdv A outer s H vs Q E hr h => ?_)
  · obtain ⟨lo, hi, rfl, hb, q⟩ := h; rfl
  · obtain ⟨lo, hi, rfl, hb, q⟩ := h
    refine ⟨_, (pss_cons (ps_set (i := 2) sc__law_least.nd rfl (.inl rfl) pe_int)
      (pss_cons (ps_while PassesOwn.never (pt_cmpR op_gt (pe_op op_sub (pe_op op_shr (pe_op op_sub (pv 1) pe_int) (pv 2)) (pe_op op_shr (pv 0) (pv 2))) pe_int (nomark _)) (pss_one (ps_set (i := 2) sc__law_least.nd rfl (.inl rfl) (pe_op op_add (pv 2) pe_int))))
      (pss_one (ps_ret (pe_tup (pa_cons (pe_op op_shl (pe_op op_shr (pv 0) (pv 2)) (pv 2)) (pa_cons (pe_op op_shl (pe_op op_add (pe_op op_shr (pe_op op_sub (pv 1) pe_int) (pv 2)) pe_int) (pv 2)) (pa_cons (pv 2) pa_nil)))))))), ?_⟩
    refine ⟨fun m σ H' => ∃ s : Nat, σ = [some (.int lo), some (.int hi), some (.int s)] ∧ H' = H ∧ s ≤ 8 ∧ m = 8 - s ∧ ∀ t, t < s → 15 < Dd lo hi t, ⟨8, 0, rfl, rfl, by omega, rfl, fun t ht => by omega⟩, ?_⟩
    rintro m σ H' ⟨s, rfl, rfl, h8, em, hbl⟩
    refine ⟨_, rfl, _, _, rfl, rfl, _, rfl, _, _, rfl, rfl, by omega, _, rfl, _, rfl, _, _, rfl, rfl, by omega, _, _, rfl, rfl, _, _, rfl, rfl, _, rfl, ifd (fun c => ?_) (fun c => ?_)⟩
    · have c2 : 15 < Dd lo hi s := c
      have l8 := lt8 hb c2 h8
      refine ⟨_, fun _ _ h => h, ?_⟩
      refine ⟨_, rfl, _, _, rfl, rfl, 8 - (s + 1), by omega, s + 1, rfl, rfl, by omega, rfl, fun t ht => ?_⟩
      rcases Nat.lt_or_ge t s with d | d
      · exact hbl t d
      · have : t = s := by omega
        subst this; exact c2
    · have c2 : ¬ 15 < Dd lo hi s := c
      refine ⟨_, rfl, _, rfl, _, _, rfl, rfl, by omega, _, rfl, _, _, rfl, rfl, bc hb h8, _, rfl, _, _, rfl, rfl, _, rfl, _, _, rfl, rfl, by omega, _, _, rfl, rfl, _, rfl, _, _, rfl, rfl, bc4 hb h8, _, rfl, sz (by simp), fun p hp => ?_⟩
      exact q s p ⟨h8, by omega, hbl⟩ hp

def sp__law_fields (K : PySem.W.Frag) : Sp := fun vs H Q _ => ∃ (p : Addr) (v : V) (b : Int), vs = [.ref p] ∧ H p = some (.tup [v, .int b]) ∧ W45 b ∧ (¬ Tells b → ∀ H', Same H H' → Q .non H') ∧ (Tells b → ∀ q H', Same H H' → H q = none → H' q = some (.tup (tup5 b)) → Q (.ref q) H')
theorem ok__law_fields {f : Addr} {fd : FuncData} (F : Fun K "_law_fields" "_law_fields" s__law_fields f fd) (T : Txt K mg) : FnOk P w K mg base CX0 1 f fd ["_law_word_here"] (sp__law_fields K) := by
  refine F.ok sc__law_fields (fun vs H Q E h => ?_) (fun cdv A outer s H vs Q E hr h => ?_)
  · obtain ⟨p, v, b, rfl, hp, hw, q1, q2⟩ := h; rfl
  · obtain ⟨p, v, b, rfl, hp, hw, q1, q2⟩ := h
    refine ⟨_, (pss_cons (ps_set (i := 1) sc__law_fields.nd rfl (.inr rfl) (pe_ix (r := rIxT K) ix_tup (pv 0) pe_int (fun _ _ => rfl)))
      (pss_cons (ps_par (i := 2) (j := 3) rfl sc__law_fields.nd rfl rfl (by decide) rfl rfl (pa_cons (pe_op op_and (pe_op op_shr (pv 1) pe_int) pe_int) (pa_cons (pe_op op_add (pe_op op_and (pe_op op_shr (pv 1) pe_int) pe_int) pe_int) pa_nil)) (by rfl))
      (pss_cons (ps_set (i := 4) sc__law_fields.nd rfl (.inl rfl) (pe_op op_and (pe_op op_shr (pv 1) pe_int) pe_int))
      (pss_cons (ps_if (PW.pt (pw_or (pt_cmpR op_gt (pv 4) pe_int (nomark _)) (pw_or (PW.pt (pw_and (pt_cmpR op_gt (pv 4) pe_int (nomark _)) (pw_and1 (pt_cmpR op_lt (pv 3) pe_int (nomark _))))) (pw_or1 (pt_cmpR op_gt (pe_op op_shl (pe_op op_add (pv 2) (pv 3)) (pv 4)) pe_int (nomark _)))))) (pss_one (ps_ret pe_non)) pss_nil)
      (pss_cons (ps_set (i := 5) sc__law_fields.nd rfl (.inr rfl) pe_str)
      (pss_cons (ps_set (i := 7) sc__law_fields.nd rfl (.inl rfl) (pe_join pe_str (pe_lc (own := [("_law_k", 6)]) rfl sc__law_fields.nd (pi_range1 (by rfl) T.z_range (pa_cons pe_int pa_nil)) (blkOk_by (own := [("_law_k", 6)]) (N := ["_law_word_here", "_law_bits", "_law_first", "_law_count", "_law_step", "_law_signs", "_law_k", "_law_rights_here"]) (sc := defScope s__law_fields) (by decide +kernel)) (fun _ _ _ _ _ => (pg_name (i := 6) sc__law_fields.nd rfl (.inl rfl))) (fun _ _ _ _ _ => (pts_one (pt_cmpR op_eq (pe_op op_and (pe_op op_shr (pv 1) (pe_op op_add pe_int (pv 6))) pe_int) pe_int (nomark _)))) (fun _ _ _ _ _ => (pe_ix (r := rIxS) ix_str (pv 5) (pv 6) (fun _ _ => rfl))))))
      (pss_one (ps_ret (pe_tup (pa_cons (pe_op op_shl (pv 2) (pv 4)) (pa_cons (pe_op op_shl (pe_op op_add (pv 2) (pv 3)) (pv 4)) (pa_cons (pe_op op_mod (pv 1) pe_int) (pa_cons (pv 7) (pa_cons (pe_op op_shr (pv 1) pe_int) pa_nil)))))))))))))), ?_⟩
    obtain ⟨h0, h45⟩ := hw
    have f := fb b
    have a12 : Builtin.bitAnd (b / 2 ^ 12) 4095 = fFirst b := Bits.bitAnd_mask 12 (by omega)
    have a24 : Builtin.bitAnd (b / 2 ^ 24) 15 + 1 = fCnt b := congrArg (· + 1) (Bits.bitAnd_mask 4 (by omega))
    have a28 : Builtin.bitAnd (b / 2 ^ 28) 15 = fStep b := Bits.bitAnd_mask 4 (by omega)
    have a0 : b % 4096 = fAt b := by
      unfold fAt
      rw [show (2 : Int) ^ 0 = 1 by decide, Int.ediv_one]
      rfl
    have a41 : b / 2 ^ 41 = fKind b := by
      unfold fKind
      rw [show (2 : Int) ^ 41 = 2199023255552 by decide, show (2 : Int) ^ 4 = 16 by decide]
      omega
    have cp3 : CPow (Builtin.bitAnd (b / 2 ^ 12) 4095 + (Builtin.bitAnd (b / 2 ^ 24) 15 + 1)) (Builtin.bitAnd (b / 2 ^ 28) 15) := by rw [a12, a24, a28]; exact cpw (by omega) (by omega) (by omega) (by omega)
    have cp1 : CPow (Builtin.bitAnd (b / 2 ^ 12) 4095) (Builtin.bitAnd (b / 2 ^ 28) 15) := by rw [a12, a28]; exact cpw (by omega) (by omega) (by omega) (by omega)
    refine ⟨_, rfl, p, _, 1, _, rfl, rfl, .of hp, atI_nat (j := 1) rfl, ?_⟩
    refine ⟨_, rfl, _, _, rfl, rfl, (by show (0 : Int) ≤ _; decide), _, _, rfl, rfl, _, rfl, _, _, rfl, rfl, (by show (0 : Int) ≤ _; decide), _, _, rfl, rfl, _, _, rfl, rfl, _, _, rfl, ?_⟩
    refine ⟨_, rfl, _, _, rfl, rfl, (by show (0 : Int) ≤ _; decide), _, _, rfl, rfl, ?_⟩
    refine' with_fin (A := Tells b) ?h ?k
    case k =>
      intro fin
      have no : ¬ Tells b → Q .non H := fun z => q1 z H (Same.refl _)
      have l3 : decide (4096 < (Builtin.bitAnd (b / 2 ^ 12) 4095 + (Builtin.bitAnd (b / 2 ^ 24) 15 + 1)) * 2 ^ (Builtin.bitAnd (b / 2 ^ 28) 15).toNat) = true ↔ ¬ (fFirst b + fCnt b) * 2 ^ (fStep b).toNat ≤ 4096 := by
        rw [a12, a24, a28, decide_eq_true_iff]; omega
      refine ⟨_, rfl, _, _, rfl, rfl, _, rfl, ifd (fun c => ?_) (fun c => ?_)⟩
      · have c2 : 8 < fStep b := by rw [← a28]; exact c
        exact no fun z => absurd z.1 (by omega)
      have c2 : ¬ 8 < fStep b := by rw [← a28]; exact c
      have last : (fStep b = 0 ∨ 9 ≤ fCnt b) → ∀ c : Bool, (c = true ↔ ¬ (fFirst b + fCnt b) * 2 ^ (fStep b).toNat ≤ 4096) → (c = true → ¬ Tells b) ∧ (c = false → Tells b) := fun z c hc =>
        ⟨fun e t => hc.mp e t.2.2, fun e => ⟨by omega, z, by
          rcases Decidable.em ((fFirst b + fCnt b) * 2 ^ (fStep b).toNat ≤ 4096) with h | h
          · exact h
          · rw [hc.mpr h] at e; cases e⟩⟩
      refine ⟨_, rfl, _, _, rfl, rfl, _, rfl, ifd (fun c3 => ?_) (fun c3 => ?_)⟩
      · have c4 : 0 < fStep b := by rw [← a28]; exact c3
        refine ⟨_, rfl, _, _, rfl, rfl, _, rfl, ifd (fun c5 => ?_) (fun c5 => ?_)⟩
        · have c6 : fCnt b < 9 := by rw [← a24]; exact c5
          exact no fun z => by have := z.2.1; omega
        · have c6 : ¬ fCnt b < 9 := by rw [← a24]; exact c5
          refine ⟨_, rfl, _, rfl, _, _, rfl, rfl, _, rfl, _, _, rfl, rfl, cp3, _, _, rfl, rfl, _, rfl, ifb (fun e => ?_) (fun e => ?_)⟩
          · exact no ((last (.inr (by omega)) _ l3).1 e)
          · exact fin ((last (.inr (by omega)) _ l3).2 e)
      · have c4 : ¬ 0 < fStep b := by rw [← a28]; exact c3
        refine ⟨_, rfl, _, rfl, _, _, rfl, rfl, _, rfl, _, _, rfl, rfl, cp3, _, _, rfl, rfl, _, rfl, ifb (fun e => ?_) (fun e => ?_)⟩
        · exact no ((last (.inl (by omega)) _ l3).1 e)
        · exact fin ((last (.inl (by omega)) _ l3).2 e)
    intro tl
    have hr0 : 0 ≤ fRts b := Int.emod_nonneg _ (by decide)
    refine ⟨⟨_, rfl⟩, 9, rfl, by decide, by decide, fun D hD => ?_⟩
    refine lc_range (lo := 0) (n := 9) (fun i H' => Same H H' ∧ H' D = some (.lst ((rcs (bitp (fRts b)) i).map V.str))) ⟨same_new hD, upd_same⟩ ?_ ?_
    · rintro i H1 hi ⟨sm, hl⟩
      rw [i0]
      refine ⟨rfl, ?_⟩
      have eb : Builtin.bitAnd (b / 2 ^ (32 + i)) 1 = b / 2 ^ (32 + i) % 2 := Bits.bitAnd_mask 1 (Int.ediv_nonneg h0 (Int.le_of_lt (pow_pos2 _)))
      have el := bit_lift b hi
      refine ⟨_, rfl, _, rfl, _, _, rfl, rfl, _, _, rfl, rfl, by omega, _, _, rfl, rfl, rfl, _, rfl, ifd (fun e => ?_) (fun e => ?_)⟩
      · have e3 : bitp (fRts b) i = true := by
          unfold bitp
          rw [← el, ← eb]
          exact decide_eq_true (V.int.inj e)
        refine ⟨_, rfl, _, rfl, RT, _, code i, rfl, rfl, by decide +kernel, atI_nat (j := i) (by rw [Array.getElem?_toList]; exact RT_get i hi), _, hl, ?_, ?_, ?_⟩
        · rw [List.length_map]
          have := rcs_len (bitp (fRts b)) i
          exact szn (by omega)
        · exact fun b o e => by
            have n : b ≠ D := ne_of_none e hD
            rw [upd_ne n]; exact sm b o e
        · rw [upd_same, rcs_succ, List.map_append, if_pos e3]; rfl
      · refine ⟨sm, ?_⟩
        have e3 : ¬ bitp (fRts b) i = true := by
          unfold bitp
          rw [← el, ← eb]
          intro z
          exact e (congrArg V.int (of_decide_eq_true z))
        rw [rcs_succ, if_neg e3, List.append_nil]
        exact hl
    · rintro H1 ⟨sm, hl⟩
      refine ⟨_, D, _, rfl, rfl, .inl (.of hl), rcs_fit _, ?_⟩
      refine ⟨_, rfl, _, rfl, _, _, rfl, rfl, cp1, _, rfl, _, rfl, _, _, rfl, rfl, _, rfl, _, _, rfl, rfl, cp3, _, rfl, _, _, rfl, rfl, (by show (0 : Int) < _; decide), _, rfl, _, rfl, _, _, rfl, rfl, (by show (0 : Int) ≤ _; decide), sz (by simp), fun q hq => ?_⟩
      refine q2 tl q _ (sameN sm hq) (Same.free sm hq) ?_
      rw [upd_same]
      show some (HO.tup [.int (Builtin.bitAnd (b / 2 ^ 12) 4095 * 2 ^ (Builtin.bitAnd (b / 2 ^ 28) 15).toNat), .int ((Builtin.bitAnd (b / 2 ^ 12) 4095 + (Builtin.bitAnd (b / 2 ^ 24) 15 + 1)) * 2 ^ (Builtin.bitAnd (b / 2 ^ 28) 15).toNat), .int (b % 4096), .str (rtx (bitp (fRts b))), .int (b / 2 ^ 41)]) = _
      rw [a12, a24, a28, a0, a41]
      rfl

def sp__law_made (K : PySem.W.Frag) : Sp := fun vs H Q _ => ∃ (lo hi at' kd : Int) (p : Nat → Bool), vs = [.int lo, .int hi, .int at', .str (rtx p), .int kd] ∧ Bd lo hi ∧ (∃ s, Ex lo hi s) ∧ 0 ≤ at' ∧ at' ≤ 4095 ∧ 0 ≤ kd ∧ kd ≤ 15 ∧ OneW (rtx p) ∧ ∀ s b q H', WF b lo hi at' p kd s → Same H H' → H q = none → Wd H' q true b → Q (.ref q) H'
theorem ok__law_made {f : Addr} {fd : FuncData} (F : Fun K "_law_made" "_law_made" s__law_made f fd) (T : Txt K mg) (C__law_least : Cal P w K mg base "_law_least" 1 ["_law_low", "_law_high"] (sp__law_least K)) : FnOk P w K mg base CX0 2 f fd ["_law_low", "_law_high", "_law_at", "_law_rights_here", "_law_kind"] (sp__law_made K) := by
  refine F.ok sc__law_made (fun vs H Q E h => ?_) (fun cdv A outer s H vs Q E hr h => ?_)
  · obtain ⟨lo, hi, at', kd, p, rfl, bd, ex, a0, a1, k0, k1, ow, q⟩ := h; rfl
  · obtain ⟨lo, hi, at', kd, p, rfl, bd, ex, a0, a1, k0, k1, ow, q⟩ := h
    refine ⟨_, (pss_cons (ps_set (i := 5) sc__law_made.nd rfl (.inl rfl) (pe_ix (r := rIxT K) ix_tup (pe_cal C__law_least (hr.mono (by decide)) (pa_cons (pv 0) (pa_cons (pv 1) pa_nil))) pe_int (fun _ _ => rfl)))
      (pss_cons (ps_set (i := 6) sc__law_made.nd rfl (.inl rfl) (pe_op op_add (pe_op op_add (pe_op op_add (pv 2) (pe_op op_shl (pe_op op_shr (pv 0) (pv 5)) pe_int)) (pe_op op_shl (pe_op op_sub (pe_op op_shr (pe_op op_sub (pv 1) (pv 0)) (pv 5)) pe_int) pe_int)) (pe_op op_shl (pv 5) pe_int)))
      (pss_cons (ps_for PassesOwn.never rfl (pi_enumS (by rfl) T.z_enumerate (pa_cons pe_str pa_nil)) (pg_tup rfl (pgs_cons (pg_name (i := 7) sc__law_made.nd rfl (.inl rfl)) (pgs_cons (pg_name (i := 8) sc__law_made.nd rfl (.inl rfl)) pgs_nil))) (pss_one (ps_set (i := 6) sc__law_made.nd rfl (.inl rfl) (pe_op op_add (pv 6) (pe_op op_shl (pe_callTy call_int1 (by rfl) T.z_int (by decide +kernel) (pa_cons (pe_cmpR op_in_sign (pv 8) (pv 3) (by rfl)) pa_nil)) (pe_op op_add pe_int (pv 7)))))))
      (pss_one (ps_ret (pe_tup (pa_cons pe_bl (pa_cons (pe_op op_add (pv 6) (pe_op op_shl (pv 4) pe_int)) pa_nil)))))))), ?_⟩
    obtain ⟨s0, ex0⟩ := ex
    refine ⟨_, rfl, _, rfl, lo, hi, rfl, bd, fun s p1 hs hp1 => ?_⟩
    have es : s0 = s := ex0.1.uniq hs
    subst es
    refine ⟨p1, _, 2, _, rfl, rfl, .of upd_same, atI_nat (j := 2) rfl, ?_⟩
    have h8 := hs.1
    obtain ⟨b1, b2, b3⟩ := bd
    have d1 := div_le' (s := s0) b1
    have d2 := div_le' (s := s0) (x := hi - lo) (by omega)
    have me := made_eq ex0
    have dd := hs.2.1
    have dn : 0 ≤ Dd lo hi s0 := by
      unfold Dd
      have := Int.ediv_le_ediv (pow_pos2 s0) (show lo ≤ hi - 1 by omega)
      omega
    refine ⟨_, rfl, _, rfl, _, rfl, _, _, rfl, rfl, by omega, _, _, rfl, rfl, cpw (z := lo / 2 ^ s0) d1.1 (by omega) (by omega) (by omega), _, _, rfl, rfl, _, rfl, _, rfl, _, _, rfl, rfl, _, rfl, _, _, rfl, rfl, by omega, _, _, rfl, rfl, _, _, rfl, rfl, cpw (z := (hi - lo) / 2 ^ s0 - 1) (by omega) (by omega) (by omega) (by omega), _, _, rfl, rfl, _, rfl, _, _, rfl, rfl, cpw (z := (s0 : Int)) (by omega) (by omega) (by omega) (by omega), _, _, rfl, rfl, ?_⟩
    have S1 := same_new (o := .tup [.int (lo / 2 ^ s0 * 2 ^ s0), .int (((hi - 1) / 2 ^ s0 + 1) * 2 ^ s0), .int s0]) hp1
    generalize upd H p1 _ = H1 at S1 ⊢
    obtain ⟨z, ez2⟩ : ∃ z : Int, z = at' + lo / 2 ^ s0 * 4096 + Dd lo hi s0 * 16777216 + (s0 : Int) * 268435456 := ⟨_, rfl⟩
    refine ⟨RT, rfl, for_it (walk_enumS (z := RT)) (fun j σ H' => ∃ (w : Int) (v7 v8 : Option V), σ = [some (.int lo), some (.int hi), some (.int at'), some (.str (rtx p)), some (.int kd), some (.int s0), some (.int w), v7, v8] ∧ w = z + (mask p j).sum * 4294967296 ∧ Same H1 H') ⟨_, _, _, rfl, (by
      show at' + lo / 2 ^ s0 * 2 ^ 12 + ((hi - lo) / 2 ^ s0 - 1) * 2 ^ 24 + (s0 : Int) * 2 ^ 28 = _
      rw [me, ez2, show (2 : Int) ^ 12 = 4096 by decide, show (2 : Int) ^ 24 = 16777216 by decide, show (2 : Int) ^ 28 = 268435456 by decide]
      unfold mask; simp), Same.refl _⟩ (fun _ _ _ _ _ => trivial) ?_ ?_⟩
    · rintro j x σ H2 H3 hj ⟨w, v7, v8, rfl, hw, S2⟩ ⟨Tp, x1', y1', rfl, hn, rfl, hx1, hy1⟩
      rw [RT_size] at hj
      have hy1 : (RT.cps[j]?).map (fun c => V.str ⟨#[c]⟩) = some y1' := hy1
      rw [RT_get j hj] at hy1
      have e1 : x1' = .int (j : Int) := (Option.some.inj hx1).symm
      have e2 : y1' = .str (one (code j)) := (Option.some.inj hy1).symm
      subst e1 e2
      refine ⟨Tp, _, rfl, .of upd_same, rfl, _, _, rfl, _, _, rfl, rfl, ?_⟩
      have S3 := sameN (o := .tup [.int (j : Int), .str (one (code j))]) S2 hn
      generalize upd H2 Tp _ = H3 at S3 ⊢
      refine ⟨_, rfl, _, rfl, _, rfl, code j, rtx p, rfl, rfl, .inr ⟨_, rfl, _, rfl, _, _, rfl, rfl, _, _, rfl, rfl, cpw (by split <;> decide) (by split <;> decide) (by omega) (by omega), _, _, rfl, rfl, ?_⟩⟩
      refine ⟨_, _, _, rfl, made_step (p := p) ?_ hw, S3⟩
      rw [Bool.eq_iff_iff, decide_eq_true_iff]
      exact rtx_mem p hj
    rintro σ H2 ⟨w, v7, v8, rfl, hw, S2⟩
    rw [RT_size] at hw
    refine ⟨_, rfl, _, rfl, _, _, rfl, rfl, cpw k0 (by omega) (by decide) (by decide), _, _, rfl, rfl, sz (by simp), fun q2 hq2 => ?_⟩
    have W : WF (w + kd * 2 ^ (41 : Int).toNat) lo hi at' p kd s0 := ⟨⟨b1, b2, b3⟩, ex0, a0, a1, k0, k1, ow, by
      rw [wb_eq, hw, ez2, maskOf_rtx]
      show _ = _ + kd * 2 ^ 41
      omega⟩
    have A := W.all
    exact q s0 _ q2 _ W (sameN (S1.trans S2) hq2) (Same.free (S1.trans S2) hq2) ⟨upd_same, A.1, fun _ => A.2.1⟩

def sp__law_bounds (K : PySem.W.Frag) : Sp := fun vs H Q _ => ∃ (a : Addr) (x y : Int), vs = [.ref a] ∧ Pool H a x y ∧ ∀ (lo hi : Int) q x1 y1 H', Bd lo hi → (∃ s, Ex lo hi s) → But a H H' → Pool H' a x1 y1 → H q = none → H' q = some (.tup [.int lo, .int hi]) → Q (.ref q) H'
theorem ok__law_bounds {f : Addr} {fd : FuncData} (F : Fun K "_law_bounds" "_law_bounds" s__law_bounds f fd) (T : Txt K mg) (C__law_take : Cal P w K mg base "_law_take" 1 ["_law_pool_here", "_law_many"] (sp__law_take K)) (C__law_least : Cal P w K mg base "_law_least" 1 ["_law_low", "_law_high"] (sp__law_least K)) : FnOk P w K mg base CX0 2 f fd ["_law_pool_here"] (sp__law_bounds K) := by
  refine F.ok sc__law_bounds (fun vs H Q E h => ?_) (fun cdv A outer s H vs Q E hr h => ?_)
  · obtain ⟨a, x, y, rfl, hP, q⟩ := h; rfl
  · obtain ⟨a, x, y, rfl, hP, q⟩ := h
    refine ⟨_, (pss_cons (ps_set (i := 1) sc__law_bounds.nd rfl (.inl rfl) (pe_ix (r := rIxL K) ix_list (pe_lst (pa_cons pe_int (pa_cons pe_int (pa_cons pe_int (pa_cons pe_int (pa_cons pe_int (pa_cons (pe_cal C__law_take (hr.mono (by decide)) (pa_cons (pv 0) (pa_cons pe_int pa_nil))) (pa_cons (pe_cal C__law_take (hr.mono (by decide)) (pa_cons (pv 0) (pa_cons pe_int pa_nil))) pa_nil)))))))) (pe_cal C__law_take (hr.mono (by decide)) (pa_cons (pv 0) (pa_cons pe_int pa_nil))) (fun _ _ => rfl)))
      (pss_cons (ps_set (i := 2) sc__law_bounds.nd rfl (.inl rfl) (pe_ix (r := rIxL K) ix_list (pe_lst (pa_cons pe_int (pa_cons pe_int (pa_cons pe_int (pa_cons pe_int (pa_cons pe_int (pa_cons pe_int (pa_cons (pe_op op_add pe_int (pe_cal C__law_take (hr.mono (by decide)) (pa_cons (pv 0) (pa_cons pe_int pa_nil)))) (pa_cons (pe_op op_add pe_int (pe_cal C__law_take (hr.mono (by decide)) (pa_cons (pv 0) (pa_cons pe_int pa_nil)))) pa_nil))))))))) (pe_cal C__law_take (hr.mono (by decide)) (pa_cons (pv 0) (pa_cons pe_int pa_nil))) (fun _ _ => rfl)))
      (pss_cons (ps_asg (pe_cal C__law_least (hr.mono (by decide)) (pa_cons (pv 1) (pa_cons (pe_callB (call_min2 rfl) (by rfl) T.z_min (by decide +kernel) (pa_cons pe_int (pa_cons (pe_op op_add (pv 1) (pv 2)) pa_nil))) pa_nil))) (pg_tup rfl (pgs_cons (pg_name (i := 3) sc__law_bounds.nd rfl (.inl rfl)) (pgs_cons (pg_name (i := 4) sc__law_bounds.nd rfl (.inl rfl)) (pgs_cons (pg_name (i := 5) sc__law_bounds.nd rfl (.inl rfl)) pgs_nil)))))
      (pss_one (ps_ret (pe_tup (pa_cons (pv 3) (pa_cons (pv 4) pa_nil)))))))), ?_⟩
    refine ⟨_, rfl, a, x, y, _, rfl, hP, by decide, by decide, fun r1 x1 y1 H1 r10 r11 B1 P1 => ⟨_, rfl, a, x1, y1, _, rfl, P1, by decide, by decide, fun r2 x2 y2 H2 r20 r21 B2 P2 => ⟨sz (by simp), fun q1 hq1 => ?_⟩⟩⟩
    refine ⟨_, rfl, a, x2, y2, _, rfl, P2.new hq1, by decide, by decide, fun r3 x3 y3 H3 r30 r31 B3 P3 => ?_⟩
    have n1 : q1 ≠ a := (ne_of_none P2.1 hq1).symm
    obtain ⟨lv, hv, lo, rfl, l0, l1⟩ := pick (xs := [.int 0, .int 1, .int 16, .int 2048, .int 4095, .int r1, .int r2]) (fun v => ∃ z, v = .int z ∧ 0 ≤ z ∧ z ≤ 4095) r30 r31 (by
      intro v hv
      simp at hv
      rcases hv with h | h | h | h | h | h | h <;> exact ⟨_, h, by omega, by omega⟩)
    refine ⟨q1, _, _, _, rfl, rfl, .of (B3 _ _ n1 upd_same), hv, ?_⟩
    clear hv
    refine ⟨_, rfl, a, x3, y3, _, rfl, P3, by decide, by decide, fun r4 x4 y4 H4 r40 r41 B4 P4 => ⟨_, _, rfl, rfl, _, rfl, a, x4, y4, _, rfl, P4, by decide, by decide, fun r5 x5 y5 H5 r50 r51 B5 P5 => ⟨_, _, rfl, rfl, sz (by simp), fun q2 hq2 => ?_⟩⟩⟩
    refine ⟨_, rfl, a, x5, y5, _, rfl, P5.new hq2, by decide, by decide, fun r6 x6 y6 H6 r60 r61 B6 P6 => ?_⟩
    have n2 : q2 ≠ a := (ne_of_none P5.1 hq2).symm
    obtain ⟨mv, hmv, mn, rfl, m0⟩ := pick (xs := [.int 1, .int 2, .int 16, .int 17, .int 32, .int 33, .int (1 + r4), .int (1 + r5)]) (fun v => ∃ z, v = .int z ∧ 1 ≤ z) r60 r61 (by
      intro v hv
      simp at hv
      rcases hv with h | h | h | h | h | h | h | h <;> exact ⟨_, h, by omega⟩)
    refine ⟨q2, _, _, _, rfl, rfl, .of (B6 _ _ n2 upd_same), hmv, ?_⟩
    clear hmv
    have B : But a H H6 := by walk_at "but"
    obtain ⟨h0, eh, h01, h02⟩ : ∃ h0 : Int, h0 = (if lo + mn < 4096 then lo + mn else 4096) ∧ lo < h0 ∧ h0 ≤ 4096 := ⟨_, rfl, by split <;> omega, by split <;> omega⟩
    refine ⟨_, rfl, _, rfl, _, rfl, _, _, rfl, rfl, _, _, rfl, ?_⟩
    rw [← eh]
    refine ⟨lo, h0, rfl, ⟨l0, h01, h02⟩, fun s p1 hs hp1 => ?_⟩
    refine ⟨p1, _, rfl, .of upd_same, rfl, _, _, rfl, _, _, rfl, _, _, rfl, rfl, ?_⟩
    refine ⟨_, rfl, _, rfl, sz (by simp), fun p2 hp2 => ?_⟩
    have fr := least_ex ⟨l0, h01, h02⟩ hs
    refine q _ _ p2 x6 y6 _ fr.1 ⟨s, fr.2.1⟩ (by walk_at "but") ((P6.new hp1).new hp2) (But.free (But.new B hp1) (P6.new hp1) hp2) upd_same

def sp__law_rights (K : PySem.W.Frag) : Sp := fun vs H Q _ => ∃ (a : Addr) (x y : Int), vs = [.ref a] ∧ Pool H a x y ∧ ∀ p x1 y1 H', OneW (rtx p) → But a H H' → Pool H' a x1 y1 → Q (.str (rtx p)) H'
theorem ok__law_rights {f : Addr} {fd : FuncData} (F : Fun K "_law_rights" "_law_rights" s__law_rights f fd) (T : Txt K mg) (C__law_take : Cal P w K mg base "_law_take" 1 ["_law_pool_here", "_law_many"] (sp__law_take K)) : FnOk P w K mg base CX0 2 f fd ["_law_pool_here"] (sp__law_rights K) := by
  refine F.ok sc__law_rights (fun vs H Q E h => ?_) (fun cdv A outer s H vs Q E hr h => ?_)
  · obtain ⟨a, x, y, rfl, hP, q⟩ := h; rfl
  · obtain ⟨a, x, y, rfl, hP, q⟩ := h
    refine ⟨_, (pss_cons (ps_set (i := 1) sc__law_rights.nd rfl (.inl rfl) (pe_cal C__law_take (hr.mono (by decide)) (pa_cons (pv 0) (pa_cons pe_int pa_nil))))
      (pss_cons (ps_if (pt_cmpR op_eq (pv 1) pe_int (nomark _)) (pss_one (ps_ret (pe_ix (r := rIxL K) ix_list (pe_lst (pa_cons pe_str (pa_cons pe_str pa_nil))) (pe_cal C__law_take (hr.mono (by decide)) (pa_cons (pv 0) (pa_cons pe_int pa_nil))) (fun _ _ => rfl)))) pss_nil)
      (pss_cons (ps_if (pt_cmpR op_eq (pv 1) pe_int (nomark _)) (pss_one (ps_ret (pe_ix (r := rIxL K) ix_list (pe_lst (pa_cons pe_str (pa_cons pe_str (pa_cons pe_str (pa_cons pe_str (pa_cons pe_str pa_nil)))))) (pe_cal C__law_take (hr.mono (by decide)) (pa_cons (pv 0) (pa_cons pe_int pa_nil))) (fun _ _ => rfl)))) pss_nil)
      (pss_cons (ps_if (pt_cmpR op_eq (pv 1) pe_int (nomark _)) (pss_one (ps_ret (pe_ix (r := rIxL K) ix_list (pe_lst (pa_cons pe_str (pa_cons pe_str pa_nil))) (pe_cal C__law_take (hr.mono (by decide)) (pa_cons (pv 0) (pa_cons pe_int pa_nil))) (fun _ _ => rfl)))) pss_nil)
      (pss_cons (ps_if (pt_cmpR op_lt (pv 1) pe_int (nomark _)) (pss_one (ps_ret (pe_ix (r := rIxL K) ix_list (pe_lst (pa_cons pe_str (pa_cons pe_str (pa_cons pe_str pa_nil)))) (pe_cal C__law_take (hr.mono (by decide)) (pa_cons (pv 0) (pa_cons pe_int pa_nil))) (fun _ _ => rfl)))) pss_nil)
      (pss_one (ps_ret (pe_join pe_str (pe_lc (own := [("_law_sign", 2)]) rfl sc__law_rights.nd (pi_str pe_str) (blkOk_by (own := [("_law_sign", 2)]) (N := ["_law_pool_here", "_law_way", "_law_sign"]) (sc := defScope s__law_rights) (by decide +kernel)) (fun _ _ _ _ _ => (pg_name (i := 2) sc__law_rights.nd rfl (.inl rfl))) (fun _ _ _ _ _ => (pts_one (pt_cmpR op_gt (pe_cal C__law_take (hr.mono (by decide)) (pa_cons (pv 0) (pa_cons pe_int pa_nil))) pe_int (nomark _)))) (fun _ _ _ _ _ => (pv 2))))))))))), ?_⟩
    refine ⟨_, rfl, a, x, y, _, rfl, hP, by decide, by decide, fun r1 x1 y1 H1 r10 r11 B1 P1 => ?_⟩
    refine ⟨_, rfl, rfl, _, rfl, ifd (fun c => ?_) (fun c1 => ?_)⟩
    · refine ⟨sz (by simp), fun q1 hq1 => ?_⟩
      refine ⟨_, rfl, a, x1, y1, _, rfl, P1.new hq1, by decide, by decide, fun r2 x2 y2 H2 r20 r21 B2 P2 => ?_⟩
      have n1 : q1 ≠ a := (ne_of_none P1.1 hq1).symm
      obtain ⟨lv, hv, pp, rfl, ow⟩ := pick (xs := [.str (Str.ofString "x"), .str (Str.ofString "fx")]) RV r20 r21 (by
        intro v hv
        simp only [List.mem_cons, List.not_mem_nil, or_false] at hv
        rcases hv with h | h <;> (subst h; exact rvd (by decide +kernel)))
      refine ⟨q1, _, _, _, rfl, rfl, .of (B2 _ _ n1 upd_same), hv, ?_⟩
      exact q pp x2 y2 _ ow (by walk_at "but") P2
    refine ⟨_, rfl, rfl, _, rfl, ifd (fun c => ?_) (fun c2 => ?_)⟩
    · refine ⟨sz (by simp), fun q1 hq1 => ?_⟩
      refine ⟨_, rfl, a, x1, y1, _, rfl, P1.new hq1, by decide, by decide, fun r2 x2 y2 H2 r20 r21 B2 P2 => ?_⟩
      have n1 : q1 ≠ a := (ne_of_none P1.1 hq1).symm
      obtain ⟨lv, hv, pp, rfl, ow⟩ := pick (xs := [.str (Str.ofString "c"), .str (Str.ofString "o"), .str (Str.ofString "fco"), .str (Str.ofString "co"), .str (Str.ofString "fo")]) RV r20 r21 (by
        intro v hv
        simp only [List.mem_cons, List.not_mem_nil, or_false] at hv
        rcases hv with h | h | h | h | h <;> (subst h; exact rvd (by decide +kernel)))
      refine ⟨q1, _, _, _, rfl, rfl, .of (B2 _ _ n1 upd_same), hv, ?_⟩
      exact q pp x2 y2 _ ow (by walk_at "but") P2
    refine ⟨_, rfl, rfl, _, rfl, ifd (fun c => ?_) (fun c3 => ?_)⟩
    · refine ⟨sz (by simp), fun q1 hq1 => ?_⟩
      refine ⟨_, rfl, a, x1, y1, _, rfl, P1.new hq1, by decide, by decide, fun r2 x2 y2 H2 r20 r21 B2 P2 => ?_⟩
      have n1 : q1 ≠ a := (ne_of_none P1.1 hq1).symm
      obtain ⟨lv, hv, pp, rfl, ow⟩ := pick (xs := [.str (Str.ofString ""), .str (Str.ofString "f")]) RV r20 r21 (by
        intro v hv
        simp only [List.mem_cons, List.not_mem_nil, or_false] at hv
        rcases hv with h | h <;> (subst h; exact rvd (by decide +kernel)))
      refine ⟨q1, _, _, _, rfl, rfl, .of (B2 _ _ n1 upd_same), hv, ?_⟩
      exact q pp x2 y2 _ ow (by walk_at "but") P2
    refine ⟨_, rfl, _, _, rfl, rfl, _, rfl, ifd (fun c => ?_) (fun c4 => ?_)⟩
    · refine ⟨sz (by simp), fun q1 hq1 => ?_⟩
      refine ⟨_, rfl, a, x1, y1, _, rfl, P1.new hq1, by decide, by decide, fun r2 x2 y2 H2 r20 r21 B2 P2 => ?_⟩
      have n1 : q1 ≠ a := (ne_of_none P1.1 hq1).symm
      obtain ⟨lv, hv, pp, rfl, ow⟩ := pick (xs := [.str (Str.ofString "rwlsf"), .str (Str.ofString "rwlsn"), .str (Str.ofString "rwlsnf")]) RV r20 r21 (by
        intro v hv
        simp only [List.mem_cons, List.not_mem_nil, or_false] at hv
        rcases hv with h | h | h <;> (subst h; exact rvd (by decide +kernel)))
      refine ⟨q1, _, _, _, rfl, rfl, .of (B2 _ _ n1 upd_same), hv, ?_⟩
      exact q pp x2 y2 _ ow (by walk_at "but") P2
    refine ⟨⟨_, rfl⟩, Str.ofString "rwlsnf", rfl, fun D hD => ?_⟩
    have n0 : D ≠ a := (ne_of_none P1.1 hD).symm
    refine lc_it (walk_str (z := Str.ofString "rwlsnf")) (fun i H' => ∃ p x2 y2, But a H1 H' ∧ Pool H' a x2 y2 ∧ H' D = some (.lst ((rcs p i).map V.str))) ⟨fun _ => false, x1, y1, But.new (But.refl _ _) hD, P1.new hD, upd_same⟩ (fun _ _ _ _ => trivial) ?_ ?_
    · rintro i xx H2 H3 hi ⟨p, x2, y2, B2, P2, hl⟩ ⟨rfl, c', hc', rfl⟩
      rw [RL_size] at hi
      rw [RL_get i hi] at hc'
      have ec : c' = code i := (Option.some.inj hc').symm
      subst ec
      refine ⟨rfl, ?_⟩
      refine ⟨_, rfl, a, x2, y2, _, rfl, P2, by decide, by decide, fun r3 x3 y3 H3 r30 r31 B3 P3 => ⟨_, _, rfl, rfl, _, rfl, ifb (fun e => ?_) (fun e => ?_)⟩⟩
      · refine ⟨_, rfl, _, B3 _ _ n0 hl, ?_, setp p i true, x3, y3, ?_, ?_, ?_⟩
        · rw [List.length_map]
          have := rcs_len p i
          exact szn (by omega)
        · exact fun b o nb e => by
            have n : b ≠ D := ne_of_none e hD
            rw [upd_ne n]; exact B3 _ _ nb (B2 b o nb e)
        · exact ⟨by rw [upd_ne n0.symm]; exact P3.1, P3.2⟩
        · rw [upd_same, rcs_set, List.map_append]; rfl
      · refine ⟨setp p i false, x3, y3, B2.trans B3, P3, ?_⟩
        rw [rcs_set]
        simp only [Bool.false_eq_true, if_false, List.append_nil]
        exact B3 _ _ n0 hl
    · rintro H2 ⟨p, x2, y2, B2, P2, hl⟩
      rw [RL_size] at hl
      refine ⟨_, D, _, rfl, rfl, .inl (.of hl), rcs_fit6 _, ?_⟩
      rw [join_low]
      exact q _ x2 y2 _ (ow_lowp p) (B1.trans B2) P2

def sp__law_word (K : PySem.W.Frag) : Sp := fun vs H Q _ => ∃ (a : Addr) (x y : Int), vs = [.ref a] ∧ Pool H a x y ∧ ∀ q m b x1 y1 H', But a H H' → Pool H' a x1 y1 → H q = none → Wd H' q m b → Q (.ref q) H'
theorem ok__law_word {f : Addr} {fd : FuncData} (F : Fun K "_law_word" "_law_word" s__law_word f fd) (T : Txt K mg) (C__law_take : Cal P w K mg base "_law_take" 1 ["_law_pool_here", "_law_many"] (sp__law_take K)) (C__law_made : Cal P w K mg base "_law_made" 2 ["_law_low", "_law_high", "_law_at", "_law_rights_here", "_law_kind"] (sp__law_made K)) (C__law_bounds : Cal P w K mg base "_law_bounds" 2 ["_law_pool_here"] (sp__law_bounds K)) (C__law_rights : Cal P w K mg base "_law_rights" 2 ["_law_pool_here"] (sp__law_rights K)) : FnOk P w K mg base CX0 3 f fd ["_law_pool_here"] (sp__law_word K) := by
  refine F.ok sc__law_word (fun vs H Q E h => ?_) (fun cdv A outer s H vs Q E hr h => ?_)
  · obtain ⟨a, x, y, rfl, hP, q⟩ := h; rfl
  · obtain ⟨a, x, y, rfl, hP, q⟩ := h
    refine ⟨_, (pss_cons (ps_if (pt_cmpR op_eq (pe_cal C__law_take (hr.mono (by decide)) (pa_cons (pv 0) (pa_cons pe_int pa_nil))) pe_int (nomark _)) (pss_one (ps_ret (pe_tup (pa_cons pe_bl (pa_cons (pe_ix (r := rIxL K) ix_list (pe_lst (pa_cons pe_int (pa_cons pe_int (pa_cons pe_int (pa_cons (pe_op op_sub (pe_op op_pow pe_int pe_int) pe_int) (pa_cons (pe_cal C__law_take (hr.mono (by decide)) (pa_cons (pv 0) (pa_cons (pe_op op_pow pe_int pe_int) pa_nil))) pa_nil)))))) (pe_cal C__law_take (hr.mono (by decide)) (pa_cons (pv 0) (pa_cons pe_int pa_nil))) (fun _ _ => rfl)) pa_nil))))) pss_nil)
      (pss_cons (ps_asg (pe_cal C__law_bounds (hr.mono (by decide)) (pa_cons (pv 0) pa_nil)) (pg_tup rfl (pgs_cons (pg_name (i := 1) sc__law_word.nd rfl (.inl rfl)) (pgs_cons (pg_name (i := 2) sc__law_word.nd rfl (.inl rfl)) pgs_nil))))
      (pss_cons (ps_set (i := 3) sc__law_word.nd rfl (.inl rfl) (pe_cal C__law_rights (hr.mono (by decide)) (pa_cons (pv 0) pa_nil)))
      (pss_cons (ps_if (PW.pt (pw_and (PW.pt (pw_or (pt_cmpR op_in_sign pe_str (pv 3) (by rfl)) (pw_or1 (pt_cmpR op_in_sign pe_str (pv 3) (by rfl))))) (pw_and1 (pt_cmpR op_gt (pe_cal C__law_take (hr.mono (by decide)) (pa_cons (pv 0) (pa_cons pe_int pa_nil))) pe_int (nomark _))))) (pss_one (ps_asg (pe_ix (r := rIxL K) ix_list (pe_lst (pa_cons (pe_tup (pa_cons pe_int (pa_cons pe_int pa_nil))) (pa_cons (pe_tup (pa_cons pe_int (pa_cons pe_int pa_nil))) (pa_cons (pe_tup (pa_cons pe_int (pa_cons pe_int pa_nil))) (pa_cons (pe_tup (pa_cons pe_int (pa_cons pe_int pa_nil))) (pa_cons (pe_tup (pa_cons pe_int (pa_cons pe_int pa_nil))) pa_nil)))))) (pe_cal C__law_take (hr.mono (by decide)) (pa_cons (pv 0) (pa_cons pe_int pa_nil))) (fun _ _ => rfl)) (pg_tup rfl (pgs_cons (pg_name (i := 1) sc__law_word.nd rfl (.inl rfl)) (pgs_cons (pg_name (i := 2) sc__law_word.nd rfl (.inl rfl)) pgs_nil))))) pss_nil)
      (pss_cons (ps_set (i := 4) sc__law_word.nd rfl (.inl rfl) (pe_ix (r := rIxL K) ix_list (pe_lst (pa_cons (pv 1) (pa_cons (pe_op op_sub (pv 2) pe_int) (pa_cons (pe_op op_mod (pv 2) pe_int) (pa_cons (pe_op op_add (pv 1) (pe_cal C__law_take (hr.mono (by decide)) (pa_cons (pv 0) (pa_cons (pe_op op_sub (pv 2) (pv 1)) pa_nil)))) (pa_cons (pe_cal C__law_take (hr.mono (by decide)) (pa_cons (pv 0) (pa_cons pe_int pa_nil))) pa_nil)))))) (pe_cal C__law_take (hr.mono (by decide)) (pa_cons (pv 0) (pa_cons pe_int pa_nil))) (fun _ _ => rfl)))
      (pss_cons (ps_set (i := 5) sc__law_word.nd rfl (.inl rfl) (pe_ix (r := rIxL K) ix_list (pe_lst (pa_cons pe_int (pa_cons pe_int (pa_cons pe_int (pa_cons pe_int (pa_cons pe_int (pa_cons pe_int (pa_cons pe_int (pa_cons pe_int (pa_cons (pe_cal C__law_take (hr.mono (by decide)) (pa_cons (pv 0) (pa_cons pe_int pa_nil))) pa_nil)))))))))) (pe_cal C__law_take (hr.mono (by decide)) (pa_cons (pv 0) (pa_cons pe_int pa_nil))) (fun _ _ => rfl)))
      (pss_cons (ps_set (i := 6) sc__law_word.nd rfl (.inl rfl) (pe_cal C__law_made (hr.mono (by decide)) (pa_cons (pv 1) (pa_cons (pv 2) (pa_cons (pv 4) (pa_cons (pv 3) (pa_cons (pv 5) pa_nil)))))))
      (pss_one (ps_ret (pe_ix (r := rIxL K) ix_list (pe_lst (pa_cons (pv 6) (pa_cons (pv 6) (pa_cons (pv 6) (pa_cons (pv 6) (pa_cons (pe_tup (pa_cons pe_bl (pa_cons (pe_ix (r := rIxT K) ix_tup (pv 6) pe_int (fun _ _ => rfl)) pa_nil))) pa_nil)))))) (pe_cal C__law_take (hr.mono (by decide)) (pa_cons (pv 0) (pa_cons pe_int pa_nil))) (fun _ _ => rfl))))))))))), ?_⟩
    have pw : (2 : Int) ^ (45 : Int).toNat = 35184372088832 := by decide
    refine ⟨_, rfl, a, x, y, _, rfl, hP, by decide, by decide, fun r1 x1 y1 H1 r10 r11 B1 P1 => ⟨rfl, _, rfl, ifd (fun c => ?_) (fun c1 => ?_)⟩⟩
    · refine ⟨_, _, rfl, rfl, ⟨by decide, by decide, by decide⟩, _, _, rfl, rfl, _, rfl, _, _, rfl, rfl, ⟨by decide, by decide, by decide⟩, a, x1, y1, _, rfl, P1, by rw [pw]; decide, by rw [pw]; decide, fun r2 x2 y2 H2 r20 r21 B2 P2 => ⟨sz (by simp), fun q1 hq1 => ?_⟩⟩
      refine ⟨_, rfl, a, x2, y2, _, rfl, P2.new hq1, by decide, by decide, fun r3 x3 y3 H3 r30 r31 B3 P3 => ?_⟩
      have n1 : q1 ≠ a := (ne_of_none P2.1 hq1).symm
      rw [pw] at r21
      obtain ⟨lv, hv, z, rfl, hz⟩ := pick (xs := [.int 0, .int 1, .int 4095, .int (2 ^ (45 : Int).toNat - 1), .int r2]) (fun v => ∃ z, v = .int z ∧ W45 z) r30 r31 (by
        intro v hv
        simp only [List.mem_cons, List.not_mem_nil, or_false] at hv
        rcases hv with h | h | h | h | h <;> refine ⟨_, h, ?_⟩
        · exact W45_of (n := 0) (by decide)
        · exact W45_of (n := 1) (by decide)
        · exact W45_of (n := 4095) (by decide)
        · rw [pw]; exact W45_of (n := 35184372088831) (by decide)
        · exact ⟨r20, r21⟩)
      refine ⟨q1, _, _, _, rfl, rfl, .of (B3 _ _ n1 upd_same), hv, sz (by simp), fun q2 hq2 => ?_⟩
      have B : But a H H3 := by walk_at "but"
      exact q q2 false z x3 y3 _ (B.new hq2) (P3.new hq2) (B.free P3 hq2) ⟨upd_same, hz, fun h => Bool.noConfusion h⟩
    refine ⟨_, rfl, a, x1, y1, rfl, P1, fun lo hi qb x2 y2 H2 bd ex B2 P2 hqb hqb2 => ⟨qb, _, rfl, .of hqb2, rfl, _, _, rfl, _, _, rfl, rfl, ?_⟩⟩
    refine ⟨_, rfl, a, x2, y2, rfl, P2, fun p x3 y3 H3 ow B3 P3 => ?_⟩
    have B03 : But a H H3 := by walk_at "but"
    refine' with_finW (A := fun lo hi H' => Bd lo hi ∧ (∃ s, Ex lo hi s) ∧ But a H H' ∧ ∃ x y, Pool H' a x y) ?h ?k
    case k =>
      intro fin
      refine ⟨_, rfl, 99, rtx p, rfl, rfl, _, rfl, ifb (fun c2 => ?_) (fun c2 => ?_)⟩
      · refine ⟨_, rfl, a, x3, y3, _, rfl, P3, by decide, by decide, fun r4 x4 y4 G0 r40 r41 B4 P4 => ⟨_, _, rfl, rfl, _, rfl, ifd (fun c3 => ?_) (fun _ => ?_)⟩⟩
        · refine ⟨sz (by simp), fun t1 h1 => ?_⟩
          have f1 : (upd G0 t1 (.tup [.int 3, .int 16])) t1 = some (.tup [.int 3, .int 16]) := upd_same
          have s1 := same_new (o := .tup [.int 3, .int 16]) h1
          generalize upd G0 t1 (.tup [.int 3, .int 16]) = G1 at f1 s1 ⊢
          refine ⟨sz (by simp), fun t2 h2 => ?_⟩
          have f2 : (upd G1 t2 (.tup [.int 3, .int 4])) t2 = some (.tup [.int 3, .int 4]) := upd_same
          have s2 := same_new (o := .tup [.int 3, .int 4]) h2
          generalize upd G1 t2 (.tup [.int 3, .int 4]) = G2 at f2 s2 ⊢
          refine ⟨sz (by simp), fun t3 h3 => ?_⟩
          have f3 : (upd G2 t3 (.tup [.int 5, .int 9])) t3 = some (.tup [.int 5, .int 9]) := upd_same
          have s3 := same_new (o := .tup [.int 5, .int 9]) h3
          generalize upd G2 t3 (.tup [.int 5, .int 9]) = G3 at f3 s3 ⊢
          refine ⟨sz (by simp), fun t4 h4 => ?_⟩
          have f4 : (upd G3 t4 (.tup [.int 0, .int 16])) t4 = some (.tup [.int 0, .int 16]) := upd_same
          have s4 := same_new (o := .tup [.int 0, .int 16]) h4
          generalize upd G3 t4 (.tup [.int 0, .int 16]) = G4 at f4 s4 ⊢
          refine ⟨sz (by simp), fun t5 h5 => ?_⟩
          have f5 : (upd G4 t5 (.tup [.int 2, .int 5])) t5 = some (.tup [.int 2, .int 5]) := upd_same
          have s5 := same_new (o := .tup [.int 2, .int 5]) h5
          generalize upd G4 t5 (.tup [.int 2, .int 5]) = G5 at f5 s5 ⊢
          refine ⟨sz (by simp), fun q1 hq1 => ?_⟩
          have fq1 : (upd G5 q1 (.lst [.ref t1, .ref t2, .ref t3, .ref t4, .ref t5])) q1 = some (.lst [.ref t1, .ref t2, .ref t3, .ref t4, .ref t5]) := upd_same
          have s6 := same_new (o := .lst [.ref t1, .ref t2, .ref t3, .ref t4, .ref t5]) hq1
          generalize upd G5 q1 (.lst [.ref t1, .ref t2, .ref t3, .ref t4, .ref t5]) = G6 at fq1 s6 ⊢
          have g1 : G6 t1 = some (.tup [.int 3, .int 16]) := by walk_at "at"
          have g2 : G6 t2 = some (.tup [.int 3, .int 4]) := by walk_at "at"
          have g3 : G6 t3 = some (.tup [.int 5, .int 9]) := by walk_at "at"
          have g4 : G6 t4 = some (.tup [.int 0, .int 16]) := by walk_at "at"
          have g5 : G6 t5 = some (.tup [.int 2, .int 5]) := by walk_at "at"
          have S6 : Same G0 G6 := by walk_at "same"
          refine ⟨_, rfl, a, x4, y4, _, rfl, P4.same S6, by decide, by decide, fun r5 x5 y5 G7 r50 r51 B7 P7 => ?_⟩
          have nq : q1 ≠ a := by intro e; subst e; have := (P4.same S6).1; rw [fq1] at this; cases this
          have nt : ∀ t l h, G6 t = some (.tup [.int l, .int h]) → G7 t = some (.tup [.int l, .int h]) := fun t l h e => B7 _ _ (by intro z; subst z; have := (P4.same S6).1; rw [e] at this; cases this) e
          obtain ⟨lv, hv, t, l', h', rfl, ht, l0, l1, l2, l3⟩ := pick (xs := [.ref t1, .ref t2, .ref t3, .ref t4, .ref t5]) (fun v => ∃ t l h, v = .ref t ∧ G7 t = some (.tup [.int l, .int h]) ∧ 0 ≤ l ∧ l < h ∧ h ≤ 4096 ∧ h - l ≤ 16) r50 r51 (by
            intro v hv
            simp only [List.mem_cons, List.not_mem_nil, or_false] at hv
            rcases hv with h | h | h | h | h
            · exact ⟨t1, 3, 16, h, nt _ _ _ g1, by decide, by decide, by decide, by decide⟩
            · exact ⟨t2, 3, 4, h, nt _ _ _ g2, by decide, by decide, by decide, by decide⟩
            · exact ⟨t3, 5, 9, h, nt _ _ _ g3, by decide, by decide, by decide, by decide⟩
            · exact ⟨t4, 0, 16, h, nt _ _ _ g4, by decide, by decide, by decide, by decide⟩
            · exact ⟨t5, 2, 5, h, nt _ _ _ g5, by decide, by decide, by decide, by decide⟩)
          refine ⟨q1, _, _, _, rfl, rfl, .of (B7 _ _ nq fq1), hv, ?_⟩
          refine ⟨t, _, rfl, .of ht, rfl, _, _, rfl, _, _, rfl, rfl, ?_⟩
          exact fin l' h' G7 ⟨⟨l0, l1, l2⟩, small_ex l1 l3, B03.trans (B4.trans ((But.of S6).trans B7)), x5, y5, P7⟩
        · exact fin lo hi G0 ⟨bd, ex, B03.trans B4, x4, y4, P4⟩
      · refine ⟨_, rfl, 111, rtx p, rfl, rfl, _, rfl, ifb (fun c2 => ?_) (fun c2 => ?_)⟩
        · refine ⟨_, rfl, a, x3, y3, _, rfl, P3, by decide, by decide, fun r4 x4 y4 G0 r40 r41 B4 P4 => ⟨_, _, rfl, rfl, _, rfl, ifd (fun c3 => ?_) (fun _ => ?_)⟩⟩
          · refine ⟨sz (by simp), fun t1 h1 => ?_⟩
            have f1 : (upd G0 t1 (.tup [.int 3, .int 16])) t1 = some (.tup [.int 3, .int 16]) := upd_same
            have s1 := same_new (o := .tup [.int 3, .int 16]) h1
            generalize upd G0 t1 (.tup [.int 3, .int 16]) = G1 at f1 s1 ⊢
            refine ⟨sz (by simp), fun t2 h2 => ?_⟩
            have f2 : (upd G1 t2 (.tup [.int 3, .int 4])) t2 = some (.tup [.int 3, .int 4]) := upd_same
            have s2 := same_new (o := .tup [.int 3, .int 4]) h2
            generalize upd G1 t2 (.tup [.int 3, .int 4]) = G2 at f2 s2 ⊢
            refine ⟨sz (by simp), fun t3 h3 => ?_⟩
            have f3 : (upd G2 t3 (.tup [.int 5, .int 9])) t3 = some (.tup [.int 5, .int 9]) := upd_same
            have s3 := same_new (o := .tup [.int 5, .int 9]) h3
            generalize upd G2 t3 (.tup [.int 5, .int 9]) = G3 at f3 s3 ⊢
            refine ⟨sz (by simp), fun t4 h4 => ?_⟩
            have f4 : (upd G3 t4 (.tup [.int 0, .int 16])) t4 = some (.tup [.int 0, .int 16]) := upd_same
            have s4 := same_new (o := .tup [.int 0, .int 16]) h4
            generalize upd G3 t4 (.tup [.int 0, .int 16]) = G4 at f4 s4 ⊢
            refine ⟨sz (by simp), fun t5 h5 => ?_⟩
            have f5 : (upd G4 t5 (.tup [.int 2, .int 5])) t5 = some (.tup [.int 2, .int 5]) := upd_same
            have s5 := same_new (o := .tup [.int 2, .int 5]) h5
            generalize upd G4 t5 (.tup [.int 2, .int 5]) = G5 at f5 s5 ⊢
            refine ⟨sz (by simp), fun q1 hq1 => ?_⟩
            have fq1 : (upd G5 q1 (.lst [.ref t1, .ref t2, .ref t3, .ref t4, .ref t5])) q1 = some (.lst [.ref t1, .ref t2, .ref t3, .ref t4, .ref t5]) := upd_same
            have s6 := same_new (o := .lst [.ref t1, .ref t2, .ref t3, .ref t4, .ref t5]) hq1
            generalize upd G5 q1 (.lst [.ref t1, .ref t2, .ref t3, .ref t4, .ref t5]) = G6 at fq1 s6 ⊢
            have g1 : G6 t1 = some (.tup [.int 3, .int 16]) := by walk_at "at"
            have g2 : G6 t2 = some (.tup [.int 3, .int 4]) := by walk_at "at"
            have g3 : G6 t3 = some (.tup [.int 5, .int 9]) := by walk_at "at"
            have g4 : G6 t4 = some (.tup [.int 0, .int 16]) := by walk_at "at"
            have g5 : G6 t5 = some (.tup [.int 2, .int 5]) := by walk_at "at"
            have S6 : Same G0 G6 := by walk_at "same"
            refine ⟨_, rfl, a, x4, y4, _, rfl, P4.same S6, by decide, by decide, fun r5 x5 y5 G7 r50 r51 B7 P7 => ?_⟩
            have nq : q1 ≠ a := by intro e; subst e; have := (P4.same S6).1; rw [fq1] at this; cases this
            have nt : ∀ t l h, G6 t = some (.tup [.int l, .int h]) → G7 t = some (.tup [.int l, .int h]) := fun t l h e => B7 _ _ (by intro z; subst z; have := (P4.same S6).1; rw [e] at this; cases this) e
            obtain ⟨lv, hv, t, l', h', rfl, ht, l0, l1, l2, l3⟩ := pick (xs := [.ref t1, .ref t2, .ref t3, .ref t4, .ref t5]) (fun v => ∃ t l h, v = .ref t ∧ G7 t = some (.tup [.int l, .int h]) ∧ 0 ≤ l ∧ l < h ∧ h ≤ 4096 ∧ h - l ≤ 16) r50 r51 (by
              intro v hv
              simp only [List.mem_cons, List.not_mem_nil, or_false] at hv
              rcases hv with h | h | h | h | h
              · exact ⟨t1, 3, 16, h, nt _ _ _ g1, by decide, by decide, by decide, by decide⟩
              · exact ⟨t2, 3, 4, h, nt _ _ _ g2, by decide, by decide, by decide, by decide⟩
              · exact ⟨t3, 5, 9, h, nt _ _ _ g3, by decide, by decide, by decide, by decide⟩
              · exact ⟨t4, 0, 16, h, nt _ _ _ g4, by decide, by decide, by decide, by decide⟩
              · exact ⟨t5, 2, 5, h, nt _ _ _ g5, by decide, by decide, by decide, by decide⟩)
            refine ⟨q1, _, _, _, rfl, rfl, .of (B7 _ _ nq fq1), hv, ?_⟩
            refine ⟨t, _, rfl, .of ht, rfl, _, _, rfl, _, _, rfl, rfl, ?_⟩
            exact fin l' h' G7 ⟨⟨l0, l1, l2⟩, small_ex l1 l3, B03.trans (B4.trans ((But.of S6).trans B7)), x5, y5, P7⟩
          · exact fin lo hi G0 ⟨bd, ex, B03.trans B4, x4, y4, P4⟩
        · exact fin lo hi H3 ⟨bd, ex, B03, x3, y3, P3⟩
    clear P1 P2 P3 hqb hqb2 B1 B2 B3 B03
    rintro lo hi H4 ⟨bd, ex, B4, x4, y4, P4⟩
    obtain ⟨b1, b2, b3⟩ := id bd
    refine ⟨_, rfl, _, rfl, _, _, rfl, rfl, _, rfl, _, _, rfl, rfl, (by show (0 : Int) < _; decide), ?_⟩
    refine ⟨_, rfl, _, rfl, _, rfl, _, rfl, _, _, rfl, rfl, a, x4, y4, _, rfl, P4, by omega, by omega, fun r5 x5 y5 H5 r50 r51 B5 P5 => ⟨_, _, rfl, rfl, ?_⟩⟩
    refine ⟨_, rfl, a, x5, y5, _, rfl, P5, by decide, by decide, fun r6 x6 y6 H6 r60 r61 B6 P6 => ⟨sz (by simp), fun q3 hq3 => ?_⟩⟩
    refine ⟨_, rfl, a, x6, y6, _, rfl, P6.new hq3, by decide, by decide, fun r7 x7 y7 H7 r70 r71 B7 P7 => ?_⟩
    have n3 : q3 ≠ a := (ne_of_none P6.1 hq3).symm
    obtain ⟨lv, hv, at', rfl, a0, a1⟩ := pick (xs := [.int lo, .int (hi - 1), .int (hi % 4096), .int (lo + r5), .int r6]) (fun v => ∃ z, v = .int z ∧ 0 ≤ z ∧ z ≤ 4095) r70 r71 (by
      intro v hv
      simp only [List.mem_cons, List.not_mem_nil, or_false] at hv
      rcases hv with h | h | h | h | h <;> exact ⟨_, h, by omega, by omega⟩)
    refine ⟨q3, _, _, _, rfl, rfl, .of (B7 _ _ n3 upd_same), hv, ?_⟩
    clear hv
    have B47 : But a H4 H7 := by walk_at "but"
    clear B5 B6 B7 P5 P6
    refine ⟨_, rfl, a, x7, y7, _, rfl, P7, by decide, by decide, fun r8 x8 y8 H8 r80 r81 B8 P8 => ⟨sz (by simp), fun q4 hq4 => ?_⟩⟩
    refine ⟨_, rfl, a, x8, y8, _, rfl, P8.new hq4, by decide, by decide, fun r9 x9 y9 H9 r90 r91 B9 P9 => ?_⟩
    have n4 : q4 ≠ a := (ne_of_none P8.1 hq4).symm
    obtain ⟨lv, hv, kd, rfl, k0, k1⟩ := pick (xs := [.int 0, .int 0, .int 0, .int 1, .int 2, .int 3, .int 4, .int 15, .int r8]) (fun v => ∃ z, v = .int z ∧ 0 ≤ z ∧ z ≤ 15) r90 r91 (by
      intro v hv
      simp only [List.mem_cons, List.not_mem_nil, or_false] at hv
      rcases hv with h | h | h | h | h | h | h | h | h <;> exact ⟨_, h, by omega, by omega⟩)
    refine ⟨q4, _, _, _, rfl, rfl, .of (B9 _ _ n4 upd_same), hv, ?_⟩
    clear hv
    have B09 : But a H H9 := B4.trans (B47.trans (by walk_at "but"))
    refine ⟨_, rfl, _, rfl, _, rfl, _, rfl, _, rfl, lo, hi, at', kd, p, rfl, bd, ex, a0, a1, k0, k1, ow, fun s b qw H10 W s10 hqw hw => ?_⟩
    have P10 := P9.same s10
    have B010 : But a H H10 := B09.trans (But.of s10)
    refine ⟨_, rfl, _, rfl, _, rfl, _, rfl, _, rfl, qw, _, 1, _, rfl, rfl, .of hw.at', atI_nat (j := 1) rfl, sz (by simp), fun q5 hq5 => ⟨sz (by simp), fun q6 hq6 => ?_⟩⟩
    refine ⟨_, rfl, a, x9, y9, _, rfl, (P10.new hq5).new hq6, by decide, by decide, fun r11 x11 y11 H11 r110 r111 B11 P11 => ?_⟩
    have n6 : q6 ≠ a := (ne_of_none (P10.new hq5).1 hq6).symm
    have n5 : q5 ≠ a := (ne_of_none P10.1 hq5).symm
    have nw : qw ≠ a := hw.ne P10
    have w5 : (upd H10 q5 (.tup [.bl false, .int b])) q5 = some (.tup [.bl false, .int b]) := upd_same
    have n56 : q5 ≠ q6 := ne_of_none w5 hq6
    have B1011 : But a H10 H11 := But.trans (But.new (But.new (But.refl _ _) hq5) hq6) B11
    have hw11 := hw.but B1011 nw
    have f5 : H11 q5 = some (.tup [.bl false, .int b]) := B11 _ _ n5 (by rw [upd_ne n56]; exact w5)
    obtain ⟨lv, hv, qr, m, rfl, fr, hr2⟩ := pick (xs := [.ref qw, .ref qw, .ref qw, .ref qw, .ref q5]) (fun v => ∃ q m, v = .ref q ∧ H q = none ∧ Wd H11 q m b) r110 r111 (by
      intro v hv
      simp only [List.mem_cons, List.not_mem_nil, or_false] at hv
      have g : ∃ q m, V.ref qw = .ref q ∧ H q = none ∧ Wd H11 q m b := ⟨qw, true, rfl, B09.free P9 hqw, hw11⟩
      rcases hv with h | h | h | h | h
      · rw [h]; exact g
      · rw [h]; exact g
      · rw [h]; exact g
      · rw [h]; exact g
      · exact ⟨q5, false, h, B010.free P10 hq5, f5, hw.w, fun z => Bool.noConfusion z⟩)
    refine ⟨q6, _, _, _, rfl, rfl, .of (B11 _ _ n6 upd_same), hv, ?_⟩
    exact q qr m b x11 y11 _ (B010.trans B1011) P11 fr hr2

def sp__law_marked (K : PySem.W.Frag) : Sp := fun vs H Q _ => ∃ (a : Addr) (x y : Int), vs = [.ref a] ∧ Pool H a x y ∧ ∀ q b x1 y1 H', But a H H' → Pool H' a x1 y1 → H q = none → Wd H' q true b → Q (.ref q) H'
theorem ok__law_marked {f : Addr} {fd : FuncData} (F : Fun K "_law_marked" "_law_marked" s__law_marked f fd) (T : Txt K mg) (C__law_made : Cal P w K mg base "_law_made" 2 ["_law_low", "_law_high", "_law_at", "_law_rights_here", "_law_kind"] (sp__law_made K)) (C__law_word : Cal P w K mg base "_law_word" 3 ["_law_pool_here"] (sp__law_word K)) : FnOk P w K mg base CX0 4 f fd ["_law_pool_here"] (sp__law_marked K) := by
  refine F.ok sc__law_marked (fun vs H Q E h => ?_) (fun cdv A outer s H vs Q E hr h => ?_)
  · obtain ⟨a, x, y, rfl, hP, q⟩ := h; rfl
  · obtain ⟨a, x, y, rfl, hP, q⟩ := h
    refine ⟨_, (pss_cons (ps_set (i := 1) sc__law_marked.nd rfl (.inl rfl) (pe_cal C__law_word (hr.mono (by decide)) (pa_cons (pv 0) pa_nil)))
      (pss_one (ps_ret (pe_ix (r := rIxL K) ix_list (pe_lst (pa_cons (pv 1) (pa_cons (pe_cal C__law_made (hr.mono (by decide)) (pa_cons pe_int (pa_cons pe_int (pa_cons pe_int (pa_cons pe_str (pa_cons pe_int pa_nil)))))) pa_nil))) (pe_callTy call_int1 (by rfl) T.z_int (by decide +kernel) (pa_cons (pe_not (pe_ix (r := rIxT K) ix_tup (pv 1) pe_int (fun _ _ => rfl))) pa_nil)) (fun _ _ => rfl))))), ?_⟩
    refine ⟨_, rfl, a, x, y, rfl, hP, fun qw m b x1 y1 H1 B1 P1 hqw hw => ?_⟩
    obtain ⟨p, ep, ow⟩ := rvd (s := Str.ofString "rwlsf") (by decide +kernel)
    refine ⟨_, rfl, 16, 48, 20, 0, p, congrArg (fun v => [V.int 16, .int 48, .int 20, v, .int 0]) ep, ⟨by decide, by decide, by decide⟩, ex1648, by decide, by decide, by decide, by decide, ow, fun s b2 q2 H2 W s2 hq2 hw2 => ⟨sz (by simp), fun ql hql => ?_⟩⟩
    have hw1 := hw.same s2
    have A := W.all
    refine ⟨_, rfl, qw, _, 0, _, rfl, rfl, .of (by rw [upd_ne (ne_of_none hw1.at' hql)]; exact hw1.at'), atI_nat (j := 0) rfl, m, rfl, .inr ⟨_, rfl, ?_⟩⟩
    have B2 : But a H1 (upd H2 ql (.lst [.ref qw, .ref q2])) := But.new (But.of s2) hql
    have P3 := (P1.same s2).new (o := .lst [.ref qw, .ref q2]) hql
    cases m with
    | true =>
      refine ⟨ql, _, 0, _, rfl, rfl, .of upd_same, atI_nat (j := 0) rfl, ?_⟩
      exact q qw b x1 y1 _ (B1.trans B2) P3 hqw (hw1.same (same_new hql))
    | false =>
      refine ⟨ql, _, 1, _, rfl, rfl, .of upd_same, atI_nat (j := 1) rfl, ?_⟩
      exact q q2 b2 x1 y1 _ (B1.trans B2) P3 (B1.free P1 hq2) (hw2.same (same_new hql))

def sp__law_less (K : PySem.W.Frag) : Sp := fun vs H Q _ => ∃ (a : Addr) (x y : Int) (w : Addr) (c : Int), vs = [.ref a, .ref w] ∧ Pool H a x y ∧ Wd H w true c ∧ ∀ q b x1 y1 H', But a H H' → Pool H' a x1 y1 → H q = none → Wd H' q true b → Q (.ref q) H'
theorem ok__law_less {f : Addr} {fd : FuncData} (F : Fun K "_law_less" "_law_less" s__law_less f fd) (T : Txt K mg) (C__law_take : Cal P w K mg base "_law_take" 1 ["_law_pool_here", "_law_many"] (sp__law_take K)) (C__law_least : Cal P w K mg base "_law_least" 1 ["_law_low", "_law_high"] (sp__law_least K)) (C__law_fields : Cal P w K mg base "_law_fields" 1 ["_law_word_here"] (sp__law_fields K)) (C__law_made : Cal P w K mg base "_law_made" 2 ["_law_low", "_law_high", "_law_at", "_law_rights_here", "_law_kind"] (sp__law_made K)) : FnOk P w K mg base CX0 3 f fd ["_law_pool_here", "_law_word_here"] (sp__law_less K) := by
  refine F.ok sc__law_less (fun vs H Q E h => ?_) (fun cdv A outer s H vs Q E hr h => ?_)
  · obtain ⟨a, x, y, w, c, rfl, hP, hw, q⟩ := h; rfl
  · obtain ⟨a, x, y, w, c, rfl, hP, hw, q⟩ := h
    refine ⟨_, (pss_cons (ps_asg (pe_cal C__law_fields (hr.mono (by decide)) (pa_cons (pv 1) pa_nil)) (pg_tup rfl (pgs_cons (pg_name (i := 2) sc__law_less.nd rfl (.inl rfl)) (pgs_cons (pg_name (i := 3) sc__law_less.nd rfl (.inl rfl)) (pgs_cons (pg_name (i := 4) sc__law_less.nd rfl (.inl rfl)) (pgs_cons (pg_name (i := 5) sc__law_less.nd rfl (.inl rfl)) (pgs_cons (pg_name (i := 6) sc__law_less.nd rfl (.inl rfl)) pgs_nil)))))))
      (pss_cons (ps_set (i := 7) sc__law_less.nd rfl (.inl rfl) (pe_op op_add (pv 2) (pe_cal C__law_take (hr.mono (by decide)) (pa_cons (pv 0) (pa_cons (pe_op op_sub (pv 3) (pv 2)) pa_nil)))))
      (pss_cons (ps_set (i := 8) sc__law_less.nd rfl (.inl rfl) (pe_op op_add (pe_op op_add (pv 7) pe_int) (pe_cal C__law_take (hr.mono (by decide)) (pa_cons (pv 0) (pa_cons (pe_op op_sub (pv 3) (pv 7)) pa_nil)))))
      (pss_cons (ps_asg (pe_cal C__law_least (hr.mono (by decide)) (pa_cons (pv 7) (pa_cons (pv 8) pa_nil))) (pg_tup rfl (pgs_cons (pg_name (i := 7) sc__law_less.nd rfl (.inl rfl)) (pgs_cons (pg_name (i := 8) sc__law_less.nd rfl (.inl rfl)) (pgs_cons (pg_name (i := 9) sc__law_less.nd rfl (.inl rfl)) pgs_nil)))))
      (pss_cons (ps_set (i := 11) sc__law_less.nd rfl (.inl rfl) (pe_join pe_str (pe_lc (own := [("_law_sign", 10)]) rfl sc__law_less.nd (pi_str (pv 5)) (blkOk_by (own := [("_law_sign", 10)]) (N := ["_law_pool_here", "_law_word_here", "_law_low", "_law_high", "_law_at", "_law_rights_here", "_law_kind", "_law_own_low", "_law_own_high", "_law_step", "_law_sign", "_law_some", "_law_kinds"]) (sc := defScope s__law_less) (by decide +kernel)) (fun _ _ _ _ _ => (pg_name (i := 10) sc__law_less.nd rfl (.inl rfl))) (fun _ _ _ _ _ => (pts_one (pt_cmpR op_gt (pe_cal C__law_take (hr.mono (by decide)) (pa_cons (pv 0) (pa_cons pe_int pa_nil))) pe_int (nomark _)))) (fun _ _ _ _ _ => (pv 10)))))
      (pss_cons (ps_set (i := 12) sc__law_less.nd rfl (.inl rfl) (pe_lst (pa_cons (pv 6) (pa_cons (pv 6) (pa_cons (pv 6) (pa_cons pe_int (pa_cons pe_int (pa_cons pe_int (pa_cons pe_int pa_nil)))))))))
      (pss_one (ps_ret (pe_cal C__law_made (hr.mono (by decide)) (pa_cons (pv 7) (pa_cons (pv 8) (pa_cons (pe_cal C__law_take (hr.mono (by decide)) (pa_cons (pv 0) (pa_cons pe_int pa_nil))) (pa_cons (pv 11) (pa_cons (pe_ix (r := rIxL K) ix_list (pv 12) (pe_cal C__law_take (hr.mono (by decide)) (pa_cons (pv 0) (pa_cons pe_int pa_nil))) (fun _ _ => rfl)) pa_nil)))))))))))))), ?_⟩
    obtain ⟨lo, hi, at', p, kd, s0, ef, W⟩ := wf_of hw.w (hw.law rfl)
    have ef : tup5 c = [.int lo, .int hi, .int at', .str (rtx p), .int kd] := ef
    refine ⟨_, rfl, w, _, c, rfl, hw.at', hw.w, fun nt => absurd (hw.law rfl).1 nt, fun _ qf H1 s1 hqf hqf2 => ?_⟩
    rw [ef] at hqf2
    refine ⟨qf, _, rfl, .of hqf2, rfl, _, _, rfl, _, _, rfl, _, _, rfl, _, _, rfl, _, _, rfl, rfl, ?_⟩
    have P1 := hP.same s1
    obtain ⟨b1, b2, b3⟩ := id W.bd
    refine ⟨_, rfl, _, rfl, _, rfl, _, rfl, _, _, rfl, rfl, a, x, y, _, rfl, P1, by omega, by omega, fun r1 x1 y1 H2 r10 r11 B2 P2 => ⟨_, _, rfl, rfl, ?_⟩⟩
    refine ⟨_, rfl, _, _, rfl, rfl, _, rfl, _, rfl, _, rfl, _, _, rfl, rfl, a, x1, y1, _, rfl, P2, by omega, by omega, fun r2 x2 y2 H3 r20 r21 B3 P3 => ⟨_, _, rfl, rfl, ?_⟩⟩
    obtain ⟨ol, eol⟩ : ∃ ol : Int, ol = lo + r1 := ⟨_, rfl⟩
    have bd : Bd (lo + r1) (lo + r1 + 1 + r2) := ⟨by omega, by omega, by omega⟩
    refine ⟨_, rfl, _, rfl, _, _, rfl, bd, fun s p1 hs hp1 => ?_⟩
    refine ⟨p1, _, rfl, .of upd_same, rfl, _, _, rfl, _, _, rfl, _, _, rfl, rfl, ?_⟩
    have fr := least_ex bd hs
    have S4 := same_new (o := .tup [.int ((lo + r1) / 2 ^ s * 2 ^ s), .int (((lo + r1 + 1 + r2 - 1) / 2 ^ s + 1) * 2 ^ s), .int s]) hp1
    generalize upd H3 p1 _ = H4 at S4 ⊢
    have P4 := P3.same S4
    have B04 : But a H H4 := by walk_at "but"
    have exl := fr.2.1
    have bdl := fr.1
    generalize (lo + r1) / 2 ^ s * 2 ^ s = ol2 at exl bdl ⊢
    generalize ((lo + r1 + 1 + r2 - 1) / 2 ^ s + 1) * 2 ^ s = oh2 at exl bdl ⊢
    clear fr hs hp1 S4 P1 P2 P3 B2 B3
    refine ⟨⟨_, rfl⟩, _, rfl, rtx p, rfl, fun D hD => ?_⟩
    have n0 : D ≠ a := (ne_of_none P4.1 hD).symm
    refine lc_it (walk_str (z := rtx p)) (fun i H' => ∃ l x5 y5, But a H4 H' ∧ Pool H' a x5 y5 ∧ H' D = some (.lst ((l.map one).map V.str)) ∧ l.Sublist ((rtx p).cps.toList.take i)) ⟨[], x2, y2, But.new (But.refl _ _) hD, P4.new hD, upd_same, List.nil_sublist _⟩ (fun _ _ _ _ => trivial) ?_ ?_
    · rintro i xx H5 H6 hix ⟨l, x5, y5, B5, P5, hl, hs⟩ ⟨rfl, c', hc', rfl⟩
      have ec : (rtx p).cps.toList[i]? = some c' := by rw [Array.getElem?_toList]; exact hc'
      generalize hw : wipe _ (List.map _ _) = τ
      have ht : τ = [some (.ref a), some (.ref w), some (.int lo), some (.int hi), some (.int at'), some (.str (rtx p)), some (.int kd), some (.int ol2), some (.int oh2), some (.int s), none, none, none] := by rw [← hw]; rfl
      clear hw
      subst ht
      refine ⟨rfl, ?_⟩
      refine ⟨_, rfl, a, x5, y5, _, rfl, P5, by decide, by decide, fun r3 x6 y6 H6 r30 r31 B6 P6 => ⟨_, _, rfl, rfl, _, rfl, ifb (fun e => ?_) (fun e => ?_)⟩⟩
      · refine ⟨_, rfl, _, B6 _ _ n0 hl, ?_, l ++ [c'], x6, y6, ?_, ?_, ?_, sub_snoc hs ec⟩
        · rw [List.length_map, List.length_map]
          exact szn (sub_len hs)
        · exact fun b o nb e => by
            have n : b ≠ D := ne_of_none e hD
            rw [upd_ne n]; exact B6 _ _ nb (B5 b o nb e)
        · exact ⟨by rw [upd_ne n0.symm]; exact P6.1, P6.2⟩
        · rw [upd_same, List.map_append, List.map_append]; rfl
      · exact ⟨l, x6, y6, B5.trans B6, P6, B6 _ _ n0 hl, sub_skip hs⟩
    rintro H5 ⟨l, x5, y5, B5, P5, hl, hs⟩
    rw [take_all (size_len _)] at hs
    obtain ⟨pq, hpq, eq⟩ := sub_rtx hs
    rw [eq] at hl
    refine ⟨_, D, _, rfl, rfl, .inl (.of hl), rcs_fit _, ?_⟩
    have ej : Txt.join (Str.ofString "") (rcs pq 9) = rtx pq := rfl
    rw [ej]
    have ow : OneW (rtx pq) := ow_sub hpq W.ow
    refine ⟨_, rfl, _, rfl, _, rfl, sz (by simp), fun L hL => ?_⟩
    have B05 : But a H H5 := B04.trans B5
    have fL : (upd H5 L (.lst [.int kd, .int kd, .int kd, .int 1, .int 2, .int 5, .int 0])) L = _ := upd_same
    have P6 := P5.new (o := .lst [.int kd, .int kd, .int kd, .int 1, .int 2, .int 5, .int 0]) hL
    have B06 := But.new (o := .lst [.int kd, .int kd, .int kd, .int 1, .int 2, .int 5, .int 0]) B05 hL
    have nL : L ≠ a := (ne_of_none P5.1 hL).symm
    generalize upd H5 L _ = H6 at fL P6 B06 ⊢
    refine ⟨_, rfl, _, rfl, _, rfl, a, x5, y5, _, rfl, P6, by decide, by decide, fun r4 x7 y7 H7 r40 r41 B7 P7 => ⟨_, rfl, _, rfl, _, rfl, a, x7, y7, _, rfl, P7, by decide, by decide, fun r5 x8 y8 H8 r50 r51 B8 P8 => ?_⟩⟩
    obtain ⟨lv, hv, k2, rfl, k0, k1⟩ := pick (xs := [.int kd, .int kd, .int kd, .int 1, .int 2, .int 5, .int 0]) (fun v => ∃ z, v = .int z ∧ 0 ≤ z ∧ z ≤ 15) r50 r51 (by
      intro v hv
      have := W.k0
      have := W.k1
      simp only [List.mem_cons, List.not_mem_nil, or_false] at hv
      rcases hv with h | h | h | h | h | h | h <;> exact ⟨_, h, by omega, by omega⟩)
    refine ⟨L, _, _, _, rfl, rfl, .of (B8 _ _ nL (B7 _ _ nL fL)), hv, ?_⟩
    refine ⟨ol2, oh2, r4, k2, pq, rfl, bdl, ⟨s, exl⟩, r40, by omega, k0, k1, ow, fun s2 b2 q2 H9 W2 s9 hq2 hw2 => ?_⟩
    have B08 : But a H H8 := B06.trans (B7.trans B8)
    exact q q2 b2 x8 y8 _ (B08.trans (But.of s9)) (P8.same s9) (B08.free P8 hq2) hw2

def sp__law_within (K : PySem.W.Frag) : Sp := fun vs H Q _ => ∃ p q b c, vs = [.ref p, .ref q] ∧ Wd H p true b ∧ Wd H q true c ∧ ∀ r H', Same H H' → (r = true ↔ Within b c) → Q (.bl r) H'
theorem ok__law_within {f : Addr} {fd : FuncData} (F : Fun K "_law_within" "_law_within" s__law_within f fd) (T : Txt K mg) (C__law_fields : Cal P w K mg base "_law_fields" 1 ["_law_word_here"] (sp__law_fields K)) : FnOk P w K mg base CX0 2 f fd ["_law_one", "_law_other"] (sp__law_within K) := by
  refine F.ok sc__law_within (fun vs H Q E h => ?_) (fun cdv A outer s H vs Q E hr h => ?_)
  · obtain ⟨p, q1, b, c, rfl, hp, hq, q⟩ := h; rfl
  · obtain ⟨p, q1, b, c, rfl, hp, hq, q⟩ := h
    refine ⟨_, (pss_cons (ps_asg (pe_cal C__law_fields (hr.mono (by decide)) (pa_cons (pv 0) pa_nil)) (pg_tup rfl (pgs_cons (pg_name (i := 2) sc__law_within.nd rfl (.inl rfl)) (pgs_cons (pg_name (i := 3) sc__law_within.nd rfl (.inl rfl)) (pgs_cons (pg_name (i := 4) sc__law_within.nd rfl (.inl rfl)) (pgs_cons (pg_name (i := 5) sc__law_within.nd rfl (.inl rfl)) (pgs_cons (pg_name (i := 6) sc__law_within.nd rfl (.inl rfl)) pgs_nil)))))))
      (pss_cons (ps_asg (pe_cal C__law_fields (hr.mono (by decide)) (pa_cons (pv 1) pa_nil)) (pg_tup rfl (pgs_cons (pg_name (i := 7) sc__law_within.nd rfl (.inl rfl)) (pgs_cons (pg_name (i := 8) sc__law_within.nd rfl (.inl rfl)) (pgs_cons (pg_name (i := 9) sc__law_within.nd rfl (.inl rfl)) (pgs_cons (pg_name (i := 10) sc__law_within.nd rfl (.inr rfl)) (pgs_cons (pg_name (i := 11) sc__law_within.nd rfl (.inl rfl)) pgs_nil)))))))
      (pss_cons (ps_if (PW.pt (pw_and (pt_cmpR op_ne (pv 6) (pv 11) (nomark _)) (pw_and1 (PW.pt (pw_or (pt_cmpR op_ne (pv 11) pe_int (nomark _)) (pw_or1 (pt_cmpR op_eq (pv 6) pe_int (nomark _)))))))) (pss_one (ps_ret pe_bl)) pss_nil)
      (pss_one (ps_ret (pe_and (pe_cmpR op_le (pv 7) (pv 2) (nomark _)) (pe_and (pe_cmpR op_le (pv 3) (pv 8) (nomark _)) (pe_one (pe_cmpR (r := rEqD K) (op_eqD hr.units) (pe_lc (own := [("_law_sign", 12)]) rfl sc__law_within.nd (pi_str (pv 5)) (blkOk_by (own := [("_law_sign", 12)]) (N := ["_law_one", "_law_other", "_law_low", "_law_high", "_law_at", "_law_rights_here", "_law_kind", "_law_other_low", "_law_other_high", "_law_other_at", "_law_other_rights", "_law_other_kind", "_law_sign"]) (sc := defScope s__law_within) (by decide +kernel)) (fun _ _ _ _ _ => (pg_name (i := 12) sc__law_within.nd rfl (.inl rfl))) (fun _ _ _ _ _ => (pts_one (pt_cmpR op_notIn_sign (pv 12) (pv 10) (by rfl)))) (fun _ _ _ _ _ => (pv 12))) (pe_lst pa_nil) (nomark _)))))))))), ?_⟩
    refine ⟨_, rfl, p, _, b, rfl, hp.at', hp.w, fun nt => absurd (hp.law rfl).1 nt, fun _ f1 H1 s1 hf1 hf12 => ?_⟩
    refine ⟨f1, _, rfl, .of hf12, rfl, _, _, rfl, _, _, rfl, _, _, rfl, _, _, rfl, _, _, rfl, rfl, ?_⟩
    have hq1 := hq.same s1
    refine ⟨_, rfl, q1, _, c, rfl, hq1.at', hq1.w, fun nt => absurd (hq.law rfl).1 nt, fun _ f2 H2 s2 hf2 hf22 => ?_⟩
    refine ⟨f2, _, rfl, .of hf22, rfl, _, _, rfl, _, _, rfl, _, _, rfl, _, _, rfl, _, _, rfl, rfl, ?_⟩
    have S2 := s1.trans s2
    clear hf12 hf22 hf1 hf2 hq1 hp hq s1 s2
    generalize eb1 : fFirst b * 2 ^ (fStep b).toNat = lo1
    generalize eb2 : (fFirst b + fCnt b) * 2 ^ (fStep b).toNat = hi1
    generalize ec1 : fFirst c * 2 ^ (fStep c).toNat = lo2
    generalize ec2 : (fFirst c + fCnt c) * 2 ^ (fStep c).toNat = hi2
    have wi : Within b c ↔ lo2 ≤ lo1 ∧ hi1 ≤ hi2 ∧ (∀ k, k < 9 → bitp (fRts b) k = true → bitp (fRts c) k = true) ∧ (fKind b = fKind c ∨ (fKind c = 0 ∧ fKind b ≠ 2)) := by
      unfold Within; rw [eb1, eb2, ec1, ec2]
    clear eb1 eb2 ec1 ec2
    generalize epb : bitp (fRts b) = pb at *
    generalize epc : bitp (fRts c) = pc at *
    generalize fKind b = kb at *
    generalize fKind c = kc at *
    have no : ∀ H', Same H H' → ¬ Within b c → Q (.bl false) H' := fun H' s z => q _ _ s ⟨fun h => Bool.noConfusion h, fun h => absurd h z⟩
    refine' with_fin (A := kb = kc ∨ (kc = 0 ∧ kb ≠ 2)) ?h ?k
    case k =>
      intro fin
      refine ⟨_, rfl, _, rfl, rfl, _, rfl, ifnd (fun c1 => ?_) (fun c1 => fin (.inl (V.int.inj c1)))⟩
      have n1 : kb ≠ kc := fun z => c1 (congrArg V.int z)
      refine ⟨_, rfl, rfl, _, rfl, ifnd (fun c2 => ?_) (fun c2 => ?_)⟩
      · show Q (.bl false) H2
        exact no _ S2 fun z => by
          rcases (wi.mp z).2.2.2 with h | h
          · exact n1 h
          · exact c2 (congrArg V.int h.1)
      · refine ⟨_, rfl, rfl, _, rfl, ifd (fun c3 => ?_) (fun c3 => fin (.inr ⟨V.int.inj c2, fun z => c3 (congrArg V.int z)⟩))⟩
        show Q (.bl false) H2
        exact no _ S2 fun z => by
          rcases (wi.mp z).2.2.2 with h | h
          · exact n1 h
          · exact h.2 (V.int.inj c3)
    intro kk
    refine ⟨_, rfl, _, rfl, _, _, rfl, rfl, _, rfl, ifd (fun c1 => ?_) (fun c1 => ?_)⟩
    case refine_2 => exact no _ S2 fun z => c1 (wi.mp z).1
    refine ⟨_, rfl, _, rfl, _, _, rfl, rfl, _, rfl, ifd (fun c2 => ?_) (fun c2 => ?_)⟩
    case refine_2 => exact no _ S2 fun z => c2 (wi.mp z).2.1
    refine ⟨_, rfl, rtx pb, rfl, fun D hD => ?_⟩
    refine lc_it (walk_str (z := rtx pb)) (fun i H' => Same H2 H' ∧ H' D = some (.lst ((((rtx pb).cps.toList.take i).filter fun c => !decide (c ∈ (rtx pc).cps.toList)).map fun c => V.str (one c)))) ⟨same_new hD, upd_same⟩ (fun _ _ _ _ => trivial) ?_ ?_
    · rintro i x H3 H4 hi ⟨sm, hl⟩ ⟨rfl, c', hc', rfl⟩
      have ec : (rtx pb).cps.toList[i]? = some c' := by rw [Array.getElem?_toList]; exact hc'
      have tk2 : (rtx pb).cps.toList.take (i + 1) = (rtx pb).cps.toList.take i ++ [c'] := by rw [List.take_add_one, ec]; rfl
      generalize hw : wipe _ (List.map _ _) = τ
      have ht : τ = [some (.ref p), some (.ref q1), some (.int lo1), some (.int hi1), some (.int (fAt b)), some (.str (rtx pb)), some (.int kb), some (.int lo2), some (.int hi2), some (.int (fAt c)), some (.str (rtx pc)), some (.int kc), none] := by rw [← hw]; rfl
      clear hw
      subst ht
      refine ⟨rfl, ?_⟩
      refine ⟨_, rfl, _, rfl, c', rtx pc, rfl, rfl, _, rfl, ifnb (fun e => ?_) (fun e => ?_)⟩
      · refine ⟨_, rfl, _, hl, ?_, ?_, ?_⟩
        · rw [List.length_map]
          have h1 := List.length_filter_le (fun c => !decide (c ∈ (rtx pc).cps.toList)) ((rtx pb).cps.toList.take i)
          have h2 : ((rtx pb).cps.toList.take i).length ≤ i := by rw [List.length_take]; exact Nat.min_le_left _ _
          have h3 := rtx_len pb
          exact szn (by omega)
        · exact fun b o e => by
            have n : b ≠ D := ne_of_none e hD
            rw [upd_ne n]; exact sm b o e
        · rw [upd_same, tk2, List.filter_append, List.map_append, show List.filter (fun c => !decide (c ∈ (rtx pc).cps.toList)) [c'] = [c'] by rw [List.filter_cons, if_pos (by rw [e]; rfl)]; rfl]
          rfl
      · refine ⟨sm, ?_⟩
        rw [tk2, List.filter_append, show List.filter (fun c => !decide (c ∈ (rtx pc).cps.toList)) [c'] = [] by rw [List.filter_cons, if_neg (by rw [e]; exact Bool.false_ne_true)]; rfl, List.append_nil]
        exact hl
    rintro H3 ⟨sm, hl⟩
    rw [take_all (size_len _)] at hl
    refine ⟨sz (by simp), fun D2 hD2 => ?_⟩
    have n2 : D ≠ D2 := ne_of_none hl hD2
    refine ⟨_, _, .lst (.of (show (upd H3 D2 _) D = _ by rw [upd_ne n2]; exact hl)) (dp_strs _), .lst (.of upd_same) .nil, strs_shape (fun c hc => rtx_ok pb (List.mem_filter.mp hc).1), rfl, ?_⟩
    refine q _ _ (sameN (S2.trans sm) hD2) ?_
    rw [strs_eqv, wi, filt_nil, ← sub_iff]
    constructor
    · intro h
      refine ⟨c1, c2, fun c hc => ?_, kk⟩
      have := h c hc
      simpa using this
    · intro h c hc
      simpa using h.2.2.1 c hc

def sp_law (K : PySem.W.Frag) : Sp := fun vs H Q _ => ∃ (a : Addr) (ns : List Int), vs = [.ref a] ∧ SqL K H a (ns.map V.int) ∧ ns.length ≤ 63 ∧ ∀ H', Q (.bl true) H'
theorem ok_law {f : Addr} {fd : FuncData} (F : Fun K "law" "law" s_law f fd) (T : Txt K mg) (C_lies_within : Cal P w K mg base "lies_within" 4 ["one", "other"] (sp_lies_within K)) (C__law_pool : Cal P w K mg base "_law_pool" 1 ["_law_script", "_law_k"] (sp__law_pool K)) (C__law_marked : Cal P w K mg base "_law_marked" 4 ["_law_pool_here"] (sp__law_marked K)) (C__law_less : Cal P w K mg base "_law_less" 3 ["_law_pool_here", "_law_word_here"] (sp__law_less K)) (C__law_within : Cal P w K mg base "_law_within" 2 ["_law_one", "_law_other"] (sp__law_within K)) : FnOk P w K mg base CX0 5 f fd ["_law_script"] (sp_law K) := by
  refine F.ok sc_law (fun vs H Q E h => ?_) (fun cdv A outer s H vs Q E hr h => ?_)
  · obtain ⟨a, ns, rfl, hS, hlen, q⟩ := h; rfl
  · obtain ⟨a, ns, rfl, hS, hlen, q⟩ := h
    refine ⟨_, (pss_cons (ps_for PassesOwn.never rfl (pi_range1 (by rfl) T.z_range (pa_cons (pe_callB (call_max2 rfl) (by rfl) T.z_max (by decide +kernel) (pa_cons pe_int (pa_cons (pe_callB (call_min2 rfl) (by rfl) T.z_min (by decide +kernel) (pa_cons (pe_callB call_len_seq (by rfl) T.z_len (by decide +kernel) (pa_cons (pv 0) pa_nil)) (pa_cons pe_int pa_nil))) pa_nil))) pa_nil)) (pg_name (i := 1) sc_law.nd rfl (.inl rfl)) (pss_cons (ps_set (i := 2) sc_law.nd rfl (.inl rfl) (pe_cal C__law_pool (hr.mono (by decide)) (pa_cons (pv 0) (pa_cons (pv 1) pa_nil))))
      (pss_cons (ps_set (i := 3) sc_law.nd rfl (.inl rfl) (pe_cal C__law_marked (hr.mono (by decide)) (pa_cons (pv 2) pa_nil)))
      (pss_cons (ps_set (i := 4) sc_law.nd rfl (.inl rfl) (pe_lst (pa_cons (pv 3) (pa_cons (pe_cal C__law_marked (hr.mono (by decide)) (pa_cons (pv 2) pa_nil)) (pa_cons (pe_cal C__law_less (hr.mono (by decide)) (pa_cons (pv 2) (pa_cons (pv 3) pa_nil))) (pa_cons (pe_cal C__law_less (hr.mono (by decide)) (pa_cons (pv 2) (pa_cons (pv 3) pa_nil))) pa_nil))))))
      (pss_cons (ps_expr (pe_bm PySem.F.plainAttrs_list PySem.F.slot_list_append PySem.F.type_list_append mt_append (pv 4) (pa_cons (pe_cal C__law_less (hr.mono (by decide)) (pa_cons (pv 2) (pa_cons (pe_ix (r := rIxL K) ix_list (pv 4) pe_int (fun _ _ => rfl)) pa_nil))) pa_nil)))
      (pss_one (ps_for PassesOwn.never rfl (pi_list (pv 4)) (pg_name (i := 5) sc_law.nd rfl (.inl rfl)) (pss_cons (ps_for PassesOwn.never rfl (pi_list (pv 4)) (pg_name (i := 6) sc_law.nd rfl (.inl rfl)) (pss_cons (ps_set (i := 7) sc_law.nd rfl (.inl rfl) (pe_cal C_lies_within (hr.mono (by decide)) (pa_cons (pv 5) (pa_cons (pv 6) pa_nil))))
      (pss_one (ps_if (PW.pt (pw_or (pt_not (pt_val (pe_callB call_isi (by rfl) T.z_isinstance (by decide +kernel) (pa_cons (pv 7) (pa_cons (pe_bltn (v := .ty "bool") (by rfl) T.z_bool (by decide +kernel) rfl) pa_nil))))) (pw_or1 (pt_cmpR op_ne (pv 7) (pe_cal C__law_within (hr.mono (by decide)) (pa_cons (pv 5) (pa_cons (pv 6) pa_nil))) (nomark _))))) (pss_one (ps_ret pe_bl)) pss_nil))))
      (pss_one (ps_if (pt_cmpR op_isnot_bl (pe_cal C_lies_within (hr.mono (by decide)) (pa_cons (pv 5) (pa_cons (pv 5) pa_nil))) pe_bl (nomark _)) (pss_one (ps_ret pe_bl)) pss_nil))))))))))
      (pss_one (ps_ret pe_bl))), ?_⟩
    refine ⟨_, rfl, a, _, rfl, .inl hS, _, _, rfl, _, _, rfl, _, rfl, rep_lo (c := 10) (by decide) (by decide), rep_hi (c := 10) (by decide) (by decide), for_range (fun i σ H' => ∃ v1 v2 v3 v4 v5 v6 v7, σ = [some (.ref a), v1, v2, v3, v4, v5, v6, v7] ∧ Same H H') ⟨_, _, _, _, _, _, _, rfl, Same.refl _⟩ ?_ ?_⟩
    · rintro i σ H3 hi ⟨v1, v2, v3, v4, v5, v6, v7, rfl, s3⟩
      have hi63 := rep_i (c := 10) (by decide) (by decide) hi
      rw [i0]
      refine ⟨_, rfl, _, rfl, a, ns, i, rfl, s3.seq hS, hlen, hi63, fun x y p H4 sm4 hp0 P4 => ?_⟩
      refine ⟨_, rfl, p, x, y, rfl, P4, fun q0 b0 x1 y1 H5 B5 P5 hq0 w0 => ?_⟩
      have n0 := w0.ne P5
      refine ⟨_, rfl, _, rfl, p, x1, y1, rfl, P5, fun q1 b1 x2 y2 H6 B6 P6 hq1 w1 => ?_⟩
      have n1 := w1.ne P6
      have w06 := w0.but B6 n0
      refine ⟨_, rfl, _, rfl, p, x2, y2, q0, b0, rfl, P6, w06, fun q2 b2 x3 y3 H7 B7 P7 hq2 w2 => ?_⟩
      have n2 := w2.ne P7
      have w07 := w06.but B7 n0
      have w17 := w1.but B7 n1
      refine ⟨_, rfl, _, rfl, p, x3, y3, q0, b0, rfl, P7, w07, fun q3 b3 x4 y4 H8 B8 P8 hq3 w3 => ⟨sz (by simp), fun L hL => ?_⟩⟩
      have n3 := w3.ne P8
      have w08 := (w07.but B8 n0).same (same_new (o := .lst [.ref q0, .ref q1, .ref q2, .ref q3]) hL)
      have w18 := (w17.but B8 n1).same (same_new (o := .lst [.ref q0, .ref q1, .ref q2, .ref q3]) hL)
      have w28 := (w2.but B8 n2).same (same_new (o := .lst [.ref q0, .ref q1, .ref q2, .ref q3]) hL)
      have w38 := w3.same (same_new (o := .lst [.ref q0, .ref q1, .ref q2, .ref q3]) hL)
      have P9 := P8.new (o := .lst [.ref q0, .ref q1, .ref q2, .ref q3]) hL
      have fL : (upd H8 L (.lst [.ref q0, .ref q1, .ref q2, .ref q3])) L = some (.lst [.ref q0, .ref q1, .ref q2, .ref q3]) := upd_same
      have nL : L ≠ p := (ne_of_none P8.1 hL).symm
      have B49 : But p H4 (upd H8 L (.lst [.ref q0, .ref q1, .ref q2, .ref q3])) := (B5.trans (B6.trans (B7.trans B8))).new hL
      have hL4 : H4 L = none := (B5.trans (B6.trans (B7.trans B8))).free P8 hL
      generalize upd H8 L (.lst [.ref q0, .ref q1, .ref q2, .ref q3]) = H9 at w08 w18 w28 w38 P9 fL B49 ⊢
      clear w06 w07 w17 B5 B6 B7 B8 P5 P6 P7 P8 hq1 hq2 hq3 w0 w1 w2 w3
      refine ⟨_, rfl, .inl ⟨rfl, _, .inl (.inl fL)⟩, _, rfl, _, rfl, L, _, 2, _, rfl, rfl, .of fL, atI_nat (j := 2) rfl, p, x4, y4, q2, b2, rfl, P9, w28, fun q4 b4 x5 y5 H10 B10 P10 hq4 w4 => ?_⟩
      have fL10 := B10 _ _ nL fL
      refine ⟨L, _, _, rfl, rfl, fL10, szn (by simp), ?_⟩
      have ne : ∀ q b, Wd H10 q true b → q ≠ L := fun q b w e => by
        subst e
        have := w.at'
        rw [fL10] at this; cases this
      have up : ∀ q b, Wd H10 q true b → Wd (upd H10 L (.lst ([.ref q0, .ref q1, .ref q2, .ref q3] ++ [.ref q4]))) q true b := fun q b w => ⟨by rw [upd_ne (ne q b w)]; exact w.at', w.w, w.law⟩
      have g0 := up _ _ (w08.but B10 n0)
      have g1 := up _ _ (w18.but B10 n1)
      have g2 := up _ _ (w28.but B10 n2)
      have g3 := up _ _ (w38.but B10 n3)
      have g4 := up _ _ w4
      have gL : (upd H10 L (.lst ([.ref q0, .ref q1, .ref q2, .ref q3] ++ [.ref q4]))) L = some (.lst [.ref q0, .ref q1, .ref q2, .ref q3, .ref q4]) := upd_same
      have BG : But p H4 (upd H10 L (.lst ([.ref q0, .ref q1, .ref q2, .ref q3] ++ [.ref q4]))) := fun b o nb e => by
        rw [upd_ne (ne_of_none e hL4)]; exact (B49.trans B10) b o nb e
      generalize upd H10 L (.lst ([.ref q0, .ref q1, .ref q2, .ref q3] ++ [.ref q4])) = G at g0 g1 g2 g3 g4 gL BG ⊢
      clear w08 w18 w28 w38 P9 fL B49 up ne w4 fL10 P10 B10 hq4
      have all : ∀ v ∈ [V.ref q0, .ref q1, .ref q2, .ref q3, .ref q4], ∃ q b, v = .ref q ∧ Wd G q true b := by
        intro v hv
        simp only [List.mem_cons, List.not_mem_nil, or_false] at hv
        rcases hv with h | h | h | h | h
        · exact ⟨_, _, h, g0⟩
        · exact ⟨_, _, h, g1⟩
        · exact ⟨_, _, h, g2⟩
        · exact ⟨_, _, h, g3⟩
        · exact ⟨_, _, h, g4⟩
      refine ⟨_, rfl, L, rfl, ⟨_, .of gL⟩, for_list (K := K) (a := L) (xs := [.ref q0, .ref q1, .ref q2, .ref q3, .ref q4]) (fun j σ H' => ∃ v5 v6 v7, σ = [some (.ref a), some (.int (i : Int)), some (.ref p), some (.ref q0), some (.ref L), v5, v6, v7] ∧ Same G H') ⟨_, _, _, rfl, Same.refl _⟩ (fun j σ H' _ ⟨_, _, _, _, sm⟩ => .of (sm _ _ gL)) ?_ ?_⟩
      · rintro j xx σ H11 hx ⟨v5, v6, v7, rfl, S11⟩
        obtain ⟨qa, ba, rfl, wa⟩ := all xx (List.mem_of_getElem? hx)
        refine ⟨_, rfl, L, rfl, ⟨_, .of (S11 _ _ gL)⟩, for_list (K := K) (a := L) (xs := [.ref q0, .ref q1, .ref q2, .ref q3, .ref q4]) (fun j σ H' => ∃ v6 v7, σ = [some (.ref a), some (.int (i : Int)), some (.ref p), some (.ref q0), some (.ref L), some (.ref qa), v6, v7] ∧ Same G H') ⟨_, _, rfl, S11⟩ (fun j σ H' _ ⟨_, _, _, sm⟩ => .of (sm _ _ gL)) ?_ ?_⟩
        · rintro j2 xx2 σ H12 hx2 ⟨v6, v7, rfl, S12⟩
          obtain ⟨qc, bc, rfl, wc⟩ := all xx2 (List.mem_of_getElem? hx2)
          refine ⟨_, rfl, _, rfl, qa, qc, true, true, ba, bc, rfl, wa.same S12, wc.same S12, fun r H13 s13 hr => ?_⟩
          have S13 := S12.trans s13
          refine ⟨_, rfl, _, _, _, _, true, rfl, .ty "bool", .base (.bl r), kit_ty (by decide +kernel), true, rfl, ?_⟩
          refine ⟨_, rfl, _, rfl, _, rfl, qa, qc, ba, bc, rfl, wa.same S13, wc.same S13, fun r2 H14 s14 hr2 => ⟨rfl, _, rfl, ifnd (fun c => absurd (congrArg V.bl ?_) c) (fun _ => ?_)⟩⟩
          · rw [Bool.eq_iff_iff, hr, hr2]; simp
          · exact ⟨_, _, rfl, S13.trans s14⟩
        · rintro σ H12 ⟨v6, v7, rfl, S12⟩
          refine ⟨_, rfl, _, rfl, qa, qa, true, true, ba, ba, rfl, wa.same S12, wa.same S12, fun r H13 s13 hr => ?_⟩
          have er : r = true := hr.mpr ⟨rfl, rfl, Within.refl _⟩
          subst er
          refine ⟨true, true, rfl, rfl, _, rfl, ?_⟩
          exact ⟨_, _, _, rfl, S12.trans s13⟩
      · rintro σ H11 ⟨v5, v6, v7, rfl, S11⟩
        exact ⟨_, _, _, _, _, _, _, rfl, sameP s3 sm4 hp0 (BG.trans (But.of S11))⟩
    · rintro σ H3 ⟨v1, v2, v3, v4, v5, v6, v7, rfl, s3⟩
      exact q _
end
theorem all_mk {l : PySem.W.OpenLaw} {w : World} {K : PySem.W.Frag} {h : Heap} {mg : Str → Option Value} {fa f0 f1 f2 f3 f4 f5 f6 f7 f8 f9 f10 f11 f12 f13 f14 f15 : Addr} (X : K.In h) (G : h.Ns mainGlobals mg) (hfa : mg "law" = some (.ref fa))
    {od0 an0 od1 an1 od2 an2 od3 an3 od4 an4 od5 an5 od6 an6 od7 an7 od8 an8 od9 an9 od10 an10 od11 an11 od12 an12 od13 an13 od14 an14 od15 an15 : Option Addr} {sl0 sl1 sl2 sl3 sl4 sl5 sl6 sl7 sl8 sl9 sl10 sl11 sl12 sl13 sl14 sl15 : Array (Option Value)} {oc0 kV0 dc0 pm0 cd0 ct0 oc1 kV1 dc1 pm1 cd1 ct1 oc2 kV2 dc2 pm2 cd2 ct2 oc3 kV3 dc3 pm3 cd3 ct3 oc4 kV4 dc4 pm4 cd4 ct4 oc5 kV5 dc5 pm5 cd5 ct5 oc6 kV6 dc6 pm6 cd6 ct6 oc7 kV7 dc7 pm7 cd7 ct7 oc8 kV8 dc8 pm8 cd8 ct8 oc9 kV9 dc9 pm9 cd9 ct9 oc10 kV10 dc10 pm10 cd10 ct10 oc11 kV11 dc11 pm11 cd11 ct11 oc12 kV12 dc12 pm12 cd12 ct12 oc13 kV13 dc13 pm13 cd13 ct13 oc14 kV14 dc14 pm14 cd14 ct14 oc15 kV15 dc15 pm15 cd15 ct15 : Value}
    (a0 : PySem.W.nsIn K mainGlobals "field" = some (some (.ref f0))) (l0 : K.lookup f0 = some ⟨oc0, od0, .func (PySem.W.fnOf "field" "field" (defArgs s_field) (defBody s_field) (defScope s_field) .none kV0 dc0 pm0 an0 cd0 ct0), sl0⟩) (c0 : PySem.W.codeIn K cd0 "field" = true) (k0 : PySem.W.keepIn K (.ref f0) = true)
    (a1 : PySem.W.nsIn K mainGlobals "bounds_in" = some (some (.ref f1))) (l1 : K.lookup f1 = some ⟨oc1, od1, .func (PySem.W.fnOf "bounds_in" "bounds_in" (defArgs s_bounds_in) (defBody s_bounds_in) (defScope s_bounds_in) .none kV1 dc1 pm1 an1 cd1 ct1), sl1⟩) (c1 : PySem.W.codeIn K cd1 "bounds_in" = true) (k1 : PySem.W.keepIn K (.ref f1) = true)
    (a2 : PySem.W.nsIn K mainGlobals "_has_bounds" = some (some (.ref f2))) (l2 : K.lookup f2 = some ⟨oc2, od2, .func (PySem.W.fnOf "_has_bounds" "_has_bounds" (defArgs s__has_bounds) (defBody s__has_bounds) (defScope s__has_bounds) .none kV2 dc2 pm2 an2 cd2 ct2), sl2⟩) (c2 : PySem.W.codeIn K cd2 "_has_bounds" = true) (k2 : PySem.W.keepIn K (.ref f2) = true)
    (a3 : PySem.W.nsIn K mainGlobals "lies_within" = some (some (.ref f3))) (l3 : K.lookup f3 = some ⟨oc3, od3, .func (PySem.W.fnOf "lies_within" "lies_within" (defArgs s_lies_within) (defBody s_lies_within) (defScope s_lies_within) .none kV3 dc3 pm3 an3 cd3 ct3), sl3⟩) (c3 : PySem.W.codeIn K cd3 "lies_within" = true) (k3 : PySem.W.keepIn K (.ref f3) = true)
    (a4 : PySem.W.nsIn K mainGlobals "_law_take" = some (some (.ref f4))) (l4 : K.lookup f4 = some ⟨oc4, od4, .func (PySem.W.fnOf "_law_take" "_law_take" (defArgs s__law_take) (defBody s__law_take) (defScope s__law_take) .none kV4 dc4 pm4 an4 cd4 ct4), sl4⟩) (c4 : PySem.W.codeIn K cd4 "_law_take" = true) (k4 : PySem.W.keepIn K (.ref f4) = true)
    (a5 : PySem.W.nsIn K mainGlobals "_law_pool" = some (some (.ref f5))) (l5 : K.lookup f5 = some ⟨oc5, od5, .func (PySem.W.fnOf "_law_pool" "_law_pool" (defArgs s__law_pool) (defBody s__law_pool) (defScope s__law_pool) .none kV5 dc5 pm5 an5 cd5 ct5), sl5⟩) (c5 : PySem.W.codeIn K cd5 "_law_pool" = true) (k5 : PySem.W.keepIn K (.ref f5) = true)
    (a6 : PySem.W.nsIn K mainGlobals "_law_least" = some (some (.ref f6))) (l6 : K.lookup f6 = some ⟨oc6, od6, .func (PySem.W.fnOf "_law_least" "_law_least" (defArgs s__law_least) (defBody s__law_least) (defScope s__law_least) .none kV6 dc6 pm6 an6 cd6 ct6), sl6⟩) (c6 : PySem.W.codeIn K cd6 "_law_least" = true) (k6 : PySem.W.keepIn K (.ref f6) = true)
    (a7 : PySem.W.nsIn K mainGlobals "_law_fields" = some (some (.ref f7))) (l7 : K.lookup f7 = some ⟨oc7, od7, .func (PySem.W.fnOf "_law_fields" "_law_fields" (defArgs s__law_fields) (defBody s__law_fields) (defScope s__law_fields) .none kV7 dc7 pm7 an7 cd7 ct7), sl7⟩) (c7 : PySem.W.codeIn K cd7 "_law_fields" = true) (k7 : PySem.W.keepIn K (.ref f7) = true)
    (a8 : PySem.W.nsIn K mainGlobals "_law_made" = some (some (.ref f8))) (l8 : K.lookup f8 = some ⟨oc8, od8, .func (PySem.W.fnOf "_law_made" "_law_made" (defArgs s__law_made) (defBody s__law_made) (defScope s__law_made) .none kV8 dc8 pm8 an8 cd8 ct8), sl8⟩) (c8 : PySem.W.codeIn K cd8 "_law_made" = true) (k8 : PySem.W.keepIn K (.ref f8) = true)
    (a9 : PySem.W.nsIn K mainGlobals "_law_bounds" = some (some (.ref f9))) (l9 : K.lookup f9 = some ⟨oc9, od9, .func (PySem.W.fnOf "_law_bounds" "_law_bounds" (defArgs s__law_bounds) (defBody s__law_bounds) (defScope s__law_bounds) .none kV9 dc9 pm9 an9 cd9 ct9), sl9⟩) (c9 : PySem.W.codeIn K cd9 "_law_bounds" = true) (k9 : PySem.W.keepIn K (.ref f9) = true)
    (a10 : PySem.W.nsIn K mainGlobals "_law_rights" = some (some (.ref f10))) (l10 : K.lookup f10 = some ⟨oc10, od10, .func (PySem.W.fnOf "_law_rights" "_law_rights" (defArgs s__law_rights) (defBody s__law_rights) (defScope s__law_rights) .none kV10 dc10 pm10 an10 cd10 ct10), sl10⟩) (c10 : PySem.W.codeIn K cd10 "_law_rights" = true) (k10 : PySem.W.keepIn K (.ref f10) = true)
    (a11 : PySem.W.nsIn K mainGlobals "_law_word" = some (some (.ref f11))) (l11 : K.lookup f11 = some ⟨oc11, od11, .func (PySem.W.fnOf "_law_word" "_law_word" (defArgs s__law_word) (defBody s__law_word) (defScope s__law_word) .none kV11 dc11 pm11 an11 cd11 ct11), sl11⟩) (c11 : PySem.W.codeIn K cd11 "_law_word" = true) (k11 : PySem.W.keepIn K (.ref f11) = true)
    (a12 : PySem.W.nsIn K mainGlobals "_law_marked" = some (some (.ref f12))) (l12 : K.lookup f12 = some ⟨oc12, od12, .func (PySem.W.fnOf "_law_marked" "_law_marked" (defArgs s__law_marked) (defBody s__law_marked) (defScope s__law_marked) .none kV12 dc12 pm12 an12 cd12 ct12), sl12⟩) (c12 : PySem.W.codeIn K cd12 "_law_marked" = true) (k12 : PySem.W.keepIn K (.ref f12) = true)
    (a13 : PySem.W.nsIn K mainGlobals "_law_less" = some (some (.ref f13))) (l13 : K.lookup f13 = some ⟨oc13, od13, .func (PySem.W.fnOf "_law_less" "_law_less" (defArgs s__law_less) (defBody s__law_less) (defScope s__law_less) .none kV13 dc13 pm13 an13 cd13 ct13), sl13⟩) (c13 : PySem.W.codeIn K cd13 "_law_less" = true) (k13 : PySem.W.keepIn K (.ref f13) = true)
    (a14 : PySem.W.nsIn K mainGlobals "_law_within" = some (some (.ref f14))) (l14 : K.lookup f14 = some ⟨oc14, od14, .func (PySem.W.fnOf "_law_within" "_law_within" (defArgs s__law_within) (defBody s__law_within) (defScope s__law_within) .none kV14 dc14 pm14 an14 cd14 ct14), sl14⟩) (c14 : PySem.W.codeIn K cd14 "_law_within" = true) (k14 : PySem.W.keepIn K (.ref f14) = true)
    (a15 : PySem.W.nsIn K mainGlobals "law" = some (some (.ref f15))) (l15 : K.lookup f15 = some ⟨oc15, od15, .func (PySem.W.fnOf "law" "law" (defArgs s_law) (defBody s_law) (defScope s_law) .none kV15 dc15 pm15 an15 cd15 ct15), sl15⟩) (c15 : PySem.W.codeIn K cd15 "law" = true) (k15 : PySem.W.keepIn K (.ref f15) = true)
    (z_abs : PySem.W.nsIn K mainGlobals "abs" = some none)
    (z_bool : PySem.W.nsIn K mainGlobals "bool" = some none)
    (z_enumerate : PySem.W.nsIn K mainGlobals "enumerate" = some none)
    (z_int : PySem.W.nsIn K mainGlobals "int" = some none)
    (z_isinstance : PySem.W.nsIn K mainGlobals "isinstance" = some none)
    (z_len : PySem.W.nsIn K mainGlobals "len" = some none)
    (z_max : PySem.W.nsIn K mainGlobals "max" = some none)
    (z_min : PySem.W.nsIn K mainGlobals "min" = some none)
    (z_range : PySem.W.nsIn K mainGlobals "range" = some none)
    (z_sum : PySem.W.nsIn K mainGlobals "sum" = some none)
    {p_COUNT_LESS_ONE : Addr} {dd_COUNT_LESS_ONE : Option Addr} {n_COUNT_LESS_ONE : Nat} {sl_COUNT_LESS_ONE : Array (Option Value)} {t_COUNT_LESS_ONE_0 t_COUNT_LESS_ONE_1 : Tok} (v_COUNT_LESS_ONE : PySem.W.nsIn K mainGlobals "COUNT_LESS_ONE" = some (some (.ref p_COUNT_LESS_ONE))) (w_COUNT_LESS_ONE : K.lookup p_COUNT_LESS_ONE = some ⟨.type "tuple", dd_COUNT_LESS_ONE, .seq #[(Value.int 24 t_COUNT_LESS_ONE_0), (Value.int 4 t_COUNT_LESS_ONE_1)] n_COUNT_LESS_ONE, sl_COUNT_LESS_ONE⟩)
    {p_FIRST : Addr} {dd_FIRST : Option Addr} {n_FIRST : Nat} {sl_FIRST : Array (Option Value)} {t_FIRST_0 t_FIRST_1 : Tok} (v_FIRST : PySem.W.nsIn K mainGlobals "FIRST" = some (some (.ref p_FIRST))) (w_FIRST : K.lookup p_FIRST = some ⟨.type "tuple", dd_FIRST, .seq #[(Value.int 12 t_FIRST_0), (Value.int 12 t_FIRST_1)] n_FIRST, sl_FIRST⟩)
    {t_GATE : Tok} (v_GATE : PySem.W.nsIn K mainGlobals "GATE" = some (some (.int 2 t_GATE)))
    {p_KIND : Addr} {dd_KIND : Option Addr} {n_KIND : Nat} {sl_KIND : Array (Option Value)} {t_KIND_0 t_KIND_1 : Tok} (v_KIND : PySem.W.nsIn K mainGlobals "KIND" = some (some (.ref p_KIND))) (w_KIND : K.lookup p_KIND = some ⟨.type "tuple", dd_KIND, .seq #[(Value.int 41 t_KIND_0), (Value.int 4 t_KIND_1)] n_KIND, sl_KIND⟩)
    {t_NOT_SEALED : Tok} (v_NOT_SEALED : PySem.W.nsIn K mainGlobals "NOT_SEALED" = some (some (.int 0 t_NOT_SEALED)))
    {p_RIGHTS_BITS : Addr} {dd_RIGHTS_BITS : Option Addr} {n_RIGHTS_BITS : Nat} {sl_RIGHTS_BITS : Array (Option Value)} {t_RIGHTS_BITS_0 t_RIGHTS_BITS_1 : Tok} (v_RIGHTS_BITS : PySem.W.nsIn K mainGlobals "RIGHTS_BITS" = some (some (.ref p_RIGHTS_BITS))) (w_RIGHTS_BITS : K.lookup p_RIGHTS_BITS = some ⟨.type "tuple", dd_RIGHTS_BITS, .seq #[(Value.int 32 t_RIGHTS_BITS_0), (Value.int 9 t_RIGHTS_BITS_1)] n_RIGHTS_BITS, sl_RIGHTS_BITS⟩)
    {p_STEP : Addr} {dd_STEP : Option Addr} {n_STEP : Nat} {sl_STEP : Array (Option Value)} {t_STEP_0 t_STEP_1 : Tok} (v_STEP : PySem.W.nsIn K mainGlobals "STEP" = some (some (.ref p_STEP))) (w_STEP : K.lookup p_STEP = some ⟨.type "tuple", dd_STEP, .seq #[(Value.int 28 t_STEP_0), (Value.int 4 t_STEP_1)] n_STEP, sl_STEP⟩)
    : ∃ fd : FuncData, (∀ (s : Shared) (v : Value), BindsTo s fd ⟨[v], []⟩ [("_law_script", v)]) ∧ ∀ base : Heap, K.In base → base.Ns mainGlobals mg → FnOk l.prog w K mg base CX0 5 fa fd ["_law_script"] (sp_law K) := by
  have e := hfa.symm.trans (PySem.W.mg_of X G a15)
  cases e
  have F0 := fun_mk (st := s_field) l0 c0 k0
  have F1 := fun_mk (st := s_bounds_in) l1 c1 k1
  have F2 := fun_mk (st := s__has_bounds) l2 c2 k2
  have F3 := fun_mk (st := s_lies_within) l3 c3 k3
  have F4 := fun_mk (st := s__law_take) l4 c4 k4
  have F5 := fun_mk (st := s__law_pool) l5 c5 k5
  have F6 := fun_mk (st := s__law_least) l6 c6 k6
  have F7 := fun_mk (st := s__law_fields) l7 c7 k7
  have F8 := fun_mk (st := s__law_made) l8 c8 k8
  have F9 := fun_mk (st := s__law_bounds) l9 c9 k9
  have F10 := fun_mk (st := s__law_rights) l10 c10 k10
  have F11 := fun_mk (st := s__law_word) l11 c11 k11
  have F12 := fun_mk (st := s__law_marked) l12 c12 k12
  have F13 := fun_mk (st := s__law_less) l13 c13 k13
  have F14 := fun_mk (st := s__law_within) l14 c14 k14
  have F15 := fun_mk (st := s_law) l15 c15 k15
  have T : Txt K mg := ⟨PySem.W.mg_none_of X G z_abs, PySem.W.mg_none_of X G z_bool, PySem.W.mg_none_of X G z_enumerate, PySem.W.mg_none_of X G z_int, PySem.W.mg_none_of X G z_isinstance, PySem.W.mg_none_of X G z_len, PySem.W.mg_none_of X G z_max, PySem.W.mg_none_of X G z_min, PySem.W.mg_none_of X G z_range, PySem.W.mg_none_of X G z_sum, ⟨_, PySem.W.mg_of X G v_COUNT_LESS_ONE, fun H => .inr ⟨_, _, _, w_COUNT_LESS_ONE, rfl, rfl, by show 2 ≤ sizeLine; decide, .cons ⟨_, rfl⟩ (.cons ⟨_, rfl⟩ (.nil))⟩⟩, ⟨_, PySem.W.mg_of X G v_FIRST, fun H => .inr ⟨_, _, _, w_FIRST, rfl, rfl, by show 2 ≤ sizeLine; decide, .cons ⟨_, rfl⟩ (.cons ⟨_, rfl⟩ (.nil))⟩⟩, ⟨_, PySem.W.mg_of X G v_GATE⟩, ⟨_, PySem.W.mg_of X G v_KIND, fun H => .inr ⟨_, _, _, w_KIND, rfl, rfl, by show 2 ≤ sizeLine; decide, .cons ⟨_, rfl⟩ (.cons ⟨_, rfl⟩ (.nil))⟩⟩, ⟨_, PySem.W.mg_of X G v_NOT_SEALED⟩, ⟨_, PySem.W.mg_of X G v_RIGHTS_BITS, fun H => .inr ⟨_, _, _, w_RIGHTS_BITS, rfl, rfl, by show 2 ≤ sizeLine; decide, .cons ⟨_, rfl⟩ (.cons ⟨_, rfl⟩ (.nil))⟩⟩, ⟨_, PySem.W.mg_of X G v_STEP, fun H => .inr ⟨_, _, _, w_STEP, rfl, rfl, by show 2 ≤ sizeLine; decide, .cons ⟨_, rfl⟩ (.cons ⟨_, rfl⟩ (.nil))⟩⟩⟩
  refine ⟨PySem.W.fnOf "law" "law" (defArgs s_law) (defBody s_law) (defScope s_law) .none kV15 dc15 pm15 an15 cd15 ct15, fun s v => .of_eq rfl, fun base _ _ => ?_⟩
  have C_field : Cal l.prog w K mg base "field" 1 ["bits", "place"] (sp_field K) := ⟨_, _, ok_field F0 T, PySem.W.mg_of X G a0, F0.kp, F0.binds fun _ _ _ _ _ _ us hl => match us, hl with | [_, _], _ => rfl⟩
  have C_bounds_in : Cal l.prog w K mg base "bounds_in" 2 ["bits"] (sp_bounds_in K) := ⟨_, _, ok_bounds_in F1 T C_field, PySem.W.mg_of X G a1, F1.kp, F1.binds fun _ _ _ _ _ _ us hl => match us, hl with | [_], _ => rfl⟩
  have C__has_bounds : Cal l.prog w K mg base "_has_bounds" 3 ["word", "bounds"] (sp__has_bounds K) := ⟨_, _, ok__has_bounds F2 T C_bounds_in, PySem.W.mg_of X G a2, F2.kp, F2.binds fun _ _ _ _ _ _ us hl => match us, hl with | [_, _], _ => rfl⟩
  have C_lies_within : Cal l.prog w K mg base "lies_within" 4 ["one", "other"] (sp_lies_within K) := ⟨_, _, ok_lies_within F3 T C_field C_bounds_in C__has_bounds, PySem.W.mg_of X G a3, F3.kp, F3.binds fun _ _ _ _ _ _ us hl => match us, hl with | [_, _], _ => rfl⟩
  have C__law_take : Cal l.prog w K mg base "_law_take" 1 ["_law_pool_here", "_law_many"] (sp__law_take K) := ⟨_, _, ok__law_take F4 T, PySem.W.mg_of X G a4, F4.kp, F4.binds fun _ _ _ _ _ _ us hl => match us, hl with | [_, _], _ => rfl⟩
  have C__law_pool : Cal l.prog w K mg base "_law_pool" 1 ["_law_script", "_law_k"] (sp__law_pool K) := ⟨_, _, ok__law_pool F5 T, PySem.W.mg_of X G a5, F5.kp, F5.binds fun _ _ _ _ _ _ us hl => match us, hl with | [_, _], _ => rfl⟩
  have C__law_least : Cal l.prog w K mg base "_law_least" 1 ["_law_low", "_law_high"] (sp__law_least K) := ⟨_, _, ok__law_least F6 T, PySem.W.mg_of X G a6, F6.kp, F6.binds fun _ _ _ _ _ _ us hl => match us, hl with | [_, _], _ => rfl⟩
  have C__law_fields : Cal l.prog w K mg base "_law_fields" 1 ["_law_word_here"] (sp__law_fields K) := ⟨_, _, ok__law_fields F7 T, PySem.W.mg_of X G a7, F7.kp, F7.binds fun _ _ _ _ _ _ us hl => match us, hl with | [_], _ => rfl⟩
  have C__law_made : Cal l.prog w K mg base "_law_made" 2 ["_law_low", "_law_high", "_law_at", "_law_rights_here", "_law_kind"] (sp__law_made K) := ⟨_, _, ok__law_made F8 T C__law_least, PySem.W.mg_of X G a8, F8.kp, F8.binds fun _ _ _ _ _ _ us hl => match us, hl with | [_, _, _, _, _], _ => rfl⟩
  have C__law_bounds : Cal l.prog w K mg base "_law_bounds" 2 ["_law_pool_here"] (sp__law_bounds K) := ⟨_, _, ok__law_bounds F9 T C__law_take C__law_least, PySem.W.mg_of X G a9, F9.kp, F9.binds fun _ _ _ _ _ _ us hl => match us, hl with | [_], _ => rfl⟩
  have C__law_rights : Cal l.prog w K mg base "_law_rights" 2 ["_law_pool_here"] (sp__law_rights K) := ⟨_, _, ok__law_rights F10 T C__law_take, PySem.W.mg_of X G a10, F10.kp, F10.binds fun _ _ _ _ _ _ us hl => match us, hl with | [_], _ => rfl⟩
  have C__law_word : Cal l.prog w K mg base "_law_word" 3 ["_law_pool_here"] (sp__law_word K) := ⟨_, _, ok__law_word F11 T C__law_take C__law_made C__law_bounds C__law_rights, PySem.W.mg_of X G a11, F11.kp, F11.binds fun _ _ _ _ _ _ us hl => match us, hl with | [_], _ => rfl⟩
  have C__law_marked : Cal l.prog w K mg base "_law_marked" 4 ["_law_pool_here"] (sp__law_marked K) := ⟨_, _, ok__law_marked F12 T C__law_made C__law_word, PySem.W.mg_of X G a12, F12.kp, F12.binds fun _ _ _ _ _ _ us hl => match us, hl with | [_], _ => rfl⟩
  have C__law_less : Cal l.prog w K mg base "_law_less" 3 ["_law_pool_here", "_law_word_here"] (sp__law_less K) := ⟨_, _, ok__law_less F13 T C__law_take C__law_least C__law_fields C__law_made, PySem.W.mg_of X G a13, F13.kp, F13.binds fun _ _ _ _ _ _ us hl => match us, hl with | [_, _], _ => rfl⟩
  have C__law_within : Cal l.prog w K mg base "_law_within" 2 ["_law_one", "_law_other"] (sp__law_within K) := ⟨_, _, ok__law_within F14 T C__law_fields, PySem.W.mg_of X G a14, F14.kp, F14.binds fun _ _ _ _ _ _ us hl => match us, hl with | [_, _], _ => rfl⟩
  exact ok_law F15 T C_lies_within C__law_pool C__law_marked C__law_less C__law_within
end My
open PySem PySem.W PyProof.Rows
set_option maxRecDepth 100000 in
set_option maxHeartbeats 0 in
theorem PySem.Challenge.cw_sealedreach_k11_words_within_words_holds : PySem.Challenge.rw_sealedreach_k11_words_within_words.Holds := by
  w_on; o_law; k_head; (case hw => w_witness2)
  k_fill
  refine L2.walk_of (l := PySem.Challenge.rw_sealedreach_k11_words_within_words) (n := 63) (k := 5) (x := "_law_script") (CX := fun _ => L2.CX0) (sp := fun w => My.sp_law _) rfl (by decide) rfl ⟨rfl, by decide, by decide⟩ (fun w h Y => PySem.W.kIn_of Y) ?F (fun _ _ a ns hl _ hS => ⟨a, ns, rfl, hS, hl, fun _ => rfl⟩) (fun _ _ _ _ _ h => h)
  case F =>
    intro w mg fa h KX G hmg
    refine' My.all_mk KX G hmg ?a0 ?l0 ?c0 ?k0 ?a1 ?l1 ?c1 ?k1 ?a2 ?l2 ?c2 ?k2 ?a3 ?l3 ?c3 ?k3 ?a4 ?l4 ?c4 ?k4 ?a5 ?l5 ?c5 ?k5 ?a6 ?l6 ?c6 ?k6 ?a7 ?l7 ?c7 ?k7 ?a8 ?l8 ?c8 ?k8 ?a9 ?l9 ?c9 ?k9 ?a10 ?l10 ?c10 ?k10 ?a11 ?l11 ?c11 ?k11 ?a12 ?l12 ?c12 ?k12 ?a13 ?l13 ?c13 ?k13 ?a14 ?l14 ?c14 ?k14 ?a15 ?l15 ?c15 ?k15 ?z_abs ?z_bool ?z_enumerate ?z_int ?z_isinstance ?z_len ?z_max ?z_min ?z_range ?z_sum ?v_COUNT_LESS_ONE ?w_COUNT_LESS_ONE ?v_FIRST ?w_FIRST ?v_GATE ?v_KIND ?w_KIND ?v_NOT_SEALED ?v_RIGHTS_BITS ?w_RIGHTS_BITS ?v_STEP ?w_STEP
    (case a0 => k_is)
    (case l0 => k_is)
    (case c0 => k_is)
    (case k0 => k_is)
    (case a1 => k_is)
    (case l1 => k_is)
    (case c1 => k_is)
    (case k1 => k_is)
    (case a2 => k_is)
    (case l2 => k_is)
    (case c2 => k_is)
    (case k2 => k_is)
    (case a3 => k_is)
    (case l3 => k_is)
    (case c3 => k_is)
    (case k3 => k_is)
    (case a4 => k_is)
    (case l4 => k_is)
    (case c4 => k_is)
    (case k4 => k_is)
    (case a5 => k_is)
    (case l5 => k_is)
    (case c5 => k_is)
    (case k5 => k_is)
    (case a6 => k_is)
    (case l6 => k_is)
    (case c6 => k_is)
    (case k6 => k_is)
    (case a7 => k_is)
    (case l7 => k_is)
    (case c7 => k_is)
    (case k7 => k_is)
    (case a8 => k_is)
    (case l8 => k_is)
    (case c8 => k_is)
    (case k8 => k_is)
    (case a9 => k_is)
    (case l9 => k_is)
    (case c9 => k_is)
    (case k9 => k_is)
    (case a10 => k_is)
    (case l10 => k_is)
    (case c10 => k_is)
    (case k10 => k_is)
    (case a11 => k_is)
    (case l11 => k_is)
    (case c11 => k_is)
    (case k11 => k_is)
    (case a12 => k_is)
    (case l12 => k_is)
    (case c12 => k_is)
    (case k12 => k_is)
    (case a13 => k_is)
    (case l13 => k_is)
    (case c13 => k_is)
    (case k13 => k_is)
    (case a14 => k_is)
    (case l14 => k_is)
    (case c14 => k_is)
    (case k14 => k_is)
    (case a15 => k_is)
    (case l15 => k_is)
    (case c15 => k_is)
    (case k15 => k_is)
    (case z_abs => k_is)
    (case z_bool => k_is)
    (case z_enumerate => k_is)
    (case z_int => k_is)
    (case z_isinstance => k_is)
    (case z_len => k_is)
    (case z_max => k_is)
    (case z_min => k_is)
    (case z_range => k_is)
    (case z_sum => k_is)
    (case v_COUNT_LESS_ONE => k_is)
    (case w_COUNT_LESS_ONE => k_is)
    (case v_FIRST => k_is)
    (case w_FIRST => k_is)
    (case v_GATE => k_is)
    (case v_KIND => k_is)
    (case w_KIND => k_is)
    (case v_NOT_SEALED => k_is)
    (case v_RIGHTS_BITS => k_is)
    (case w_RIGHTS_BITS => k_is)
    (case v_STEP => k_is)
    (case w_STEP => k_is)
