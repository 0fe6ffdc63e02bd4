import PyProof.Rows.All
import Wide.All
import OpenK.AllK
import Wide.FinOn
import HandS.ForMost
import HandS.IsInst
import HandS.Conv
import HandS.TupLe
import HandS.Walk
import HandS.Zip
import HandS.Defaults
import PySem.Challenge.RW_sealedreach_k09_whole_bounds_within_boun
set_option Elab.async false
set_option linter.all false
set_option maxRecDepth 100000
set_option maxHeartbeats 4000000
namespace My
open PySem PySem.Spec PyProof.Rows L2
/-! ### calls of a def by its name alone -/
structure Cal (P : Program) (w : World) (K : PySem.W.Frag) (mg : Str → Option Value) (base : Heap) (x : Str) (k : Nat) (ps : List Str) (sp : Sp) : Prop where
  ex : ∃ (f : Addr) (fd : FuncData), FnOk P w K mg base CX0 k f fd ps sp ∧ mg x = some (.ref f) ∧ PySem.W.keepIn K (.ref f) = true ∧ Binds K fd ps []
theorem pe_cal {X : Cx} {x : Str} {k : Nat} {ps : List Str} {sp : Sp} {e : Expr} {es : List Expr} {t : TA} {p pos : Pos} (C : Cal X.prog X.w X.K X.mg X.base x k ps sp) (hr : Room k X.A)
    (ha : PA X (e :: es) t) (hg : Gl X x := by rfl) (hdb : (x == ("__debug__" : Str)) = false := by decide) (he : starEach (e :: es) X.env = (false, eval e X.env) :: starEach es X.env := by rfl) (hpl : (backTo pos (starEach es X.env)).any (·.1) = false := by rfl) :
    PE X (.Call (.Name x p) (e :: es) [] pos) (tCall sp [] E0 t) := by
  obtain ⟨f, fd, G, g, kp, b⟩ := C.ex
  exact pe_call G hr hg g kp b .nil pass0 ha hdb he hpl
/-- .. with defaults of its keyword-only names -/
structure CalD (P : Program) (w : World) (K : PySem.W.Frag) (mg : Str → Option Value) (base : Heap) (x : Str) (k : Nat) (ps : List Str) (dvs : List V) (sp : Sp) : Prop where
  ex : ∃ (f : Addr) (fd : FuncData) (ds : List Value), FnOk P w K mg base CX0 k f fd ps sp ∧ mg x = some (.ref f) ∧ PySem.W.keepIn K (.ref f) = true ∧ Vals dvs ds ∧ Binds K fd ps ds
theorem pe_calD {X : Cx} {x : Str} {k : Nat} {ps : List Str} {dvs : List V} {sp : Sp} {e : Expr} {es : List Expr} {t : TA} {p pos : Pos} (C : CalD X.prog X.w X.K X.mg X.base x k ps dvs sp) (hr : Room k X.A)
    (ha : PA X (e :: es) t) (hg : Gl X x := by rfl) (hdb : (x == ("__debug__" : Str)) = false := by decide) (he : starEach (e :: es) X.env = (false, eval e X.env) :: starEach es X.env := by rfl) (hpl : (backTo pos (starEach es X.env)).any (·.1) = false := by rfl) :
    PE X (.Call (.Name x p) (e :: es) [] pos) (tCall sp dvs E0 t) := by
  obtain ⟨f, fd, ds, G, g, kp, hd, b⟩ := C.ex
  exact pe_call G hr hg g kp b hd pass0 ha hdb he hpl
/-- .. called with one place and its keyword-only names -/
structure CalK (P : Program) (w : World) (K : PySem.W.Frag) (mg : Str → Option Value) (base : Heap) (x : Str) (k : Nat) (ps : List Str) (n : Nat) (ks : List Str) (sp : Sp) : Prop where
  ex : ∃ (f : Addr) (fd : FuncData) (g : List Value → List Value → List Value), FnOk P w K mg base CX0 k f fd ps sp ∧ mg x = some (.ref f) ∧ PySem.W.keepIn K (.ref f) = true ∧ KBn K fd ps n ks g (fun vs zs => vs ++ zs)
theorem pe_calK {X : Cx} {x : Str} {k n : Nat} {ps ks : List Str} {sp : Sp} {e : Expr} {es : List Expr} {kws : List Keyword} {t tk : TA} {p pos : Pos} (C : CalK X.prog X.w X.K X.mg X.base x k ps n ks sp) (hr : Room k X.A)
    (ha : PA X (e :: es) t) (hkw : PK X kws tk) (hg : Gl X x := by rfl) (hall : (backToKw pos (keywordEach kws X.env)).all (·.1.isSome) = true := by rfl) (hks : (backToKw pos (keywordEach kws X.env)).filterMap (·.1) = ks := by rfl)
    (hdb : (x == ("__debug__" : Str)) = false := by decide) (he : starEach (e :: es) X.env = (false, eval e X.env) :: starEach es X.env := by rfl)
    (hpl : ((backTo pos (starEach (e :: es) X.env)).any (·.1) || (backToKw pos (keywordEach kws X.env)).any (·.1.isNone)) = false := by rfl) :
    PE X (.Call (.Name x p) (e :: es) kws pos) (tCallN n ks.length sp (fun vs zs => vs ++ zs) E0 t tk) := by
  obtain ⟨f, fd, g, G, gm, kp, b⟩ := C.ex
  exact pe_callN G hr hg gm kp b pass0 ha hkw hall hks hdb he hpl
/-! ### tests -/
theorem ifnd {p : Prop} [Decidable p] {A B : Prop} (h1 : ¬ p → A) (h2 : p → B) : if (!decide p) = true then A else B := by
  by_cases h : p
  · rw [decide_eq_true h]; exact h2 h
  · rw [decide_eq_false h]; exact h1 h
theorem ifnb {c : Bool} {A B : Prop} (h1 : c = false → A) (h2 : c = true → B) : if (!c) = true then A else B := by
  cases c with
  | true => exact h2 rfl
  | false => exact h1 rfl
theorem ifd {p : Prop} [Decidable p] {A B : Prop} (h1 : p → A) (h2 : ¬ p → B) : if decide p = true then A else B := by
  by_cases h : p
  · rw [if_pos (decide_eq_true h)]; exact h1 h
  · rw [decide_eq_false h, if_neg Bool.false_ne_true]; exact h2 h
theorem ifP {p : Prop} [Decidable p] {A B : Prop} (h : p) (h1 : A) : if decide p = true then A else B := by
  rw [if_pos (decide_eq_true h)]; exact h1
theorem ifN {p : Prop} [Decidable p] {A B : Prop} (h : ¬ p) (h1 : B) : if decide p = true then A else B := by
  rw [decide_eq_false h, if_neg Bool.false_ne_true]; exact h1
theorem ifb {c : Bool} {A B : Prop} (h1 : c = true → A) (h2 : c = false → B) : if c = true then A else B := by
  cases c with
  | true => rw [if_pos rfl]; exact h1 rfl
  | false => rw [if_neg Bool.false_ne_true]; exact h2 rfl
theorem ifbT {c : Bool} {A B : Prop} (h : c = true) (h1 : A) : if c = true then A else B := by rw [if_pos h]; exact h1
theorem ifbF {c : Bool} {A B : Prop} (h : c = false) (h1 : B) : if c = true then A else B := by rw [h, if_neg Bool.false_ne_true]; exact h1
/-! ### heaps -/
theorem viaS {H H' : Hp} {b : Addr} {o : HO} (s : Same H H') (h : H b = some o) : H' b = some o := s b o h
theorem same_new {H : Hp} {p : Addr} {o : HO} (h : H p = none) : Same H (upd H p o) := fun b x e => by
  rw [upd_ne (ne_of_none e h)]; exact e
/-- all but what stands at a is as it was -/
def But (a : Addr) (H H' : Hp) : Prop := ∀ b o, b ≠ a → H b = some o → H' b = some o
theorem viaB {H H' : Hp} {a b : Addr} {o : HO} (s : But a H H') (n : b ≠ a) (h : H b = some o) : H' b = some o := s b o n h
theorem But.refl (a : Addr) (H : Hp) : But a H H := fun _ _ _ h => h
theorem But.of {a : Addr} {H H' : Hp} (s : Same H H') : But a H H' := fun b o _ h => s b o h
theorem But.trans {a : Addr} {H H1 H2 : Hp} (s : But a H H1) (t : But a H1 H2) : But a H H2 := fun b o n h => t b o n (s b o n h)
theorem But.upd {a : Addr} {H H' : Hp} {o : HO} (s : But a H H') : But a H (upd H' a o) := fun b x n h => by
  rw [upd_ne n]; exact s b x n h
theorem But.new {a p : Addr} {H H' : Hp} {o : HO} (s : But a H H') (n : H' p = none) : But a H (L2.upd H' p o) := fun b x nb h => by
  have e := s b x nb h
  rw [upd_ne (ne_of_none e n)]; exact e
theorem sameN {p : Addr} {H H' : Hp} {o : HO} (s : Same H H') (n : H' p = none) : Same H (L2.upd H' p o) := fun b x h => by
  have e := s b x h
  rw [upd_ne (ne_of_none e n)]; exact e
theorem updK {H : Hp} {a b : Addr} {o u : HO} (n : b ≠ a) (h : H b = some u) : L2.upd H a o b = some u := by rw [upd_ne n]; exact h
/-- the pool of a law: a list of two numbers, the second small -/
def Pool (H : Hp) (a : Addr) (x y : Int) : Prop := H a = some (.lst [.int x, .int y]) ∧ 0 ≤ x ∧ 0 ≤ y ∧ y < 2147483647

local macro_rules | `(tactic| walk_at "ne") => `(tactic| first | assumption | (apply Ne.symm; assumption) | (refine ne_of_none ?_ (by assumption); walk_at "at") | (apply Ne.symm; refine ne_of_none ?_ (by assumption); walk_at "at"))
local macro_rules | `(tactic| walk_at "at") => `(tactic| first | assumption | exact upd_same | (refine updK ?n ?h; (case n => walk_at "ne"); (case h => walk_at "at")) | (refine viaS (by assumption) ?_; walk_at "at") | (refine viaB (by assumption) ?n ?h; (case n => walk_at "ne"); (case h => walk_at "at")))
local macro_rules | `(tactic| walk_at "side") => `(tactic| first | rfl | omega | decide | (refine ⟨by omega, by omega, ?_⟩; first | decide | omega) | (refine Or.inl ⟨by omega, by omega⟩) | (refine Or.inr ⟨by omega, by omega⟩) | exact ⟨by omega, by omega⟩)
/-- one step of a reading whose answers are plain -/
local macro_rules | `(tactic| walk_at "g1") => `(tactic| first | refine ⟨_, rfl, ?_⟩ | refine ⟨_, _, rfl, rfl, ?_⟩ | refine ⟨by walk_at "side", ?_⟩)
local macro_rules | `(tactic| walk_at "g") => `(tactic| repeat walk_at "g1")
theorem sz {n : Nat} (h : n ≤ 1000) : n ≤ sizeLine := Nat.le_of_lt (small1000 h)
theorem Pool.new {H : Hp} {p q : Addr} {x y : Int} {o : HO} (h : Pool H p x y) (n : H q = none) : Pool (upd H q o) p x y := ⟨by rw [upd_ne (ne_of_none h.1 n)]; exact h.1, h.2⟩
def rep (c L : Int) : Int := if (if c < L then c else L) > 1 then (if c < L then c else L) else 1
theorem rep_le {c L : Int} (h : 1 ≤ c) (h2 : c ≤ 63) : 1 ≤ rep c L ∧ rep c L ≤ c := by
  unfold rep
  by_cases d : c < L
  · simp only [if_pos d]; split <;> omega
  · simp only [if_neg d]; split <;> omega
theorem rep_lo {c L : Int} (h : 1 ≤ c) (h2 : c ≤ 63) : -(2 ^ 62) ≤ rep c L := by have := (rep_le (L := L) h h2).1; omega
theorem rep_hi {c L : Int} (h : 1 ≤ c) (h2 : c ≤ 63) : rep c L < 2 ^ 62 := by have := (rep_le (L := L) h h2).2; omega
theorem rep_i {c L : Int} {i : Nat} (h : 1 ≤ c) (h2 : c ≤ 63) (k : i < (rep c L).toNat) : i ≤ 63 := by have := (rep_le (L := L) h h2).2; omega
/-- a pool's own changes leave what stood ahead of it -/
theorem sameP {H H1 H2 H3 : Hp} {p : Addr} (s : Same H H1) (s1 : Same H1 H2) (n : H1 p = none) (b : But p H2 H3) : Same H H3 := fun c o e =>
  b c o (ne_of_none (s c o e) n) (s1 _ _ (s _ _ e))
theorem pick {xs : List V} {r : Int} (P : V → Prop) (h0 : 0 ≤ r) (h1 : r < (xs.length : Int)) (hP : ∀ v ∈ xs, P v) : ∃ v, atI xs r = some v ∧ P v := by
  obtain ⟨j, rfl⟩ : ∃ j : Nat, r = (j : Int) := ⟨r.toNat, by omega⟩
  have hj : j < xs.length := by omega
  exact ⟨xs[j], atI_nat (List.getElem?_eq_getElem hj), hP _ (List.getElem_mem hj)⟩
theorem cut63 {ns : List Int} (h : ns.length ≤ 63) : cutV (ns.map V.int) none (some 63) = ns.map V.int := by
  unfold cutV
  rw [show HT.sIx (ns.map V.int).length (ns.map V.int).length (some 63) = min 63 (ns.map V.int).length from HT.sIx_nat _ _ 63, HT.sIx_none]
  rw [List.drop_zero, Nat.sub_zero, List.length_map, Nat.min_eq_right h]
  exact List.take_of_length_le (by simp)
theorem qb {Q : VK} {H : Hp} {b b' : Bool} (q : Q (.bl b') H) (e : b = b') : Q (.bl b) H := e ▸ q
theorem qi {Q : VK} {H : Hp} {i j : Int} (q : Q (.int j) H) (e : i = j) : Q (.int i) H := e ▸ q
/-! ### enumerate over a text -/
def Ies (x : Str) : It := ⟨fun i _ => i < x.cps.size, fun i H v H' => ∃ T c, v = .ref T ∧ H T = none ∧ H' = upd H T (.tup [.int (i : Nat), .str ⟨#[c]⟩]) ∧ x.cps[i]? = some c, fun i _ => i = x.cps.size⟩
theorem turn_enumS {P : Program} {w : World} {K : PySem.W.Frag} {elts : List Expr} {kk : Nat} {tpos : Pos} (e it : Addr) (x : Str) (t : Tok) :
    Turn P w K (.Tuple elts kk tpos) (Ies x) [e, it] e (fun i h => (∃ old, IsEnum h e it ((i : Nat) : Int) old) ∧ h.IsStrIter it (strIterType x) x t i ∧ e ≠ it) where
  mem := by simp
  obj := fun i h st b hb => by
    obtain ⟨⟨old, he⟩, ⟨o, ho, hc, hd⟩, _⟩ := st
    have e' : b = e ∨ b = it := by simpa using hb
    rcases e' with z | z
    · rw [z]; exact ⟨_, he, fun v q => nomatch q⟩
    · rw [z]; exact ⟨o, ho, fun v q => by rw [hd] at q; cases q⟩
  keep := fun i h h' st k => let ⟨⟨old, he⟩, ⟨o, ho, r⟩, hne⟩ := st; ⟨⟨old, k e (by simp) _ he⟩, ⟨o, k it (by simp) o ho, r⟩, hne⟩
  item := by
    intro X hP hw hK hc i pins s σ H E I hf st hg
    subst hP hw hK
    obtain ⟨⟨old, he⟩, hit, hne⟩ := st
    have hel : e < s.heap.objs.size := Heap.lt_size he
    have hil : it < s.heap.objs.size := by obtain ⟨_, q, _⟩ := hit; exact Heap.lt_size q
    have hd : X.A.in1.handled = none := I.ok.hd hc
    have D : Draws X.prog X.w X.A.in1 it [it] x.cps.size (fun i v => ∃ c u, x.cps[i]? = some c ∧ v = .str ⟨#[c]⟩ u) (fun i h => h.IsStrIter it (strIterType x) x t i) := by
      unfold strIterType
      split
      · exact Draws.strAscii hd it x t
      · exact Draws.strWide hd it x t
    refine wpAny_pyNext_enum_itemD D he hit hg hne (by simpa using hne) fun v h' tk hv ho hit' hT hsz hk => ?_
    obtain ⟨c, u, hcx, rfl⟩ := hv
    refine ⟨_, rfl, wpAny_letOwnedTupleGo_enum (s := { s with heap := h', toks := tk + 1 }) ho fun h'' he' sb => ?_⟩
    have hT2 : h''.get? s.heap.objs.size = some { cls := .type "tuple", data := .seq #[.int i tk, .str ⟨#[c]⟩ u] } := (sb.2 _ (Nat.ne_of_gt hel)).trans hT
    have new : ObjOk X.prog X.w (upd H s.heap.objs.size (.tup [.int (i : Nat), .str ⟨#[c]⟩])) h'' s.heap.objs.size (.tup [.int (i : Nat), .str ⟨#[c]⟩]) :=
      ⟨by show 2 ≤ sizeLine; decide, [.int i tk, .str ⟨#[c]⟩ u], .cons ⟨_, rfl⟩ (.cons ⟨_, rfl⟩ .nil), ⟨_, hT2, rfl, _, rfl⟩⟩
    have I1 : Inv X pins σ (upd H s.heap.objs.size (.tup [.int (i : Nat), .str ⟨#[c]⟩])) { s with heap := h'', toks := tk + 1 } :=
      I.turnedNew (ch := [e, it]) (fun b ob hb q => (sb.2 b (fun z => hb (by simp [z]))).trans (hk b ob (fun z => hb (by simp [z])) (fun z => hb (by simp [z])) q)) hf (Nat.le_refl _) new
    refine ⟨.ref s.heap.objs.size, _, I1, rfl, ⟨_, c, rfl, I.hok.fresh (Nat.le_refl _), rfl, hcx⟩, ⟨⟨.str ⟨#[c]⟩ u, ?_⟩, ?_, hne⟩, fun b hb => ?_⟩
    · have e1 : ((i + 1 : Nat) : Int) = (i : Int) + 1 := by omega
      rw [e1]; exact he'
    · obtain ⟨o2, q2, r2⟩ := hit'
      exact ⟨o2, (sb.2 it (Ne.symm hne)).trans q2, r2⟩
    · have hb' : b < s.heap.objs.size := by
        have e' : b = e ∨ b = it := by simpa using hb
        rcases e' with z | z
        · rw [z]; exact hel
        · rw [z]; exact hil
      rw [upd_ne (Nat.ne_of_lt hb')]
      exact (hf b hb).1
  done := by
    intro X hP hw hK hc i pins s σ H E I hf st hg
    subst hP hw hK
    obtain ⟨⟨old, he⟩, hit, hne⟩ := st
    have hg' : i = x.cps.size := hg
    subst hg'
    have hd : X.A.in1.handled = none := I.ok.hd hc
    have D : Draws X.prog X.w X.A.in1 it [it] x.cps.size (fun i v => ∃ c u, x.cps[i]? = some c ∧ v = .str ⟨#[c]⟩ u) (fun i h => h.IsStrIter it (strIterType x) x t i) := by
      unfold strIterType
      split
      · exact Draws.strAscii hd it x t
      · exact Draws.strWide hd it x t
    obtain ⟨f0, f1, f2, f3, f4, f5⟩ := hf it (by simp)
    exact wpAny_pyNext_enum_endD D he hit fun h' eb => ⟨rfl, I.turned (t' := s.toks) (fun b o hb q => eb b o hb q) f0 f1 f3 f4 f5⟩
  self := fun A i s Q E st h => let ⟨⟨_, he⟩, _⟩ := st; wpAny_pyIter_enum he h
def iEnumS (ta : TA) : TI := fun σ H R => ta σ H fun vs H1 => ∃ x : Str, vs = [.str x] ∧ R (Ies x) H1
theorem pi_enumS {X : Cx} {e : Expr} {ta : TA} {p pos tpos : Pos} {elts : List Expr} {kk : Nat} (hg : Gl X "enumerate") (hm : X.mg "enumerate" = none) (ha : PA X [e] ta) (hs : starEach [e] X.env = [(false, eval e X.env)] := by rfl) :
    PI X (.Tuple elts kk tpos) (.Call (.Name "enumerate" p) [e] [] pos) (iEnumS ta) := by
  refine ⟨fun pins s σ H R I h => ?_⟩
  refine Call_ (ld_blt I hg hm boot_enumerate (PyProof.Rows.callWith_type1 (thn (ha.run pos pins s σ H _ I h) fun us s1 ⟨vs, H1, I1, r1, q1⟩ => ?_) hs rfl))
  obtain ⟨x, ex, q⟩ := q1
  subst ex
  cases r1 with
  | cons r rr =>
    cases rr
    obtain ⟨t, rfl⟩ := r
    refine call_enumerate_str fun h' he hit hsz hk => wpAny_pyIter_enum he ?_
    have I2 : Inv X pins σ H1 { s1 with heap := h' } := I1.kept (t' := s1.toks) hk
    refine ⟨s1.heap.objs.size + 1, [s1.heap.objs.size + 1, s1.heap.objs.size], _, _, H1, rfl, I2, turn_enumS (s1.heap.objs.size + 1) s1.heap.objs.size x t, ⟨⟨.none, he⟩, hit, Nat.succ_ne_self _⟩, fun b hb => ?_, q⟩
    have e' : b = s1.heap.objs.size + 1 ∨ b = s1.heap.objs.size := by simpa using hb
    have hle : s1.heap.objs.size ≤ b := by
      rcases e' with z | z
      · rw [z]; exact Nat.le_add_right _ _
      · rw [z]; exact Nat.le_refl _
    exact I1.fpOk hle (I1.hok.fresh hle)
theorem walk_enumS {z : Str} : Walk (Ies z) z.cps.size (fun _ => True) (YPair (fun i => some (.int (i : Nat))) (fun i => (z.cps[i]?).map fun c => .str ⟨#[c]⟩)) where
  goes := fun i H hi _ => hi
  stops := fun H _ => rfl
  yields := fun i H x H' hi _ y => by
    obtain ⟨T, c, rfl, hn, rfl, hc⟩ := y
    exact ⟨T, _, _, rfl, hn, rfl, rfl, by simp [hc]⟩
theorem walk_zipT {K : PySem.W.Frag} {a b : Addr} {xs ys : List V} {n : Nat} (hn : n = min xs.length ys.length) : Walk (RZ.ItzT K a b) n (fun H => SqT K H a xs ∧ SqT K H b ys) (YPair (fun i => xs[i]?) (fun i => ys[i]?)) where
  goes := fun i H hi h => by
    have h1 : i < xs.length := by omega
    have h2 : i < ys.length := by omega
    exact ⟨xs, ys, xs[i], ys[i], h.1, h.2, List.getElem?_eq_getElem h1, List.getElem?_eq_getElem h2⟩
  stops := fun H h => ⟨xs, ys, h.1, h.2, by omega⟩
  yields := fun i H x H' hi h y => by
    obtain ⟨T, x1, y1, rfl, hn', rfl, h1, h2⟩ := y
    exact ⟨T, x1, y1, rfl, hn', rfl, h1 xs h.1, h2 ys h.2⟩

theorem b01 (k : Bool) : -(2 ^ 64) < (if k then (1 : Int) else 0) ∧ (if k then (1 : Int) else 0) < 2 ^ 64 := by cases k <;> decide
theorem mixb (z : Int) : -(2 ^ 64) < z % 2147483647 ∧ z % 2147483647 < 2 ^ 64 := by omega
theorem sizeb (c : Int) (k : Bool) : 0 ≤ (if c < 0 then -c else c) * (if k then (1 : Int) else 0) := by
  cases k
  · simp
  · simp; split <;> omega

/-! ### the mathematics of bounds -/
def Dd (lo hi : Int) (t : Nat) : Int := (hi - 1) / 2 ^ t - lo / 2 ^ t
def StepIs (lo hi : Int) (s : Nat) : Prop := s ≤ 8 ∧ Dd lo hi s ≤ 15 ∧ ∀ t, t < s → 15 < Dd lo hi t
def Bd (lo hi : Int) : Prop := 0 ≤ lo ∧ lo < hi ∧ hi ≤ 4096
def Ex (lo hi : Int) (s : Nat) : Prop := StepIs lo hi s ∧ lo / 2 ^ s * 2 ^ s = lo ∧ ((hi - 1) / 2 ^ s + 1) * 2 ^ s = hi
theorem le8 {s : Nat} (h : s ≤ 8) : s = 0 ∨ s = 1 ∨ s = 2 ∨ s = 3 ∨ s = 4 ∨ s = 5 ∨ s = 6 ∨ s = 7 ∨ s = 8 := by omega
theorem StepIs.uniq {lo hi : Int} {s t : Nat} (h : StepIs lo hi s) (k : StepIs lo hi t) : s = t := by
  rcases Nat.lt_trichotomy s t with c | c | c
  · have := k.2.2 s c; have := h.2.1; omega
  · exact c
  · have := h.2.2 t c; have := k.2.1; omega
theorem pow_pos2 (s : Nat) : (0 : Int) < 2 ^ s := Int.pow_pos (by decide)
theorem over_eq (lo hi : Int) (s : Nat) : (hi + 1 * 2 ^ s - 1) / 2 ^ s - lo / 2 ^ s = Dd lo hi s + 1 := by
  have e : hi + 1 * 2 ^ s - 1 = (hi - 1) + 1 * 2 ^ s := by omega
  rw [e, Int.add_mul_ediv_right _ _ (Int.ne_of_gt (pow_pos2 s))]
  unfold Dd
  omega
theorem first_over (lo hi : Int) (s : Nat) : lo / 2 ^ s + (Dd lo hi s + 1) = (hi - 1) / 2 ^ s + 1 := by
  unfold Dd; omega
theorem dd8 {lo hi : Int} (b : Bd lo hi) : Dd lo hi 8 ≤ 15 := by
  obtain ⟨h1, h2, h3⟩ := b
  unfold Dd
  have e : (2 : Int) ^ 8 = 256 := by decide
  rw [e]; omega
/-- going up from nought: below s all are too many -/
theorem lt8 {lo hi : Int} {s : Nat} (b : Bd lo hi) (h : 15 < Dd lo hi s) (u : s ≤ 8) : s < 8 := by
  rcases Nat.lt_or_ge s 8 with c | c
  · exact c
  · have e : s = 8 := by omega
    subst e
    have := dd8 b
    omega
/-- what a shift asks -/
theorem p8 {s : Nat} (h : s ≤ 8) : (2 : Int) ^ s ≤ 256 := by
  rcases le8 h with e | e | e | e | e | e | e | e | e <;> subst e <;> decide
theorem na {x : Int} (h0 : 0 ≤ x) (h1 : x ≤ 100000) : x.natAbs < 2 ^ 64 := by omega
theorem div_le' {x : Int} {s : Nat} (h0 : 0 ≤ x) : 0 ≤ x / 2 ^ s ∧ x / 2 ^ s ≤ x :=
  ⟨Int.ediv_nonneg h0 (Int.le_of_lt (pow_pos2 s)), Int.ediv_le_self _ h0⟩
theorem bc {lo hi : Int} {s : Nat} (b : Bd lo hi) (h : s ≤ 8) : CPow (lo / 2 ^ s) (s : Int) := by
  have := div_le' (s := s) b.1
  have := b.2
  exact ⟨by omega, by omega, na (by omega) (by omega)⟩
theorem bc2 {lo hi : Int} {s : Nat} (b : Bd lo hi) (h : StepIs lo hi s) : CPow (lo / 2 ^ s + (Dd lo hi s + 1)) (s : Int) := by
  have h8 := h.1
  obtain ⟨b1, b2, b3⟩ := b
  have := div_le' (s := s) (x := hi - 1) (by omega)
  rw [first_over]
  exact ⟨by omega, by omega, na (by omega) (by omega)⟩
theorem dd0 (n : Int) (s : Nat) : Dd 0 n s + 1 = (n - 1) / 2 ^ s + 1 := by
  unfold Dd; rw [Int.zero_ediv]; omega
theorem bc3 {n : Int} {s : Nat} (h : StepIs 0 n s) (b : Bd 0 n) : CPow (Dd 0 n s + 1) (s : Int) := by
  have h8 := h.1
  obtain ⟨b1, b2, b3⟩ := b
  have := div_le' (s := s) (x := n - 1) (by omega)
  rw [dd0]
  exact ⟨by omega, by omega, na (by omega) (by omega)⟩
def Can (lo hi : Int) (s : Nat) : Prop := lo % 2 ^ s = 0 ∧ 9 ≤ (hi - lo) / 2 ^ s
def GH (lo hi : Int) (s : Nat) : Prop := s ≤ 8 ∧ (s = 0 ∨ Can lo hi s) ∧ ∀ t, s < t → t ≤ 8 → ¬ Can lo hi t
def mn (lo hi : Int) (s : Nat) : Int := if (hi - lo) / 2 ^ s < 16 then (hi - lo) / 2 ^ s else 16
theorem cmn {lo hi : Int} {s : Nat} (b : Bd lo hi) (h : s ≤ 8) : CPow (mn lo hi s) (s : Int) := by
  obtain ⟨b1, b2, b3⟩ := b
  have := div_le' (s := s) (x := hi - lo) (by omega)
  unfold mn
  refine ⟨by omega, by omega, na ?_ ?_⟩ <;> split <;> omega
theorem bl_int {a b : Int} : decide (V.int a = V.int b) = decide (a = b) := by
  by_cases h : a = b
  · subst h; simp
  · have : ¬ (V.int a = V.int b) := fun e => h (V.int.inj e)
    simp [h, this]
theorem t2_eqv {a b c d : Int} : PyData.eqv (.tuple [.int a, .int b]) (.tuple [.int c, .int d]) = true ↔ a = c ∧ b = d := by
  simp [PyData.eqv, PyData.eqvAll]
theorem t2_no {a b c d : Int} (e : PyData.eqv (.tuple [.int a, .int b]) (.tuple [.int c, .int d]) = false) (h1 : a = c) (h2 : b = d) : False := by
  rw [t2_eqv.mpr ⟨h1, h2⟩] at e; cases e
theorem dp2 {K : PySem.W.Frag} {H : Hp} {p : Addr} {a b : Int} (h : H p = some (.tup [.int a, .int b])) : Dp K H (.ref p) (.tuple [.int a, .int b]) :=
  .tup (.of h) (.cons (.int a) (.cons (.int b) .nil))
theorem t3_eqv {a b x c d y : Int} : PyData.eqv (.tuple [.int a, .int b, .int x]) (.tuple [.int c, .int d, .int y]) = true ↔ a = c ∧ b = d ∧ x = y := by
  simp [PyData.eqv, PyData.eqvAll]
theorem dp3 {K : PySem.W.Frag} {H : Hp} {p : Addr} {a b c : Int} (h : H p = some (.tup [.int a, .int b, .int c])) : Dp K H (.ref p) (.tuple [.int a, .int b, .int c]) :=
  .tup (.of h) (.cons (.int a) (.cons (.int b) (.cons (.int c) .nil)))

/-! ### rooms and greatest highs -/
theorem room_eq {n : Int} {s : Nat} (b : Bd 0 n) (h : s ≤ 8) (g : n ≤ 16 * 2 ^ s) (hb : ∀ t, t < s → 16 * 2 ^ t < n) : StepIs 0 n s := by
  obtain ⟨b1, b2, b3⟩ := b
  refine ⟨h, ?_, fun t ht => ?_⟩
  · unfold Dd
    rcases le8 h with e | e | e | e | e | e | e | e | e <;> subst e <;> omega
  · have := hb t ht
    unfold Dd
    have h8 : t ≤ 8 := by omega
    rcases le8 h8 with e | e | e | e | e | e | e | e | e <;> subst e <;> omega
/-- from a multiple of a step on, a room's size is told exactly -/
theorem spot_ex {n r : Int} {s : Nat} (h : StepIs 0 n s) (b : Bd 0 n) (r0 : 0 ≤ r) : Ex (r * 2 ^ s) (r * 2 ^ s + ((n - 1) / 2 ^ s + 1) * 2 ^ s) s := by
  obtain ⟨h8, h1, h2⟩ := h
  obtain ⟨b1, b2, b3⟩ := b
  have h3 : s = 0 ∨ 15 < Dd 0 n (s - 1) := by
    rcases Nat.eq_zero_or_pos s with e | e
    · exact .inl e
    · exact .inr (h2 _ (by omega))
  clear h2
  unfold Ex StepIs Dd at *
  refine ⟨⟨h8, ?_, fun t ht => ?_⟩, ?_, ?_⟩
  · rcases le8 h8 with e | e | e | e | e | e | e | e | e <;> subst e <;> simp at * <;> omega
  · have h9 : t ≤ 8 := by omega
    rcases le8 h8 with e | e | e | e | e | e | e | e | e <;> subst e <;> rcases le8 h9 with e | e | e | e | e | e | e | e | e <;> subst e <;> first | omega | (simp at *; omega)
  · rcases le8 h8 with e | e | e | e | e | e | e | e | e <;> subst e <;> simp at * <;> omega
  · rcases le8 h8 with e | e | e | e | e | e | e | e | e <;> subst e <;> simp at * <;> omega
theorem spot_bd {n r : Int} {s : Nat} (h : StepIs 0 n s) (b : Bd 0 n) (r0 : 0 ≤ r) (r1 : r < (4096 - ((n - 1) / 2 ^ s + 1) * 2 ^ s) / 2 ^ s + 1) : Bd (r * 2 ^ s) (r * 2 ^ s + ((n - 1) / 2 ^ s + 1) * 2 ^ s) := by
  obtain ⟨h8, h1, h2⟩ := h
  obtain ⟨b1, b2, b3⟩ := b
  clear h2 h1
  unfold Bd
  rcases le8 h8 with e | e | e | e | e | e | e | e | e <;> subst e <;> omega
theorem spots_ok {n : Int} {s : Nat} (h : StepIs 0 n s) (b : Bd 0 n) : 0 < (4096 - ((n - 1) / 2 ^ s + 1) * 2 ^ s) / 2 ^ s + 1 ∧ (4096 - ((n - 1) / 2 ^ s + 1) * 2 ^ s) / 2 ^ s + 1 < 5000 := by
  obtain ⟨h8, h1, h2⟩ := h
  obtain ⟨b1, b2, b3⟩ := b
  clear h2 h1
  rcases le8 h8 with e | e | e | e | e | e | e | e | e <;> subst e <;> omega
/-- what is told exactly: a multiple, up to sixteen, from nine on above step 0 -/
theorem ex_can {lo h hi : Int} {t : Nat} (b : Bd lo h) (e : Ex lo h t) (hh : h ≤ hi) : t = 0 ∧ h - lo ≤ 16 ∨ Can lo hi t ∧ h - lo ≤ 16 * 2 ^ t := by
  obtain ⟨⟨h8, h1, h2⟩, e1, e2⟩ := e
  obtain ⟨b1, b2, b3⟩ := b
  have h3 : t = 0 ∨ 15 < Dd lo h (t - 1) := by
    rcases Nat.eq_zero_or_pos t with e | e
    · exact .inl e
    · exact .inr (h2 _ (by omega))
  clear h2
  unfold Can Dd at *
  rcases le8 h8 with e | e | e | e | e | e | e | e | e <;> subst e <;> simp at * <;> omega
theorem gh_ex {lo hi : Int} {s : Nat} (b : Bd lo hi) (h : GH lo hi s) : Bd lo (lo + mn lo hi s * 2 ^ s) ∧ lo + mn lo hi s * 2 ^ s ≤ hi ∧ Ex lo (lo + mn lo hi s * 2 ^ s) s := by
  obtain ⟨h8, h1, h2⟩ := h
  obtain ⟨b1, b2, b3⟩ := b
  clear h2
  unfold Can at h1
  have hm : mn lo hi s = (hi - lo) / 2 ^ s ∧ (hi - lo) / 2 ^ s < 16 ∨ mn lo hi s = 16 ∧ 16 ≤ (hi - lo) / 2 ^ s := by
    unfold mn; split <;> omega
  generalize mn lo hi s = c at hm
  unfold Ex StepIs Dd Bd
  refine ⟨?_, ?_, ⟨h8, ?_, fun t ht => ?_⟩, ?_, ?_⟩
  · rcases le8 h8 with e | e | e | e | e | e | e | e | e <;> subst e <;> simp at * <;> omega
  · rcases le8 h8 with e | e | e | e | e | e | e | e | e <;> subst e <;> simp at * <;> omega
  · rcases le8 h8 with e | e | e | e | e | e | e | e | e <;> subst e <;> simp at * <;> omega
  · have h9 : t ≤ 8 := by omega
    rcases le8 h8 with e | e | e | e | e | e | e | e | e <;> subst e <;> rcases le8 h9 with e | e | e | e | e | e | e | e | e <;> subst e <;> first | omega | (simp at *; omega)
  · rcases le8 h8 with e | e | e | e | e | e | e | e | e <;> subst e <;> simp at * <;> omega
  · rcases le8 h8 with e | e | e | e | e | e | e | e | e <;> subst e <;> simp at * <;> omega
/-- none between the told one and the asked one is told exactly -/
theorem gh_max {lo hi h : Int} {s t : Nat} (b : Bd lo hi) (g : GH lo hi s) (l : lo + mn lo hi s * 2 ^ s < h) (u : h ≤ hi) : ¬ Ex lo h t := by
  intro e
  have bh : Bd lo h := by
    have := (gh_ex b g).1.2.1
    unfold Bd at *; omega
  have k := ex_can bh e u
  have t8 := e.1.1
  obtain ⟨h8, h1, h2⟩ := g
  obtain ⟨b1, b2, b3⟩ := b
  have hm : mn lo hi s = (hi - lo) / 2 ^ s ∧ (hi - lo) / 2 ^ s < 16 ∨ mn lo hi s = 16 ∧ 16 ≤ (hi - lo) / 2 ^ s := by
    unfold mn; split <;> omega
  have k2 : t ≤ s := by
    rcases Nat.lt_or_ge s t with c | c
    · rcases k with k | k
      · omega
      · exact absurd k.1 (h2 t c t8)
    · exact c
  have e1 := e.2.1
  have e2 := e.2.2
  generalize mn lo hi s = c at hm l
  clear h2 e bh
  unfold Can at *
  rcases le8 h8 with e | e | e | e | e | e | e | e | e <;> subst e <;> rcases le8 t8 with e | e | e | e | e | e | e | e | e <;> subst e <;> first | omega | (simp at *; omega)

theorem bc4 {lo hi : Int} {s : Nat} (b : Bd lo hi) (h : s ≤ 8) : CPow ((hi - 1) / 2 ^ s + 1) (s : Int) := by
  obtain ⟨b1, b2, b3⟩ := b
  have := div_le' (s := s) (x := hi - 1) (by omega)
  exact ⟨by omega, by omega, na (by omega) (by omega)⟩
theorem bc5 {z : Int} {s : Nat} (h0 : 0 ≤ z) (h1 : z ≤ 100000) (h : s ≤ 8) : CPow (z / 2 ^ s) (s : Int) := by
  have := div_le' (s := s) (x := z) (by omega)
  exact ⟨by omega, by omega, na (by omega) (by omega)⟩
theorem tgt {n : Int} {s : Nat} (b : Bd 0 n) (h : s ≤ 8) : n ≤ ((n - 1) / 2 ^ s + 1) * 2 ^ s ∧ ((n - 1) / 2 ^ s + 1) * 2 ^ s ≤ 5000 := by
  obtain ⟨b1, b2, b3⟩ := b
  rcases le8 h with e | e | e | e | e | e | e | e | e <;> subst e <;> omega
theorem tgt_eq {n z : Int} {s : Nat} (b : Bd 0 n) (h : s ≤ 8) (h1 : n ≤ z) (h2 : z ≤ ((n - 1) / 2 ^ s + 1) * 2 ^ s) (e : z / 2 ^ s * 2 ^ s = z) : z = ((n - 1) / 2 ^ s + 1) * 2 ^ s := by
  obtain ⟨b1, b2, b3⟩ := b
  rcases le8 h with e | e | e | e | e | e | e | e | e <;> subst e <;> omega
theorem tgt_ne {n z : Int} {s : Nat} (b : Bd 0 n) (h : s ≤ 8) (h2 : z ≤ ((n - 1) / 2 ^ s + 1) * 2 ^ s) (e : ¬ z / 2 ^ s * 2 ^ s = z) : z < ((n - 1) / 2 ^ s + 1) * 2 ^ s := by
  rcases Int.lt_or_eq_of_le h2 with c | c
  · exact c
  · exact absurd (by rw [c, Int.mul_ediv_cancel _ (Int.ne_of_gt (pow_pos2 s))]) e
theorem up16 {n : Int} {s : Nat} (b : Bd 0 n) (h : s ≤ 8) (c : 16 * 2 ^ s < n) : s < 8 := by
  rcases Nat.lt_or_ge s 8 with d | d
  · exact d
  · have : s = 8 := by omega
    subst this
    have := b.2.2
    omega
theorem ex_one {lo : Int} (b : Bd lo (lo + 1)) : Ex lo (lo + 1) 0 := by
  obtain ⟨b1, b2, b3⟩ := b
  unfold Ex StepIs Dd
  refine ⟨⟨by omega, by omega, fun t h => by omega⟩, by omega, by omega⟩
theorem ghv {s : Nat} (h : GH 0 4096 s) : 0 + mn 0 4096 s * 2 ^ s = 4096 := by
  obtain ⟨h8, h1, h2⟩ := h
  have k : s = 8 := by
    rcases Nat.lt_or_ge s 8 with c | c
    · exact absurd (by unfold Can; omega) (h2 8 c (Nat.le_refl _))
    · omega
  subst k
  unfold mn
  decide
theorem ghv2 {s : Nat} (h : GH 256 4096 s) : 256 + mn 256 4096 s * 2 ^ s = 4096 := by
  obtain ⟨h8, h1, h2⟩ := h
  have k : s = 8 := by
    rcases Nat.lt_or_ge s 8 with c | c
    · exact absurd (by unfold Can; omega) (h2 8 c (Nat.le_refl _))
    · omega
  subst k
  unfold mn
  decide
theorem ghv3 {s : Nat} (h : GH 1 4096 s) : 1 + mn 1 4096 s * 2 ^ s = 17 := by
  obtain ⟨h8, h1, h2⟩ := h
  have k : s = 0 := by
    rcases h1 with c | c
    · exact c
    · unfold Can at c
      rcases le8 h8 with e | e | e | e | e | e | e | e | e <;> subst e <;> first | rfl | omega
  subst k
  unfold mn
  decide
theorem three_eqv : PyData.eqv (.list [.int 4096, .int 4096, .int 17]) (.list [.int 4096, .int 4096, .int 17]) = true := by decide

theorem rg_map : rgV 1 81 = ((List.range 80).map fun (i : Nat) => (1 : Int) + (i : Int)).map V.int := by
  unfold rgV; rw [List.map_map]; rfl
theorem rg_pos : ∀ z ∈ (List.range 80).map fun (i : Nat) => (1 : Int) + (i : Int), 0 < z := by
  intro z hz
  obtain ⟨i, _, rfl⟩ := List.mem_map.mp hz
  omega
theorem k16 {i : Nat} (h : i ≤ 8) : 16 ≤ 16 * (2 : Int) ^ i := by
  have := pow_pos2 i; omega

/-! ### things of any kind -/
inductive Kd (H : Hp) : V → Prop where
  | non : Kd H .non
  | bl (b : Bool) : Kd H (.bl b)
  | int (i : Int) : Kd H (.int i)
  | str (x : Str) : Kd H (.str x)
  | lst {p : Addr} {xs : List V} (e : H p = some (.lst xs)) : Kd H (.ref p)
  | tup {p : Addr} {xs : List V} (e : H p = some (.tup xs)) : Kd H (.ref p)
  | dk {p : Addr} {kvs : List (Key × V)} (e : H p = some (.dK kvs)) : Kd H (.ref p)
theorem Kd.same {H H' : Hp} {v : V} (k : Kd H v) (s : Same H H') : Kd H' v := by
  cases k with
  | non => exact .non
  | bl b => exact .bl b
  | int i => exact .int i
  | str x => exact .str x
  | lst e => exact .lst (s _ _ e)
  | tup e => exact .tup (s _ _ e)
  | dk e => exact .dk (s _ _ e)
def isI : V → Bool | .int _ => true | .bl _ => true | _ => false
def isB : V → Bool | .bl _ => true | _ => false
def isS : V → Bool | .str _ => true | _ => false
theorem Kd.int? {K : PySem.W.Frag} {H : Hp} {v : V} (k : Kd H v) : ∃ t, TyX K H v t ∧ PySem.W.kitOne K t (.type "int") = some (isI v) := by
  cases k with
  | non => exact ⟨_, .base .non, kit_ty (r := false) (by decide +kernel)⟩
  | bl b => exact ⟨_, .base (.bl b), kit_ty (r := true) (by decide +kernel)⟩
  | int i => exact ⟨_, .base (.int i), kit_ty (r := true) (by decide +kernel)⟩
  | str x => exact ⟨_, .base (.str x), kit_ty (r := false) (by decide +kernel)⟩
  | lst e => exact ⟨_, .base (.lst e), kit_ty (r := false) (by decide +kernel)⟩
  | tup e => exact ⟨_, .base (.tup e), kit_ty (r := false) (by decide +kernel)⟩
  | dk e => exact ⟨_, .base (.dK e), kit_ty (r := false) (by decide +kernel)⟩
theorem Kd.bool? {K : PySem.W.Frag} {H : Hp} {v : V} (k : Kd H v) : ∃ t, TyX K H v t ∧ PySem.W.kitOne K t (.type "bool") = some (isB v) := by
  cases k with
  | non => exact ⟨_, .base .non, kit_ty (r := false) (by decide +kernel)⟩
  | bl b => exact ⟨_, .base (.bl b), kit_ty (r := true) (by decide +kernel)⟩
  | int i => exact ⟨_, .base (.int i), kit_ty (r := false) (by decide +kernel)⟩
  | str x => exact ⟨_, .base (.str x), kit_ty (r := false) (by decide +kernel)⟩
  | lst e => exact ⟨_, .base (.lst e), kit_ty (r := false) (by decide +kernel)⟩
  | tup e => exact ⟨_, .base (.tup e), kit_ty (r := false) (by decide +kernel)⟩
  | dk e => exact ⟨_, .base (.dK e), kit_ty (r := false) (by decide +kernel)⟩
theorem Kd.str? {K : PySem.W.Frag} {H : Hp} {v : V} (k : Kd H v) : ∃ t, TyX K H v t ∧ PySem.W.kitOne K t (.type "str") = some (isS v) := by
  cases k with
  | non => exact ⟨_, .base .non, kit_ty (r := false) (by decide +kernel)⟩
  | bl b => exact ⟨_, .base (.bl b), kit_ty (r := false) (by decide +kernel)⟩
  | int i => exact ⟨_, .base (.int i), kit_ty (r := false) (by decide +kernel)⟩
  | str x => exact ⟨_, .base (.str x), kit_ty (r := true) (by decide +kernel)⟩
  | lst e => exact ⟨_, .base (.lst e), kit_ty (r := false) (by decide +kernel)⟩
  | tup e => exact ⟨_, .base (.tup e), kit_ty (r := false) (by decide +kernel)⟩
  | dk e => exact ⟨_, .base (.dK e), kit_ty (r := false) (by decide +kernel)⟩
/-- it is no tuple -/
inductive NoT (H : Hp) : V → Prop where
  | non : NoT H .non
  | bl (b : Bool) : NoT H (.bl b)
  | int (i : Int) : NoT H (.int i)
  | str (x : Str) : NoT H (.str x)
  | lst {p : Addr} {xs : List V} (e : H p = some (.lst xs)) : NoT H (.ref p)
  | dk {p : Addr} {kvs : List (Key × V)} (e : H p = some (.dK kvs)) : NoT H (.ref p)
theorem NoT.tup? {K : PySem.W.Frag} {H : Hp} {v : V} (k : NoT H v) : ∃ t, TyX K H v t ∧ PySem.W.kitOne K t (.type "tuple") = some false := by
  cases k with
  | non => exact ⟨_, .base .non, kit_ty (by decide +kernel)⟩
  | bl b => exact ⟨_, .base (.bl b), kit_ty (by decide +kernel)⟩
  | int i => exact ⟨_, .base (.int i), kit_ty (by decide +kernel)⟩
  | str x => exact ⟨_, .base (.str x), kit_ty (by decide +kernel)⟩
  | lst e => exact ⟨_, .base (.lst e), kit_ty (by decide +kernel)⟩
  | dk e => exact ⟨_, .base (.dK e), kit_ty (by decide +kernel)⟩
/-! ### texts of rights -/
def RT : Str := Str.ofString "rwlsnfxco"
def code (k : Nat) : Nat := [114, 119, 108, 115, 110, 102, 120, 99, 111].getD k 0
def one (c : Nat) : Str := ⟨#[c]⟩
theorem RT_size : RT.cps.size = 9 := by decide +kernel
theorem RT_get : ∀ k, k < 9 → RT.cps[k]? = some (code k) := by decide +kernel
theorem code_inj : ∀ j, j < 9 → ∀ k, k < 9 → code j = code k → j = k := by decide +kernel
def rcs (p : Nat → Bool) (i : Nat) : List Str := ((List.range i).filter p).map fun k => one (code k)
def rtx (p : Nat → Bool) : Str := Txt.join (Str.ofString "") (rcs p 9)
theorem joinL_nil : ∀ l : List (List Nat), TL.joinL [] l = l.flatten
  | [] => rfl
  | [p] => by simp [TL.joinL]
  | p :: q :: r => by
    show p ++ ([] ++ TL.joinL [] (q :: r)) = _
    rw [joinL_nil (q :: r)]; simp
theorem rtx_codes (p : Nat → Bool) : (rtx p).cps.toList = ((List.range 9).filter p).map code := by
  unfold rtx
  rw [TL.join_eq]
  show TL.tl (Str.join _ _) = _
  rw [TL.tl_join]
  have e : TL.tl (Str.ofString "") = [] := by decide +kernel
  rw [e, joinL_nil]
  unfold rcs
  generalize (List.range 9).filter p = l
  induction l with
  | nil => rfl
  | cons x r ih =>
    simp only [List.map_cons, List.flatten_cons] at *
    rw [ih]; rfl
theorem rtx_mem (p : Nat → Bool) {k : Nat} (hk : k < 9) : code k ∈ (rtx p).cps.toList ↔ p k = true := by
  rw [rtx_codes, List.mem_map]
  constructor
  · rintro ⟨j, hj, e⟩
    obtain ⟨h1, h2⟩ := List.mem_filter.mp hj
    have : j = k := code_inj j (List.mem_range.mp h1) k hk e
    subst this; exact h2
  · intro h
    exact ⟨k, List.mem_filter.mpr ⟨List.mem_range.mpr hk, h⟩, rfl⟩
theorem rcs_succ (p : Nat → Bool) (i : Nat) : rcs p (i + 1) = rcs p i ++ (if p i = true then [one (code i)] else []) := by
  unfold rcs
  rw [List.range_succ, List.filter_append, List.map_append]
  congr 1
  by_cases h : p i = true
  · simp [h]
  · simp [h]
theorem rcs_len (p : Nat → Bool) (i : Nat) : (rcs p i).length ≤ i := by
  unfold rcs
  rw [List.length_map]
  exact Nat.le_trans (List.length_filter_le _ _) (by rw [List.length_range]; exact Nat.le_refl _)
theorem rcs_one (p : Nat → Bool) (i : Nat) : ((rcs p i).map (·.length)).sum = (rcs p i).length := by
  unfold rcs
  generalize (List.range i).filter p = l
  induction l with
  | nil => rfl
  | cons x r ih =>
    simp only [List.map_cons, List.sum_cons, List.length_cons] at *
    rw [ih]
    show 1 + _ = _
    omega
theorem rcs_fit (p : Nat → Bool) : ((rcs p 9).map (·.length)).sum + (rcs p 9).length * (Str.ofString "").length ≤ 16777216 := by
  have e : (Str.ofString "").length = 0 := by decide +kernel
  rw [e, rcs_one]
  have := rcs_len p 9
  omega
theorem szn {n : Nat} (h : n < 1000) : n < sizeLine := small1000 (Nat.le_of_lt h)
/-- the right k is in a text -/
def hasR (r : Str) (k : Nat) : Bool := decide (code k ∈ r.cps.toList)
def hasG (r g : Str) : Bool := g.cps.toList.any fun c => decide (c ∈ r.cps.toList)
def G0 : Str := Str.ofString "rwlsn"
def G1 : Str := Str.ofString "x"
def G2 : Str := Str.ofString "co"
def OneW (r : Str) : Prop := ([G0, G1, G2].filter (hasG r)).length ≤ 1
def mask (p : Nat → Bool) (i : Nat) : List Int := ((List.range i).filter p).map fun k => (2 : Int) ^ k
def maskOf (r : Str) : Int := (mask (hasR r) 9).sum
theorem mask_succ (p : Nat → Bool) (i : Nat) : mask p (i + 1) = mask p i ++ (if p i = true then [(2 : Int) ^ i] else []) := by
  unfold mask
  rw [List.range_succ, List.filter_append, List.map_append]
  congr 1
  by_cases h : p i = true
  · simp [h]
  · simp [h]
theorem mask_len (p : Nat → Bool) (i : Nat) : (mask p i).length ≤ i := by
  unfold mask
  rw [List.length_map]
  exact Nat.le_trans (List.length_filter_le _ _) (by rw [List.length_range]; exact Nat.le_refl _)
theorem i0 (i : Nat) : (0 : Int) + (i : Int) = (i : Int) := by omega
theorem take_any {g r : Str} {i : Nat} (hi : i < g.cps.size) : (g.cps.toList.take (i + 1)).map (fun c => decide (c ∈ r.cps.toList)) = (g.cps.toList.take i).map (fun c => decide (c ∈ r.cps.toList)) ++ [decide (g.cps[i] ∈ r.cps.toList)] := by
  rw [List.take_add_one, List.map_append]
  congr 1
  simp [hi]
theorem wipe_in {σ : L2.St} {i : Nat} : ∀ {vs : List Nat}, i ∈ vs → (wipe σ vs)[i]? = if i < σ.length then some none else none
  | [], h => by cases h
  | a :: vs, h => by
    show ((wipe σ vs).set a none)[i]? = _
    by_cases e : a = i
    · subst e
      rw [List.getElem?_set_self']
      by_cases l : a < σ.length
      · rw [if_pos l, List.getElem?_eq_getElem (by rw [wipe_length]; exact l)]; rfl
      · rw [if_neg l, List.getElem?_eq_none (by rw [wipe_length]; omega)]; rfl
    · rw [List.getElem?_set_ne e]
      exact wipe_in (by rcases List.mem_cons.mp h with q | q; exact absurd q.symm e; exact q)
theorem wipe_set {σ : L2.St} {vs : List Nat} {j : Nat} {v : Option V} (h : j ∈ vs) : wipe (σ.set j v) vs = wipe σ vs := by
  refine List.ext_getElem? fun i => ?_
  by_cases c : i ∈ vs
  · rw [wipe_in c, wipe_in c, List.length_set]
  · have n : j ≠ i := fun e => c (e ▸ h)
    rw [wipe_out c, wipe_out c, List.getElem?_set_ne n]
theorem wipe_wipe {σ : L2.St} {vs : List Nat} : wipe (wipe σ vs) vs = wipe σ vs := by
  refine List.ext_getElem? fun i => ?_
  by_cases c : i ∈ vs
  · rw [wipe_in c, wipe_in c, wipe_length]
  · rw [wipe_out c]
theorem wp1 {σ : L2.St} {vs : List Nat} {j : Nat} {v : Option V} (h : j ∈ vs) : wipe ((wipe σ vs).set j v) vs = wipe σ vs := by rw [wipe_set h, wipe_wipe]
theorem wp2 {σ : L2.St} {vs : List Nat} {j k : Nat} {v u : Option V} (h : j ∈ vs) (h2 : k ∈ vs) : wipe (((wipe σ vs).set j v).set k u) vs = wipe σ vs := by rw [wipe_set h2, wipe_set h, wipe_wipe]
def bitp (m : Int) : Nat → Bool := fun k => decide (m / 2 ^ k % 2 = 1)
/-- what bits tell -/
def fAt (b : Int) : Int := b / 2 ^ 0 % 2 ^ 12
def fFirst (b : Int) : Int := b / 2 ^ 12 % 2 ^ 12
def fCnt (b : Int) : Int := b / 2 ^ 24 % 2 ^ 4 + 1
def fStep (b : Int) : Int := b / 2 ^ 28 % 2 ^ 4
def fRts (b : Int) : Int := b / 2 ^ 32 % 2 ^ 9
def fKind (b : Int) : Int := b / 2 ^ 41 % 2 ^ 4
def Tells (b : Int) : Prop := fStep b ≤ 8 ∧ (fStep b = 0 ∨ 9 ≤ fCnt b) ∧ (fFirst b + fCnt b) * 2 ^ (fStep b).toNat ≤ 4096
theorem fb (b : Int) : 0 ≤ fStep b ∧ fStep b ≤ 15 ∧ 1 ≤ fCnt b ∧ fCnt b ≤ 16 ∧ 0 ≤ fFirst b ∧ fFirst b ≤ 4095 := by
  unfold fStep fCnt fFirst; omega
theorem cpw {z s : Int} (h0 : 0 ≤ z) (h1 : z ≤ 10000000000000) (h2 : 0 ≤ s) (h3 : s ≤ 1000) : CPow z s := ⟨h2, by omega, by omega⟩
/-- the fields of a lawful marked word -/
def F5 (xs : List V) : Prop := ∃ (lo hi at' : Int) (r : Str) (kd : Int), xs = [.int lo, .int hi, .int at', .str r, .int kd] ∧ Bd lo hi ∧ (∃ s, Ex lo hi s) ∧ 0 ≤ at' ∧ at' ≤ 4095 ∧ 0 ≤ kd ∧ kd ≤ 15 ∧ r = rtx (hasR r) ∧ OneW r
def wl (a b c d e f : Int) : List Int := [a * 2 ^ 0, b * 2 ^ 12, c * 2 ^ 24, d * 2 ^ 28, e * 2 ^ 32, f * 2 ^ 41]
def wbits (lo hi at' mr kd : Int) (s : Nat) : Int := (wl at' (lo / 2 ^ s) (Dd lo hi s + 1 - 1) s mr kd).sum
def BW (z : Int) : Prop := 0 ≤ z ∧ z ≤ 10000000000000
theorem six_at {K : PySem.W.Frag} {pA pF pC pS pR pK : Addr} {a b c d e f : Int} {i : Nat} {x1 y1 : V} (hi : i < 6) (hx : [V.ref pA, .ref pF, .ref pC, .ref pS, .ref pR, .ref pK][i]? = some x1) (hy : [V.int a, .int b, .int c, .int d, .int e, .int f][i]? = some y1)
    (sA : ∀ H, SqT K H pA [.int 0, .int 12]) (sF : ∀ H, SqT K H pF [.int 12, .int 12]) (sC : ∀ H, SqT K H pC [.int 24, .int 4]) (sS : ∀ H, SqT K H pS [.int 28, .int 4]) (sR : ∀ H, SqT K H pR [.int 32, .int 9]) (sK : ∀ H, SqT K H pK [.int 41, .int 4])
    (ba : BW a) (bb : BW b) (bc : BW c) (bd : BW d) (be : BW e) (bf : BW f) :
    ∃ (p : Addr) (lo mn : Nat) (z : Int), x1 = .ref p ∧ (∀ H, SqT K H p [.int lo, .int mn]) ∧ lo ≤ 100 ∧ y1 = .int z ∧ BW z ∧ (wl a b c d e f).take (i + 1) = (wl a b c d e f).take i ++ [z * 2 ^ lo] := by
  have six : i = 0 ∨ i = 1 ∨ i = 2 ∨ i = 3 ∨ i = 4 ∨ i = 5 := by omega
  rcases six with h | h | h | h | h | h <;> subst h
  · exact ⟨pA, 0, 12, a, (Option.some.inj hx).symm, sA, by decide, (Option.some.inj hy).symm, ba, rfl⟩
  · exact ⟨pF, 12, 12, b, (Option.some.inj hx).symm, sF, by decide, (Option.some.inj hy).symm, bb, rfl⟩
  · exact ⟨pC, 24, 4, c, (Option.some.inj hx).symm, sC, by decide, (Option.some.inj hy).symm, bc, rfl⟩
  · exact ⟨pS, 28, 4, d, (Option.some.inj hx).symm, sS, by decide, (Option.some.inj hy).symm, bd, rfl⟩
  · exact ⟨pR, 32, 9, e, (Option.some.inj hx).symm, sR, by decide, (Option.some.inj hy).symm, be, rfl⟩
  · exact ⟨pK, 41, 4, f, (Option.some.inj hx).symm, sK, by decide, (Option.some.inj hy).symm, bf, rfl⟩
theorem mask_b (p : Nat → Bool) : ∀ i, i ≤ 9 → 0 ≤ (mask p i).sum ∧ (mask p i).sum < 2 ^ i
  | 0, _ => by unfold mask; simp
  | i + 1, h => by
    have ih := mask_b p i (by omega)
    rw [mask_succ, List.sum_append]
    have e : (2 : Int) ^ (i + 1) = 2 * 2 ^ i := by rw [Int.pow_succ]; omega
    rw [e]
    by_cases c : p i = true
    · simp only [if_pos c, List.sum_cons, List.sum_nil]; omega
    · simp only [if_neg c, List.sum_nil]; omega
theorem maskOf_b (r : Str) : 0 ≤ maskOf r ∧ maskOf r < 512 := by
  have := mask_b (hasR r) 9 (Nat.le_refl _)
  unfold maskOf; omega
instance (b : Int) : Decidable (Tells b) := by unfold Tells; infer_instance

/-! ### bits and fields there and back -/
theorem wb_eq (lo hi at' mr kd : Int) (s : Nat) : wbits lo hi at' mr kd s = at' + lo / 2 ^ s * 4096 + Dd lo hi s * 16777216 + (s : Int) * 268435456 + mr * 4294967296 + kd * 2199023255552 := by
  unfold wbits wl
  simp only [List.sum_cons, List.sum_nil]
  omega
theorem bits6 {a F D s m k : Int} (a0 : 0 ≤ a) (a1 : a ≤ 4095) (F0 : 0 ≤ F) (F1 : F ≤ 4095) (D0 : 0 ≤ D) (D1 : D ≤ 15) (s0 : 0 ≤ s) (s1 : s ≤ 8) (m0 : 0 ≤ m) (m1 : m < 512) (k0 : 0 ≤ k) (k1 : k ≤ 15) :
    fStep (a + F * 4096 + D * 16777216 + s * 268435456 + m * 4294967296 + k * 2199023255552) = s ∧ fFirst (a + F * 4096 + D * 16777216 + s * 268435456 + m * 4294967296 + k * 2199023255552) = F ∧ fCnt (a + F * 4096 + D * 16777216 + s * 268435456 + m * 4294967296 + k * 2199023255552) = D + 1 ∧
    fAt (a + F * 4096 + D * 16777216 + s * 268435456 + m * 4294967296 + k * 2199023255552) = a ∧ fRts (a + F * 4096 + D * 16777216 + s * 268435456 + m * 4294967296 + k * 2199023255552) = m ∧ fKind (a + F * 4096 + D * 16777216 + s * 268435456 + m * 4294967296 + k * 2199023255552) = k := by
  unfold fStep fFirst fCnt fAt fRts fKind
  rw [show (2 : Int) ^ 0 = 1 by decide, show (2 : Int) ^ 4 = 16 by decide, show (2 : Int) ^ 9 = 512 by decide, show (2 : Int) ^ 12 = 4096 by decide, show (2 : Int) ^ 24 = 16777216 by decide, show (2 : Int) ^ 28 = 268435456 by decide, show (2 : Int) ^ 32 = 4294967296 by decide, show (2 : Int) ^ 41 = 2199023255552 by decide]
  generalize hb : a + F * 4096 + D * 16777216 + s * 268435456 + m * 4294967296 + k * 2199023255552 = b
  have q1 : b / 4096 = F + 4096 * (D + 16 * (s + 16 * (m + 512 * k))) := by omega
  have q2 : b / 16777216 = D + 16 * (s + 16 * (m + 512 * k)) := by omega
  have q3 : b / 268435456 = s + 16 * (m + 512 * k) := by omega
  have q4 : b / 4294967296 = m + 512 * k := by omega
  have q5 : b / 2199023255552 = k := by omega
  rw [q1, q2, q3, q4, q5]
  refine ⟨?_, ?_, ?_, ?_, ?_, ?_⟩ <;> omega
theorem wb_dec {lo hi at' mr kd : Int} {s : Nat} (b : Bd lo hi) (e : Ex lo hi s) (a0 : 0 ≤ at') (a1 : at' ≤ 4095) (m0 : 0 ≤ mr) (m1 : mr < 512) (k0 : 0 ≤ kd) (k1 : kd ≤ 15) :
    0 ≤ wbits lo hi at' mr kd s ∧ Tells (wbits lo hi at' mr kd s) ∧ fFirst (wbits lo hi at' mr kd s) * 2 ^ (fStep (wbits lo hi at' mr kd s)).toNat = lo ∧ (fFirst (wbits lo hi at' mr kd s) + fCnt (wbits lo hi at' mr kd s)) * 2 ^ (fStep (wbits lo hi at' mr kd s)).toNat = hi ∧
    fAt (wbits lo hi at' mr kd s) = at' ∧ fRts (wbits lo hi at' mr kd s) = mr ∧ fKind (wbits lo hi at' mr kd s) = kd := by
  obtain ⟨⟨s8, e1, e2⟩, e3, e4⟩ := e
  obtain ⟨b1, b2, b3⟩ := b
  have dl := div_le' (s := s) b1
  have d0 : 0 ≤ Dd lo hi s := by
    unfold Dd
    have := Int.ediv_le_ediv (pow_pos2 s) (show lo ≤ hi - 1 by omega)
    omega
  have fo := first_over lo hi s
  have h9 : s = 0 ∨ 9 ≤ Dd lo hi s + 1 := by
    rcases Nat.eq_zero_or_pos s with c | c
    · exact .inl c
    · right
      have := e2 (s - 1) (by omega)
      clear e2 fo
      unfold Dd at *
      rcases le8 s8 with e | e | e | e | e | e | e | e | e <;> subst e <;> first | omega | (simp at *; omega)
  have ed : Dd lo hi s + 1 = (hi - 1) / 2 ^ s + 1 - lo / 2 ^ s := by omega
  rw [wb_eq]
  have eF : lo / 2 ^ s ≤ 4095 := by omega
  generalize hF : lo / 2 ^ s = F at *
  generalize hD : Dd lo hi s = D at *
  have s0 : (0 : Int) ≤ (s : Int) ∧ (s : Int) ≤ 8 := by omega
  have F0 : 0 ≤ F := dl.1
  obtain ⟨x1, x2, x3, x4, x5, x6⟩ := bits6 (a := at') (F := F) (D := D) (s := (s : Int)) (m := mr) (k := kd) a0 a1 F0 eF d0 e1 s0.1 s0.2 m0 m1 k0 k1
  have e5 : (F + (D + 1)) * 2 ^ s = hi := by rw [fo]; exact e4
  refine ⟨by omega, ⟨?_, ?_, ?_⟩, ?_, ?_, x4, x5, x6⟩
  · rw [x1]; omega
  · rw [x1, x3]; omega
  · rw [x1, x2, x3]
    show (F + (D + 1)) * 2 ^ s ≤ 4096
    rw [e5]; exact b3
  · rw [x1, x2]; exact e3
  · rw [x1, x2, x3]; exact e5
theorem R_ok : Str.ofString "r" = rtx (hasR (Str.ofString "r")) := by decide +kernel
theorem R_one : OneW (Str.ofString "r") := by unfold OneW; decide +kernel
theorem R_rtx : rtx (bitp (maskOf (Str.ofString "r"))) = Str.ofString "r" := by decide +kernel
theorem dp5 {K : PySem.W.Frag} {H : Hp} {p : Addr} {a b c d : Int} {r : Str} (h : H p = some (.tup [.int a, .int b, .int c, .str r, .int d])) : Dp K H (.ref p) (.tuple [.int a, .int b, .int c, .str r, .int d]) :=
  .tup (.of h) (.cons (.int a) (.cons (.int b) (.cons (.int c) (.cons (.str r) (.cons (.int d) .nil)))))
theorem d5_sh (a b c d : Int) (r : Str) (h : PyData.canLay0 (.str r) = true) : SeqAt.shaped (.tuple [.int a, .int b, .int c, .str r, .int d]) = true := by
  have e : PyData.canLay0 (.tuple [.int a, .int b, .int c, .str r, .int d]) = true := by
    simp only [PyData.canLay0, PyData.canLayAll0, Bool.true_and, Bool.and_true] at *
    exact h
  unfold SeqAt.shaped
  rw [e]
  simp [PyData.depth, PyData.depthAll]
theorem d5_refl (a b c d : Int) (r : Str) : PyData.eqv (.tuple [.int a, .int b, .int c, .str r, .int d]) (.tuple [.int a, .int b, .int c, .str r, .int d]) = true := by
  simp [PyData.eqv, PyData.eqvAll]

theorem least_in {lo hi il ih : Int} {t s : Nat} (b : Bd lo hi) (e : Ex lo hi t) (h1 : lo ≤ il) (h2 : il < ih) (h3 : ih ≤ hi) (g : StepIs il ih s) : lo ≤ il / 2 ^ s * 2 ^ s ∧ ((ih - 1) / 2 ^ s + 1) * 2 ^ s ≤ hi := by
  obtain ⟨⟨t8, e1, e2⟩, e3, e4⟩ := e
  obtain ⟨b1, b2, b3⟩ := b
  have st : s ≤ t := by
    rcases Nat.lt_or_ge t s with c | c
    · have := g.2.2 t c
      exfalso
      clear e2 g
      unfold Dd at *
      rcases le8 t8 with e | e | e | e | e | e | e | e | e <;> subst e <;> omega
    · exact c
  have s8 := g.1
  clear e2 g
  unfold Dd at *
  rcases le8 t8 with e | e | e | e | e | e | e | e | e <;> subst e <;> rcases le8 s8 with e | e | e | e | e | e | e | e | e <;> subst e <;> first | omega | (simp at *; omega)
theorem least_ex {il ih : Int} {s : Nat} (b : Bd il ih) (g : StepIs il ih s) : Bd (il / 2 ^ s * 2 ^ s) (((ih - 1) / 2 ^ s + 1) * 2 ^ s) ∧ Ex (il / 2 ^ s * 2 ^ s) (((ih - 1) / 2 ^ s + 1) * 2 ^ s) s ∧ il / 2 ^ s * 2 ^ s ≤ il ∧ ih ≤ ((ih - 1) / 2 ^ s + 1) * 2 ^ s ∧ il / 2 ^ s * 2 ^ s / 2 ^ s = il / 2 ^ s ∧ Dd (il / 2 ^ s * 2 ^ s) (((ih - 1) / 2 ^ s + 1) * 2 ^ s) s = Dd il ih s := by
  obtain ⟨b1, b2, b3⟩ := b
  have s8 := g.1
  have g1 := g.2.1
  have g2 := g.2.2
  refine ⟨?_, ⟨⟨s8, ?_, fun t ht => ?_⟩, ?_, ?_⟩, ?_, ?_, ?_, ?_⟩
  · unfold Bd
    rcases le8 s8 with e | e | e | e | e | e | e | e | e <;> subst e <;> omega
  · unfold Dd at *
    clear g2 g
    rcases le8 s8 with e | e | e | e | e | e | e | e | e <;> subst e <;> omega
  · have g3 := g2 t ht
    have t8 : t ≤ 8 := by omega
    clear g2 g
    unfold Dd at *
    rcases le8 s8 with e | e | e | e | e | e | e | e | e <;> subst e <;> rcases le8 t8 with e | e | e | e | e | e | e | e | e <;> subst e <;> first | omega | (simp at *; omega)
  all_goals (clear g2 g; unfold Dd at *; rcases le8 s8 with e | e | e | e | e | e | e | e | e <;> subst e <;> omega)
theorem spot_r {low : Int} {s : Nat} (l0 : 0 ≤ low) : 0 ≤ (low - 1 + 1 * 2 ^ s) / 2 ^ s := by
  have := pow_pos2 s
  exact Int.ediv_nonneg (by omega) (by omega)
theorem cp1 {low : Int} {s : Nat} (l0 : 0 ≤ low) (l1 : low ≤ 4096) (h : s ≤ 8) : CPow ((low - 1 + 1 * 2 ^ s) / 2 ^ s) (s : Int) := by
  have h0 := pow_pos2 s
  have h1 := p8 h
  have h2 := div_le' (s := s) (x := low - 1 + 1 * 2 ^ s) (by omega)
  exact ⟨by omega, by omega, na (by omega) (by omega)⟩

def topS (i : Nat) : Stmt := PySem.Challenge.pw_sealedreach_k09_whole_bounds_within_boun.main.body.getD i (.Pass ⟨0, 0, 0, 0⟩)
abbrev s_is_whole : Stmt := topS 5
abbrev s_are_bounds : Stmt := topS 11
abbrev s_look_at_bounds : Stmt := topS 12
abbrev s__steps_over : Stmt := topS 17
abbrev s_in_bits : Stmt := topS 15
abbrev s_least_bounds : Stmt := topS 14
abbrev s_is_exact : Stmt := topS 13
abbrev s__has_some : Stmt := topS 37
abbrev s__lead_one_way : Stmt := topS 36
abbrev s_bits_of_rights : Stmt := topS 34
abbrev s_field : Stmt := topS 31
abbrev s_rights_in : Stmt := topS 33
abbrev s__tell : Stmt := topS 35
abbrev s_bounds_in : Stmt := topS 32
abbrev s_fields_of : Stmt := topS 29
abbrev s_is_rights : Stmt := topS 28
abbrev s__are_fields : Stmt := topS 38
abbrev s_word_of : Stmt := topS 30
abbrev s_room_of : Stmt := topS 16
abbrev s__law_take : Stmt := topS 41
abbrev s__law_pool : Stmt := topS 40
abbrev s__law_within : Stmt := topS 42
abbrev s__law_least_of : Stmt := topS 43
abbrev s_law : Stmt := topS 44
theorem sc_is_whole : FnScope ["thing", "least", "most"] ["thing", "least", "most"] (defScope s_is_whole) := ⟨rfl, rfl, rfl, by decide +kernel, rfl, by decide +kernel, by decide +kernel⟩
theorem sc_are_bounds : FnScope ["low", "high"] ["low", "high"] (defScope s_are_bounds) := ⟨rfl, rfl, rfl, by decide +kernel, rfl, by decide +kernel, by decide +kernel⟩
theorem sc_look_at_bounds : FnScope ["low", "high"] ["low", "high"] (defScope s_look_at_bounds) := ⟨rfl, rfl, rfl, by decide +kernel, rfl, by decide +kernel, by decide +kernel⟩
theorem sc__steps_over : FnScope ["low", "high", "step", "first", "behind"] ["low", "high", "step"] (defScope s__steps_over) := ⟨rfl, rfl, rfl, by decide +kernel, rfl, by decide +kernel, by decide +kernel⟩
theorem sc_in_bits : FnScope ["low", "high", "step"] ["low", "high"] (defScope s_in_bits) := ⟨rfl, rfl, rfl, by decide +kernel, rfl, by decide +kernel, by decide +kernel⟩
theorem sc_least_bounds : FnScope ["low", "high", "step", "first", "count"] ["low", "high"] (defScope s_least_bounds) := ⟨rfl, rfl, rfl, by decide +kernel, rfl, by decide +kernel, by decide +kernel⟩
theorem sc_is_exact : FnScope ["low", "high"] ["low", "high"] (defScope s_is_exact) := ⟨rfl, rfl, rfl, by decide +kernel, rfl, by decide +kernel, by decide +kernel⟩
theorem sc__has_some : FnScope ["rights", "group", "sign"] ["rights", "group"] (defScope s__has_some) := ⟨rfl, rfl, rfl, by decide +kernel, rfl, by decide +kernel, by decide +kernel⟩
theorem sc__lead_one_way : FnScope ["rights", "group"] ["rights"] (defScope s__lead_one_way) := ⟨rfl, rfl, rfl, by decide +kernel, rfl, by decide +kernel, by decide +kernel⟩
theorem sc_bits_of_rights : FnScope ["rights", "k", "sign"] ["rights"] (defScope s_bits_of_rights) := ⟨rfl, rfl, rfl, by decide +kernel, rfl, by decide +kernel, by decide +kernel⟩
theorem sc_field : FnScope ["bits", "place", "lowest", "many"] ["bits", "place"] (defScope s_field) := ⟨rfl, rfl, rfl, by decide +kernel, rfl, by decide +kernel, by decide +kernel⟩
theorem sc_rights_in : FnScope ["bits", "number", "k", "sign"] ["bits"] (defScope s_rights_in) := ⟨rfl, rfl, rfl, by decide +kernel, rfl, by decide +kernel, by decide +kernel⟩
theorem sc__tell : FnScope ["bits", "step", "count"] ["bits"] (defScope s__tell) := ⟨rfl, rfl, rfl, by decide +kernel, rfl, by decide +kernel, by decide +kernel⟩
theorem sc_bounds_in : FnScope ["bits", "step", "first"] ["bits"] (defScope s_bounds_in) := ⟨rfl, rfl, rfl, by decide +kernel, rfl, by decide +kernel, by decide +kernel⟩
theorem sc_fields_of : FnScope ["word", "bits", "low", "high"] ["word"] (defScope s_fields_of) := ⟨rfl, rfl, rfl, by decide +kernel, rfl, by decide +kernel, by decide +kernel⟩
theorem sc_is_rights : FnScope ["thing", "sign"] ["thing"] (defScope s_is_rights) := ⟨rfl, rfl, rfl, by decide +kernel, rfl, by decide +kernel, by decide +kernel⟩
theorem sc__are_fields : FnScope ["thing", "low", "high", "at", "rights", "kind"] ["thing"] (defScope s__are_fields) := ⟨rfl, rfl, rfl, by decide +kernel, rfl, by decide +kernel, by decide +kernel⟩
theorem sc_word_of : FnScope ["fields", "marked", "low", "high", "at", "rights", "kind", "step", "first", "count", "places", "worths", "place", "worth"] ["fields", "marked"] (defScope s_word_of) := ⟨rfl, rfl, rfl, by decide +kernel, rfl, by decide +kernel, by decide +kernel⟩
theorem sc_room_of : FnScope ["many", "step", "_", "count"] ["many"] (defScope s_room_of) := ⟨rfl, rfl, rfl, by decide +kernel, rfl, by decide +kernel, by decide +kernel⟩
theorem sc__law_take : FnScope ["_law_pool_here", "_law_many", "_law_found"] ["_law_pool_here", "_law_many"] (defScope s__law_take) := ⟨rfl, rfl, rfl, by decide +kernel, rfl, by decide +kernel, by decide +kernel⟩
theorem sc__law_pool : FnScope ["_law_script", "_law_k", "_law_cell", "_law_size", "_law_mixed"] ["_law_script", "_law_k"] (defScope s__law_pool) := ⟨rfl, rfl, rfl, by decide +kernel, rfl, by decide +kernel, by decide +kernel⟩
theorem sc__law_within : FnScope ["_law_pool_here", "_law_low", "_law_high", "_law_own_low"] ["_law_pool_here", "_law_low", "_law_high"] (defScope s__law_within) := ⟨rfl, rfl, rfl, by decide +kernel, rfl, by decide +kernel, by decide +kernel⟩
theorem sc__law_least_of : FnScope ["_law_pool_here", "_law_low", "_law_high"] ["_law_pool_here"] (defScope s__law_least_of) := ⟨rfl, rfl, rfl, by decide +kernel, rfl, by decide +kernel, by decide +kernel⟩
theorem sc_law : FnScope ["_law_script", "_law_k", "_law_pool_here", "_law_low", "_law_high", "_law_turn", "_law_inner", "_law_own_low", "_law_own_high", "_law_size", "_law_step", "_law_spot"] ["_law_script"] (defScope s_law) := ⟨rfl, rfl, rfl, by decide +kernel, rfl, by decide +kernel, by decide +kernel⟩
structure Txt (K : PySem.W.Frag) (mg : Str → Option Value) : Prop where
  z_abs : mg "abs" = none
  z_any : mg "any" = none
  z_bool : mg "bool" = none
  z_enumerate : mg "enumerate" = none
  z_int : mg "int" = none
  z_isinstance : mg "isinstance" = none
  z_len : mg "len" = none
  z_max : mg "max" = none
  z_min : mg "min" = none
  z_range : mg "range" = none
  z_str : mg "str" = none
  z_sum : mg "sum" = none
  z_tuple : mg "tuple" = none
  z_zip : mg "zip" = none
  c_AT : ∃ p, mg "AT" = some (.ref p) ∧ ∀ H, SqT K H p [.int 0, .int 12]
  c_CELLS : ∃ t, mg "CELLS" = some (.int 4096 t)
  c_COUNT_LESS_ONE : ∃ p, mg "COUNT_LESS_ONE" = some (.ref p) ∧ ∀ H, SqT K H p [.int 24, .int 4]
  c_FIRST : ∃ p, mg "FIRST" = some (.ref p) ∧ ∀ H, SqT K H p [.int 12, .int 12]
  c_GROUPS : ∃ p, mg "GROUPS" = some (.ref p) ∧ ∀ H, SqT K H p [.str (Str.ofString "rwlsn"), .str (Str.ofString "x"), .str (Str.ofString "co")]
  c_KIND : ∃ p, mg "KIND" = some (.ref p) ∧ ∀ H, SqT K H p [.int 41, .int 4]
  c_LEAST_COUNT : ∃ t, mg "LEAST_COUNT" = some (.int 9 t)
  c_RIGHTS : ∃ t, mg "RIGHTS" = some (.str (Str.ofString "rwlsnfxco") t)
  c_RIGHTS_BITS : ∃ p, mg "RIGHTS_BITS" = some (.ref p) ∧ ∀ H, SqT K H p [.int 32, .int 9]
  c_STEP : ∃ p, mg "STEP" = some (.ref p) ∧ ∀ H, SqT K H p [.int 28, .int 4]
  c_TOP_COUNT : ∃ t, mg "TOP_COUNT" = some (.int 16 t)
  c_TOP_KIND : ∃ t, mg "TOP_KIND" = some (.int 15 t)
  c_TOP_STEP : ∃ t, mg "TOP_STEP" = some (.int 8 t)
section
variable {P : Program} {w : World} {K : PySem.W.Frag} {mg : Str → Option Value} {base : Heap}

def sp_is_whole (K : PySem.W.Frag) : Sp := fun vs H Q _ => ∃ v l m, vs = [v, .int l, .int m] ∧ Kd H v ∧ ∀ b, (b = true ↔ ∃ n, v = .int n ∧ l ≤ n ∧ n ≤ m) → Q (.bl b) H
theorem ok_is_whole {f : Addr} {fd : FuncData} (F : Fun K "is_whole" "is_whole" s_is_whole f fd) (T : Txt K mg) : FnOk P w K mg base CX0 1 f fd ["thing", "least", "most"] (sp_is_whole K) := by
  refine F.ok sc_is_whole (fun vs H Q E h => ?_) (fun cdv A outer s H vs Q E hr h => ?_)
  · obtain ⟨v, l, m, rfl, hv, q⟩ := h; rfl
  · obtain ⟨v, l, m, rfl, hv, q⟩ := h
    refine ⟨_, (pss_one (ps_ret (pe_and (pe_callB call_isi (by rfl) T.z_isinstance (by decide +kernel) (pa_cons (pv 0) (pa_cons (pe_bltn (v := .ty "int") (by rfl) T.z_int (by decide +kernel) rfl) pa_nil))) (pe_and (pe_not (pe_callB call_isi (by rfl) T.z_isinstance (by decide +kernel) (pa_cons (pv 0) (pa_cons (pe_bltn (v := .ty "bool") (by rfl) T.z_bool (by decide +kernel) rfl) pa_nil)))) (pe_one (pe_chain op_le op_le (pv 1) (pv 0) (pv 2))))))), ?_⟩
    obtain ⟨t, ty, kt⟩ := hv.int? (K := K)
    refine ⟨_, rfl, _, _, t, _, isI v, rfl, .ty "int", ty, kt, isI v, rfl, ifb (fun e1 => ?_) (fun e1 => ?_)⟩
    · obtain ⟨t2, ty2, kt2⟩ := hv.bool? (K := K)
      refine ⟨_, rfl, _, _, t2, _, isB v, rfl, .ty "bool", ty2, kt2, isB v, rfl, !isB v, rfl, ifnb (fun e2 => ?_) (fun e2 => ?_)⟩
      · obtain ⟨n, rfl⟩ : ∃ n, v = .int n := by
          cases hv with
          | int i => exact ⟨i, rfl⟩
          | bl b => cases e2
          | _ => cases e1
        refine ⟨_, rfl, _, rfl, _, _, rfl, rfl, _, rfl, ifd (fun h1 => ?_) (fun h1 => ?_)⟩
        · refine ⟨_, rfl, _, _, rfl, rfl, q _ ?_⟩
          rw [decide_eq_true_iff]
          exact ⟨fun h => ⟨n, rfl, h1, h⟩, fun ⟨n', e, h3, h4⟩ => by cases e; exact h4⟩
        · refine q _ ⟨fun h => Bool.noConfusion h, fun ⟨n', e, h3, h4⟩ => by cases e; exact absurd h3 h1⟩
      · refine q _ ⟨fun h => Bool.noConfusion h, fun ⟨n', e, h3, h4⟩ => by cases e; cases e2⟩
    · refine q _ ⟨fun h => Bool.noConfusion h, fun ⟨n', e, h3, h4⟩ => by cases e; cases e1⟩

def sp_are_bounds (K : PySem.W.Frag) : Sp := fun vs H Q _ => ∃ v u, vs = [v, u] ∧ Kd H v ∧ Kd H u ∧ ∀ b, (b = true ↔ ∃ lo hi, v = .int lo ∧ u = .int hi ∧ Bd lo hi) → Q (.bl b) H
theorem ok_are_bounds {f : Addr} {fd : FuncData} (F : Fun K "are_bounds" "are_bounds" s_are_bounds f fd) (T : Txt K mg) (C_is_whole : Cal P w K mg base "is_whole" 1 ["thing", "least", "most"] (sp_is_whole K)) : FnOk P w K mg base CX0 2 f fd ["low", "high"] (sp_are_bounds K) := by
  obtain ⟨t_CELLS, hc_CELLS⟩ := T.c_CELLS
  refine F.ok sc_are_bounds (fun vs H Q E h => ?_) (fun cdv A outer s H vs Q E hr h => ?_)
  · obtain ⟨v, u, rfl, hv, hu, q⟩ := h; rfl
  · obtain ⟨v, u, rfl, hv, hu, q⟩ := h
    refine ⟨_, (pss_one (ps_ret (pe_and (pe_cal C_is_whole (hr.mono (by decide)) (pa_cons (pv 0) (pa_cons pe_int (pa_cons (pe_glob (v := .int 4096) (by rfl) hc_CELLS ⟨_, rfl⟩) pa_nil)))) (pe_and (pe_cal C_is_whole (hr.mono (by decide)) (pa_cons (pv 1) (pa_cons pe_int (pa_cons (pe_glob (v := .int 4096) (by rfl) hc_CELLS ⟨_, rfl⟩) pa_nil)))) (pe_one (pe_cmpR op_lt (pv 0) (pv 1) (nomark _))))))), ?_⟩
    refine ⟨_, rfl, _, _, _, rfl, hv, fun b hb => ⟨_, rfl, ifb (fun e => ?_) (fun e => ?_)⟩⟩
    · refine ⟨_, rfl, _, _, _, rfl, hu, fun c hc => ⟨_, rfl, ifb (fun e2 => ?_) (fun e2 => ?_)⟩⟩
      · obtain ⟨lo, rfl, l1, l2⟩ := hb.mp e
        obtain ⟨hi, rfl, l3, l4⟩ := hc.mp e2
        refine ⟨_, rfl, _, rfl, _, _, rfl, rfl, q _ ?_⟩
        rw [decide_eq_true_iff]
        exact ⟨fun h => ⟨lo, hi, rfl, rfl, l1, h, l4⟩, fun ⟨a, c, e3, e4, h⟩ => by cases e3; cases e4; exact h.2.1⟩
      · refine q _ ⟨fun h => Bool.noConfusion h, fun ⟨a, c, e3, e4, h⟩ => ?_⟩
        obtain ⟨h1, h2, h3⟩ := h
        rw [hc.mpr ⟨c, e4, by omega, h3⟩] at e2; cases e2
    · refine q _ ⟨fun h => Bool.noConfusion h, fun ⟨a, c, e3, e4, h⟩ => ?_⟩
      obtain ⟨h1, h2, h3⟩ := h
      rw [hb.mpr ⟨a, e3, h1, by omega⟩] at e; cases e

def sp_look_at_bounds (K : PySem.W.Frag) : Sp := fun vs H Q _ => ∃ lo hi, vs = [.int lo, .int hi] ∧ Bd lo hi ∧ Q .non H
theorem ok_look_at_bounds {f : Addr} {fd : FuncData} (F : Fun K "look_at_bounds" "look_at_bounds" s_look_at_bounds f fd) (T : Txt K mg) (C_are_bounds : Cal P w K mg base "are_bounds" 2 ["low", "high"] (sp_are_bounds K)) : FnOk P w K mg base CX0 3 f fd ["low", "high"] (sp_look_at_bounds K) := by
  refine F.ok sc_look_at_bounds (fun vs H Q E h => ?_) (fun cdv A outer s H vs Q E hr h => ?_)
  · obtain ⟨lo, hi, rfl, hb, q⟩ := h; rfl
  · obtain ⟨lo, hi, rfl, hb, q⟩ := h
    refine ⟨_, (pss_one (ps_if (pt_not (pt_val (pe_cal C_are_bounds (hr.mono (by decide)) (pa_cons (pv 0) (pa_cons (pv 1) pa_nil))))) (pss_one ps_never) pss_nil)), ?_⟩
    refine ⟨_, rfl, _, rfl, .int lo, .int hi, rfl, .int _, .int _, fun b hb2 => ⟨_, rfl, ?_⟩⟩
    have e : b = true := hb2.mpr ⟨lo, hi, rfl, rfl, hb⟩
    subst e
    exact q

def sp__steps_over (K : PySem.W.Frag) : Sp := fun vs H Q _ => ∃ (lo hi : Int) (s : Nat), vs = [.int lo, .int hi, .int s] ∧ s ≤ 1000 ∧ Q (.int (Dd lo hi s + 1)) H
theorem ok__steps_over {f : Addr} {fd : FuncData} (F : Fun K "_steps_over" "_steps_over" s__steps_over f fd) (T : Txt K mg) : FnOk P w K mg base CX0 1 f fd ["low", "high", "step"] (sp__steps_over K) := by
  refine F.ok sc__steps_over (fun vs H Q E h => ?_) (fun cdv A outer s H vs Q E hr h => ?_)
  · obtain ⟨lo, hi, s, rfl, hs, q⟩ := h; rfl
  · obtain ⟨lo, hi, s, rfl, hs, q⟩ := h
    refine ⟨_, (pss_cons (ps_set (i := 3) sc__steps_over.nd rfl (.inl rfl) (pe_op op_shr (pv 0) (pv 2)))
      (pss_cons (ps_set (i := 4) sc__steps_over.nd rfl (.inl rfl) (pe_op op_shr (pe_op op_sub (pe_op op_add (pv 1) (pe_op op_shl pe_int (pv 2))) pe_int) (pv 2)))
      (pss_one (ps_ret (pe_op op_sub (pv 4) (pv 3)))))), ?_⟩
    walk_at "g"
    rw [← over_eq] at q
    exact q

def sp_in_bits (K : PySem.W.Frag) : Sp := fun vs H Q _ => ∃ lo hi, vs = [.int lo, .int hi] ∧ Bd lo hi ∧ ∀ (s : Nat) p, StepIs lo hi s → H p = none → Q (.ref p) (upd H p (.tup [.int s, .int (lo / 2 ^ s), .int (Dd lo hi s + 1)]))
theorem ok_in_bits {f : Addr} {fd : FuncData} (F : Fun K "in_bits" "in_bits" s_in_bits f fd) (T : Txt K mg) (C_look_at_bounds : Cal P w K mg base "look_at_bounds" 3 ["low", "high"] (sp_look_at_bounds K)) (C__steps_over : Cal P w K mg base "_steps_over" 1 ["low", "high", "step"] (sp__steps_over K)) : FnOk P w K mg base CX0 4 f fd ["low", "high"] (sp_in_bits K) := by
  obtain ⟨t_TOP_COUNT, hc_TOP_COUNT⟩ := T.c_TOP_COUNT
  refine F.ok sc_in_bits (fun vs H Q E h => ?_) (fun cdv A outer s H vs Q E hr h => ?_)
  · obtain ⟨lo, hi, rfl, hb, q⟩ := h; rfl
  · obtain ⟨lo, hi, rfl, hb, q⟩ := h
    refine ⟨_, (pss_cons (ps_expr (pe_cal C_look_at_bounds (hr.mono (by decide)) (pa_cons (pv 0) (pa_cons (pv 1) pa_nil))))
      (pss_cons (ps_set (i := 2) sc_in_bits.nd rfl (.inl rfl) pe_int)
      (pss_cons (ps_while PassesOwn.never (pt_cmpR op_gt (pe_cal C__steps_over (hr.mono (by decide)) (pa_cons (pv 0) (pa_cons (pv 1) (pa_cons (pv 2) pa_nil)))) (pe_glob (v := .int 16) (by rfl) hc_TOP_COUNT ⟨_, rfl⟩) (nomark _)) (pss_one (ps_aug (i := 2) sc_in_bits.nd rfl (.inl rfl) pe_int ip_add)))
      (pss_one (ps_ret (pe_tup (pa_cons (pv 2) (pa_cons (pe_op op_shr (pv 0) (pv 2)) (pa_cons (pe_cal C__steps_over (hr.mono (by decide)) (pa_cons (pv 0) (pa_cons (pv 1) (pa_cons (pv 2) pa_nil)))) pa_nil))))))))), ?_⟩
    refine ⟨_, rfl, _, rfl, lo, hi, rfl, hb, ?_⟩
    refine ⟨fun m σ H' => ∃ s : Nat, σ = [some (.int lo), some (.int hi), some (.int s)] ∧ H' = H ∧ s ≤ 8 ∧ m = 8 - s ∧ ∀ t, t < s → 15 < Dd lo hi t, ⟨8, 0, rfl, rfl, by omega, rfl, fun t ht => by omega⟩, ?_⟩
    rintro m σ H' ⟨s, rfl, rfl, h8, em, hbl⟩
    refine ⟨_, rfl, _, rfl, _, rfl, lo, hi, s, rfl, by omega, ?_⟩
    refine ⟨_, _, rfl, rfl, _, rfl, ifd (fun c => ?_) (fun c => ?_)⟩
    · have l8 := lt8 hb (by omega) h8
      refine ⟨_, fun _ _ h => h, ?_⟩
      refine ⟨_, rfl, _, _, rfl, rfl, 8 - (s + 1), by omega, s + 1, rfl, rfl, by omega, rfl, fun t ht => ?_⟩
      rcases Nat.lt_or_ge t s with d | d
      · exact hbl t d
      · have : t = s := by omega
        subst this; omega
    · refine ⟨_, rfl, _, rfl, _, rfl, _, _, rfl, rfl, by omega, ?_⟩
      refine ⟨_, rfl, _, rfl, _, rfl, lo, hi, s, rfl, by omega, ?_⟩
      refine ⟨sz (by simp), fun p hp => ?_⟩
      exact q s p ⟨h8, by omega, hbl⟩ hp

def sp_least_bounds (K : PySem.W.Frag) : Sp := fun vs H Q _ => ∃ lo hi, vs = [.int lo, .int hi] ∧ Bd lo hi ∧ ∀ (s : Nat) p H', StepIs lo hi s → Same H H' → H p = none → H' p = some (.tup [.int (lo / 2 ^ s * 2 ^ s), .int (((hi - 1) / 2 ^ s + 1) * 2 ^ s)]) → Q (.ref p) H'
theorem ok_least_bounds {f : Addr} {fd : FuncData} (F : Fun K "least_bounds" "least_bounds" s_least_bounds f fd) (T : Txt K mg) (C_in_bits : Cal P w K mg base "in_bits" 4 ["low", "high"] (sp_in_bits K)) : FnOk P w K mg base CX0 5 f fd ["low", "high"] (sp_least_bounds K) := by
  refine F.ok sc_least_bounds (fun vs H Q E h => ?_) (fun cdv A outer s H vs Q E hr h => ?_)
  · obtain ⟨lo, hi, rfl, hb, q⟩ := h; rfl
  · obtain ⟨lo, hi, rfl, hb, q⟩ := h
    refine ⟨_, (pss_cons (ps_asg (pe_cal C_in_bits (hr.mono (by decide)) (pa_cons (pv 0) (pa_cons (pv 1) pa_nil))) (pg_tup rfl (pgs_cons (pg_name (i := 2) sc_least_bounds.nd rfl (.inl rfl)) (pgs_cons (pg_name (i := 3) sc_least_bounds.nd rfl (.inl rfl)) (pgs_cons (pg_name (i := 4) sc_least_bounds.nd rfl (.inl rfl)) pgs_nil)))))
      (pss_one (ps_ret (pe_tup (pa_cons (pe_op op_shl (pv 3) (pv 2)) (pa_cons (pe_op op_shl (pe_op op_add (pv 3) (pv 4)) (pv 2)) pa_nil)))))), ?_⟩
    refine ⟨_, rfl, _, rfl, lo, hi, rfl, hb, fun s p hs hp => ?_⟩
    refine ⟨p, _, rfl, .of upd_same, rfl, _, _, rfl, _, _, rfl, _, _, rfl, rfl, ?_⟩
    have h8 := hs.1
    refine ⟨_, rfl, _, rfl, _, _, rfl, rfl, bc hb h8, ?_⟩
    refine ⟨_, rfl, _, rfl, _, _, rfl, rfl, _, rfl, _, _, rfl, rfl, bc2 hb hs, sz (by simp), fun p2 hp2 => ?_⟩
    have n : p ≠ p2 := ne_of_none upd_same hp2
    refine q s p2 _ hs (sameN (same_new hp) hp2) ?_ ?_
    · exact Same.free (same_new hp) hp2
    · rw [upd_same, first_over]; rfl

def sp_is_exact (K : PySem.W.Frag) : Sp := fun vs H Q _ => ∃ lo hi, vs = [.int lo, .int hi] ∧ Bd lo hi ∧ ∀ b H', Same H H' → (b = true ↔ ∃ s, Ex lo hi s) → Q (.bl b) H'
theorem ok_is_exact {f : Addr} {fd : FuncData} (F : Fun K "is_exact" "is_exact" s_is_exact f fd) (T : Txt K mg) (C_least_bounds : Cal P w K mg base "least_bounds" 5 ["low", "high"] (sp_least_bounds K)) : FnOk P w K mg base CX0 6 f fd ["low", "high"] (sp_is_exact K) := by
  refine F.ok sc_is_exact (fun vs H Q E h => ?_) (fun cdv A outer s H vs Q E hr h => ?_)
  · obtain ⟨lo, hi, rfl, hb, q⟩ := h; rfl
  · obtain ⟨lo, hi, rfl, hb, q⟩ := h
    refine ⟨_, (pss_one (ps_ret (pe_cmpR (r := rEqD K) (op_eqD hr.units) (pe_cal C_least_bounds (hr.mono (by decide)) (pa_cons (pv 0) (pa_cons (pv 1) pa_nil))) (pe_tup (pa_cons (pv 0) (pa_cons (pv 1) pa_nil))) (nomark _)))), ?_⟩
    refine ⟨_, rfl, _, rfl, lo, hi, rfl, hb, fun s p H1 hs sm hp hp1 => ?_⟩
    refine ⟨_, rfl, _, rfl, sz (by simp), fun p2 hp2 => ?_⟩
    have n : p ≠ p2 := ne_of_none hp1 hp2
    refine ⟨_, _, dp2 (by walk_at "at"), dp2 upd_same, rfl, rfl, ?_⟩
    refine q _ _ (sameN sm hp2) ?_
    rw [t2_eqv]
    constructor
    · intro e; exact ⟨s, hs, e.1, e.2⟩
    · rintro ⟨t, ht, e1, e2⟩
      have : t = s := ht.uniq hs
      subst this
      exact ⟨e1, e2⟩

def sp__has_some (K : PySem.W.Frag) : Sp := fun vs H Q _ => ∃ r g : Str, vs = [.str r, .str g] ∧ g.cps.size ≤ 9 ∧ ∀ H', Same H H' → Q (.bl (hasG r g)) H'
theorem ok__has_some {f : Addr} {fd : FuncData} (F : Fun K "_has_some" "_has_some" s__has_some f fd) (T : Txt K mg) : FnOk P w K mg base CX0 1 f fd ["rights", "group"] (sp__has_some K) := by
  refine F.ok sc__has_some (fun vs H Q E h => ?_) (fun cdv A outer s H vs Q E hr h => ?_)
  · obtain ⟨r, g, rfl, hg, q⟩ := h; rfl
  · obtain ⟨r, g, rfl, hg, q⟩ := h
    refine ⟨_, (pss_one (ps_ret (pe_callB (cr_any rfl) (by rfl) T.z_any (by decide +kernel) (pa_cons (pe_lc (own := [("sign", 2)]) rfl sc__has_some.nd (pi_str (pv 1)) (blkOk_by (own := [("sign", 2)]) (N := ["rights", "group", "sign"]) (sc := defScope s__has_some) (by decide +kernel)) (fun _ _ _ _ _ => (pg_name (i := 2) sc__has_some.nd rfl (.inl rfl))) (fun _ _ _ _ _ => pts_nil) (fun _ _ _ _ _ => (pe_cmpR op_in_sign (pv 2) (pv 0) (by rfl)))) pa_nil)))), ?_⟩
    refine ⟨_, rfl, g, rfl, fun D hD => ?_⟩
    refine lc_it (walk_str (z := g)) (fun i H' => Same H H' ∧ H' D = some (.lst (((g.cps.toList.take i).map fun c => decide (c ∈ r.cps.toList)).map V.bl))) ⟨same_new hD, upd_same⟩ (fun _ _ _ _ => trivial) ?_ ?_
    · rintro i x H1 H2 hi ⟨sm, hl⟩ ⟨rfl, c, hc, rfl⟩
      refine ⟨rfl, ?_⟩
      refine ⟨_, rfl, _, rfl, c, r, rfl, rfl, _, hl, ?_, ?_, ?_⟩
      · rw [List.length_map, List.length_map, List.length_take]; exact szn (by omega)
      · exact fun b o e => by
          have n : b ≠ D := ne_of_none e hD
          rw [upd_ne n]; exact sm b o e
      · rw [upd_same, take_any hi, List.map_append]
        have e : g.cps[i] = c := by
          have := Array.getElem?_eq_getElem hi
          rw [this] at hc
          exact Option.some.inj hc
        rw [e]; rfl
    · rintro H1 ⟨sm, hl⟩
      refine ⟨D, _, rfl, .of hl, ?_⟩
      have e : (((g.cps.toList.take g.cps.size).map fun c => decide (c ∈ r.cps.toList)).any id) = hasG r g := by
        rw [show g.cps.size = g.cps.toList.length by simp, List.take_length]
        unfold hasG
        rw [List.any_map]; rfl
      exact qb (q _ sm) e

def sp__lead_one_way (K : PySem.W.Frag) : Sp := fun vs H Q _ => ∃ r : Str, vs = [.str r] ∧ ∀ H', Same H H' → Q (.bl (decide (([G0, G1, G2].filter (hasG r)).length ≤ 1))) H'
theorem ok__lead_one_way {f : Addr} {fd : FuncData} (F : Fun K "_lead_one_way" "_lead_one_way" s__lead_one_way f fd) (T : Txt K mg) (C__has_some : Cal P w K mg base "_has_some" 1 ["rights", "group"] (sp__has_some K)) : FnOk P w K mg base CX0 2 f fd ["rights"] (sp__lead_one_way K) := by
  obtain ⟨p_GROUPS, hc_GROUPS, hs_GROUPS⟩ := T.c_GROUPS
  refine F.ok sc__lead_one_way (fun vs H Q E h => ?_) (fun cdv A outer s H vs Q E hr h => ?_)
  · obtain ⟨r, rfl, q⟩ := h; rfl
  · obtain ⟨r, rfl, q⟩ := h
    refine ⟨_, (pss_one (ps_ret (pe_cmpR op_le (pe_callB call_len_seq (by rfl) T.z_len (by decide +kernel) (pa_cons (pe_lc (own := [("group", 1)]) rfl sc__lead_one_way.nd (pi_tup (pe_glob (v := .ref p_GROUPS) (by rfl) hc_GROUPS rfl)) (blkOk_by (own := [("group", 1)]) (N := ["rights", "group"]) (sc := defScope s__lead_one_way) (by decide +kernel)) (fun _ _ _ _ _ => (pg_name (i := 1) sc__lead_one_way.nd rfl (.inl rfl))) (fun _ _ _ _ _ => (pts_one (pt_val (pe_cal C__has_some (hr.mono (by decide)) (pa_cons (pv 0) (pa_cons (pv 1) pa_nil)))))) (fun _ _ _ _ _ => (pv 1))) pa_nil)) pe_int (nomark _)))), ?_⟩
    refine ⟨p_GROUPS, rfl, ⟨_, hs_GROUPS _⟩, fun D hD => ?_⟩
    refine lc_it (walk_tup (xs := [.str G0, .str G1, .str G2])) (fun i H' => Same H H' ∧ H' D = some (.lst ((([G0, G1, G2].take i).filter (hasG r)).map V.str))) ⟨same_new hD, upd_same⟩ (fun _ _ _ _ => hs_GROUPS _) ?_ ?_
    · rintro i x H1 H2 hi ⟨sm, hl⟩ ⟨rfl, hx⟩
      obtain ⟨g, hg, rfl⟩ : ∃ g, [G0, G1, G2][i]? = some g ∧ x = V.str g := by
        have : i = 0 ∨ i = 1 ∨ i = 2 := by simp at hi; omega
        rcases this with e | e | e <;> subst e <;> exact ⟨_, rfl, (Option.some.inj hx).symm⟩
      have hg9 : g.cps.size ≤ 9 := by
        have : i = 0 ∨ i = 1 ∨ i = 2 := by simp at hi; omega
        rcases this with e | e | e <;> subst e <;> (cases hg; decide +kernel)
      refine ⟨rfl, ?_⟩
      refine ⟨_, rfl, _, rfl, r, g, rfl, hg9, fun H3 s3 => ⟨_, rfl, ?_⟩⟩
      have tk : [G0, G1, G2].take (i + 1) = [G0, G1, G2].take i ++ [g] := by rw [List.take_add_one, hg]; rfl
      have sm3 := sm.trans s3
      refine ifb (fun e => ?_) (fun e => ?_)
      · refine ⟨_, rfl, _, s3 _ _ hl, ?_, ?_, ?_⟩
        · rw [List.length_map]
          have h1 := List.length_filter_le (hasG r) ([G0, G1, G2].take i)
          have h2 : ([G0, G1, G2].take i).length ≤ 3 := by rw [List.length_take]; exact Nat.min_le_right _ _
          exact szn (by omega)
        · exact fun b o e => by
            have n : b ≠ D := ne_of_none e hD
            rw [upd_ne n]; exact sm3 b o e
        · rw [upd_same, tk, List.filter_append, List.map_append]
          simp [e]
      · refine ⟨sm3, ?_⟩
        rw [tk, List.filter_append]
        simp [e]
        exact s3 _ _ hl
    · rintro H1 ⟨sm, hl⟩
      refine ⟨D, _, rfl, .inl (.of hl), _, _, rfl, rfl, ?_⟩
      have e : decide (((([G0, G1, G2].take 3).filter (hasG r)).map V.str).length ≤ (1 : Int)) = decide (([G0, G1, G2].filter (hasG r)).length ≤ 1) := by
        rw [List.length_map, show [G0, G1, G2].take 3 = [G0, G1, G2] from rfl]
        rw [decide_eq_decide]
        omega
      exact qb (q _ sm) e

def sp_bits_of_rights (K : PySem.W.Frag) : Sp := fun vs H Q _ => ∃ r : Str, vs = [.str r] ∧ ∀ H', Same H H' → Q (.int (maskOf r)) H'
theorem ok_bits_of_rights {f : Addr} {fd : FuncData} (F : Fun K "bits_of_rights" "bits_of_rights" s_bits_of_rights f fd) (T : Txt K mg) : FnOk P w K mg base CX0 1 f fd ["rights"] (sp_bits_of_rights K) := by
  obtain ⟨t_RIGHTS, hc_RIGHTS⟩ := T.c_RIGHTS
  refine F.ok sc_bits_of_rights (fun vs H Q E h => ?_) (fun cdv A outer s H vs Q E hr h => ?_)
  · obtain ⟨r, rfl, q⟩ := h; rfl
  · obtain ⟨r, rfl, q⟩ := h
    refine ⟨_, (pss_one (ps_ret (pe_callB (cr_sum rfl) (by rfl) T.z_sum (by decide +kernel) (pa_cons (pe_lc (own := [("k", 1), ("sign", 2)]) (g := gTup K 2 (gCons (gName 1) (gCons (gName 2) gNil))) rfl sc_bits_of_rights.nd (pi_enumS (by rfl) T.z_enumerate (pa_cons (pe_glob (v := .str (Str.ofString "rwlsnfxco")) (by rfl) hc_RIGHTS ⟨_, rfl⟩) pa_nil)) (blkOk_by (own := [("k", 1), ("sign", 2)]) (N := ["rights", "k", "sign"]) (sc := defScope s_bits_of_rights) (by decide +kernel)) (fun _ _ _ _ _ => by exact (pg_tup rfl (pgs_cons (pg_name (i := 1) sc_bits_of_rights.nd rfl (.inl rfl)) (pgs_cons (pg_name (i := 2) sc_bits_of_rights.nd rfl (.inl rfl)) pgs_nil)))) (fun _ _ _ _ _ => (pts_one (pt_cmpR op_in_sign (pv 2) (pv 0) (by rfl)))) (fun _ _ _ _ _ => (pe_op op_shl pe_int (pv 1)))) pa_nil)))), ?_⟩
    refine ⟨RT, rfl, fun D hD => ?_⟩
    refine lc_it (walk_enumS (z := RT)) (fun i H' => Same H H' ∧ H' D = some (.lst ((mask (hasR r) i).map V.int))) ⟨same_new hD, upd_same⟩ (fun _ _ _ _ => trivial) ?_ ?_
    · rintro i x H1 H2 hi ⟨sm, hl⟩ ⟨Tp, x1, y1, rfl, hn, rfl, hx1, hy1⟩
      rw [RT_size] at hi
      have hy1 : (RT.cps[i]?).map (fun c => V.str ⟨#[c]⟩) = some y1 := hy1
      rw [RT_get i hi] at hy1
      have e1 : x1 = .int (i : Int) := (Option.some.inj hx1).symm
      have e2 : y1 = .str (one (code i)) := (Option.some.inj hy1).symm
      subst e1 e2
      have nD : D ≠ Tp := ne_of_none hl hn
      refine ⟨Tp, _, rfl, .of upd_same, rfl, _, _, rfl, _, _, rfl, rfl, wp2 (by simp) (by simp), ?_⟩
      refine ⟨_, rfl, _, rfl, code i, r, rfl, rfl, _, rfl, ifb (fun e => ?_) (fun e => ?_)⟩
      · refine ⟨_, rfl, _, _, rfl, rfl, ⟨by omega, by omega, by decide⟩, _, (by rw [upd_ne nD]; exact hl), ?_, ?_, ?_⟩
        · rw [List.length_map]
          have := mask_len (hasR r) i
          exact szn (by omega)
        · exact fun b o e => by
            have n : b ≠ D := ne_of_none e hD
            have n2 : b ≠ Tp := ne_of_none (sm b o e) hn
            rw [upd_ne n, upd_ne n2]; exact sm b o e
        · rw [upd_same, mask_succ, List.map_append, if_pos (show hasR r i = true from e)]
          show some (HO.lst (_ ++ [V.int (1 * 2 ^ i)])) = some (HO.lst (_ ++ [V.int (2 ^ i)]))
          rw [Int.one_mul]
      · refine ⟨sameN sm hn, ?_⟩
        rw [upd_ne nD, mask_succ, if_neg (by unfold hasR; rw [e]; exact Bool.false_ne_true), List.append_nil]
        exact hl
    · rintro H1 ⟨sm, hl⟩
      rw [RT_size] at hl
      exact ⟨D, _, rfl, .of hl, q _ sm⟩

def sp_field (K : PySem.W.Frag) : Sp := fun vs H Q _ => ∃ (b : Int) (p : Addr) (lo mn : Nat), vs = [.int b, .ref p] ∧ SqT K H p [.int lo, .int mn] ∧ 0 ≤ b ∧ lo ≤ 100 ∧ mn ≤ 100 ∧ Q (.int (b / 2 ^ lo % 2 ^ mn)) H
theorem ok_field {f : Addr} {fd : FuncData} (F : Fun K "field" "field" s_field f fd) (T : Txt K mg) : FnOk P w K mg base CX0 1 f fd ["bits", "place"] (sp_field K) := by
  refine F.ok sc_field (fun vs H Q E h => ?_) (fun cdv A outer s H vs Q E hr h => ?_)
  · obtain ⟨b, p, lo, mn, rfl, hp, hb, hlo, hmn, q⟩ := h; rfl
  · obtain ⟨b, p, lo, mn, rfl, hp, hb, hlo, hmn, q⟩ := h
    refine ⟨_, (pss_cons (ps_asg (pv 1) (pg_tup rfl (pgs_cons (pg_name (i := 2) sc_field.nd rfl (.inl rfl)) (pgs_cons (pg_name (i := 3) sc_field.nd rfl (.inl rfl)) pgs_nil))))
      (pss_one (ps_ret (pe_op op_and (pe_op op_shr (pv 0) (pv 2)) (pe_op op_sub (pe_op op_shl pe_int (pv 3)) pe_int))))), ?_⟩
    refine ⟨_, rfl, p, _, rfl, hp, rfl, _, _, rfl, _, _, rfl, rfl, ?_⟩
    refine ⟨_, rfl, _, rfl, _, _, rfl, rfl, by omega, _, rfl, _, _, rfl, rfl, ⟨by omega, by omega, by decide⟩, _, _, rfl, rfl, _, _, rfl, rfl, ?_⟩
    have e : Builtin.bitAnd (b / 2 ^ lo) (1 * 2 ^ mn - 1) = b / 2 ^ lo % 2 ^ mn := by
      rw [Int.one_mul, Bits.bitAnd_mask mn (Int.ediv_nonneg hb (Int.le_of_lt (pow_pos2 lo)))]
    exact qi q e

def sp_rights_in (K : PySem.W.Frag) : Sp := fun vs H Q _ => ∃ b : Int, vs = [.int b] ∧ 0 ≤ b ∧ ∀ H', Same H H' → Q (.str (rtx (bitp (fRts b)))) H'
theorem ok_rights_in {f : Addr} {fd : FuncData} (F : Fun K "rights_in" "rights_in" s_rights_in f fd) (T : Txt K mg) (C_field : Cal P w K mg base "field" 1 ["bits", "place"] (sp_field K)) : FnOk P w K mg base CX0 2 f fd ["bits"] (sp_rights_in K) := by
  obtain ⟨t_RIGHTS, hc_RIGHTS⟩ := T.c_RIGHTS
  obtain ⟨p_RIGHTS_BITS, hc_RIGHTS_BITS, hs_RIGHTS_BITS⟩ := T.c_RIGHTS_BITS
  refine F.ok sc_rights_in (fun vs H Q E h => ?_) (fun cdv A outer s H vs Q E hr h => ?_)
  · obtain ⟨b, rfl, hb, q⟩ := h; rfl
  · obtain ⟨b, rfl, hb, q⟩ := h
    refine ⟨_, (pss_cons (ps_set (i := 1) sc_rights_in.nd rfl (.inr rfl) (pe_cal C_field (hr.mono (by decide)) (pa_cons (pv 0) (pa_cons (pe_glob (v := .ref p_RIGHTS_BITS) (by rfl) hc_RIGHTS_BITS rfl) pa_nil))))
      (pss_one (ps_ret (pe_join pe_str (pe_lc (own := [("k", 2), ("sign", 3)]) (g := gTup K 2 (gCons (gName 2) (gCons (gName 3) gNil))) rfl sc_rights_in.nd (pi_enumS (by rfl) T.z_enumerate (pa_cons (pe_glob (v := .str (Str.ofString "rwlsnfxco")) (by rfl) hc_RIGHTS ⟨_, rfl⟩) pa_nil)) (blkOk_by (own := [("k", 2), ("sign", 3)]) (N := ["bits", "number", "k", "sign"]) (sc := defScope s_rights_in) (by decide +kernel)) (fun _ _ _ _ _ => by exact (pg_tup rfl (pgs_cons (pg_name (i := 2) sc_rights_in.nd rfl (.inl rfl)) (pgs_cons (pg_name (i := 3) sc_rights_in.nd rfl (.inl rfl)) pgs_nil)))) (fun _ _ _ _ _ => (pts_one (pt_cmpR op_eq (pe_op op_and (pe_op op_shr (pv 1) (pv 2)) pe_int) pe_int (nomark _)))) (fun _ _ _ _ _ => (pv 3))))))), ?_⟩
    refine ⟨_, rfl, b, p_RIGHTS_BITS, 32, 9, rfl, hs_RIGHTS_BITS _, hb, by decide, by decide, ?_⟩
    refine ⟨⟨_, rfl⟩, RT, rfl, fun D hD => ?_⟩
    have h0 : 0 ≤ fRts b := Int.emod_nonneg _ (by decide)
    refine lc_it (walk_enumS (z := RT)) (fun i H' => Same H H' ∧ H' D = some (.lst ((rcs (bitp (fRts b)) i).map V.str))) ⟨same_new hD, upd_same⟩ (fun _ _ _ _ => trivial) ?_ ?_
    · rintro i x H1 H2 hi ⟨sm, hl⟩ ⟨Tp, x1, y1, rfl, hn, rfl, hx1, hy1⟩
      rw [RT_size] at hi
      have hy1 : (RT.cps[i]?).map (fun c => V.str ⟨#[c]⟩) = some y1 := hy1
      rw [RT_get i hi] at hy1
      have e1 : x1 = .int (i : Int) := (Option.some.inj hx1).symm
      have e2 : y1 = .str (one (code i)) := (Option.some.inj hy1).symm
      subst e1 e2
      have nD : D ≠ Tp := ne_of_none hl hn
      refine ⟨Tp, _, rfl, .of upd_same, rfl, _, _, rfl, _, _, rfl, rfl, wp2 (by simp) (by simp), ?_⟩
      have eb : Builtin.bitAnd (fRts b / 2 ^ i) 1 = fRts b / 2 ^ i % 2 := by
        have := Bits.bitAnd_mask 1 (x := fRts b / 2 ^ i) (Int.ediv_nonneg h0 (Int.le_of_lt (pow_pos2 i)))
        exact this
      refine ⟨_, rfl, _, rfl, _, _, rfl, rfl, by omega, _, _, rfl, rfl, rfl, _, rfl, ifd (fun e => ?_) (fun e => ?_)⟩
      · have e3 : bitp (fRts b) i = true := by
          unfold bitp
          rw [← eb]
          exact decide_eq_true (V.int.inj e)
        refine ⟨_, rfl, _, (by rw [upd_ne nD]; exact hl), ?_, ?_, ?_⟩
        · rw [List.length_map]
          have := rcs_len (bitp (fRts b)) i
          exact szn (by omega)
        · exact fun b o e => by
            have n : b ≠ D := ne_of_none e hD
            have n2 : b ≠ Tp := ne_of_none (sm b o e) hn
            rw [upd_ne n, upd_ne n2]; exact sm b o e
        · rw [upd_same, rcs_succ, List.map_append, if_pos e3]; rfl
      · refine ⟨sameN sm hn, ?_⟩
        have e3 : ¬ bitp (fRts b) i = true := by
          unfold bitp
          rw [← eb]
          intro z
          exact e (congrArg V.int (of_decide_eq_true z))
        rw [upd_ne nD, rcs_succ, if_neg e3, List.append_nil]
        exact hl
    · rintro H1 ⟨sm, hl⟩
      rw [RT_size] at hl
      exact ⟨_, D, _, rfl, rfl, .inl (.of hl), rcs_fit _, q _ sm⟩

def sp__tell (K : PySem.W.Frag) : Sp := fun vs H Q _ => ∃ b : Int, vs = [.int b] ∧ 0 ≤ b ∧ ∀ c, (c = true ↔ Tells b) → Q (.bl c) H
theorem ok__tell {f : Addr} {fd : FuncData} (F : Fun K "_tell" "_tell" s__tell f fd) (T : Txt K mg) (C_field : Cal P w K mg base "field" 1 ["bits", "place"] (sp_field K)) : FnOk P w K mg base CX0 2 f fd ["bits"] (sp__tell K) := by
  obtain ⟨t_CELLS, hc_CELLS⟩ := T.c_CELLS
  obtain ⟨p_COUNT_LESS_ONE, hc_COUNT_LESS_ONE, hs_COUNT_LESS_ONE⟩ := T.c_COUNT_LESS_ONE
  obtain ⟨p_FIRST, hc_FIRST, hs_FIRST⟩ := T.c_FIRST
  obtain ⟨t_LEAST_COUNT, hc_LEAST_COUNT⟩ := T.c_LEAST_COUNT
  obtain ⟨p_STEP, hc_STEP, hs_STEP⟩ := T.c_STEP
  obtain ⟨t_TOP_STEP, hc_TOP_STEP⟩ := T.c_TOP_STEP
  refine F.ok sc__tell (fun vs H Q E h => ?_) (fun cdv A outer s H vs Q E hr h => ?_)
  · obtain ⟨b, rfl, hb, q⟩ := h; rfl
  · obtain ⟨b, rfl, hb, q⟩ := h
    refine ⟨_, (pss_cons (ps_set (i := 1) sc__tell.nd rfl (.inl rfl) (pe_cal C_field (hr.mono (by decide)) (pa_cons (pv 0) (pa_cons (pe_glob (v := .ref p_STEP) (by rfl) hc_STEP rfl) pa_nil))))
      (pss_cons (ps_set (i := 2) sc__tell.nd rfl (.inl rfl) (pe_op op_add (pe_cal C_field (hr.mono (by decide)) (pa_cons (pv 0) (pa_cons (pe_glob (v := .ref p_COUNT_LESS_ONE) (by rfl) hc_COUNT_LESS_ONE rfl) pa_nil))) pe_int))
      (pss_cons (ps_if (PW.pt (pw_or (pt_cmpR op_gt (pv 1) (pe_glob (v := .int 8) (by rfl) hc_TOP_STEP ⟨_, rfl⟩) (nomark _)) (pw_or1 (PW.pt (pw_and (pt_cmpR op_gt (pv 1) pe_int (nomark _)) (pw_and1 (pt_cmpR op_lt (pv 2) (pe_glob (v := .int 9) (by rfl) hc_LEAST_COUNT ⟨_, rfl⟩) (nomark _)))))))) (pss_one (ps_ret pe_bl)) pss_nil)
      (pss_one (ps_ret (pe_cmpR op_le (pe_op op_shl (pe_op op_add (pe_cal C_field (hr.mono (by decide)) (pa_cons (pv 0) (pa_cons (pe_glob (v := .ref p_FIRST) (by rfl) hc_FIRST rfl) pa_nil))) (pv 2)) (pv 1)) (pe_glob (v := .int 4096) (by rfl) hc_CELLS ⟨_, rfl⟩) (nomark _))))))), ?_⟩
    have f := fb b
    refine ⟨_, rfl, b, p_STEP, 28, 4, rfl, hs_STEP _, hb, by decide, by decide, ?_⟩
    refine ⟨_, rfl, b, p_COUNT_LESS_ONE, 24, 4, rfl, hs_COUNT_LESS_ONE _, hb, by decide, by decide, _, _, rfl, rfl, ?_⟩
    refine ⟨_, rfl, _, _, rfl, rfl, _, rfl, ifd (fun c1 => ?_) (fun c1 => ?_)⟩
    · have c2 : 8 < fStep b := c1
      show Q (.bl false) H
      exact q _ ⟨fun h => Bool.noConfusion h, fun h => absurd h.1 (by omega)⟩
    have c2 : ¬ 8 < fStep b := c1
    have fin : ((fStep b = 0 ∨ 9 ≤ fCnt b)) → Q (.bl (decide ((fFirst b + fCnt b) * 2 ^ (fStep b).toNat ≤ 4096))) H := fun z => by
      refine q _ ?_
      rw [decide_eq_true_iff]
      exact ⟨fun h => ⟨by omega, z, h⟩, fun h => h.2.2⟩
    refine ⟨_, rfl, _, _, rfl, rfl, _, rfl, ifd (fun c3 => ?_) (fun c3 => ?_)⟩
    · have c4 : 0 < fStep b := c3
      refine ⟨_, rfl, _, _, rfl, rfl, _, rfl, ifd (fun c5 => ?_) (fun c5 => ?_)⟩
      · have c6 : fCnt b < 9 := c5
        show Q (.bl false) H
        exact q _ ⟨fun h => Bool.noConfusion h, fun h => by have := h.2.1; omega⟩
      · have c6 : ¬ fCnt b < 9 := c5
        refine ⟨_, rfl, b, p_FIRST, 12, 12, rfl, hs_FIRST _, hb, by decide, by decide, _, rfl, _, _, rfl, rfl, _, rfl, _, _, rfl, rfl, cpw (z := fFirst b + fCnt b) (s := fStep b) (by omega) (by omega) (by omega) (by omega), _, _, rfl, rfl, fin (.inr (by omega))⟩
    · have c4 : ¬ 0 < fStep b := c3
      refine ⟨_, rfl, b, p_FIRST, 12, 12, rfl, hs_FIRST _, hb, by decide, by decide, _, rfl, _, _, rfl, rfl, _, rfl, _, _, rfl, rfl, cpw (z := fFirst b + fCnt b) (s := fStep b) (by omega) (by omega) (by omega) (by omega), _, _, rfl, rfl, fin (.inl (by omega))⟩

def sp_bounds_in (K : PySem.W.Frag) : Sp := fun vs H Q _ => ∃ b : Int, vs = [.int b] ∧ 0 ≤ b ∧ ∀ p H', Same H H' → H p = none → H' p = some (.tup [.int (fFirst b * 2 ^ (fStep b).toNat), .int ((fFirst b + fCnt b) * 2 ^ (fStep b).toNat)]) → Q (.ref p) H'
theorem ok_bounds_in {f : Addr} {fd : FuncData} (F : Fun K "bounds_in" "bounds_in" s_bounds_in f fd) (T : Txt K mg) (C_field : Cal P w K mg base "field" 1 ["bits", "place"] (sp_field K)) : FnOk P w K mg base CX0 2 f fd ["bits"] (sp_bounds_in K) := by
  obtain ⟨p_COUNT_LESS_ONE, hc_COUNT_LESS_ONE, hs_COUNT_LESS_ONE⟩ := T.c_COUNT_LESS_ONE
  obtain ⟨p_FIRST, hc_FIRST, hs_FIRST⟩ := T.c_FIRST
  obtain ⟨p_STEP, hc_STEP, hs_STEP⟩ := T.c_STEP
  refine F.ok sc_bounds_in (fun vs H Q E h => ?_) (fun cdv A outer s H vs Q E hr h => ?_)
  · obtain ⟨b, rfl, hb, q⟩ := h; rfl
  · obtain ⟨b, rfl, hb, q⟩ := h
    refine ⟨_, (pss_cons (ps_set (i := 1) sc_bounds_in.nd rfl (.inl rfl) (pe_cal C_field (hr.mono (by decide)) (pa_cons (pv 0) (pa_cons (pe_glob (v := .ref p_STEP) (by rfl) hc_STEP rfl) pa_nil))))
      (pss_cons (ps_set (i := 2) sc_bounds_in.nd rfl (.inl rfl) (pe_cal C_field (hr.mono (by decide)) (pa_cons (pv 0) (pa_cons (pe_glob (v := .ref p_FIRST) (by rfl) hc_FIRST rfl) pa_nil))))
      (pss_one (ps_ret (pe_tup (pa_cons (pe_op op_shl (pv 2) (pv 1)) (pa_cons (pe_op op_shl (pe_op op_add (pe_op op_add (pv 2) (pe_cal C_field (hr.mono (by decide)) (pa_cons (pv 0) (pa_cons (pe_glob (v := .ref p_COUNT_LESS_ONE) (by rfl) hc_COUNT_LESS_ONE rfl) pa_nil)))) pe_int) (pv 1)) pa_nil))))))), ?_⟩
    have f := fb b
    refine ⟨_, rfl, b, p_STEP, 28, 4, rfl, hs_STEP _, hb, by decide, by decide, ?_⟩
    refine ⟨_, rfl, b, p_FIRST, 12, 12, rfl, hs_FIRST _, hb, by decide, by decide, ?_⟩
    refine ⟨_, rfl, _, rfl, _, _, rfl, rfl, cpw (z := fFirst b) (s := fStep b) (by omega) (by omega) (by omega) (by omega), ?_⟩
    refine ⟨_, rfl, _, rfl, b, p_COUNT_LESS_ONE, 24, 4, rfl, hs_COUNT_LESS_ONE _, hb, by decide, by decide, _, _, rfl, rfl, _, _, rfl, rfl, _, rfl, _, _, rfl, rfl, cpw (z := fFirst b + (b / 2 ^ 24 % 2 ^ 4) + 1) (s := fStep b) (by unfold fCnt at f; omega) (by unfold fCnt at f; omega) (by omega) (by omega), sz (by simp), fun p hp => ?_⟩
    refine q p _ (same_new hp) hp ?_
    rw [upd_same]
    have e2 : fFirst b + (b / 2 ^ 24 % 2 ^ 4) + 1 = fFirst b + fCnt b := by unfold fCnt; omega
    rw [← e2]
    rfl

def sp_fields_of (K : PySem.W.Frag) : Sp := fun vs H Q _ => ∃ (p : Addr) (v : V) (b : Int), vs = [.ref p] ∧ H p = some (.tup [v, .int b]) ∧ 0 ≤ b ∧ (¬ Tells b → ∀ H', Same H H' → Q .non H') ∧ (Tells b → ∀ q H', Same H H' → H q = none → H' q = some (.tup [.int (fFirst b * 2 ^ (fStep b).toNat), .int ((fFirst b + fCnt b) * 2 ^ (fStep b).toNat), .int (fAt b), .str (rtx (bitp (fRts b))), .int (fKind b)]) → Q (.ref q) H')
theorem ok_fields_of {f : Addr} {fd : FuncData} (F : Fun K "fields_of" "fields_of" s_fields_of f fd) (T : Txt K mg) (C_field : Cal P w K mg base "field" 1 ["bits", "place"] (sp_field K)) (C_rights_in : Cal P w K mg base "rights_in" 2 ["bits"] (sp_rights_in K)) (C__tell : Cal P w K mg base "_tell" 2 ["bits"] (sp__tell K)) (C_bounds_in : Cal P w K mg base "bounds_in" 2 ["bits"] (sp_bounds_in K)) : FnOk P w K mg base CX0 3 f fd ["word"] (sp_fields_of K) := by
  obtain ⟨p_AT, hc_AT, hs_AT⟩ := T.c_AT
  obtain ⟨p_KIND, hc_KIND, hs_KIND⟩ := T.c_KIND
  refine F.ok sc_fields_of (fun vs H Q E h => ?_) (fun cdv A outer s H vs Q E hr h => ?_)
  · obtain ⟨p, v, b, rfl, hp, hb, q1, q2⟩ := h; rfl
  · obtain ⟨p, v, b, rfl, hp, hb, q1, q2⟩ := h
    refine ⟨_, (pss_cons (ps_set (i := 1) sc_fields_of.nd rfl (.inl rfl) (pe_ix (r := rIxT K) ix_tup (pv 0) pe_int (fun _ _ => rfl)))
      (pss_cons (ps_if (pt_not (pt_val (pe_cal C__tell (hr.mono (by decide)) (pa_cons (pv 1) pa_nil)))) (pss_one (ps_ret pe_non)) pss_nil)
      (pss_cons (ps_asg (pe_cal C_bounds_in (hr.mono (by decide)) (pa_cons (pv 1) pa_nil)) (pg_tup rfl (pgs_cons (pg_name (i := 2) sc_fields_of.nd rfl (.inl rfl)) (pgs_cons (pg_name (i := 3) sc_fields_of.nd rfl (.inl rfl)) pgs_nil))))
      (pss_one (ps_ret (pe_tup (pa_cons (pv 2) (pa_cons (pv 3) (pa_cons (pe_cal C_field (hr.mono (by decide)) (pa_cons (pv 1) (pa_cons (pe_glob (v := .ref p_AT) (by rfl) hc_AT rfl) pa_nil))) (pa_cons (pe_cal C_rights_in (hr.mono (by decide)) (pa_cons (pv 1) pa_nil)) (pa_cons (pe_cal C_field (hr.mono (by decide)) (pa_cons (pv 1) (pa_cons (pe_glob (v := .ref p_KIND) (by rfl) hc_KIND rfl) pa_nil))) pa_nil))))))))))), ?_⟩
    refine ⟨_, rfl, p, _, 1, _, rfl, rfl, .of hp, atI_nat (j := 1) rfl, ?_⟩
    refine ⟨_, rfl, b, rfl, hb, fun c hc => ⟨_, rfl, ifnb (fun e => ?_) (fun e => ?_)⟩⟩
    · show Q .non H
      exact q1 (fun z => by rw [hc.mpr z] at e; cases e) H (Same.refl _)
    refine ⟨_, rfl, b, rfl, hb, fun p1 H0 s0 hp1 h1 => ?_⟩
    refine ⟨p1, _, rfl, .of h1, rfl, _, _, rfl, _, _, rfl, rfl, ?_⟩
    refine ⟨_, rfl, _, rfl, _, rfl, b, p_AT, 0, 12, rfl, hs_AT _, hb, by decide, by decide, _, rfl, b, rfl, hb, fun H1 s1 => ?_⟩
    refine ⟨_, rfl, b, p_KIND, 41, 4, rfl, hs_KIND _, hb, by decide, by decide, sz (by simp), fun q hq => ?_⟩
    refine q2 (hc.mp e) q _ (sameN (s0.trans s1) hq) (Same.free (s0.trans s1) hq) ?_
    rw [upd_same]
    rfl

def sp_is_rights (K : PySem.W.Frag) : Sp := fun vs H Q _ => ∃ v, vs = [v] ∧ Kd H v ∧ ∀ b H', Same H H' → (b = true ↔ ∃ r, v = .str r ∧ r = rtx (hasR r)) → Q (.bl b) H'
theorem ok_is_rights {f : Addr} {fd : FuncData} (F : Fun K "is_rights" "is_rights" s_is_rights f fd) (T : Txt K mg) : FnOk P w K mg base CX0 1 f fd ["thing"] (sp_is_rights K) := by
  obtain ⟨t_RIGHTS, hc_RIGHTS⟩ := T.c_RIGHTS
  refine F.ok sc_is_rights (fun vs H Q E h => ?_) (fun cdv A outer s H vs Q E hr h => ?_)
  · obtain ⟨v, rfl, hv, q⟩ := h; rfl
  · obtain ⟨v, rfl, hv, q⟩ := h
    refine ⟨_, (pss_one (ps_ret (pe_and (pe_callB call_isi (by rfl) T.z_isinstance (by decide +kernel) (pa_cons (pv 0) (pa_cons (pe_bltn (v := .ty "str") (by rfl) T.z_str (by decide +kernel) rfl) pa_nil))) (pe_one (pe_cmpR op_eq (pv 0) (pe_join pe_str (pe_lc (own := [("sign", 1)]) rfl sc_is_rights.nd (pi_str (pe_glob (v := .str (Str.ofString "rwlsnfxco")) (by rfl) hc_RIGHTS ⟨_, rfl⟩)) (blkOk_by (own := [("sign", 1)]) (N := ["thing", "sign"]) (sc := defScope s_is_rights) (by decide +kernel)) (fun _ _ _ _ _ => (pg_name (i := 1) sc_is_rights.nd rfl (.inl rfl))) (fun _ _ _ _ _ => (pts_one (pt_cmpR op_in_sign (pv 1) (pv 0) (by rfl)))) (fun _ _ _ _ _ => (pv 1)))) (nomark _)))))), ?_⟩
    obtain ⟨t, ty, kt⟩ := hv.str? (K := K)
    refine ⟨_, rfl, _, _, t, _, isS v, rfl, .ty "str", ty, kt, isS v, rfl, ifb (fun e1 => ?_) (fun e1 => ?_)⟩
    · obtain ⟨r, rfl⟩ : ∃ r, v = .str r := by
        cases hv with
        | str r => exact ⟨r, rfl⟩
        | _ => cases e1
      refine ⟨_, rfl, ⟨_, rfl⟩, RT, rfl, fun D hD => ?_⟩
      refine lc_it (walk_str (z := RT)) (fun i H' => Same H H' ∧ H' D = some (.lst ((rcs (hasR r) i).map V.str))) ⟨same_new hD, upd_same⟩ (fun _ _ _ _ => trivial) ?_ ?_
      · rintro i x H1 H2 hi ⟨sm, hl⟩ ⟨rfl, c, hc, rfl⟩
        rw [RT_size] at hi
        rw [RT_get i hi] at hc
        have ec : c = code i := (Option.some.inj hc).symm
        subst ec
        refine ⟨rfl, ?_⟩
        refine ⟨_, rfl, _, rfl, code i, r, rfl, rfl, _, rfl, ifb (fun e => ?_) (fun e => ?_)⟩
        · refine ⟨_, rfl, _, hl, ?_, ?_, ?_⟩
          · rw [List.length_map]
            have := rcs_len (hasR r) i
            exact szn (by omega)
          · exact fun b o e => by
              have n : b ≠ D := ne_of_none e hD
              rw [upd_ne n]; exact sm b o e
          · rw [upd_same, rcs_succ, List.map_append, if_pos (show hasR r i = true from e)]; rfl
        · refine ⟨sm, ?_⟩
          rw [rcs_succ, if_neg (by unfold hasR; rw [e]; exact Bool.false_ne_true), List.append_nil]
          exact hl
      · rintro H1 ⟨sm, hl⟩
        rw [RT_size] at hl
        refine ⟨_, D, _, rfl, rfl, .inl (.of hl), rcs_fit _, rfl, q _ _ sm ?_⟩
        rw [decide_eq_true_iff]
        exact ⟨fun h => ⟨r, rfl, V.str.inj h⟩, fun ⟨r', e, h⟩ => by cases e; exact congrArg V.str h⟩
    · refine q _ _ (Same.refl _) ⟨fun h => Bool.noConfusion h, fun ⟨r', e, h⟩ => by cases e; cases e1⟩

def sp__are_fields (K : PySem.W.Frag) : Sp := fun vs H Q _ => ∃ v, vs = [v] ∧ ((∃ p xs, v = .ref p ∧ H p = some (.tup xs) ∧ (∀ x ∈ xs, Kd H x) ∧ ∀ b H', Same H H' → (b = true ↔ F5 xs) → Q (.bl b) H') ∨ (NoT H v ∧ ∀ H', Same H H' → Q (.bl false) H'))
theorem ok__are_fields {f : Addr} {fd : FuncData} (F : Fun K "_are_fields" "_are_fields" s__are_fields f fd) (T : Txt K mg) (C_is_whole : Cal P w K mg base "is_whole" 1 ["thing", "least", "most"] (sp_is_whole K)) (C_are_bounds : Cal P w K mg base "are_bounds" 2 ["low", "high"] (sp_are_bounds K)) (C_is_exact : Cal P w K mg base "is_exact" 6 ["low", "high"] (sp_is_exact K)) (C__lead_one_way : Cal P w K mg base "_lead_one_way" 2 ["rights"] (sp__lead_one_way K)) (C_is_rights : Cal P w K mg base "is_rights" 1 ["thing"] (sp_is_rights K)) : FnOk P w K mg base CX0 7 f fd ["thing"] (sp__are_fields K) := by
  obtain ⟨t_CELLS, hc_CELLS⟩ := T.c_CELLS
  obtain ⟨t_TOP_KIND, hc_TOP_KIND⟩ := T.c_TOP_KIND
  refine F.ok sc__are_fields (fun vs H Q E h => ?_) (fun cdv A outer s H vs Q E hr h => ?_)
  · obtain ⟨v, rfl, q⟩ := h; rfl
  · obtain ⟨v, rfl, q⟩ := h
    refine ⟨_, (pss_cons (ps_if (PW.pt (pw_or (pt_not (pt_val (pe_callB call_isi (by rfl) T.z_isinstance (by decide +kernel) (pa_cons (pv 0) (pa_cons (pe_bltn (v := .ty "tuple") (by rfl) T.z_tuple (by decide +kernel) rfl) pa_nil))))) (pw_or1 (pt_cmpR op_ne (pe_callB call_len_seq (by rfl) T.z_len (by decide +kernel) (pa_cons (pv 0) pa_nil)) pe_int (nomark _))))) (pss_one (ps_ret pe_bl)) pss_nil)
      (pss_cons (ps_asg (pv 0) (pg_tup rfl (pgs_cons (pg_name (i := 1) sc__are_fields.nd rfl (.inl rfl)) (pgs_cons (pg_name (i := 2) sc__are_fields.nd rfl (.inl rfl)) (pgs_cons (pg_name (i := 3) sc__are_fields.nd rfl (.inl rfl)) (pgs_cons (pg_name (i := 4) sc__are_fields.nd rfl (.inl rfl)) (pgs_cons (pg_name (i := 5) sc__are_fields.nd rfl (.inl rfl)) pgs_nil)))))))
      (pss_cons (ps_if (PW.pt (pw_or (pt_not (pt_val (pe_cal C_are_bounds (hr.mono (by decide)) (pa_cons (pv 1) (pa_cons (pv 2) pa_nil))))) (pw_or1 (pt_not (pt_val (pe_cal C_is_exact (hr.mono (by decide)) (pa_cons (pv 1) (pa_cons (pv 2) pa_nil)))))))) (pss_one (ps_ret pe_bl)) pss_nil)
      (pss_cons (ps_if (PW.pt (pw_or (pt_not (pt_val (pe_cal C_is_whole (hr.mono (by decide)) (pa_cons (pv 3) (pa_cons pe_int (pa_cons (pe_op op_sub (pe_glob (v := .int 4096) (by rfl) hc_CELLS ⟨_, rfl⟩) pe_int) pa_nil)))))) (pw_or1 (pt_not (pt_val (pe_cal C_is_whole (hr.mono (by decide)) (pa_cons (pv 5) (pa_cons pe_int (pa_cons (pe_glob (v := .int 15) (by rfl) hc_TOP_KIND ⟨_, rfl⟩) pa_nil))))))))) (pss_one (ps_ret pe_bl)) pss_nil)
      (pss_one (ps_ret (pe_and (pe_cal C_is_rights (hr.mono (by decide)) (pa_cons (pv 4) pa_nil)) (pe_one (pe_cal C__lead_one_way (hr.mono (by decide)) (pa_cons (pv 4) pa_nil)))))))))), ?_⟩
    rcases q with ⟨p, xs, rfl, hp, hk, q⟩ | ⟨nt, q⟩
    · refine ⟨_, rfl, _, _, _, _, true, rfl, .ty "tuple", .base (.tup hp), kit_ty (by decide +kernel), true, rfl, ?_⟩
      refine ⟨_, rfl, p, _, rfl, .inr (.of hp), rfl, _, rfl, ifnd (fun c => ?_) (fun c => ?_)⟩
      · show Q (.bl false) H
        refine q _ _ (Same.refl _) ⟨fun h => Bool.noConfusion h, fun ⟨a1, a2, a3, a4, a5, e, _⟩ => ?_⟩
        subst e
        exact absurd rfl c
      have h5 : xs.length = 5 := by
        have := V.int.inj c
        omega
      obtain ⟨x1, x2, x3, x4, x5, rfl⟩ : ∃ x1 x2 x3 x4 x5, xs = [x1, x2, x3, x4, x5] := match xs, h5 with
        | [a, b, c, d, e], _ => ⟨a, b, c, d, e, rfl⟩
      refine ⟨_, rfl, p, _, rfl, .of hp, rfl, _, _, rfl, _, _, rfl, _, _, rfl, _, _, rfl, _, _, rfl, rfl, ?_⟩
      have no : ∀ H', Same H H' → ¬ F5 [x1, x2, x3, x4, x5] → Q (.bl false) H' := fun H' s z => q _ _ s ⟨fun h => Bool.noConfusion h, fun h => absurd h z⟩
      refine ⟨_, rfl, _, rfl, x1, x2, rfl, hk x1 (by simp), hk x2 (by simp), fun b hb => ⟨_, rfl, ifnb (fun e => ?_) (fun e => ?_)⟩⟩
      · show Q (.bl false) H
        refine no _ (Same.refl _) ?_
        rintro ⟨lo, hi, a, r, kd, ex, bd, _⟩
        injection ex with e1 e2
        injection e2 with e2 e3
        rw [hb.mpr ⟨lo, hi, e1, e2, bd⟩] at e; cases e
      obtain ⟨lo, hi, rfl, rfl, bd⟩ := hb.mp e
      refine ⟨_, rfl, _, rfl, lo, hi, rfl, bd, fun b2 H1 s1 hb2 => ⟨_, rfl, ifnb (fun e2 => ?_) (fun e2 => ?_)⟩⟩
      · show Q (.bl false) H1
        refine no _ s1 ?_
        rintro ⟨lo', hi', a, r, kd, ex, bd, hex, _⟩
        injection ex with e1 e3
        injection e3 with e3 e4
        cases e1; cases e3
        rw [hb2.mpr hex] at e2; cases e2
      have hex := hb2.mp e2
      refine ⟨_, rfl, _, _, rfl, rfl, x3, _, _, rfl, (hk x3 (by simp)).same s1, fun b3 hb3 => ⟨_, rfl, ifnb (fun e3 => ?_) (fun e3 => ?_)⟩⟩
      · show Q (.bl false) H1
        refine no _ s1 ?_
        rintro ⟨lo', hi', a, r, kd, ex, _, _, a0, a1, _⟩
        injection ex with _ ex
        injection ex with _ ex
        injection ex with ex _
        rw [hb3.mpr ⟨a, ex, a0, a1⟩] at e3; cases e3
      obtain ⟨at', rfl, a0, a1⟩ := hb3.mp e3
      refine ⟨_, rfl, x5, _, _, rfl, (hk x5 (by simp)).same s1, fun b4 hb4 => ⟨_, rfl, ifnb (fun e4 => ?_) (fun e4 => ?_)⟩⟩
      · show Q (.bl false) H1
        refine no _ s1 ?_
        rintro ⟨lo', hi', a, r, kd, ex, _, _, _, _, k0, k1, _⟩
        injection ex with _ ex
        injection ex with _ ex
        injection ex with _ ex
        injection ex with _ ex
        injection ex with ex _
        rw [hb4.mpr ⟨kd, ex, k0, k1⟩] at e4; cases e4
      obtain ⟨kd, rfl, k0, k1⟩ := hb4.mp e4
      refine ⟨_, rfl, x4, rfl, (hk x4 (by simp)).same s1, fun b5 H2 s2 hb5 => ⟨_, rfl, ifb (fun e5 => ?_) (fun e5 => ?_)⟩⟩
      · obtain ⟨r, rfl, hr5⟩ := hb5.mp e5
        refine ⟨_, rfl, r, rfl, fun H3 s3 => q _ _ ((s1.trans s2).trans s3) ?_⟩
        rw [decide_eq_true_iff]
        constructor
        · intro h
          exact ⟨lo, hi, at', r, kd, rfl, bd, hex, a0, a1, k0, k1, hr5, h⟩
        · rintro ⟨lo', hi', a, r', kd', ex, _, _, _, _, _, _, _, h⟩
          injection ex with _ ex
          injection ex with _ ex
          injection ex with _ ex
          injection ex with ex _
          cases ex
          exact h
      · refine no _ (s1.trans s2) ?_
        rintro ⟨lo', hi', a, r, kd', ex, _, _, _, _, _, _, hr5, _⟩
        injection ex with _ ex
        injection ex with _ ex
        injection ex with _ ex
        injection ex with ex _
        rw [hb5.mpr ⟨r, ex, hr5⟩] at e5; cases e5
    · obtain ⟨t, ty, kt⟩ := nt.tup? (K := K)
      refine ⟨_, rfl, _, _, t, _, false, rfl, .ty "tuple", ty, kt, false, rfl, ?_⟩
      show Q (.bl false) H
      exact q _ (Same.refl _)

def sp_word_of (K : PySem.W.Frag) : Sp := fun vs H Q _ => ∃ (p : Addr) (lo hi at' : Int) (r : Str) (kd : Int) (mk : V), vs = [.ref p, mk] ∧ H p = some (.tup [.int lo, .int hi, .int at', .str r, .int kd]) ∧ F5 [.int lo, .int hi, .int at', .str r, .int kd] ∧ ∀ (s : Nat) q H', StepIs lo hi s → Same H H' → H q = none → H' q = some (.tup [mk, .int (wbits lo hi at' (maskOf r) kd s)]) → Q (.ref q) H'
theorem ok_word_of {f : Addr} {fd : FuncData} (F : Fun K "word_of" "word_of" s_word_of f fd) (T : Txt K mg) (C_in_bits : Cal P w K mg base "in_bits" 4 ["low", "high"] (sp_in_bits K)) (C_bits_of_rights : Cal P w K mg base "bits_of_rights" 1 ["rights"] (sp_bits_of_rights K)) (C__are_fields : Cal P w K mg base "_are_fields" 7 ["thing"] (sp__are_fields K)) : FnOk P w K mg base CX0 8 f fd ["fields", "marked"] (sp_word_of K) := by
  obtain ⟨p_AT, hc_AT, hs_AT⟩ := T.c_AT
  obtain ⟨p_COUNT_LESS_ONE, hc_COUNT_LESS_ONE, hs_COUNT_LESS_ONE⟩ := T.c_COUNT_LESS_ONE
  obtain ⟨p_FIRST, hc_FIRST, hs_FIRST⟩ := T.c_FIRST
  obtain ⟨p_KIND, hc_KIND, hs_KIND⟩ := T.c_KIND
  obtain ⟨p_RIGHTS_BITS, hc_RIGHTS_BITS, hs_RIGHTS_BITS⟩ := T.c_RIGHTS_BITS
  obtain ⟨p_STEP, hc_STEP, hs_STEP⟩ := T.c_STEP
  refine F.ok sc_word_of (fun vs H Q E h => ?_) (fun cdv A outer s H vs Q E hr h => ?_)
  · obtain ⟨p, lo, hi, at', r, kd, mk, rfl, hp, hf, q⟩ := h; rfl
  · obtain ⟨p, lo, hi, at', r, kd, mk, rfl, hp, hf, q⟩ := h
    refine ⟨_, (pss_cons (ps_if (pt_not (pt_val (pe_cal C__are_fields (hr.mono (by decide)) (pa_cons (pv 0) pa_nil)))) (pss_one ps_never) pss_nil)
      (pss_cons (ps_asg (pv 0) (pg_tup rfl (pgs_cons (pg_name (i := 2) sc_word_of.nd rfl (.inl rfl)) (pgs_cons (pg_name (i := 3) sc_word_of.nd rfl (.inl rfl)) (pgs_cons (pg_name (i := 4) sc_word_of.nd rfl (.inl rfl)) (pgs_cons (pg_name (i := 5) sc_word_of.nd rfl (.inl rfl)) (pgs_cons (pg_name (i := 6) sc_word_of.nd rfl (.inl rfl)) pgs_nil)))))))
      (pss_cons (ps_asg (pe_cal C_in_bits (hr.mono (by decide)) (pa_cons (pv 2) (pa_cons (pv 3) pa_nil))) (pg_tup rfl (pgs_cons (pg_name (i := 7) sc_word_of.nd rfl (.inl rfl)) (pgs_cons (pg_name (i := 8) sc_word_of.nd rfl (.inl rfl)) (pgs_cons (pg_name (i := 9) sc_word_of.nd rfl (.inl rfl)) pgs_nil)))))
      (pss_cons (ps_set (i := 10) sc_word_of.nd rfl (.inl rfl) (pe_tup (pa_cons (pe_glob (v := .ref p_AT) (by rfl) hc_AT rfl) (pa_cons (pe_glob (v := .ref p_FIRST) (by rfl) hc_FIRST rfl) (pa_cons (pe_glob (v := .ref p_COUNT_LESS_ONE) (by rfl) hc_COUNT_LESS_ONE rfl) (pa_cons (pe_glob (v := .ref p_STEP) (by rfl) hc_STEP rfl) (pa_cons (pe_glob (v := .ref p_RIGHTS_BITS) (by rfl) hc_RIGHTS_BITS rfl) (pa_cons (pe_glob (v := .ref p_KIND) (by rfl) hc_KIND rfl) pa_nil))))))))
      (pss_cons (ps_set (i := 11) sc_word_of.nd rfl (.inl rfl) (pe_tup (pa_cons (pv 4) (pa_cons (pv 8) (pa_cons (pe_op op_sub (pv 9) pe_int) (pa_cons (pv 7) (pa_cons (pe_cal C_bits_of_rights (hr.mono (by decide)) (pa_cons (pv 5) pa_nil)) (pa_cons (pv 6) pa_nil))))))))
      (pss_one (ps_ret (pe_tup (pa_cons (pv 1) (pa_cons (pe_callB (cr_sum rfl) (by rfl) T.z_sum (by decide +kernel) (pa_cons (pe_lc (own := [("place", 12), ("worth", 13)]) (g := gTup K 2 (gCons (gName 12) (gCons (gName 13) gNil))) rfl sc_word_of.nd (RZ.pi_zipA (by rfl) T.z_zip (pa_cons (pv 10) (pa_cons (pv 11) pa_nil))) (blkOk_by (own := [("place", 12), ("worth", 13)]) (N := ["fields", "marked", "low", "high", "at", "rights", "kind", "step", "first", "count", "places", "worths", "place", "worth"]) (sc := defScope s_word_of) (by decide +kernel)) (fun _ _ _ _ _ => by exact (pg_tup rfl (pgs_cons (pg_name (i := 12) sc_word_of.nd rfl (.inl rfl)) (pgs_cons (pg_name (i := 13) sc_word_of.nd rfl (.inl rfl)) pgs_nil)))) (fun _ _ _ _ _ => pts_nil) (fun _ _ _ _ _ => (pe_op op_shl (pv 13) (pe_ix (r := rIxT K) ix_tup (pv 12) pe_int (fun _ _ => rfl))))) pa_nil)) pa_nil)))))))))), ?_⟩
    obtain ⟨lo', hi', a', r', k', ex, bd, hex, a0, a1, k0, k1, hr5, how⟩ := id hf
    cases ex
    refine ⟨_, rfl, _, rfl, .inl ⟨p, _, rfl, hp, ?_, fun b H1 s1 hb => ⟨_, rfl, ?_⟩⟩⟩
    · intro x hx
      simp at hx
      rcases hx with h | h | h | h | h <;> subst h
      · exact .int _
      · exact .int _
      · exact .int _
      · exact .str _
      · exact .int _
    have e : b = true := hb.mpr hf
    subst e
    refine ⟨_, rfl, p, _, rfl, .of (s1 _ _ hp), rfl, _, _, rfl, _, _, rfl, _, _, rfl, _, _, rfl, _, _, rfl, rfl, ?_⟩
    refine ⟨_, rfl, _, rfl, lo, hi, rfl, bd, fun s p1 hs hp1 => ?_⟩
    refine ⟨p1, _, rfl, .of upd_same, rfl, _, _, rfl, _, _, rfl, _, _, rfl, rfl, ?_⟩
    refine ⟨sz (by simp), fun pp hpp => ?_⟩
    refine ⟨_, rfl, _, rfl, _, rfl, _, _, rfl, rfl, _, rfl, _, rfl, r, rfl, fun H2 s2 => ⟨_, rfl, sz (by simp), fun pw hpw => ?_⟩⟩
    have npw : pp ≠ pw := ne_of_none (s2 _ _ upd_same) hpw
    refine ⟨_, rfl, _, rfl, _, rfl, pp, pw, _, _, rfl, .inr ⟨.of (by rw [upd_ne npw]; exact s2 _ _ upd_same), .of upd_same, fun D hD => ?_⟩⟩
    have sA : Same H (upd H2 pw (.tup [.int at', .int (lo / 2 ^ s), .int (Dd lo hi s + 1 - 1), .int s, .int (maskOf r), .int kd])) := sameN (((s1.trans (sameN (same_new hp1) hpp))).trans s2) hpw
    have fpp := s2 pp _ upd_same
    have h8 := hs.1
    have dl := div_le' (s := s) bd.1
    have mb := maskOf_b r
    have dd := hs.2.1
    have dd0' : 0 ≤ Dd lo hi s := by
      unfold Dd
      have := Int.ediv_le_ediv (pow_pos2 s) (show lo ≤ hi - 1 by have := bd.2.1; omega)
      omega
    have b3 := bd.2
    have ewb : wbits lo hi at' (maskOf r) kd s = (wl at' (lo / 2 ^ s) (Dd lo hi s + 1 - 1) s (maskOf r) kd).sum := rfl
    have q' := q s
    rw [ewb] at q'
    have w1 : BW at' := ⟨a0, by omega⟩
    have w2 : BW (lo / 2 ^ s) := ⟨dl.1, by omega⟩
    have w3 : BW (Dd lo hi s + 1 - 1) := ⟨by omega, by omega⟩
    have w4 : BW (s : Int) := ⟨by omega, by omega⟩
    have w5 : BW (maskOf r) := ⟨mb.1, by omega⟩
    have w6 : BW kd := ⟨k0, by omega⟩
    clear mb dd dd0' q
    refine lc_it (walk_zipT (K := K) (a := pp) (b := pw) (n := 6) (xs := [.ref p_AT, .ref p_FIRST, .ref p_COUNT_LESS_ONE, .ref p_STEP, .ref p_RIGHTS_BITS, .ref p_KIND]) (ys := [.int at', .int (lo / 2 ^ s), .int (Dd lo hi s + 1 - 1), .int s, .int (maskOf r), .int kd]) rfl) (fun i H' => Same _ H' ∧ H' D = some (.lst (((wl at' (lo / 2 ^ s) (Dd lo hi s + 1 - 1) s (maskOf r) kd).take i).map V.int))) ⟨same_new hD, upd_same⟩ (fun i H' _ h => ⟨.of (h.1 _ _ (by rw [upd_ne npw]; exact fpp)), .of (h.1 _ _ upd_same)⟩) ?_ ?_
    · rintro i x H3 H4 hi6 ⟨sm, hl⟩ ⟨Tp, x1, y1, rfl, hn, rfl, hx1, hy1⟩
      have nD : D ≠ Tp := ne_of_none hl hn
      obtain ⟨pa, lo2, mn2, z, rfl, sq, l100, rfl, bz, tk⟩ := six_at hi6 hx1 hy1 hs_AT hs_FIRST hs_COUNT_LESS_ONE hs_STEP hs_RIGHTS_BITS hs_KIND w1 w2 w3 w4 w5 w6
      generalize hw : wipe _ (List.map _ _) = τ
      have ht : τ = [some (.ref p), some mk, some (.int lo), some (.int hi), some (.int at'), some (.str r), some (.int kd), some (.int s), some (.int (lo / 2 ^ s)), some (.int (Dd lo hi s + 1)), some (.ref pp), some (.ref pw), none, none] := by rw [← hw]; rfl
      clear hw
      subst ht
      refine ⟨Tp, _, rfl, .of upd_same, rfl, _, _, rfl, _, _, rfl, rfl, rfl, ?_⟩
      refine ⟨_, rfl, _, rfl, pa, _, 0, _, rfl, rfl, sq _, atI_nat (j := 0) rfl, _, _, rfl, rfl, cpw bz.1 bz.2 (by omega) (by omega), _, (by rw [upd_ne nD]; exact hl), ?_, ?_, ?_⟩
      · rw [List.length_map, List.length_take]
        exact szn (Nat.lt_of_le_of_lt (Nat.min_le_left _ _) (by omega))
      · exact fun b o e => by
          have n : b ≠ D := ne_of_none e hD
          have n2 : b ≠ Tp := ne_of_none (sm b o e) hn
          rw [upd_ne n, upd_ne n2]; exact sm b o e
      · rw [upd_same, tk, List.map_append]; rfl
    · rintro H3 ⟨sm, hl⟩
      refine ⟨D, _, rfl, .of hl, sz (by simp), fun pq hpq => ?_⟩
      refine q' pq _ hs (sameN (sA.trans sm) hpq) (Same.free (sA.trans sm) hpq) ?_
      rw [upd_same]; rfl

def sp_room_of (K : PySem.W.Frag) : Sp := fun vs H Q _ => ∃ n, vs = [.int n] ∧ Bd 0 n ∧ ∀ (s : Nat) p H', StepIs 0 n s → Same H H' → H p = none → H' p = some (.tup [.int (((n - 1) / 2 ^ s + 1) * 2 ^ s), .int s]) → Q (.ref p) H'
theorem ok_room_of {f : Addr} {fd : FuncData} (F : Fun K "room_of" "room_of" s_room_of f fd) (T : Txt K mg) (C_in_bits : Cal P w K mg base "in_bits" 4 ["low", "high"] (sp_in_bits K)) : FnOk P w K mg base CX0 5 f fd ["many"] (sp_room_of K) := by
  refine F.ok sc_room_of (fun vs H Q E h => ?_) (fun cdv A outer s H vs Q E hr h => ?_)
  · obtain ⟨n, rfl, hb, q⟩ := h; rfl
  · obtain ⟨n, rfl, hb, q⟩ := h
    refine ⟨_, (pss_cons (ps_asg (pe_cal C_in_bits (hr.mono (by decide)) (pa_cons pe_int (pa_cons (pv 0) pa_nil))) (pg_tup rfl (pgs_cons (pg_name (i := 1) sc_room_of.nd rfl (.inl rfl)) (pgs_cons (pg_name (i := 2) sc_room_of.nd rfl (.inl rfl)) (pgs_cons (pg_name (i := 3) sc_room_of.nd rfl (.inl rfl)) pgs_nil)))))
      (pss_one (ps_ret (pe_tup (pa_cons (pe_op op_shl (pv 3) (pv 1)) (pa_cons (pv 1) pa_nil)))))), ?_⟩
    refine ⟨_, rfl, 0, n, rfl, hb, fun s p hs hp => ?_⟩
    refine ⟨p, _, rfl, .of upd_same, rfl, _, _, rfl, _, _, rfl, _, _, rfl, rfl, ?_⟩
    have h8 := hs.1
    refine ⟨_, rfl, _, rfl, _, _, rfl, rfl, bc3 hs hb, _, rfl, sz (by simp), fun p2 hp2 => ?_⟩
    refine q s p2 _ hs (sameN (same_new hp) hp2) (Same.free (same_new hp) hp2) ?_
    rw [upd_same, dd0]; rfl

def sp__law_take (K : PySem.W.Frag) : Sp := fun vs H Q _ => ∃ (a : Addr) (x y m : Int), vs = [.ref a, .int m] ∧ Pool H a x y ∧ 0 < m ∧ m < 1073741824 ∧ ∀ r x1 y1, 0 ≤ r → r < m → Pool (upd H a (.lst [.int x1, .int y1])) a x1 y1 → Q (.int r) (upd H a (.lst [.int x1, .int y1]))
theorem ok__law_take {f : Addr} {fd : FuncData} (F : Fun K "_law_take" "_law_take" s__law_take f fd) (T : Txt K mg) : FnOk P w K mg base CX0 1 f fd ["_law_pool_here", "_law_many"] (sp__law_take K) := by
  refine F.ok sc__law_take (fun vs H Q E h => ?_) (fun cdv A outer s H vs Q E hr h => ?_)
  · obtain ⟨a, x, y, m, rfl, hp, hm, hm2, q⟩ := h; rfl
  · obtain ⟨a, x, y, m, rfl, hp, hm, hm2, q⟩ := h
    refine ⟨_, (pss_cons (ps_if (pt_cmpR op_gt (pe_ix (r := rIxL K) ix_list (pv 0) pe_int (fun _ _ => rfl)) pe_int (nomark _)) (pss_cons (ps_set (i := 2) sc__law_take.nd rfl (.inl rfl) (pe_op op_mod (pe_ix (r := rIxL K) ix_list (pv 0) pe_int (fun _ _ => rfl)) (pv 1)))
      (pss_cons (ps_asg (pe_op op_fdiv (pe_ix (r := rIxL K) ix_list (pv 0) pe_int (fun _ _ => rfl)) (pv 1)) (pg_sub (pv 0) pe_int set_list))
      (pss_one (ps_ret (pv 2))))) pss_nil)
      (pss_cons (ps_asg (pe_op op_mod (pe_op op_add (pe_op op_mul (pe_ix (r := rIxL K) ix_list (pv 0) pe_int (fun _ _ => rfl)) pe_int) pe_int) pe_int) (pg_sub (pv 0) pe_int set_list))
      (pss_one (ps_ret (pe_op op_mod (pe_op op_fdiv (pe_op op_mod (pe_op op_mul (pe_ix (r := rIxL K) ix_list (pv 0) pe_int (fun _ _ => rfl)) (pe_ix (r := rIxL K) ix_list (pv 0) pe_int (fun _ _ => rfl))) pe_int) pe_int) (pv 1)))))), ?_⟩
    obtain ⟨hp, x0, y0, y1⟩ := hp
    refine ⟨_, rfl, a, _, 0, _, rfl, rfl, .of hp, atI_nat (j := 0) rfl, _, _, rfl, rfl, _, rfl, ifd (fun c => ?_) (fun c => ?_)⟩
    · refine ⟨_, rfl, a, _, 0, _, rfl, rfl, .of hp, atI_nat (j := 0) rfl, _, rfl, _, _, rfl, rfl, hm, ?_⟩
      refine ⟨_, rfl, a, _, 0, _, rfl, rfl, .of hp, atI_nat (j := 0) rfl, _, rfl, _, _, rfl, rfl, ⟨hm, hm2⟩, ?_⟩
      refine ⟨_, rfl, a, _, 0, 0, rfl, rfl, hp, rfl, ?_⟩
      refine ⟨_, rfl, q (x % m) (x / m) y (Int.emod_nonneg _ (by omega)) (Int.emod_lt_of_pos _ hm) ⟨upd_same, Int.ediv_nonneg x0 (by omega), y0, y1⟩⟩
    · refine ⟨_, rfl, a, _, 1, _, rfl, rfl, .of hp, atI_nat (j := 1) rfl, _, _, rfl, rfl, .inr ⟨by decide, by decide⟩, _, _, rfl, rfl, _, _, rfl, rfl, (by show (0 : Int) < _; decide), ?_⟩
      refine ⟨_, rfl, a, _, 1, 1, rfl, rfl, hp, rfl, ?_⟩
      have u1 : 0 ≤ (y * 48271 + 11) % 2147483647 := Int.emod_nonneg _ (by decide)
      have u2 : (y * 48271 + 11) % 2147483647 < 2147483647 := Int.emod_lt_of_pos _ (by decide)
      refine ⟨_, rfl, a, _, 1, _, rfl, rfl, .of upd_same, atI_nat (j := 1) rfl, _, rfl, a, _, 1, _, rfl, rfl, .of upd_same, atI_nat (j := 1) rfl, _, _, rfl, rfl, .inl ⟨by omega, by omega⟩, _, _, rfl, rfl, (by show (0 : Int) < _; decide), _, _, rfl, rfl, ⟨by decide, by decide⟩, _, rfl, _, _, rfl, rfl, hm, ?_⟩
      exact q _ x ((y * 48271 + 11) % 2147483647) (Int.emod_nonneg _ (by omega)) (Int.emod_lt_of_pos _ hm) ⟨upd_same, x0, u1, u2⟩

def sp__law_pool (K : PySem.W.Frag) : Sp := fun vs H Q _ => ∃ (a : Addr) (ns : List Int) (k : Nat), vs = [.ref a, .int k] ∧ SqL K H a (ns.map V.int) ∧ ns.length ≤ 63 ∧ k ≤ 63 ∧ ∀ x y p H', Same H H' → H p = none → Pool H' p x y → Q (.ref p) H'
theorem ok__law_pool {f : Addr} {fd : FuncData} (F : Fun K "_law_pool" "_law_pool" s__law_pool f fd) (T : Txt K mg) : FnOk P w K mg base CX0 1 f fd ["_law_script", "_law_k"] (sp__law_pool K) := by
  refine F.ok sc__law_pool (fun vs H Q E h => ?_) (fun cdv A outer s H vs Q E hr h => ?_)
  · obtain ⟨a, ns, k, rfl, hS, hlen, hk, q⟩ := h; rfl
  · obtain ⟨a, ns, k, rfl, hS, hlen, hk, q⟩ := h
    refine ⟨_, (pss_cons (ps_set (i := 2) sc__law_pool.nd rfl (.inl rfl) (pe_op op_add (pe_op op_mul pe_int (pe_callB (cr_sum rfl) (by rfl) T.z_sum (by decide +kernel) (pa_cons (pe_slice sl_list (pv 0) po_none (po_some pe_int)) pa_nil))) (pv 1)))
      (pss_cons (ps_if (pt_cmpR op_lt (pv 1) (pe_callB call_len_seq (by rfl) T.z_len (by decide +kernel) (pa_cons (pv 0) pa_nil)) (nomark _)) (pss_one (ps_set (i := 2) sc__law_pool.nd rfl (.inl rfl) (pe_ix (r := rIxL K) ix_list (pv 0) (pv 1) (fun _ _ => rfl)))) pss_nil)
      (pss_cons (ps_set (i := 3) sc__law_pool.nd rfl (.inl rfl) (pe_callB call_abs (by rfl) T.z_abs (by decide +kernel) (pa_cons (pv 2) pa_nil)))
      (pss_cons (ps_set (i := 4) sc__law_pool.nd rfl (.inl rfl) (pe_op op_mod (pe_op op_mul (pe_op op_add (pe_op op_add (pe_op op_add (pe_op op_mod (pv 3) pe_int) (pe_op op_mul (pe_op op_mul pe_int (pv 1)) (pv 1))) (pe_op op_mul pe_int (pv 1))) pe_int) pe_int) pe_int))
      (pss_one (ps_ret (pe_lst (pa_cons (pe_op op_mul (pv 3) (pe_callTy call_int1 (by rfl) T.z_int (by decide +kernel) (pa_cons (pe_cmpR op_ge (pv 3) (pe_op op_pow pe_int pe_int) (nomark _)) pa_nil))) (pa_cons (pe_op op_mod (pe_op op_mul (pv 4) (pv 4)) pe_int) pa_nil))))))))), ?_⟩
    refine ⟨_, rfl, _, rfl, a, _, rfl, hS, fun p hp => ?_⟩
    have s1 : Same H (upd H p (.lst (cutV (ns.map V.int) none (some 63)))) := same_new hp
    have hS1 : SqL K (upd H p (.lst (cutV (ns.map V.int) none (some 63)))) a (ns.map V.int) := s1.seq hS
    refine ⟨p, ns, rfl, .of (by rw [upd_same, cut63 hlen]), _, _, rfl, rfl, .inl ⟨by decide, by decide⟩, _, rfl, _, _, rfl, rfl, ?_⟩
    refine ⟨_, rfl, _, rfl, a, _, rfl, .inl hS1, _, _, rfl, rfl, _, rfl, ifd (fun c => ?_) (fun c => ?_)⟩
    · rw [List.length_map] at c
      have hk2 : k < ns.length := by omega
      refine ⟨_, rfl, _, rfl, a, _, (k : Int), .int ns[k], rfl, rfl, hS1, atI_nat (by rw [List.getElem?_map, List.getElem?_eq_getElem hk2]; rfl), ?_⟩
      refine ⟨_, rfl, _, rfl, ?_⟩
      refine ⟨_, rfl, _, _, rfl, rfl, (by show (0 : Int) < _; decide), _, rfl, _, _, rfl, rfl, .inl ⟨by decide, by decide⟩, _, rfl, _, _, rfl, rfl, .inr ⟨by omega, by omega⟩, _, _, rfl, rfl, _, rfl, _, _, rfl, rfl, .inl ⟨by decide, by decide⟩, _, _, rfl, rfl, _, _, rfl, rfl, _, _, rfl, rfl, .inr ⟨by decide, by decide⟩, _, _, rfl, rfl, (by show (0 : Int) < _; decide), ?_⟩
      refine ⟨_, rfl, _, rfl, _, _, rfl, rfl, ⟨by decide, by decide, by decide⟩, _, _, rfl, rfl, .inr ⟨_, rfl, _, _, rfl, rfl, .inr (b01 _), ?_⟩⟩
      refine ⟨_, rfl, _, rfl, _, _, rfl, rfl, .inl (mixb _), _, _, rfl, rfl, (by show (0 : Int) < _; decide), sz (by simp), fun p2 hp2 => ?_⟩
      exact q _ _ p2 _ (sameN s1 hp2) (Same.free s1 hp2) ⟨upd_same, sizeb _ _, Int.emod_nonneg _ (by decide), Int.lt_trans (Int.emod_lt_of_pos _ (by decide)) (by decide)⟩
    · refine ⟨_, rfl, _, rfl, ?_⟩
      refine ⟨_, rfl, _, _, rfl, rfl, (by show (0 : Int) < _; decide), _, rfl, _, _, rfl, rfl, .inl ⟨by decide, by decide⟩, _, rfl, _, _, rfl, rfl, .inr ⟨by omega, by omega⟩, _, _, rfl, rfl, _, rfl, _, _, rfl, rfl, .inl ⟨by decide, by decide⟩, _, _, rfl, rfl, _, _, rfl, rfl, _, _, rfl, rfl, .inr ⟨by decide, by decide⟩, _, _, rfl, rfl, (by show (0 : Int) < _; decide), ?_⟩
      refine ⟨_, rfl, _, rfl, _, _, rfl, rfl, ⟨by decide, by decide, by decide⟩, _, _, rfl, rfl, .inr ⟨_, rfl, _, _, rfl, rfl, .inr (b01 _), ?_⟩⟩
      refine ⟨_, rfl, _, rfl, _, _, rfl, rfl, .inl (mixb _), _, _, rfl, rfl, (by show (0 : Int) < _; decide), sz (by simp), fun p2 hp2 => ?_⟩
      exact q _ _ p2 _ (sameN s1 hp2) (Same.free s1 hp2) ⟨upd_same, sizeb _ _, Int.emod_nonneg _ (by decide), Int.lt_trans (Int.emod_lt_of_pos _ (by decide)) (by decide)⟩

def sp__law_within (K : PySem.W.Frag) : Sp := fun vs H Q _ => ∃ (a : Addr) (x y lo hi : Int), vs = [.ref a, .int lo, .int hi] ∧ Pool H a x y ∧ Bd lo hi ∧ ∀ il ih p x1 y1 H', lo ≤ il → il < ih → ih ≤ hi → But a H H' → Pool H' a x1 y1 → H p = none → H' p = some (.tup [.int il, .int ih]) → Q (.ref p) H'
theorem ok__law_within {f : Addr} {fd : FuncData} (F : Fun K "_law_within" "_law_within" s__law_within f fd) (T : Txt K mg) (C__law_take : Cal P w K mg base "_law_take" 1 ["_law_pool_here", "_law_many"] (sp__law_take K)) : FnOk P w K mg base CX0 2 f fd ["_law_pool_here", "_law_low", "_law_high"] (sp__law_within K) := by
  refine F.ok sc__law_within (fun vs H Q E h => ?_) (fun cdv A outer s H vs Q E hr h => ?_)
  · obtain ⟨a, x, y, lo, hi, rfl, hP, hb, q⟩ := h; rfl
  · obtain ⟨a, x, y, lo, hi, rfl, hP, hb, q⟩ := h
    refine ⟨_, (pss_cons (ps_set (i := 3) sc__law_within.nd rfl (.inl rfl) (pe_op op_add (pv 1) (pe_cal C__law_take (hr.mono (by decide)) (pa_cons (pv 0) (pa_cons (pe_op op_sub (pv 2) (pv 1)) pa_nil)))))
      (pss_one (ps_ret (pe_tup (pa_cons (pv 3) (pa_cons (pe_op op_add (pe_op op_add (pv 3) pe_int) (pe_cal C__law_take (hr.mono (by decide)) (pa_cons (pv 0) (pa_cons (pe_op op_sub (pv 2) (pv 3)) pa_nil)))) pa_nil)))))), ?_⟩
    obtain ⟨b1, b2, b3⟩ := hb
    refine ⟨_, rfl, _, rfl, _, rfl, _, rfl, _, _, rfl, rfl, a, x, y, _, rfl, hP, by omega, by omega, fun r x1 y1 r0 r1 P1 => ⟨_, _, rfl, rfl, ?_⟩⟩
    refine ⟨_, rfl, _, rfl, _, _, rfl, rfl, _, rfl, _, rfl, _, rfl, _, _, rfl, rfl, a, x1, y1, _, rfl, P1, by omega, by omega, fun r2 x2 y2 r20 r21 P2 => ⟨_, _, rfl, rfl, sz (by simp), fun p hp => ?_⟩⟩
    have na : p ≠ a := (ne_of_none P2.1 hp).symm
    refine q (lo + r) (lo + r + 1 + r2) p x2 y2 _ (by omega) (by omega) (by omega) (But.new (But.upd (But.upd (But.refl _ _))) hp) (P2.new hp) ?_ upd_same
    rw [upd_ne na, upd_ne na] at hp
    exact hp

def sp__law_least_of (K : PySem.W.Frag) : Sp := fun vs H Q _ => ∃ (a : Addr) (x y : Int), vs = [.ref a] ∧ Pool H a x y ∧ ∀ lo hi (s : Nat) p x1 y1 H', Bd lo hi → Ex lo hi s → But a H H' → Pool H' a x1 y1 → H p = none → H' p = some (.tup [.int lo, .int hi]) → Q (.ref p) H'
theorem ok__law_least_of {f : Addr} {fd : FuncData} (F : Fun K "_law_least_of" "_law_least_of" s__law_least_of f fd) (T : Txt K mg) (C_least_bounds : Cal P w K mg base "least_bounds" 5 ["low", "high"] (sp_least_bounds K)) (C__law_within : Cal P w K mg base "_law_within" 2 ["_law_pool_here", "_law_low", "_law_high"] (sp__law_within K)) : FnOk P w K mg base CX0 6 f fd ["_law_pool_here"] (sp__law_least_of K) := by
  refine F.ok sc__law_least_of (fun vs H Q E h => ?_) (fun cdv A outer s H vs Q E hr h => ?_)
  · obtain ⟨a, x, y, rfl, hP, q⟩ := h; rfl
  · obtain ⟨a, x, y, rfl, hP, q⟩ := h
    refine ⟨_, (pss_cons (ps_asg (pe_cal C__law_within (hr.mono (by decide)) (pa_cons (pv 0) (pa_cons pe_int (pa_cons pe_int pa_nil)))) (pg_tup rfl (pgs_cons (pg_name (i := 1) sc__law_least_of.nd rfl (.inl rfl)) (pgs_cons (pg_name (i := 2) sc__law_least_of.nd rfl (.inl rfl)) pgs_nil))))
      (pss_one (ps_ret (pe_cal C_least_bounds (hr.mono (by decide)) (pa_cons (pv 1) (pa_cons (pv 2) pa_nil)))))), ?_⟩
    refine ⟨_, rfl, a, x, y, 0, 4096, rfl, hP, ⟨by omega, by omega, by omega⟩, fun il ih p x1 y1 H1 h1 h2 h3 b1 P1 hp hp1 => ?_⟩
    refine ⟨p, _, rfl, .of hp1, rfl, _, _, rfl, _, _, rfl, rfl, ?_⟩
    have bd : Bd il ih := ⟨h1, h2, h3⟩
    refine ⟨_, rfl, _, rfl, il, ih, rfl, bd, fun s p2 H2 hs sm hp2 hp3 => ?_⟩
    have le := least_ex bd hs
    refine q _ _ s p2 x1 y1 H2 le.1 le.2.1 (b1.trans (But.of sm)) ⟨sm _ _ P1.1, P1.2⟩ ?_ hp3
    cases e : H p2 with
    | none => rfl
    | some o =>
      by_cases c : p2 = a
      · subst c
        rw [P1.1] at hp2; cases hp2
      · rw [b1 p2 o c e] at hp2; cases hp2

def sp_law (K : PySem.W.Frag) : Sp := fun vs H Q _ => ∃ (a : Addr) (ns : List Int), vs = [.ref a] ∧ SqL K H a (ns.map V.int) ∧ ns.length ≤ 63 ∧ ∀ H', Q (.bl true) H'
theorem ok_law {f : Addr} {fd : FuncData} (F : Fun K "law" "law" s_law f fd) (T : Txt K mg) (C_in_bits : Cal P w K mg base "in_bits" 4 ["low", "high"] (sp_in_bits K)) (C_least_bounds : Cal P w K mg base "least_bounds" 5 ["low", "high"] (sp_least_bounds K)) (C_is_exact : Cal P w K mg base "is_exact" 6 ["low", "high"] (sp_is_exact K)) (C_fields_of : Cal P w K mg base "fields_of" 3 ["word"] (sp_fields_of K)) (C_word_of : CalD P w K mg base "word_of" 8 ["fields", "marked"] [.bl true] (sp_word_of K)) (C_room_of : Cal P w K mg base "room_of" 5 ["many"] (sp_room_of K)) (C__law_pool : Cal P w K mg base "_law_pool" 1 ["_law_script", "_law_k"] (sp__law_pool K)) (C__law_within : Cal P w K mg base "_law_within" 2 ["_law_pool_here", "_law_low", "_law_high"] (sp__law_within K)) (C__law_least_of : Cal P w K mg base "_law_least_of" 6 ["_law_pool_here"] (sp__law_least_of K)) : FnOk P w K mg base CX0 9 f fd ["_law_script"] (sp_law K) := by
  refine F.ok sc_law (fun vs H Q E h => ?_) (fun cdv A outer s H vs Q E hr h => ?_)
  · obtain ⟨a, ns, rfl, hS, hlen, q⟩ := h; rfl
  · obtain ⟨a, ns, rfl, hS, hlen, q⟩ := h
    refine ⟨_, (pss_cons (ps_for PassesOwn.never rfl (pi_range1 (by rfl) T.z_range (pa_cons (pe_callB (call_max2 rfl) (by rfl) T.z_max (by decide +kernel) (pa_cons pe_int (pa_cons (pe_callB (call_min2 rfl) (by rfl) T.z_min (by decide +kernel) (pa_cons (pe_callB call_len_seq (by rfl) T.z_len (by decide +kernel) (pa_cons (pv 0) pa_nil)) (pa_cons pe_int pa_nil))) pa_nil))) pa_nil)) (pg_name (i := 1) sc_law.nd rfl (.inl rfl)) (pss_cons (ps_set (i := 2) sc_law.nd rfl (.inl rfl) (pe_cal C__law_pool (hr.mono (by decide)) (pa_cons (pv 0) (pa_cons (pv 1) pa_nil))))
      (pss_cons (ps_asg (pe_cal C__law_least_of (hr.mono (by decide)) (pa_cons (pv 2) pa_nil)) (pg_tup rfl (pgs_cons (pg_name (i := 3) sc_law.nd rfl (.inl rfl)) (pgs_cons (pg_name (i := 4) sc_law.nd rfl (.inl rfl)) pgs_nil))))
      (pss_one (ps_for PassesOwn.never rfl (pi_range1 (by rfl) T.z_range (pa_cons pe_int pa_nil)) (pg_name (i := 5) sc_law.nd rfl (.inl rfl)) (pss_cons (ps_set (i := 6) sc_law.nd rfl (.inl rfl) (pe_cal C__law_within (hr.mono (by decide)) (pa_cons (pv 2) (pa_cons (pv 3) (pa_cons (pv 4) pa_nil)))))
      (pss_cons (ps_asg (pe_cal C_least_bounds (hr.mono (by decide)) (pa_cons (pe_ix (r := rIxT K) ix_tup (pv 6) pe_int (fun _ _ => rfl)) (pa_cons (pe_ix (r := rIxT K) ix_tup (pv 6) pe_int (fun _ _ => rfl)) pa_nil))) (pg_tup rfl (pgs_cons (pg_name (i := 7) sc_law.nd rfl (.inl rfl)) (pgs_cons (pg_name (i := 8) sc_law.nd rfl (.inl rfl)) pgs_nil))))
      (pss_cons (ps_if (PW.pt (pw_or (pt_not (pt_chain op_le op_le (pv 3) (pv 7) (pe_ix (r := rIxT K) ix_tup (pv 6) pe_int (fun _ _ => rfl)))) (pw_or1 (pt_not (pt_chain op_le op_le (pe_ix (r := rIxT K) ix_tup (pv 6) pe_int (fun _ _ => rfl)) (pv 8) (pv 4)))))) (pss_one (ps_ret pe_bl)) pss_nil)
      (pss_cons (ps_if (PW.pt (pw_or (pt_cmpR (r := rNeD K) (op_neD hr.units) (pe_cal C_least_bounds (hr.mono (by decide)) (pa_cons (pv 7) (pa_cons (pv 8) pa_nil))) (pe_tup (pa_cons (pv 7) (pa_cons (pv 8) pa_nil))) (nomark _)) (pw_or1 (pt_cmpR op_isnot_bl (pe_cal C_is_exact (hr.mono (by decide)) (pa_cons (pv 7) (pa_cons (pv 8) pa_nil))) pe_bl (nomark _))))) (pss_one (ps_ret pe_bl)) pss_nil)
      (pss_cons (ps_if (pt_cmpR (r := rNeD K) (op_neD hr.units) (pe_cal C_in_bits (hr.mono (by decide)) (pa_cons (pe_ix (r := rIxT K) ix_tup (pv 6) pe_int (fun _ _ => rfl)) (pa_cons (pe_ix (r := rIxT K) ix_tup (pv 6) pe_int (fun _ _ => rfl)) pa_nil))) (pe_cal C_in_bits (hr.mono (by decide)) (pa_cons (pv 7) (pa_cons (pv 8) pa_nil))) (nomark _)) (pss_one (ps_ret pe_bl)) pss_nil)
      (pss_cons (ps_if (pt_cmpR (r := rNeD K) (op_neD hr.units) (pe_cal C_fields_of (hr.mono (by decide)) (pa_cons (pe_calD C_word_of (hr.mono (by decide)) (pa_cons (pe_tup (pa_cons (pv 7) (pa_cons (pv 8) (pa_cons (pe_ix (r := rIxT K) ix_tup (pv 6) pe_int (fun _ _ => rfl)) (pa_cons pe_str (pa_cons pe_int pa_nil)))))) pa_nil)) pa_nil)) (pe_tup (pa_cons (pv 7) (pa_cons (pv 8) (pa_cons (pe_ix (r := rIxT K) ix_tup (pv 6) pe_int (fun _ _ => rfl)) (pa_cons pe_str (pa_cons pe_int pa_nil)))))) (nomark _)) (pss_one (ps_ret pe_bl)) pss_nil)
      (pss_cons (ps_asg (pe_cal C_room_of (hr.mono (by decide)) (pa_cons (pe_op op_sub (pe_ix (r := rIxT K) ix_tup (pv 6) pe_int (fun _ _ => rfl)) (pe_ix (r := rIxT K) ix_tup (pv 6) pe_int (fun _ _ => rfl))) pa_nil)) (pg_tup rfl (pgs_cons (pg_name (i := 9) sc_law.nd rfl (.inl rfl)) (pgs_cons (pg_name (i := 10) sc_law.nd rfl (.inl rfl)) pgs_nil))))
      (pss_cons (ps_set (i := 11) sc_law.nd rfl (.inl rfl) (pe_op op_shl (pe_op op_shr (pe_op op_add (pe_op op_sub (pv 3) pe_int) (pe_op op_shl pe_int (pv 10))) (pv 10)) (pv 10)))
      (pss_cons (ps_if (PW.pt (pw_and (pt_cmpR op_le (pe_op op_add (pv 11) (pv 9)) (pv 4) (nomark _)) (pw_and1 (pt_cmpR (r := rNeD K) (op_neD hr.units) (pe_cal C_least_bounds (hr.mono (by decide)) (pa_cons (pv 11) (pa_cons (pe_op op_add (pv 11) (pv 9)) pa_nil))) (pe_tup (pa_cons (pv 11) (pa_cons (pe_op op_add (pv 11) (pv 9)) pa_nil))) (nomark _))))) (pss_one (ps_ret pe_bl)) pss_nil)
      (pss_one (ps_par (i := 3) (j := 4) rfl sc_law.nd rfl rfl (by decide) rfl rfl (pa_cons (pv 7) (pa_cons (pv 8) pa_nil)) (by rfl)))))))))))))))))
      (pss_one (ps_ret pe_bl))), ?_⟩
    refine ⟨_, rfl, a, _, rfl, .inl hS, _, _, rfl, _, _, rfl, _, rfl, rep_lo (c := 8) (by decide) (by decide), rep_hi (c := 8) (by decide) (by decide), for_range (fun i σ H' => ∃ v1 v2 v3 v4 v5 v6 v7 v8 v9 v10 v11, σ = [some (.ref a), v1, v2, v3, v4, v5, v6, v7, v8, v9, v10, v11] ∧ Same H H') ⟨_, _, _, _, _, _, _, _, _, _, _, rfl, Same.refl _⟩ ?_ ?_⟩
    · rintro i σ H3 hi ⟨v1, v2, v3, v4, v5, v6, v7, v8, v9, v10, v11, rfl, s3⟩
      have hi63 := rep_i (c := 8) (by decide) (by decide) hi
      rw [i0]
      refine ⟨_, rfl, _, rfl, a, ns, i, rfl, s3.seq hS, hlen, hi63, fun x y p H4 sm4 hp0 P4 => ?_⟩
      refine ⟨_, rfl, p, x, y, rfl, P4, fun lo hi s pt x1 y1 H5 bd ex b5 P5 hpt hpt2 => ?_⟩
      refine ⟨pt, _, rfl, .of hpt2, rfl, _, _, rfl, _, _, rfl, rfl, ?_⟩
      refine ⟨5, rfl, by decide, by decide, for_range (n := 5) (fun j σ H' => ∃ lo hi t v5 v6 v7 v8 v9 v10 v11 x1 y1, σ = [some (.ref a), some (.int i), some (.ref p), some (.int lo), some (.int hi), v5, v6, v7, v8, v9, v10, v11] ∧ Bd lo hi ∧ Ex lo hi t ∧ But p H4 H' ∧ Pool H' p x1 y1) ⟨_, _, s, _, _, _, _, _, _, _, x1, y1, rfl, bd, ex, b5, P5⟩ ?_ ?_⟩
      · clear bd ex b5 P5 hpt hpt2
        rintro j σ H6 hj ⟨lo, hi, t, v5, v6, v7, v8, v9, v10, v11, xa, ya, rfl, bd, ex, b6, P6⟩
        refine ⟨_, rfl, _, rfl, _, rfl, p, xa, ya, lo, hi, rfl, P6, bd, fun il ih pi xb yb H7 h1 h2 h3 b7 P7 hpi hpi7 => ?_⟩
        have bi : Bd il ih := by obtain ⟨q1, q2, q3⟩ := bd; exact ⟨by omega, h2, by omega⟩
        refine ⟨_, rfl, pi, _, 0, _, rfl, rfl, .of hpi7, atI_nat (j := 0) rfl, _, rfl, pi, _, 1, _, rfl, rfl, .of hpi7, atI_nat (j := 1) rfl, il, ih, rfl, bi, fun s po H8 hs s8 hpo hpo8 => ?_⟩
        have le := least_ex bi hs
        have li := least_in bd ex h1 h2 h3 hs
        have f8 : H8 pi = some (.tup [.int il, .int ih]) := s8 _ _ hpi7
        refine ⟨po, _, rfl, .of hpo8, rfl, _, _, rfl, _, _, rfl, rfl, ?_⟩
        generalize eL : il / 2 ^ s * 2 ^ s = ol at *
        generalize eH : ((ih - 1) / 2 ^ s + 1) * 2 ^ s = oh at *
        obtain ⟨bo, eo, l1, l2, l3, l4⟩ := le
        -- the first test
        refine ⟨_, rfl, _, rfl, _, _, rfl, rfl, _, rfl, ifP li.1 ⟨_, rfl, pi, _, 0, _, rfl, rfl, .of f8, atI_nat (j := 0) rfl, _, _, rfl, rfl, _, rfl, ifnd (fun c => absurd l1 c) (fun _ => ?_)⟩⟩
        refine ⟨_, rfl, pi, _, 1, _, rfl, rfl, .of f8, atI_nat (j := 1) rfl, _, rfl, _, _, rfl, rfl, _, rfl, ifP l2 ⟨_, rfl, _, _, rfl, rfl, _, rfl, ifnd (fun c => absurd li.2 c) (fun _ => ?_)⟩⟩
        -- told anew
        refine ⟨_, rfl, _, rfl, ol, oh, rfl, bo, fun s2 p9 H9 hs2 s9 hp9 hp99 => ?_⟩
        have es : s2 = s := hs2.uniq eo.1
        subst es
        rw [eo.2.1, eo.2.2] at hp99
        refine ⟨_, rfl, _, rfl, sz (by simp), fun p10 hp10 => ?_⟩
        have n9 : p9 ≠ p10 := ne_of_none hp99 hp10
        refine ⟨_, _, dp2 (show (upd H9 p10 _) p9 = _ by rw [upd_ne n9]; exact hp99), dp2 upd_same, rfl, rfl, _, rfl, ifnb (fun c => absurd (t2_eqv.mpr ⟨rfl, rfl⟩) (by rw [c]; exact Bool.false_ne_true)) (fun _ => ?_)⟩
        refine ⟨_, rfl, _, rfl, ol, oh, rfl, bo, fun be H11 s11 hbe => ?_⟩
        have ebe : be = true := hbe.mpr ⟨s2, eo⟩
        subst ebe
        refine ⟨_, _, rfl, rfl, _, rfl, ?_⟩
        -- in bits
        have f11 : H11 pi = some (.tup [.int il, .int ih]) := s11 _ _ (sameN s9 hp10 _ _ f8)
        refine ⟨_, rfl, pi, _, 0, _, rfl, rfl, .of f11, atI_nat (j := 0) rfl, _, rfl, pi, _, 1, _, rfl, rfl, .of f11, atI_nat (j := 1) rfl, il, ih, rfl, bi, fun s3' pa hs3 hpa => ?_⟩
        have es3 : s3' = s2 := hs3.uniq hs
        subst es3
        refine ⟨_, rfl, _, rfl, ol, oh, rfl, bo, fun s4 pb hs4 hpb => ?_⟩
        have es4 : s4 = s3' := hs4.uniq eo.1
        subst es4
        have nab : pa ≠ pb := ne_of_none upd_same hpb
        refine ⟨_, _, dp3 (show (upd (upd H11 pa _) pb _) pa = _ by rw [upd_ne nab, upd_same]), dp3 upd_same, rfl, rfl, _, rfl, ifnb (fun c => absurd (t3_eqv.mpr ⟨rfl, l3.symm, (show Dd il ih s4 + 1 = Dd ol oh s4 + 1 by rw [l4])⟩) (by rw [c]; exact Bool.false_ne_true)) (fun _ => ?_)⟩
        -- a word of it
        have s12 : Same H8 (upd (upd H11 pa (.tup [.int (s4 : Int), .int (il / 2 ^ s4), .int (Dd il ih s4 + 1)])) pb (.tup [.int (s4 : Int), .int (ol / 2 ^ s4), .int (Dd ol oh s4 + 1)])) := sameN (sameN ((sameN s9 hp10).trans s11) hpa) hpb
        have f12 := s12 _ _ f8
        refine ⟨_, rfl, _, rfl, _, rfl, pi, _, 0, _, rfl, rfl, .of f12, atI_nat (j := 0) rfl, sz (by simp), fun pw hpw => ?_⟩
        have il1 : 0 ≤ il ∧ il ≤ 4095 := by obtain ⟨q1, q2, q3⟩ := bi; omega
        refine ⟨pw, ol, oh, il, Str.ofString "r", 0, .bl true, rfl, upd_same, ⟨ol, oh, il, _, 0, rfl, bo, ⟨s4, eo⟩, il1.1, il1.2, by decide, by decide, R_ok, R_one⟩, fun s5 pv2 H13 hs5 s13 hpv hpv2 => ?_⟩
        have es5 : s5 = s4 := hs5.uniq eo.1
        subst es5
        have dec := wb_dec (at' := il) (mr := maskOf (Str.ofString "r")) (kd := 0) bo eo il1.1 il1.2 (by decide +kernel) (by decide +kernel) (by decide) (by decide)
        refine ⟨pv2, _, _, rfl, hpv2, dec.1, fun nt => absurd dec.2.1 nt, fun _ pf H14 s14 hpf hpf2 => ?_⟩
        rw [dec.2.2.1, dec.2.2.2.1, dec.2.2.2.2.1, dec.2.2.2.2.2.1, dec.2.2.2.2.2.2, R_rtx] at hpf2
        have s15 := s12.trans ((sameN (Same.refl _) hpw).trans (s13.trans s14))
        have f15 := s15 _ _ f8
        refine ⟨_, rfl, _, rfl, _, rfl, pi, _, 0, _, rfl, rfl, .of f15, atI_nat (j := 0) rfl, sz (by simp), fun pg hpg => ?_⟩
        have nfg : pf ≠ pg := ne_of_none hpf2 hpg
        refine ⟨_, _, dp5 (show (upd H14 pg _) pf = _ by rw [upd_ne nfg]; exact hpf2), dp5 upd_same, d5_sh _ _ _ _ _ (by decide +kernel), d5_sh _ _ _ _ _ (by decide +kernel), _, rfl, ifnb (fun c => absurd (d5_refl _ _ _ _ _) (by rw [c]; exact Bool.false_ne_true)) (fun _ => ?_)⟩
        -- a room
        have s16 : Same H8 (upd H14 pg (.tup [.int ol, .int oh, .int il, .str (Str.ofString "r"), .int 0])) := sameN s15 hpg
        have f16 := s16 _ _ f8
        have bw : Bd 0 (ih - il) := by obtain ⟨q1, q2, q3⟩ := bi; exact ⟨by omega, by omega, by omega⟩
        refine ⟨_, rfl, pi, _, 1, _, rfl, rfl, .of f16, atI_nat (j := 1) rfl, _, rfl, pi, _, 0, _, rfl, rfl, .of f16, atI_nat (j := 0) rfl, _, _, rfl, rfl, ih - il, rfl, bw, fun st pr H17 hst s17 hpr hpr2 => ?_⟩
        refine ⟨pr, _, rfl, .of hpr2, rfl, _, _, rfl, _, _, rfl, rfl, ?_⟩
        have st8 := hst.1
        have lob : 0 ≤ lo ∧ lo ≤ 4096 := by obtain ⟨q1, q2, q3⟩ := bd; omega
        refine ⟨_, rfl, _, _, rfl, rfl, _, rfl, _, _, rfl, rfl, ⟨by omega, by omega, by decide⟩, _, _, rfl, rfl, _, rfl, _, _, rfl, rfl, by omega, _, rfl, _, _, rfl, rfl, cp1 lob.1 lob.2 st8, ?_⟩
        have sr := spot_r (low := lo) (s := st) lob.1
        have s18 := s16.trans s17
        have fin : ∀ H', Same H8 H' → Bd ol oh ∧ Ex ol oh s5 ∧ But p H4 H' ∧ Pool H' p xb yb := fun H' sm =>
          ⟨bo, eo, (b6.trans b7).trans (But.of (s8.trans sm)), ⟨sm _ _ (s8 _ _ P7.1), P7.2⟩⟩
        refine ⟨_, rfl, _, rfl, _, _, rfl, rfl, _, rfl, _, _, rfl, rfl, _, rfl, ifd (fun c => ?_) (fun c => ?_)⟩
        · have hsp := spot_ex (r := (lo - 1 + 1 * 2 ^ st) / 2 ^ st) hst bw sr
          have c2 : (lo - 1 + 1 * 2 ^ st) / 2 ^ st * 2 ^ st + ((ih - il - 1) / 2 ^ st + 1) * 2 ^ st ≤ hi := c
          have bs : Bd ((lo - 1 + 1 * 2 ^ st) / 2 ^ st * 2 ^ st) ((lo - 1 + 1 * 2 ^ st) / 2 ^ st * 2 ^ st + ((ih - il - 1) / 2 ^ st + 1) * 2 ^ st) := by
            have h0 := pow_pos2 st
            have z1 : 0 ≤ (lo - 1 + 1 * 2 ^ st) / 2 ^ st * 2 ^ st := Int.mul_nonneg sr (Int.le_of_lt h0)
            have z2 := (tgt bw st8).1
            have z3 := bw.2.1
            have z4 := bd.2.2
            refine ⟨z1, by omega, by omega⟩
          refine ⟨_, rfl, _, rfl, _, rfl, _, _, rfl, rfl, _, _, rfl, bs, fun s6 ps H19 hs6 s19 hps hps2 => ?_⟩
          have es6 : s6 = st := hs6.uniq hsp.1
          subst es6
          have hps2 := hps2.trans (congrArg some (congrArg HO.tup (show [V.int ((lo - 1 + 1 * 2 ^ s6) / 2 ^ s6 * 2 ^ s6 / 2 ^ s6 * 2 ^ s6), V.int ((((lo - 1 + 1 * 2 ^ s6) / 2 ^ s6 * 2 ^ s6 + ((ih - il - 1) / 2 ^ s6 + 1) * 2 ^ s6 - 1) / 2 ^ s6 + 1) * 2 ^ s6)] = [V.int ((lo - 1 + 1 * 2 ^ s6) / 2 ^ s6 * 2 ^ s6), V.int ((lo - 1 + 1 * 2 ^ s6) / 2 ^ s6 * 2 ^ s6 + ((ih - il - 1) / 2 ^ s6 + 1) * 2 ^ s6)] by rw [hsp.2.1, hsp.2.2])))
          refine ⟨_, rfl, _, rfl, _, rfl, _, _, rfl, rfl, sz (by simp), fun pq hpq => ?_⟩
          have npq : ps ≠ pq := ne_of_none hps2 hpq
          refine ⟨_, _, dp2 (show (upd H19 pq _) ps = _ by rw [upd_ne npq]; exact hps2), dp2 upd_same, rfl, rfl, _, rfl, ifnb (fun c => (t2_no c rfl rfl).elim) (fun _ => ?_)⟩
          refine ⟨_, rfl, _, rfl, _, _, rfl, ?_⟩
          exact ⟨ol, oh, s5, _, _, _, _, _, _, _, xb, yb, rfl, fin _ (sameN (s18.trans s19) hpq)⟩
        · refine ⟨_, rfl, _, rfl, _, _, rfl, ?_⟩
          exact ⟨ol, oh, s5, _, _, _, _, _, _, _, xb, yb, rfl, fin _ s18⟩
      · rintro σ H5 ⟨lo, hi, t, v5, v6, v7, v8, v9, v10, v11, xa, ya, rfl, bd, ex, b6, P6⟩
        exact ⟨_, _, _, _, _, _, _, _, _, _, _, rfl, sameP s3 sm4 hp0 b6⟩
    · rintro σ H3 ⟨v1, v2, v3, v4, v5, v6, v7, v8, v9, v10, v11, rfl, s3⟩
      exact q _
end
theorem all_mk {l : PySem.W.OpenLaw} {w : World} {K : PySem.W.Frag} {h : Heap} {mg : Str → Option Value} {fa f0 f1 f2 f3 f4 f5 f6 f7 f8 f9 f10 f11 f12 f13 f14 f15 f16 f17 f18 f19 f20 f21 f22 f23 : Addr} (X : K.In h) (G : h.Ns mainGlobals mg) (hfa : mg "law" = some (.ref fa))
    {od0 an0 od1 an1 od2 an2 od3 an3 od4 an4 od5 an5 od6 an6 od7 an7 od8 an8 od9 an9 od10 an10 od11 an11 od12 an12 od13 an13 od14 an14 od15 an15 od16 an16 od17 an17 od18 an18 od19 an19 od20 an20 od21 an21 od22 an22 od23 an23 : Option Addr} {sl0 sl1 sl2 sl3 sl4 sl5 sl6 sl7 sl8 sl9 sl10 sl11 sl12 sl13 sl14 sl15 sl16 sl17 sl18 sl19 sl20 sl21 sl22 sl23 : Array (Option Value)} {oc0 kV0 dc0 pm0 cd0 ct0 oc1 kV1 dc1 pm1 cd1 ct1 oc2 kV2 dc2 pm2 cd2 ct2 oc3 kV3 dc3 pm3 cd3 ct3 oc4 kV4 dc4 pm4 cd4 ct4 oc5 kV5 dc5 pm5 cd5 ct5 oc6 kV6 dc6 pm6 cd6 ct6 oc7 kV7 dc7 pm7 cd7 ct7 oc8 kV8 dc8 pm8 cd8 ct8 oc9 kV9 dc9 pm9 cd9 ct9 oc10 kV10 dc10 pm10 cd10 ct10 oc11 kV11 dc11 pm11 cd11 ct11 oc12 kV12 dc12 pm12 cd12 ct12 oc13 kV13 dc13 pm13 cd13 ct13 oc14 kV14 dc14 pm14 cd14 ct14 oc15 kV15 dc15 pm15 cd15 ct15 oc16 kV16 dc16 pm16 cd16 ct16 oc17 dc17 pm17 cd17 ct17 oc18 kV18 dc18 pm18 cd18 ct18 oc19 kV19 dc19 pm19 cd19 ct19 oc20 kV20 dc20 pm20 cd20 ct20 oc21 kV21 dc21 pm21 cd21 ct21 oc22 kV22 dc22 pm22 cd22 ct22 oc23 kV23 dc23 pm23 cd23 ct23 : Value}
    (a0 : PySem.W.nsIn K mainGlobals "is_whole" = some (some (.ref f0))) (l0 : K.lookup f0 = some ⟨oc0, od0, .func (PySem.W.fnOf "is_whole" "is_whole" (defArgs s_is_whole) (defBody s_is_whole) (defScope s_is_whole) .none kV0 dc0 pm0 an0 cd0 ct0), sl0⟩) (c0 : PySem.W.codeIn K cd0 "is_whole" = true) (k0 : PySem.W.keepIn K (.ref f0) = true)
    (a1 : PySem.W.nsIn K mainGlobals "are_bounds" = some (some (.ref f1))) (l1 : K.lookup f1 = some ⟨oc1, od1, .func (PySem.W.fnOf "are_bounds" "are_bounds" (defArgs s_are_bounds) (defBody s_are_bounds) (defScope s_are_bounds) .none kV1 dc1 pm1 an1 cd1 ct1), sl1⟩) (c1 : PySem.W.codeIn K cd1 "are_bounds" = true) (k1 : PySem.W.keepIn K (.ref f1) = true)
    (a2 : PySem.W.nsIn K mainGlobals "look_at_bounds" = some (some (.ref f2))) (l2 : K.lookup f2 = some ⟨oc2, od2, .func (PySem.W.fnOf "look_at_bounds" "look_at_bounds" (defArgs s_look_at_bounds) (defBody s_look_at_bounds) (defScope s_look_at_bounds) .none kV2 dc2 pm2 an2 cd2 ct2), sl2⟩) (c2 : PySem.W.codeIn K cd2 "look_at_bounds" = true) (k2 : PySem.W.keepIn K (.ref f2) = true)
    (a3 : PySem.W.nsIn K mainGlobals "_steps_over" = some (some (.ref f3))) (l3 : K.lookup f3 = some ⟨oc3, od3, .func (PySem.W.fnOf "_steps_over" "_steps_over" (defArgs s__steps_over) (defBody s__steps_over) (defScope s__steps_over) .none kV3 dc3 pm3 an3 cd3 ct3), sl3⟩) (c3 : PySem.W.codeIn K cd3 "_steps_over" = true) (k3 : PySem.W.keepIn K (.ref f3) = true)
    (a4 : PySem.W.nsIn K mainGlobals "in_bits" = some (some (.ref f4))) (l4 : K.lookup f4 = some ⟨oc4, od4, .func (PySem.W.fnOf "in_bits" "in_bits" (defArgs s_in_bits) (defBody s_in_bits) (defScope s_in_bits) .none kV4 dc4 pm4 an4 cd4 ct4), sl4⟩) (c4 : PySem.W.codeIn K cd4 "in_bits" = true) (k4 : PySem.W.keepIn K (.ref f4) = true)
    (a5 : PySem.W.nsIn K mainGlobals "least_bounds" = some (some (.ref f5))) (l5 : K.lookup f5 = some ⟨oc5, od5, .func (PySem.W.fnOf "least_bounds" "least_bounds" (defArgs s_least_bounds) (defBody s_least_bounds) (defScope s_least_bounds) .none kV5 dc5 pm5 an5 cd5 ct5), sl5⟩) (c5 : PySem.W.codeIn K cd5 "least_bounds" = true) (k5 : PySem.W.keepIn K (.ref f5) = true)
    (a6 : PySem.W.nsIn K mainGlobals "is_exact" = some (some (.ref f6))) (l6 : K.lookup f6 = some ⟨oc6, od6, .func (PySem.W.fnOf "is_exact" "is_exact" (defArgs s_is_exact) (defBody s_is_exact) (defScope s_is_exact) .none kV6 dc6 pm6 an6 cd6 ct6), sl6⟩) (c6 : PySem.W.codeIn K cd6 "is_exact" = true) (k6 : PySem.W.keepIn K (.ref f6) = true)
    (a7 : PySem.W.nsIn K mainGlobals "_has_some" = some (some (.ref f7))) (l7 : K.lookup f7 = some ⟨oc7, od7, .func (PySem.W.fnOf "_has_some" "_has_some" (defArgs s__has_some) (defBody s__has_some) (defScope s__has_some) .none kV7 dc7 pm7 an7 cd7 ct7), sl7⟩) (c7 : PySem.W.codeIn K cd7 "_has_some" = true) (k7 : PySem.W.keepIn K (.ref f7) = true)
    (a8 : PySem.W.nsIn K mainGlobals "_lead_one_way" = some (some (.ref f8))) (l8 : K.lookup f8 = some ⟨oc8, od8, .func (PySem.W.fnOf "_lead_one_way" "_lead_one_way" (defArgs s__lead_one_way) (defBody s__lead_one_way) (defScope s__lead_one_way) .none kV8 dc8 pm8 an8 cd8 ct8), sl8⟩) (c8 : PySem.W.codeIn K cd8 "_lead_one_way" = true) (k8 : PySem.W.keepIn K (.ref f8) = true)
    (a9 : PySem.W.nsIn K mainGlobals "bits_of_rights" = some (some (.ref f9))) (l9 : K.lookup f9 = some ⟨oc9, od9, .func (PySem.W.fnOf "bits_of_rights" "bits_of_rights" (defArgs s_bits_of_rights) (defBody s_bits_of_rights) (defScope s_bits_of_rights) .none kV9 dc9 pm9 an9 cd9 ct9), sl9⟩) (c9 : PySem.W.codeIn K cd9 "bits_of_rights" = true) (k9 : PySem.W.keepIn K (.ref f9) = true)
    (a10 : PySem.W.nsIn K mainGlobals "field" = some (some (.ref f10))) (l10 : K.lookup f10 = some ⟨oc10, od10, .func (PySem.W.fnOf "field" "field" (defArgs s_field) (defBody s_field) (defScope s_field) .none kV10 dc10 pm10 an10 cd10 ct10), sl10⟩) (c10 : PySem.W.codeIn K cd10 "field" = true) (k10 : PySem.W.keepIn K (.ref f10) = true)
    (a11 : PySem.W.nsIn K mainGlobals "rights_in" = some (some (.ref f11))) (l11 : K.lookup f11 = some ⟨oc11, od11, .func (PySem.W.fnOf "rights_in" "rights_in" (defArgs s_rights_in) (defBody s_rights_in) (defScope s_rights_in) .none kV11 dc11 pm11 an11 cd11 ct11), sl11⟩) (c11 : PySem.W.codeIn K cd11 "rights_in" = true) (k11 : PySem.W.keepIn K (.ref f11) = true)
    (a12 : PySem.W.nsIn K mainGlobals "_tell" = some (some (.ref f12))) (l12 : K.lookup f12 = some ⟨oc12, od12, .func (PySem.W.fnOf "_tell" "_tell" (defArgs s__tell) (defBody s__tell) (defScope s__tell) .none kV12 dc12 pm12 an12 cd12 ct12), sl12⟩) (c12 : PySem.W.codeIn K cd12 "_tell" = true) (k12 : PySem.W.keepIn K (.ref f12) = true)
    (a13 : PySem.W.nsIn K mainGlobals "bounds_in" = some (some (.ref f13))) (l13 : K.lookup f13 = some ⟨oc13, od13, .func (PySem.W.fnOf "bounds_in" "bounds_in" (defArgs s_bounds_in) (defBody s_bounds_in) (defScope s_bounds_in) .none kV13 dc13 pm13 an13 cd13 ct13), sl13⟩) (c13 : PySem.W.codeIn K cd13 "bounds_in" = true) (k13 : PySem.W.keepIn K (.ref f13) = true)
    (a14 : PySem.W.nsIn K mainGlobals "fields_of" = some (some (.ref f14))) (l14 : K.lookup f14 = some ⟨oc14, od14, .func (PySem.W.fnOf "fields_of" "fields_of" (defArgs s_fields_of) (defBody s_fields_of) (defScope s_fields_of) .none kV14 dc14 pm14 an14 cd14 ct14), sl14⟩) (c14 : PySem.W.codeIn K cd14 "fields_of" = true) (k14 : PySem.W.keepIn K (.ref f14) = true)
    (a15 : PySem.W.nsIn K mainGlobals "is_rights" = some (some (.ref f15))) (l15 : K.lookup f15 = some ⟨oc15, od15, .func (PySem.W.fnOf "is_rights" "is_rights" (defArgs s_is_rights) (defBody s_is_rights) (defScope s_is_rights) .none kV15 dc15 pm15 an15 cd15 ct15), sl15⟩) (c15 : PySem.W.codeIn K cd15 "is_rights" = true) (k15 : PySem.W.keepIn K (.ref f15) = true)
    (a16 : PySem.W.nsIn K mainGlobals "_are_fields" = some (some (.ref f16))) (l16 : K.lookup f16 = some ⟨oc16, od16, .func (PySem.W.fnOf "_are_fields" "_are_fields" (defArgs s__are_fields) (defBody s__are_fields) (defScope s__are_fields) .none kV16 dc16 pm16 an16 cd16 ct16), sl16⟩) (c16 : PySem.W.codeIn K cd16 "_are_fields" = true) (k16 : PySem.W.keepIn K (.ref f16) = true)
    {D17 : Addr} (a17 : PySem.W.nsIn K mainGlobals "word_of" = some (some (.ref f17))) (l17 : K.lookup f17 = some ⟨oc17, od17, .func (PySem.W.fnOf "word_of" "word_of" (defArgs s_word_of) (defBody s_word_of) (defScope s_word_of) .none (.ref D17) dc17 pm17 an17 cd17 ct17), sl17⟩) (c17 : PySem.W.codeIn K cd17 "word_of" = true) (k17 : PySem.W.keepIn K (.ref f17) = true)
    (d17_marked : PySem.W.nsIn K D17 "marked" = some (some (.bool true)))
    (a18 : PySem.W.nsIn K mainGlobals "room_of" = some (some (.ref f18))) (l18 : K.lookup f18 = some ⟨oc18, od18, .func (PySem.W.fnOf "room_of" "room_of" (defArgs s_room_of) (defBody s_room_of) (defScope s_room_of) .none kV18 dc18 pm18 an18 cd18 ct18), sl18⟩) (c18 : PySem.W.codeIn K cd18 "room_of" = true) (k18 : PySem.W.keepIn K (.ref f18) = true)
    (a19 : PySem.W.nsIn K mainGlobals "_law_take" = some (some (.ref f19))) (l19 : K.lookup f19 = some ⟨oc19, od19, .func (PySem.W.fnOf "_law_take" "_law_take" (defArgs s__law_take) (defBody s__law_take) (defScope s__law_take) .none kV19 dc19 pm19 an19 cd19 ct19), sl19⟩) (c19 : PySem.W.codeIn K cd19 "_law_take" = true) (k19 : PySem.W.keepIn K (.ref f19) = true)
    (a20 : PySem.W.nsIn K mainGlobals "_law_pool" = some (some (.ref f20))) (l20 : K.lookup f20 = some ⟨oc20, od20, .func (PySem.W.fnOf "_law_pool" "_law_pool" (defArgs s__law_pool) (defBody s__law_pool) (defScope s__law_pool) .none kV20 dc20 pm20 an20 cd20 ct20), sl20⟩) (c20 : PySem.W.codeIn K cd20 "_law_pool" = true) (k20 : PySem.W.keepIn K (.ref f20) = true)
    (a21 : PySem.W.nsIn K mainGlobals "_law_within" = some (some (.ref f21))) (l21 : K.lookup f21 = some ⟨oc21, od21, .func (PySem.W.fnOf "_law_within" "_law_within" (defArgs s__law_within) (defBody s__law_within) (defScope s__law_within) .none kV21 dc21 pm21 an21 cd21 ct21), sl21⟩) (c21 : PySem.W.codeIn K cd21 "_law_within" = true) (k21 : PySem.W.keepIn K (.ref f21) = true)
    (a22 : PySem.W.nsIn K mainGlobals "_law_least_of" = some (some (.ref f22))) (l22 : K.lookup f22 = some ⟨oc22, od22, .func (PySem.W.fnOf "_law_least_of" "_law_least_of" (defArgs s__law_least_of) (defBody s__law_least_of) (defScope s__law_least_of) .none kV22 dc22 pm22 an22 cd22 ct22), sl22⟩) (c22 : PySem.W.codeIn K cd22 "_law_least_of" = true) (k22 : PySem.W.keepIn K (.ref f22) = true)
    (a23 : PySem.W.nsIn K mainGlobals "law" = some (some (.ref f23))) (l23 : K.lookup f23 = some ⟨oc23, od23, .func (PySem.W.fnOf "law" "law" (defArgs s_law) (defBody s_law) (defScope s_law) .none kV23 dc23 pm23 an23 cd23 ct23), sl23⟩) (c23 : PySem.W.codeIn K cd23 "law" = true) (k23 : PySem.W.keepIn K (.ref f23) = true)
    (z_abs : PySem.W.nsIn K mainGlobals "abs" = some none)
    (z_any : PySem.W.nsIn K mainGlobals "any" = some none)
    (z_bool : PySem.W.nsIn K mainGlobals "bool" = some none)
    (z_enumerate : PySem.W.nsIn K mainGlobals "enumerate" = some none)
    (z_int : PySem.W.nsIn K mainGlobals "int" = some none)
    (z_isinstance : PySem.W.nsIn K mainGlobals "isinstance" = some none)
    (z_len : PySem.W.nsIn K mainGlobals "len" = some none)
    (z_max : PySem.W.nsIn K mainGlobals "max" = some none)
    (z_min : PySem.W.nsIn K mainGlobals "min" = some none)
    (z_range : PySem.W.nsIn K mainGlobals "range" = some none)
    (z_str : PySem.W.nsIn K mainGlobals "str" = some none)
    (z_sum : PySem.W.nsIn K mainGlobals "sum" = some none)
    (z_tuple : PySem.W.nsIn K mainGlobals "tuple" = some none)
    (z_zip : PySem.W.nsIn K mainGlobals "zip" = some none)
    {p_AT : Addr} {dd_AT : Option Addr} {n_AT : Nat} {sl_AT : Array (Option Value)} {t_AT_0 t_AT_1 : Tok} (v_AT : PySem.W.nsIn K mainGlobals "AT" = some (some (.ref p_AT))) (w_AT : K.lookup p_AT = some ⟨.type "tuple", dd_AT, .seq #[(Value.int 0 t_AT_0), (Value.int 12 t_AT_1)] n_AT, sl_AT⟩)
    {t_CELLS : Tok} (v_CELLS : PySem.W.nsIn K mainGlobals "CELLS" = some (some (.int 4096 t_CELLS)))
    {p_COUNT_LESS_ONE : Addr} {dd_COUNT_LESS_ONE : Option Addr} {n_COUNT_LESS_ONE : Nat} {sl_COUNT_LESS_ONE : Array (Option Value)} {t_COUNT_LESS_ONE_0 t_COUNT_LESS_ONE_1 : Tok} (v_COUNT_LESS_ONE : PySem.W.nsIn K mainGlobals "COUNT_LESS_ONE" = some (some (.ref p_COUNT_LESS_ONE))) (w_COUNT_LESS_ONE : K.lookup p_COUNT_LESS_ONE = some ⟨.type "tuple", dd_COUNT_LESS_ONE, .seq #[(Value.int 24 t_COUNT_LESS_ONE_0), (Value.int 4 t_COUNT_LESS_ONE_1)] n_COUNT_LESS_ONE, sl_COUNT_LESS_ONE⟩)
    {p_FIRST : Addr} {dd_FIRST : Option Addr} {n_FIRST : Nat} {sl_FIRST : Array (Option Value)} {t_FIRST_0 t_FIRST_1 : Tok} (v_FIRST : PySem.W.nsIn K mainGlobals "FIRST" = some (some (.ref p_FIRST))) (w_FIRST : K.lookup p_FIRST = some ⟨.type "tuple", dd_FIRST, .seq #[(Value.int 12 t_FIRST_0), (Value.int 12 t_FIRST_1)] n_FIRST, sl_FIRST⟩)
    {p_GROUPS : Addr} {dd_GROUPS : Option Addr} {n_GROUPS : Nat} {sl_GROUPS : Array (Option Value)} {t_GROUPS_0 t_GROUPS_1 t_GROUPS_2 : Tok} (v_GROUPS : PySem.W.nsIn K mainGlobals "GROUPS" = some (some (.ref p_GROUPS))) (w_GROUPS : K.lookup p_GROUPS = some ⟨.type "tuple", dd_GROUPS, .seq #[(Value.str (Str.ofString "rwlsn") t_GROUPS_0), (Value.str (Str.ofString "x") t_GROUPS_1), (Value.str (Str.ofString "co") t_GROUPS_2)] n_GROUPS, sl_GROUPS⟩)
    {p_KIND : Addr} {dd_KIND : Option Addr} {n_KIND : Nat} {sl_KIND : Array (Option Value)} {t_KIND_0 t_KIND_1 : Tok} (v_KIND : PySem.W.nsIn K mainGlobals "KIND" = some (some (.ref p_KIND))) (w_KIND : K.lookup p_KIND = some ⟨.type "tuple", dd_KIND, .seq #[(Value.int 41 t_KIND_0), (Value.int 4 t_KIND_1)] n_KIND, sl_KIND⟩)
    {t_LEAST_COUNT : Tok} (v_LEAST_COUNT : PySem.W.nsIn K mainGlobals "LEAST_COUNT" = some (some (.int 9 t_LEAST_COUNT)))
    {t_RIGHTS : Tok} (v_RIGHTS : PySem.W.nsIn K mainGlobals "RIGHTS" = some (some (.str (Str.ofString "rwlsnfxco") t_RIGHTS)))
    {p_RIGHTS_BITS : Addr} {dd_RIGHTS_BITS : Option Addr} {n_RIGHTS_BITS : Nat} {sl_RIGHTS_BITS : Array (Option Value)} {t_RIGHTS_BITS_0 t_RIGHTS_BITS_1 : Tok} (v_RIGHTS_BITS : PySem.W.nsIn K mainGlobals "RIGHTS_BITS" = some (some (.ref p_RIGHTS_BITS))) (w_RIGHTS_BITS : K.lookup p_RIGHTS_BITS = some ⟨.type "tuple", dd_RIGHTS_BITS, .seq #[(Value.int 32 t_RIGHTS_BITS_0), (Value.int 9 t_RIGHTS_BITS_1)] n_RIGHTS_BITS, sl_RIGHTS_BITS⟩)
    {p_STEP : Addr} {dd_STEP : Option Addr} {n_STEP : Nat} {sl_STEP : Array (Option Value)} {t_STEP_0 t_STEP_1 : Tok} (v_STEP : PySem.W.nsIn K mainGlobals "STEP" = some (some (.ref p_STEP))) (w_STEP : K.lookup p_STEP = some ⟨.type "tuple", dd_STEP, .seq #[(Value.int 28 t_STEP_0), (Value.int 4 t_STEP_1)] n_STEP, sl_STEP⟩)
    {t_TOP_COUNT : Tok} (v_TOP_COUNT : PySem.W.nsIn K mainGlobals "TOP_COUNT" = some (some (.int 16 t_TOP_COUNT)))
    {t_TOP_KIND : Tok} (v_TOP_KIND : PySem.W.nsIn K mainGlobals "TOP_KIND" = some (some (.int 15 t_TOP_KIND)))
    {t_TOP_STEP : Tok} (v_TOP_STEP : PySem.W.nsIn K mainGlobals "TOP_STEP" = some (some (.int 8 t_TOP_STEP)))
    : ∃ fd : FuncData, (∀ (s : Shared) (v : Value), BindsTo s fd ⟨[v], []⟩ [("_law_script", v)]) ∧ ∀ base : Heap, K.In base → base.Ns mainGlobals mg → FnOk l.prog w K mg base CX0 9 fa fd ["_law_script"] (sp_law K) := by
  have e := hfa.symm.trans (PySem.W.mg_of X G a23)
  cases e
  have F0 := fun_mk (st := s_is_whole) l0 c0 k0
  have F1 := fun_mk (st := s_are_bounds) l1 c1 k1
  have F2 := fun_mk (st := s_look_at_bounds) l2 c2 k2
  have F3 := fun_mk (st := s__steps_over) l3 c3 k3
  have F4 := fun_mk (st := s_in_bits) l4 c4 k4
  have F5 := fun_mk (st := s_least_bounds) l5 c5 k5
  have F6 := fun_mk (st := s_is_exact) l6 c6 k6
  have F7 := fun_mk (st := s__has_some) l7 c7 k7
  have F8 := fun_mk (st := s__lead_one_way) l8 c8 k8
  have F9 := fun_mk (st := s_bits_of_rights) l9 c9 k9
  have F10 := fun_mk (st := s_field) l10 c10 k10
  have F11 := fun_mk (st := s_rights_in) l11 c11 k11
  have F12 := fun_mk (st := s__tell) l12 c12 k12
  have F13 := fun_mk (st := s_bounds_in) l13 c13 k13
  have F14 := fun_mk (st := s_fields_of) l14 c14 k14
  have F15 := fun_mk (st := s_is_rights) l15 c15 k15
  have F16 := fun_mk (st := s__are_fields) l16 c16 k16
  have F17 := fun_mk (st := s_word_of) l17 c17 k17
  have F18 := fun_mk (st := s_room_of) l18 c18 k18
  have F19 := fun_mk (st := s__law_take) l19 c19 k19
  have F20 := fun_mk (st := s__law_pool) l20 c20 k20
  have F21 := fun_mk (st := s__law_within) l21 c21 k21
  have F22 := fun_mk (st := s__law_least_of) l22 c22 k22
  have F23 := fun_mk (st := s_law) l23 c23 k23
  have T : Txt K mg := ⟨PySem.W.mg_none_of X G z_abs, PySem.W.mg_none_of X G z_any, PySem.W.mg_none_of X G z_bool, PySem.W.mg_none_of X G z_enumerate, PySem.W.mg_none_of X G z_int, PySem.W.mg_none_of X G z_isinstance, PySem.W.mg_none_of X G z_len, PySem.W.mg_none_of X G z_max, PySem.W.mg_none_of X G z_min, PySem.W.mg_none_of X G z_range, PySem.W.mg_none_of X G z_str, PySem.W.mg_none_of X G z_sum, PySem.W.mg_none_of X G z_tuple, PySem.W.mg_none_of X G z_zip, ⟨_, PySem.W.mg_of X G v_AT, fun H => .inr ⟨_, _, _, w_AT, rfl, rfl, by show 2 ≤ sizeLine; decide, .cons ⟨_, rfl⟩ (.cons ⟨_, rfl⟩ (.nil))⟩⟩, ⟨_, PySem.W.mg_of X G v_CELLS⟩, ⟨_, PySem.W.mg_of X G v_COUNT_LESS_ONE, fun H => .inr ⟨_, _, _, w_COUNT_LESS_ONE, rfl, rfl, by show 2 ≤ sizeLine; decide, .cons ⟨_, rfl⟩ (.cons ⟨_, rfl⟩ (.nil))⟩⟩, ⟨_, PySem.W.mg_of X G v_FIRST, fun H => .inr ⟨_, _, _, w_FIRST, rfl, rfl, by show 2 ≤ sizeLine; decide, .cons ⟨_, rfl⟩ (.cons ⟨_, rfl⟩ (.nil))⟩⟩, ⟨_, PySem.W.mg_of X G v_GROUPS, fun H => .inr ⟨_, _, _, w_GROUPS, rfl, rfl, by show 3 ≤ sizeLine; decide, .cons ⟨_, rfl⟩ (.cons ⟨_, rfl⟩ (.cons ⟨_, rfl⟩ (.nil)))⟩⟩, ⟨_, PySem.W.mg_of X G v_KIND, fun H => .inr ⟨_, _, _, w_KIND, rfl, rfl, by show 2 ≤ sizeLine; decide, .cons ⟨_, rfl⟩ (.cons ⟨_, rfl⟩ (.nil))⟩⟩, ⟨_, PySem.W.mg_of X G v_LEAST_COUNT⟩, ⟨_, PySem.W.mg_of X G v_RIGHTS⟩, ⟨_, PySem.W.mg_of X G v_RIGHTS_BITS, fun H => .inr ⟨_, _, _, w_RIGHTS_BITS, rfl, rfl, by show 2 ≤ sizeLine; decide, .cons ⟨_, rfl⟩ (.cons ⟨_, rfl⟩ (.nil))⟩⟩, ⟨_, PySem.W.mg_of X G v_STEP, fun H => .inr ⟨_, _, _, w_STEP, rfl, rfl, by show 2 ≤ sizeLine; decide, .cons ⟨_, rfl⟩ (.cons ⟨_, rfl⟩ (.nil))⟩⟩, ⟨_, PySem.W.mg_of X G v_TOP_COUNT⟩, ⟨_, PySem.W.mg_of X G v_TOP_KIND⟩, ⟨_, PySem.W.mg_of X G v_TOP_STEP⟩⟩
  refine ⟨PySem.W.fnOf "law" "law" (defArgs s_law) (defBody s_law) (defScope s_law) .none kV23 dc23 pm23 an23 cd23 ct23, fun s v => .of_eq rfl, fun base _ _ => ?_⟩
  have C_is_whole : Cal l.prog w K mg base "is_whole" 1 ["thing", "least", "most"] (sp_is_whole K) := ⟨_, _, ok_is_whole F0 T, PySem.W.mg_of X G a0, F0.kp, F0.binds fun _ _ _ _ _ _ us hl => match us, hl with | [_, _, _], _ => rfl⟩
  have C_are_bounds : Cal l.prog w K mg base "are_bounds" 2 ["low", "high"] (sp_are_bounds K) := ⟨_, _, ok_are_bounds F1 T C_is_whole, PySem.W.mg_of X G a1, F1.kp, F1.binds fun _ _ _ _ _ _ us hl => match us, hl with | [_, _], _ => rfl⟩
  have C_look_at_bounds : Cal l.prog w K mg base "look_at_bounds" 3 ["low", "high"] (sp_look_at_bounds K) := ⟨_, _, ok_look_at_bounds F2 T C_are_bounds, PySem.W.mg_of X G a2, F2.kp, F2.binds fun _ _ _ _ _ _ us hl => match us, hl with | [_, _], _ => rfl⟩
  have C__steps_over : Cal l.prog w K mg base "_steps_over" 1 ["low", "high", "step"] (sp__steps_over K) := ⟨_, _, ok__steps_over F3 T, PySem.W.mg_of X G a3, F3.kp, F3.binds fun _ _ _ _ _ _ us hl => match us, hl with | [_, _, _], _ => rfl⟩
  have C_in_bits : Cal l.prog w K mg base "in_bits" 4 ["low", "high"] (sp_in_bits K) := ⟨_, _, ok_in_bits F4 T C_look_at_bounds C__steps_over, PySem.W.mg_of X G a4, F4.kp, F4.binds fun _ _ _ _ _ _ us hl => match us, hl with | [_, _], _ => rfl⟩
  have C_least_bounds : Cal l.prog w K mg base "least_bounds" 5 ["low", "high"] (sp_least_bounds K) := ⟨_, _, ok_least_bounds F5 T C_in_bits, PySem.W.mg_of X G a5, F5.kp, F5.binds fun _ _ _ _ _ _ us hl => match us, hl with | [_, _], _ => rfl⟩
  have C_is_exact : Cal l.prog w K mg base "is_exact" 6 ["low", "high"] (sp_is_exact K) := ⟨_, _, ok_is_exact F6 T C_least_bounds, PySem.W.mg_of X G a6, F6.kp, F6.binds fun _ _ _ _ _ _ us hl => match us, hl with | [_, _], _ => rfl⟩
  have C__has_some : Cal l.prog w K mg base "_has_some" 1 ["rights", "group"] (sp__has_some K) := ⟨_, _, ok__has_some F7 T, PySem.W.mg_of X G a7, F7.kp, F7.binds fun _ _ _ _ _ _ us hl => match us, hl with | [_, _], _ => rfl⟩
  have C__lead_one_way : Cal l.prog w K mg base "_lead_one_way" 2 ["rights"] (sp__lead_one_way K) := ⟨_, _, ok__lead_one_way F8 T C__has_some, PySem.W.mg_of X G a8, F8.kp, F8.binds fun _ _ _ _ _ _ us hl => match us, hl with | [_], _ => rfl⟩
  have C_bits_of_rights : Cal l.prog w K mg base "bits_of_rights" 1 ["rights"] (sp_bits_of_rights K) := ⟨_, _, ok_bits_of_rights F9 T, PySem.W.mg_of X G a9, F9.kp, F9.binds fun _ _ _ _ _ _ us hl => match us, hl with | [_], _ => rfl⟩
  have C_field : Cal l.prog w K mg base "field" 1 ["bits", "place"] (sp_field K) := ⟨_, _, ok_field F10 T, PySem.W.mg_of X G a10, F10.kp, F10.binds fun _ _ _ _ _ _ us hl => match us, hl with | [_, _], _ => rfl⟩
  have C_rights_in : Cal l.prog w K mg base "rights_in" 2 ["bits"] (sp_rights_in K) := ⟨_, _, ok_rights_in F11 T C_field, PySem.W.mg_of X G a11, F11.kp, F11.binds fun _ _ _ _ _ _ us hl => match us, hl with | [_], _ => rfl⟩
  have C__tell : Cal l.prog w K mg base "_tell" 2 ["bits"] (sp__tell K) := ⟨_, _, ok__tell F12 T C_field, PySem.W.mg_of X G a12, F12.kp, F12.binds fun _ _ _ _ _ _ us hl => match us, hl with | [_], _ => rfl⟩
  have C_bounds_in : Cal l.prog w K mg base "bounds_in" 2 ["bits"] (sp_bounds_in K) := ⟨_, _, ok_bounds_in F13 T C_field, PySem.W.mg_of X G a13, F13.kp, F13.binds fun _ _ _ _ _ _ us hl => match us, hl with | [_], _ => rfl⟩
  have C_fields_of : Cal l.prog w K mg base "fields_of" 3 ["word"] (sp_fields_of K) := ⟨_, _, ok_fields_of F14 T C_field C_rights_in C__tell C_bounds_in, PySem.W.mg_of X G a14, F14.kp, F14.binds fun _ _ _ _ _ _ us hl => match us, hl with | [_], _ => rfl⟩
  have C_is_rights : Cal l.prog w K mg base "is_rights" 1 ["thing"] (sp_is_rights K) := ⟨_, _, ok_is_rights F15 T, PySem.W.mg_of X G a15, F15.kp, F15.binds fun _ _ _ _ _ _ us hl => match us, hl with | [_], _ => rfl⟩
  have C__are_fields : Cal l.prog w K mg base "_are_fields" 7 ["thing"] (sp__are_fields K) := ⟨_, _, ok__are_fields F16 T C_is_whole C_are_bounds C_is_exact C__lead_one_way C_is_rights, PySem.W.mg_of X G a16, F16.kp, F16.binds fun _ _ _ _ _ _ us hl => match us, hl with | [_], _ => rfl⟩
  have FD17 : FunD K "word_of" "word_of" (defArgs s_word_of) (defBody s_word_of) (defScope s_word_of) [] [("marked", V.bl true)] f17 _ := ⟨⟨_, _, _, _, _, _, _, _, _, _, rfl, l17, c17, .inl ⟨rfl, rfl⟩, .inr ⟨D17, rfl, fun q hq => by simp at hq; subst hq; exact ⟨_, d17_marked, rfl⟩⟩⟩, k17⟩
  obtain ⟨ds17, hd17, hb17⟩ := FD17.binds0 1 (ps := ["fields", "marked"]) (by simp) rfl (fun D doc pm an cdv ct us ks h1 h2 => match us, h1, ks, h2 with | [_], _, [_], _ => ⟨_, _, _, _, _, _, rfl, rfl, rfl⟩)
  have C_word_of : CalD l.prog w K mg base "word_of" 8 ["fields", "marked"] [.bl true] (sp_word_of K) := ⟨_, _, ds17, ok_word_of F17 T C_in_bits C_bits_of_rights C__are_fields, PySem.W.mg_of X G a17, F17.kp, hd17, hb17⟩
  have C_room_of : Cal l.prog w K mg base "room_of" 5 ["many"] (sp_room_of K) := ⟨_, _, ok_room_of F18 T C_in_bits, PySem.W.mg_of X G a18, F18.kp, F18.binds fun _ _ _ _ _ _ us hl => match us, hl with | [_], _ => rfl⟩
  have C__law_take : Cal l.prog w K mg base "_law_take" 1 ["_law_pool_here", "_law_many"] (sp__law_take K) := ⟨_, _, ok__law_take F19 T, PySem.W.mg_of X G a19, F19.kp, F19.binds fun _ _ _ _ _ _ us hl => match us, hl with | [_, _], _ => rfl⟩
  have C__law_pool : Cal l.prog w K mg base "_law_pool" 1 ["_law_script", "_law_k"] (sp__law_pool K) := ⟨_, _, ok__law_pool F20 T, PySem.W.mg_of X G a20, F20.kp, F20.binds fun _ _ _ _ _ _ us hl => match us, hl with | [_, _], _ => rfl⟩
  have C__law_within : Cal l.prog w K mg base "_law_within" 2 ["_law_pool_here", "_law_low", "_law_high"] (sp__law_within K) := ⟨_, _, ok__law_within F21 T C__law_take, PySem.W.mg_of X G a21, F21.kp, F21.binds fun _ _ _ _ _ _ us hl => match us, hl with | [_, _, _], _ => rfl⟩
  have C__law_least_of : Cal l.prog w K mg base "_law_least_of" 6 ["_law_pool_here"] (sp__law_least_of K) := ⟨_, _, ok__law_least_of F22 T C_least_bounds C__law_within, PySem.W.mg_of X G a22, F22.kp, F22.binds fun _ _ _ _ _ _ us hl => match us, hl with | [_], _ => rfl⟩
  exact ok_law F23 T C_in_bits C_least_bounds C_is_exact C_fields_of C_word_of C_room_of C__law_pool C__law_within C__law_least_of
end My
open PySem PySem.W PyProof.Rows
set_option maxRecDepth 100000 in
set_option maxHeartbeats 0 in
theorem PySem.Challenge.cw_sealedreach_k09_whole_bounds_within_boun_holds : PySem.Challenge.rw_sealedreach_k09_whole_bounds_within_boun.Holds := by
  w_on; o_law; k_head; (case hw => w_witness2)
  k_fill
  refine L2.walk_of (l := PySem.Challenge.rw_sealedreach_k09_whole_bounds_within_boun) (n := 63) (k := 9) (x := "_law_script") (CX := fun _ => L2.CX0) (sp := fun w => My.sp_law _) rfl (by decide) rfl ⟨rfl, by decide, by decide⟩ (fun w h Y => PySem.W.kIn_of Y) ?F (fun _ _ a ns hl _ hS => ⟨a, ns, rfl, hS, hl, fun _ => rfl⟩) (fun _ _ _ _ _ h => h)
  case F =>
    intro w mg fa h KX G hmg
    refine' My.all_mk KX G hmg ?a0 ?l0 ?c0 ?k0 ?a1 ?l1 ?c1 ?k1 ?a2 ?l2 ?c2 ?k2 ?a3 ?l3 ?c3 ?k3 ?a4 ?l4 ?c4 ?k4 ?a5 ?l5 ?c5 ?k5 ?a6 ?l6 ?c6 ?k6 ?a7 ?l7 ?c7 ?k7 ?a8 ?l8 ?c8 ?k8 ?a9 ?l9 ?c9 ?k9 ?a10 ?l10 ?c10 ?k10 ?a11 ?l11 ?c11 ?k11 ?a12 ?l12 ?c12 ?k12 ?a13 ?l13 ?c13 ?k13 ?a14 ?l14 ?c14 ?k14 ?a15 ?l15 ?c15 ?k15 ?a16 ?l16 ?c16 ?k16 ?a17 ?l17 ?c17 ?k17 ?d17_marked ?a18 ?l18 ?c18 ?k18 ?a19 ?l19 ?c19 ?k19 ?a20 ?l20 ?c20 ?k20 ?a21 ?l21 ?c21 ?k21 ?a22 ?l22 ?c22 ?k22 ?a23 ?l23 ?c23 ?k23 ?z_abs ?z_any ?z_bool ?z_enumerate ?z_int ?z_isinstance ?z_len ?z_max ?z_min ?z_range ?z_str ?z_sum ?z_tuple ?z_zip ?v_AT ?w_AT ?v_CELLS ?v_COUNT_LESS_ONE ?w_COUNT_LESS_ONE ?v_FIRST ?w_FIRST ?v_GROUPS ?w_GROUPS ?v_KIND ?w_KIND ?v_LEAST_COUNT ?v_RIGHTS ?v_RIGHTS_BITS ?w_RIGHTS_BITS ?v_STEP ?w_STEP ?v_TOP_COUNT ?v_TOP_KIND ?v_TOP_STEP
    (case a0 => k_is)
    (case l0 => k_is)
    (case c0 => k_is)
    (case k0 => k_is)
    (case a1 => k_is)
    (case l1 => k_is)
    (case c1 => k_is)
    (case k1 => k_is)
    (case a2 => k_is)
    (case l2 => k_is)
    (case c2 => k_is)
    (case k2 => k_is)
    (case a3 => k_is)
    (case l3 => k_is)
    (case c3 => k_is)
    (case k3 => k_is)
    (case a4 => k_is)
    (case l4 => k_is)
    (case c4 => k_is)
    (case k4 => k_is)
    (case a5 => k_is)
    (case l5 => k_is)
    (case c5 => k_is)
    (case k5 => k_is)
    (case a6 => k_is)
    (case l6 => k_is)
    (case c6 => k_is)
    (case k6 => k_is)
    (case a7 => k_is)
    (case l7 => k_is)
    (case c7 => k_is)
    (case k7 => k_is)
    (case a8 => k_is)
    (case l8 => k_is)
    (case c8 => k_is)
    (case k8 => k_is)
    (case a9 => k_is)
    (case l9 => k_is)
    (case c9 => k_is)
    (case k9 => k_is)
    (case a10 => k_is)
    (case l10 => k_is)
    (case c10 => k_is)
    (case k10 => k_is)
    (case a11 => k_is)
    (case l11 => k_is)
    (case c11 => k_is)
    (case k11 => k_is)
    (case a12 => k_is)
    (case l12 => k_is)
    (case c12 => k_is)
    (case k12 => k_is)
    (case a13 => k_is)
    (case l13 => k_is)
    (case c13 => k_is)
    (case k13 => k_is)
    (case a14 => k_is)
    (case l14 => k_is)
    (case c14 => k_is)
    (case k14 => k_is)
    (case a15 => k_is)
    (case l15 => k_is)
    (case c15 => k_is)
    (case k15 => k_is)
    (case a16 => k_is)
    (case l16 => k_is)
    (case c16 => k_is)
    (case k16 => k_is)
    (case a17 => k_is)
    (case l17 => k_is)
    (case c17 => k_is)
    (case k17 => k_is)
    (case d17_marked => k_is)
    (case a18 => k_is)
    (case l18 => k_is)
    (case c18 => k_is)
    (case k18 => k_is)
    (case a19 => k_is)
    (case l19 => k_is)
    (case c19 => k_is)
    (case k19 => k_is)
    (case a20 => k_is)
    (case l20 => k_is)
    (case c20 => k_is)
    (case k20 => k_is)
    (case a21 => k_is)
    (case l21 => k_is)
    (case c21 => k_is)
    (case k21 => k_is)
    (case a22 => k_is)
    (case l22 => k_is)
    (case c22 => k_is)
    (case k22 => k_is)
    (case a23 => k_is)
    (case l23 => k_is)
    (case c23 => k_is)
    (case k23 => k_is)
    (case z_abs => k_is)
    (case z_any => k_is)
    (case z_bool => k_is)
    (case z_enumerate => k_is)
    (case z_int => k_is)
    (case z_isinstance => k_is)
    (case z_len => k_is)
    (case z_max => k_is)
    (case z_min => k_is)
    (case z_range => k_is)
    (case z_str => k_is)
    (case z_sum => k_is)
    (case z_tuple => k_is)
    (case z_zip => k_is)
    (case v_AT => k_is)
    (case w_AT => k_is)
    (case v_CELLS => k_is)
    (case v_COUNT_LESS_ONE => k_is)
    (case w_COUNT_LESS_ONE => k_is)
    (case v_FIRST => k_is)
    (case w_FIRST => k_is)
    (case v_GROUPS => k_is)
    (case w_GROUPS => k_is)
    (case v_KIND => k_is)
    (case w_KIND => k_is)
    (case v_LEAST_COUNT => k_is)
    (case v_RIGHTS => k_is)
    (case v_RIGHTS_BITS => k_is)
    (case w_RIGHTS_BITS => k_is)
    (case v_STEP => k_is)
    (case w_STEP => k_is)
    (case v_TOP_COUNT => k_is)
    (case v_TOP_KIND => k_is)
    (case v_TOP_STEP => k_is)
