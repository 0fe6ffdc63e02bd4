import PyProof.Rows.All
import Wide.All
import OpenK.AllK
import Wide.FinOn
import HandS.ForMost
import HandS.IsInst
import HandS.Conv
import HandS.TupLe
import HandS.Walk
import HandS.Zip
import HandS.Defaults
import HandS.MakeKwOnly
import HandS.SetFor
import HandS.ForExc
import HandS.ExcInit
import KE.KExcIs
import PyProof.ReprLen
import PySem.Challenge.RW_sealedreach_k02_fields_told_of_words
set_option Elab.async false
set_option linter.all false
set_option maxRecDepth 100000
set_option maxHeartbeats 4000000
namespace My
open PySem PySem.Spec PyProof.Rows L2
/-! ### calls of a def by its name alone -/
structure Cal (P : Program) (w : World) (K : PySem.W.Frag) (mg : Str → Option Value) (base : Heap) (x : Str) (k : Nat) (ps : List Str) (sp : Sp) : Prop where
  ex : ∃ (f : Addr) (fd : FuncData), FnOk P w K mg base CX0 k f fd ps sp ∧ mg x = some (.ref f) ∧ PySem.W.keepIn K (.ref f) = true ∧ Binds K fd ps []
theorem pe_cal {X : Cx} {x : Str} {k : Nat} {ps : List Str} {sp : Sp} {e : Expr} {es : List Expr} {t : TA} {p pos : Pos} (C : Cal X.prog X.w X.K X.mg X.base x k ps sp) (hr : Room k X.A)
    (ha : PA X (e :: es) t) (hg : Gl X x := by rfl) (hdb : (x == ("__debug__" : Str)) = false := by decide) (he : starEach (e :: es) X.env = (false, eval e X.env) :: starEach es X.env := by rfl) (hpl : (backTo pos (starEach es X.env)).any (·.1) = false := by rfl) :
    PE X (.Call (.Name x p) (e :: es) [] pos) (tCall sp [] E0 t) := by
  obtain ⟨f, fd, G, g, kp, b⟩ := C.ex
  exact pe_call G hr hg g kp b .nil pass0 ha hdb he hpl
/-- .. with defaults of its keyword-only names -/
structure CalD (P : Program) (w : World) (K : PySem.W.Frag) (mg : Str → Option Value) (base : Heap) (x : Str) (k : Nat) (ps : List Str) (dvs : List V) (sp : Sp) : Prop where
  ex : ∃ (f : Addr) (fd : FuncData) (ds : List Value), FnOk P w K mg base CX0 k f fd ps sp ∧ mg x = some (.ref f) ∧ PySem.W.keepIn K (.ref f) = true ∧ Vals dvs ds ∧ Binds K fd ps ds
theorem pe_calD {X : Cx} {x : Str} {k : Nat} {ps : List Str} {dvs : List V} {sp : Sp} {e : Expr} {es : List Expr} {t : TA} {p pos : Pos} (C : CalD X.prog X.w X.K X.mg X.base x k ps dvs sp) (hr : Room k X.A)
    (ha : PA X (e :: es) t) (hg : Gl X x := by rfl) (hdb : (x == ("__debug__" : Str)) = false := by decide) (he : starEach (e :: es) X.env = (false, eval e X.env) :: starEach es X.env := by rfl) (hpl : (backTo pos (starEach es X.env)).any (·.1) = false := by rfl) :
    PE X (.Call (.Name x p) (e :: es) [] pos) (tCall sp dvs E0 t) := by
  obtain ⟨f, fd, ds, G, g, kp, hd, b⟩ := C.ex
  exact pe_call G hr hg g kp b hd pass0 ha hdb he hpl
/-- .. called with one place and its keyword-only names -/
structure CalK (P : Program) (w : World) (K : PySem.W.Frag) (mg : Str → Option Value) (base : Heap) (x : Str) (k : Nat) (ps : List Str) (n : Nat) (ks : List Str) (sp : Sp) : Prop where
  ex : ∃ (f : Addr) (fd : FuncData) (g : List Value → List Value → List Value), FnOk P w K mg base CX0 k f fd ps sp ∧ mg x = some (.ref f) ∧ PySem.W.keepIn K (.ref f) = true ∧ KBn K fd ps n ks g (fun vs zs => vs ++ zs)
theorem pe_calK {X : Cx} {x : Str} {k n : Nat} {ps ks : List Str} {sp : Sp} {e : Expr} {es : List Expr} {kws : List Keyword} {t tk : TA} {p pos : Pos} (C : CalK X.prog X.w X.K X.mg X.base x k ps n ks sp) (hr : Room k X.A)
    (ha : PA X (e :: es) t) (hkw : PK X kws tk) (hg : Gl X x := by rfl) (hall : (backToKw pos (keywordEach kws X.env)).all (·.1.isSome) = true := by rfl) (hks : (backToKw pos (keywordEach kws X.env)).filterMap (·.1) = ks := by rfl)
    (hdb : (x == ("__debug__" : Str)) = false := by decide) (he : starEach (e :: es) X.env = (false, eval e X.env) :: starEach es X.env := by rfl)
    (hpl : ((backTo pos (starEach (e :: es) X.env)).any (·.1) || (backToKw pos (keywordEach kws X.env)).any (·.1.isNone)) = false := by rfl) :
    PE X (.Call (.Name x p) (e :: es) kws pos) (tCallN n ks.length sp (fun vs zs => vs ++ zs) E0 t tk) := by
  obtain ⟨f, fd, g, G, gm, kp, b⟩ := C.ex
  exact pe_callN G hr hg gm kp b pass0 ha hkw hall hks hdb he hpl
/-! ### tests -/
theorem ifnd {p : Prop} [Decidable p] {A B : Prop} (h1 : ¬ p → A) (h2 : p → B) : if (!decide p) = true then A else B := by
  by_cases h : p
  · rw [decide_eq_true h]; exact h2 h
  · rw [decide_eq_false h]; exact h1 h
theorem ifnb {c : Bool} {A B : Prop} (h1 : c = false → A) (h2 : c = true → B) : if (!c) = true then A else B := by
  cases c with
  | true => exact h2 rfl
  | false => exact h1 rfl
theorem ifd {p : Prop} [Decidable p] {A B : Prop} (h1 : p → A) (h2 : ¬ p → B) : if decide p = true then A else B := by
  by_cases h : p
  · rw [if_pos (decide_eq_true h)]; exact h1 h
  · rw [decide_eq_false h, if_neg Bool.false_ne_true]; exact h2 h
theorem ifP {p : Prop} [Decidable p] {A B : Prop} (h : p) (h1 : A) : if decide p = true then A else B := by
  rw [if_pos (decide_eq_true h)]; exact h1
theorem ifN {p : Prop} [Decidable p] {A B : Prop} (h : ¬ p) (h1 : B) : if decide p = true then A else B := by
  rw [decide_eq_false h, if_neg Bool.false_ne_true]; exact h1
theorem ifb {c : Bool} {A B : Prop} (h1 : c = true → A) (h2 : c = false → B) : if c = true then A else B := by
  cases c with
  | true => rw [if_pos rfl]; exact h1 rfl
  | false => rw [if_neg Bool.false_ne_true]; exact h2 rfl
theorem ifbT {c : Bool} {A B : Prop} (h : c = true) (h1 : A) : if c = true then A else B := by rw [if_pos h]; exact h1
theorem ifbF {c : Bool} {A B : Prop} (h : c = false) (h1 : B) : if c = true then A else B := by rw [h, if_neg Bool.false_ne_true]; exact h1
/-! ### heaps -/
theorem viaS {H H' : Hp} {b : Addr} {o : HO} (s : Same H H') (h : H b = some o) : H' b = some o := s b o h
theorem same_new {H : Hp} {p : Addr} {o : HO} (h : H p = none) : Same H (upd H p o) := fun b x e => by
  rw [upd_ne (ne_of_none e h)]; exact e
/-- all but what stands at a is as it was -/
def But (a : Addr) (H H' : Hp) : Prop := ∀ b o, b ≠ a → H b = some o → H' b = some o
theorem viaB {H H' : Hp} {a b : Addr} {o : HO} (s : But a H H') (n : b ≠ a) (h : H b = some o) : H' b = some o := s b o n h
theorem But.refl (a : Addr) (H : Hp) : But a H H := fun _ _ _ h => h
theorem But.of {a : Addr} {H H' : Hp} (s : Same H H') : But a H H' := fun b o _ h => s b o h
theorem But.trans {a : Addr} {H H1 H2 : Hp} (s : But a H H1) (t : But a H1 H2) : But a H H2 := fun b o n h => t b o n (s b o n h)
theorem But.upd {a : Addr} {H H' : Hp} {o : HO} (s : But a H H') : But a H (upd H' a o) := fun b x n h => by
  rw [upd_ne n]; exact s b x n h
theorem But.new {a p : Addr} {H H' : Hp} {o : HO} (s : But a H H') (n : H' p = none) : But a H (L2.upd H' p o) := fun b x nb h => by
  have e := s b x nb h
  rw [upd_ne (ne_of_none e n)]; exact e
theorem sameN {p : Addr} {H H' : Hp} {o : HO} (s : Same H H') (n : H' p = none) : Same H (L2.upd H' p o) := fun b x h => by
  have e := s b x h
  rw [upd_ne (ne_of_none e n)]; exact e
theorem updK {H : Hp} {a b : Addr} {o u : HO} (n : b ≠ a) (h : H b = some u) : L2.upd H a o b = some u := by rw [upd_ne n]; exact h
/-- the pool of a law: a list of two numbers, the second small -/
def Pool (H : Hp) (a : Addr) (x y : Int) : Prop := H a = some (.lst [.int x, .int y]) ∧ 0 ≤ x ∧ 0 ≤ y ∧ y < 2147483647

local macro_rules | `(tactic| walk_at "ne") => `(tactic| first | assumption | (apply Ne.symm; assumption) | (refine ne_of_none ?_ (by assumption); walk_at "at") | (apply Ne.symm; refine ne_of_none ?_ (by assumption); walk_at "at"))
local macro_rules | `(tactic| walk_at "at") => `(tactic| first | assumption | exact upd_same | (refine updK ?n ?h; (case n => walk_at "ne"); (case h => walk_at "at")) | (refine viaS (by assumption) ?_; walk_at "at") | (refine viaB (by assumption) ?n ?h; (case n => walk_at "ne"); (case h => walk_at "at")))
local macro_rules | `(tactic| walk_at "side") => `(tactic| first | rfl | omega | decide | (refine ⟨by omega, by omega, ?_⟩; first | decide | omega) | (refine Or.inl ⟨by omega, by omega⟩) | (refine Or.inr ⟨by omega, by omega⟩) | exact ⟨by omega, by omega⟩)
/-- one step of a reading whose answers are plain -/
local macro_rules | `(tactic| walk_at "g1") => `(tactic| first | refine ⟨_, rfl, ?_⟩ | refine ⟨_, _, rfl, rfl, ?_⟩ | refine ⟨by walk_at "side", ?_⟩)
local macro_rules | `(tactic| walk_at "g") => `(tactic| repeat walk_at "g1")
theorem sz {n : Nat} (h : n ≤ 1000) : n ≤ sizeLine := Nat.le_of_lt (small1000 h)
theorem Pool.new {H : Hp} {p q : Addr} {x y : Int} {o : HO} (h : Pool H p x y) (n : H q = none) : Pool (upd H q o) p x y := ⟨by rw [upd_ne (ne_of_none h.1 n)]; exact h.1, h.2⟩
def rep (c L : Int) : Int := if (if c < L then c else L) > 1 then (if c < L then c else L) else 1
theorem rep_le {c L : Int} (h : 1 ≤ c) (h2 : c ≤ 63) : 1 ≤ rep c L ∧ rep c L ≤ c := by
  unfold rep
  by_cases d : c < L
  · simp only [if_pos d]; split <;> omega
  · simp only [if_neg d]; split <;> omega
theorem rep_lo {c L : Int} (h : 1 ≤ c) (h2 : c ≤ 63) : -(2 ^ 62) ≤ rep c L := by have := (rep_le (L := L) h h2).1; omega
theorem rep_hi {c L : Int} (h : 1 ≤ c) (h2 : c ≤ 63) : rep c L < 2 ^ 62 := by have := (rep_le (L := L) h h2).2; omega
theorem rep_i {c L : Int} {i : Nat} (h : 1 ≤ c) (h2 : c ≤ 63) (k : i < (rep c L).toNat) : i ≤ 63 := by have := (rep_le (L := L) h h2).2; omega
/-- a pool's own changes leave what stood ahead of it -/
theorem sameP {H H1 H2 H3 : Hp} {p : Addr} (s : Same H H1) (s1 : Same H1 H2) (n : H1 p = none) (b : But p H2 H3) : Same H H3 := fun c o e =>
  b c o (ne_of_none (s c o e) n) (s1 _ _ (s _ _ e))
theorem pick {xs : List V} {r : Int} (P : V → Prop) (h0 : 0 ≤ r) (h1 : r < (xs.length : Int)) (hP : ∀ v ∈ xs, P v) : ∃ v, atI xs r = some v ∧ P v := by
  obtain ⟨j, rfl⟩ : ∃ j : Nat, r = (j : Int) := ⟨r.toNat, by omega⟩
  have hj : j < xs.length := by omega
  exact ⟨xs[j], atI_nat (List.getElem?_eq_getElem hj), hP _ (List.getElem_mem hj)⟩
theorem cut63 {ns : List Int} (h : ns.length ≤ 63) : cutV (ns.map V.int) none (some 63) = ns.map V.int := by
  unfold cutV
  rw [show HT.sIx (ns.map V.int).length (ns.map V.int).length (some 63) = min 63 (ns.map V.int).length from HT.sIx_nat _ _ 63, HT.sIx_none]
  rw [List.drop_zero, Nat.sub_zero, List.length_map, Nat.min_eq_right h]
  exact List.take_of_length_le (by simp)
theorem qb {Q : VK} {H : Hp} {b b' : Bool} (q : Q (.bl b') H) (e : b = b') : Q (.bl b) H := e ▸ q
theorem qi {Q : VK} {H : Hp} {i j : Int} (q : Q (.int j) H) (e : i = j) : Q (.int i) H := e ▸ q
/-! ### enumerate over a text -/
def Ies (x : Str) : It := ⟨fun i _ => i < x.cps.size, fun i H v H' => ∃ T c, v = .ref T ∧ H T = none ∧ H' = upd H T (.tup [.int (i : Nat), .str ⟨#[c]⟩]) ∧ x.cps[i]? = some c, fun i _ => i = x.cps.size⟩
theorem turn_enumS {P : Program} {w : World} {K : PySem.W.Frag} {elts : List Expr} {kk : Nat} {tpos : Pos} (e it : Addr) (x : Str) (t : Tok) :
    Turn P w K (.Tuple elts kk tpos) (Ies x) [e, it] e (fun i h => (∃ old, IsEnum h e it ((i : Nat) : Int) old) ∧ h.IsStrIter it (strIterType x) x t i ∧ e ≠ it) where
  mem := by simp
  obj := fun i h st b hb => by
    obtain ⟨⟨old, he⟩, ⟨o, ho, hc, hd⟩, _⟩ := st
    have e' : b = e ∨ b = it := by simpa using hb
    rcases e' with z | z
    · rw [z]; exact ⟨_, he, fun v q => nomatch q⟩
    · rw [z]; exact ⟨o, ho, fun v q => by rw [hd] at q; cases q⟩
  keep := fun i h h' st k => let ⟨⟨old, he⟩, ⟨o, ho, r⟩, hne⟩ := st; ⟨⟨old, k e (by simp) _ he⟩, ⟨o, k it (by simp) o ho, r⟩, hne⟩
  item := by
    intro X hP hw hK hc i pins s σ H E I hf st hg
    subst hP hw hK
    obtain ⟨⟨old, he⟩, hit, hne⟩ := st
    have hel : e < s.heap.objs.size := Heap.lt_size he
    have hil : it < s.heap.objs.size := by obtain ⟨_, q, _⟩ := hit; exact Heap.lt_size q
    have hd : X.A.in1.handled = none := I.ok.hd hc
    have D : Draws X.prog X.w X.A.in1 it [it] x.cps.size (fun i v => ∃ c u, x.cps[i]? = some c ∧ v = .str ⟨#[c]⟩ u) (fun i h => h.IsStrIter it (strIterType x) x t i) := by
      unfold strIterType
      split
      · exact Draws.strAscii hd it x t
      · exact Draws.strWide hd it x t
    refine wpAny_pyNext_enum_itemD D he hit hg hne (by simpa using hne) fun v h' tk hv ho hit' hT hsz hk => ?_
    obtain ⟨c, u, hcx, rfl⟩ := hv
    refine ⟨_, rfl, wpAny_letOwnedTupleGo_enum (s := { s with heap := h', toks := tk + 1 }) ho fun h'' he' sb => ?_⟩
    have hT2 : h''.get? s.heap.objs.size = some { cls := .type "tuple", data := .seq #[.int i tk, .str ⟨#[c]⟩ u] } := (sb.2 _ (Nat.ne_of_gt hel)).trans hT
    have new : ObjOk X.prog X.w (upd H s.heap.objs.size (.tup [.int (i : Nat), .str ⟨#[c]⟩])) h'' s.heap.objs.size (.tup [.int (i : Nat), .str ⟨#[c]⟩]) :=
      ⟨by show 2 ≤ sizeLine; decide, [.int i tk, .str ⟨#[c]⟩ u], .cons ⟨_, rfl⟩ (.cons ⟨_, rfl⟩ .nil), ⟨_, hT2, rfl, _, rfl⟩⟩
    have I1 : Inv X pins σ (upd H s.heap.objs.size (.tup [.int (i : Nat), .str ⟨#[c]⟩])) { s with heap := h'', toks := tk + 1 } :=
      I.turnedNew (ch := [e, it]) (fun b ob hb q => (sb.2 b (fun z => hb (by simp [z]))).trans (hk b ob (fun z => hb (by simp [z])) (fun z => hb (by simp [z])) q)) hf (Nat.le_refl _) new
    refine ⟨.ref s.heap.objs.size, _, I1, rfl, ⟨_, c, rfl, I.hok.fresh (Nat.le_refl _), rfl, hcx⟩, ⟨⟨.str ⟨#[c]⟩ u, ?_⟩, ?_, hne⟩, fun b hb => ?_⟩
    · have e1 : ((i + 1 : Nat) : Int) = (i : Int) + 1 := by omega
      rw [e1]; exact he'
    · obtain ⟨o2, q2, r2⟩ := hit'
      exact ⟨o2, (sb.2 it (Ne.symm hne)).trans q2, r2⟩
    · have hb' : b < s.heap.objs.size := by
        have e' : b = e ∨ b = it := by simpa using hb
        rcases e' with z | z
        · rw [z]; exact hel
        · rw [z]; exact hil
      rw [upd_ne (Nat.ne_of_lt hb')]
      exact (hf b hb).1
  done := by
    intro X hP hw hK hc i pins s σ H E I hf st hg
    subst hP hw hK
    obtain ⟨⟨old, he⟩, hit, hne⟩ := st
    have hg' : i = x.cps.size := hg
    subst hg'
    have hd : X.A.in1.handled = none := I.ok.hd hc
    have D : Draws X.prog X.w X.A.in1 it [it] x.cps.size (fun i v => ∃ c u, x.cps[i]? = some c ∧ v = .str ⟨#[c]⟩ u) (fun i h => h.IsStrIter it (strIterType x) x t i) := by
      unfold strIterType
      split
      · exact Draws.strAscii hd it x t
      · exact Draws.strWide hd it x t
    obtain ⟨f0, f1, f2, f3, f4, f5⟩ := hf it (by simp)
    exact wpAny_pyNext_enum_endD D he hit fun h' eb => ⟨rfl, I.turned (t' := s.toks) (fun b o hb q => eb b o hb q) f0 f1 f3 f4 f5⟩
  self := fun A i s Q E st h => let ⟨⟨_, he⟩, _⟩ := st; wpAny_pyIter_enum he h
def iEnumS (ta : TA) : TI := fun σ H R => ta σ H fun vs H1 => ∃ x : Str, vs = [.str x] ∧ R (Ies x) H1
theorem pi_enumS {X : Cx} {e : Expr} {ta : TA} {p pos tpos : Pos} {elts : List Expr} {kk : Nat} (hg : Gl X "enumerate") (hm : X.mg "enumerate" = none) (ha : PA X [e] ta) (hs : starEach [e] X.env = [(false, eval e X.env)] := by rfl) :
    PI X (.Tuple elts kk tpos) (.Call (.Name "enumerate" p) [e] [] pos) (iEnumS ta) := by
  refine ⟨fun pins s σ H R I h => ?_⟩
  refine Call_ (ld_blt I hg hm boot_enumerate (PyProof.Rows.callWith_type1 (thn (ha.run pos pins s σ H _ I h) fun us s1 ⟨vs, H1, I1, r1, q1⟩ => ?_) hs rfl))
  obtain ⟨x, ex, q⟩ := q1
  subst ex
  cases r1 with
  | cons r rr =>
    cases rr
    obtain ⟨t, rfl⟩ := r
    refine call_enumerate_str fun h' he hit hsz hk => wpAny_pyIter_enum he ?_
    have I2 : Inv X pins σ H1 { s1 with heap := h' } := I1.kept (t' := s1.toks) hk
    refine ⟨s1.heap.objs.size + 1, [s1.heap.objs.size + 1, s1.heap.objs.size], _, _, H1, rfl, I2, turn_enumS (s1.heap.objs.size + 1) s1.heap.objs.size x t, ⟨⟨.none, he⟩, hit, Nat.succ_ne_self _⟩, fun b hb => ?_, q⟩
    have e' : b = s1.heap.objs.size + 1 ∨ b = s1.heap.objs.size := by simpa using hb
    have hle : s1.heap.objs.size ≤ b := by
      rcases e' with z | z
      · rw [z]; exact Nat.le_add_right _ _
      · rw [z]; exact Nat.le_refl _
    exact I1.fpOk hle (I1.hok.fresh hle)
theorem walk_enumS {z : Str} : Walk (Ies z) z.cps.size (fun _ => True) (YPair (fun i => some (.int (i : Nat))) (fun i => (z.cps[i]?).map fun c => .str ⟨#[c]⟩)) where
  goes := fun i H hi _ => hi
  stops := fun H _ => rfl
  yields := fun i H x H' hi _ y => by
    obtain ⟨T, c, rfl, hn, rfl, hc⟩ := y
    exact ⟨T, _, _, rfl, hn, rfl, rfl, by simp [hc]⟩
theorem walk_zipT {K : PySem.W.Frag} {a b : Addr} {xs ys : List V} {n : Nat} (hn : n = min xs.length ys.length) : Walk (RZ.ItzT K a b) n (fun H => SqT K H a xs ∧ SqT K H b ys) (YPair (fun i => xs[i]?) (fun i => ys[i]?)) where
  goes := fun i H hi h => by
    have h1 : i < xs.length := by omega
    have h2 : i < ys.length := by omega
    exact ⟨xs, ys, xs[i], ys[i], h.1, h.2, List.getElem?_eq_getElem h1, List.getElem?_eq_getElem h2⟩
  stops := fun H h => ⟨xs, ys, h.1, h.2, by omega⟩
  yields := fun i H x H' hi h y => by
    obtain ⟨T, x1, y1, rfl, hn', rfl, h1, h2⟩ := y
    exact ⟨T, x1, y1, rfl, hn', rfl, h1 xs h.1, h2 ys h.2⟩

theorem b01 (k : Bool) : -(2 ^ 64) < (if k then (1 : Int) else 0) ∧ (if k then (1 : Int) else 0) < 2 ^ 64 := by cases k <;> decide
theorem mixb (z : Int) : -(2 ^ 64) < z % 2147483647 ∧ z % 2147483647 < 2 ^ 64 := by omega
theorem sizeb (c : Int) (k : Bool) : 0 ≤ (if c < 0 then -c else c) * (if k then (1 : Int) else 0) := by
  cases k
  · simp
  · simp; split <;> omega

/-! ### the mathematics of bounds -/
def Dd (lo hi : Int) (t : Nat) : Int := (hi - 1) / 2 ^ t - lo / 2 ^ t
def StepIs (lo hi : Int) (s : Nat) : Prop := s ≤ 8 ∧ Dd lo hi s ≤ 15 ∧ ∀ t, t < s → 15 < Dd lo hi t
def Bd (lo hi : Int) : Prop := 0 ≤ lo ∧ lo < hi ∧ hi ≤ 4096
def Ex (lo hi : Int) (s : Nat) : Prop := StepIs lo hi s ∧ lo / 2 ^ s * 2 ^ s = lo ∧ ((hi - 1) / 2 ^ s + 1) * 2 ^ s = hi
theorem le8 {s : Nat} (h : s ≤ 8) : s = 0 ∨ s = 1 ∨ s = 2 ∨ s = 3 ∨ s = 4 ∨ s = 5 ∨ s = 6 ∨ s = 7 ∨ s = 8 := by omega
theorem StepIs.uniq {lo hi : Int} {s t : Nat} (h : StepIs lo hi s) (k : StepIs lo hi t) : s = t := by
  rcases Nat.lt_trichotomy s t with c | c | c
  · have := k.2.2 s c; have := h.2.1; omega
  · exact c
  · have := h.2.2 t c; have := k.2.1; omega
theorem pow_pos2 (s : Nat) : (0 : Int) < 2 ^ s := Int.pow_pos (by decide)
theorem over_eq (lo hi : Int) (s : Nat) : (hi + 1 * 2 ^ s - 1) / 2 ^ s - lo / 2 ^ s = Dd lo hi s + 1 := by
  have e : hi + 1 * 2 ^ s - 1 = (hi - 1) + 1 * 2 ^ s := by omega
  rw [e, Int.add_mul_ediv_right _ _ (Int.ne_of_gt (pow_pos2 s))]
  unfold Dd
  omega
theorem first_over (lo hi : Int) (s : Nat) : lo / 2 ^ s + (Dd lo hi s + 1) = (hi - 1) / 2 ^ s + 1 := by
  unfold Dd; omega
theorem dd8 {lo hi : Int} (b : Bd lo hi) : Dd lo hi 8 ≤ 15 := by
  obtain ⟨h1, h2, h3⟩ := b
  unfold Dd
  have e : (2 : Int) ^ 8 = 256 := by decide
  rw [e]; omega
/-- going up from nought: below s all are too many -/
theorem lt8 {lo hi : Int} {s : Nat} (b : Bd lo hi) (h : 15 < Dd lo hi s) (u : s ≤ 8) : s < 8 := by
  rcases Nat.lt_or_ge s 8 with c | c
  · exact c
  · have e : s = 8 := by omega
    subst e
    have := dd8 b
    omega
/-- what a shift asks -/
theorem p8 {s : Nat} (h : s ≤ 8) : (2 : Int) ^ s ≤ 256 := by
  rcases le8 h with e | e | e | e | e | e | e | e | e <;> subst e <;> decide
theorem na {x : Int} (h0 : 0 ≤ x) (h1 : x ≤ 100000) : x.natAbs < 2 ^ 64 := by omega
theorem div_le' {x : Int} {s : Nat} (h0 : 0 ≤ x) : 0 ≤ x / 2 ^ s ∧ x / 2 ^ s ≤ x :=
  ⟨Int.ediv_nonneg h0 (Int.le_of_lt (pow_pos2 s)), Int.ediv_le_self _ h0⟩
theorem bc {lo hi : Int} {s : Nat} (b : Bd lo hi) (h : s ≤ 8) : CPow (lo / 2 ^ s) (s : Int) := by
  have := div_le' (s := s) b.1
  have := b.2
  exact ⟨by omega, by omega, na (by omega) (by omega)⟩
theorem bc2 {lo hi : Int} {s : Nat} (b : Bd lo hi) (h : StepIs lo hi s) : CPow (lo / 2 ^ s + (Dd lo hi s + 1)) (s : Int) := by
  have h8 := h.1
  obtain ⟨b1, b2, b3⟩ := b
  have := div_le' (s := s) (x := hi - 1) (by omega)
  rw [first_over]
  exact ⟨by omega, by omega, na (by omega) (by omega)⟩
theorem dd0 (n : Int) (s : Nat) : Dd 0 n s + 1 = (n - 1) / 2 ^ s + 1 := by
  unfold Dd; rw [Int.zero_ediv]; omega
theorem bc3 {n : Int} {s : Nat} (h : StepIs 0 n s) (b : Bd 0 n) : CPow (Dd 0 n s + 1) (s : Int) := by
  have h8 := h.1
  obtain ⟨b1, b2, b3⟩ := b
  have := div_le' (s := s) (x := n - 1) (by omega)
  rw [dd0]
  exact ⟨by omega, by omega, na (by omega) (by omega)⟩
def Can (lo hi : Int) (s : Nat) : Prop := lo % 2 ^ s = 0 ∧ 9 ≤ (hi - lo) / 2 ^ s
def GH (lo hi : Int) (s : Nat) : Prop := s ≤ 8 ∧ (s = 0 ∨ Can lo hi s) ∧ ∀ t, s < t → t ≤ 8 → ¬ Can lo hi t
def mn (lo hi : Int) (s : Nat) : Int := if (hi - lo) / 2 ^ s < 16 then (hi - lo) / 2 ^ s else 16
theorem cmn {lo hi : Int} {s : Nat} (b : Bd lo hi) (h : s ≤ 8) : CPow (mn lo hi s) (s : Int) := by
  obtain ⟨b1, b2, b3⟩ := b
  have := div_le' (s := s) (x := hi - lo) (by omega)
  unfold mn
  refine ⟨by omega, by omega, na ?_ ?_⟩ <;> split <;> omega
theorem bl_int {a b : Int} : decide (V.int a = V.int b) = decide (a = b) := by
  by_cases h : a = b
  · subst h; simp
  · have : ¬ (V.int a = V.int b) := fun e => h (V.int.inj e)
    simp [h, this]
theorem t2_eqv {a b c d : Int} : PyData.eqv (.tuple [.int a, .int b]) (.tuple [.int c, .int d]) = true ↔ a = c ∧ b = d := by
  simp [PyData.eqv, PyData.eqvAll]
theorem t2_no {a b c d : Int} (e : PyData.eqv (.tuple [.int a, .int b]) (.tuple [.int c, .int d]) = false) (h1 : a = c) (h2 : b = d) : False := by
  rw [t2_eqv.mpr ⟨h1, h2⟩] at e; cases e
theorem dp2 {K : PySem.W.Frag} {H : Hp} {p : Addr} {a b : Int} (h : H p = some (.tup [.int a, .int b])) : Dp K H (.ref p) (.tuple [.int a, .int b]) :=
  .tup (.of h) (.cons (.int a) (.cons (.int b) .nil))
theorem t3_eqv {a b x c d y : Int} : PyData.eqv (.tuple [.int a, .int b, .int x]) (.tuple [.int c, .int d, .int y]) = true ↔ a = c ∧ b = d ∧ x = y := by
  simp [PyData.eqv, PyData.eqvAll]
theorem dp3 {K : PySem.W.Frag} {H : Hp} {p : Addr} {a b c : Int} (h : H p = some (.tup [.int a, .int b, .int c])) : Dp K H (.ref p) (.tuple [.int a, .int b, .int c]) :=
  .tup (.of h) (.cons (.int a) (.cons (.int b) (.cons (.int c) .nil)))

/-! ### things of any kind -/
inductive Kd (H : Hp) : V → Prop where
  | non : Kd H .non
  | bl (b : Bool) : Kd H (.bl b)
  | int (i : Int) : Kd H (.int i)
  | str (x : Str) : Kd H (.str x)
  | lst {p : Addr} {xs : List V} (e : H p = some (.lst xs)) : Kd H (.ref p)
  | tup {p : Addr} {xs : List V} (e : H p = some (.tup xs)) : Kd H (.ref p)
  | dk {p : Addr} {kvs : List (Key × V)} (e : H p = some (.dK kvs)) : Kd H (.ref p)
theorem Kd.same {H H' : Hp} {v : V} (k : Kd H v) (s : Same H H') : Kd H' v := by
  cases k with
  | non => exact .non
  | bl b => exact .bl b
  | int i => exact .int i
  | str x => exact .str x
  | lst e => exact .lst (s _ _ e)
  | tup e => exact .tup (s _ _ e)
  | dk e => exact .dk (s _ _ e)
def isI : V → Bool | .int _ => true | .bl _ => true | _ => false
def isB : V → Bool | .bl _ => true | _ => false
def isS : V → Bool | .str _ => true | _ => false
theorem Kd.int? {K : PySem.W.Frag} {H : Hp} {v : V} (k : Kd H v) : ∃ t, TyX K H v t ∧ PySem.W.kitOne K t (.type "int") = some (isI v) := by
  cases k with
  | non => exact ⟨_, .base .non, kit_ty (r := false) (by decide +kernel)⟩
  | bl b => exact ⟨_, .base (.bl b), kit_ty (r := true) (by decide +kernel)⟩
  | int i => exact ⟨_, .base (.int i), kit_ty (r := true) (by decide +kernel)⟩
  | str x => exact ⟨_, .base (.str x), kit_ty (r := false) (by decide +kernel)⟩
  | lst e => exact ⟨_, .base (.lst e), kit_ty (r := false) (by decide +kernel)⟩
  | tup e => exact ⟨_, .base (.tup e), kit_ty (r := false) (by decide +kernel)⟩
  | dk e => exact ⟨_, .base (.dK e), kit_ty (r := false) (by decide +kernel)⟩
theorem Kd.bool? {K : PySem.W.Frag} {H : Hp} {v : V} (k : Kd H v) : ∃ t, TyX K H v t ∧ PySem.W.kitOne K t (.type "bool") = some (isB v) := by
  cases k with
  | non => exact ⟨_, .base .non, kit_ty (r := false) (by decide +kernel)⟩
  | bl b => exact ⟨_, .base (.bl b), kit_ty (r := true) (by decide +kernel)⟩
  | int i => exact ⟨_, .base (.int i), kit_ty (r := false) (by decide +kernel)⟩
  | str x => exact ⟨_, .base (.str x), kit_ty (r := false) (by decide +kernel)⟩
  | lst e => exact ⟨_, .base (.lst e), kit_ty (r := false) (by decide +kernel)⟩
  | tup e => exact ⟨_, .base (.tup e), kit_ty (r := false) (by decide +kernel)⟩
  | dk e => exact ⟨_, .base (.dK e), kit_ty (r := false) (by decide +kernel)⟩
theorem Kd.str? {K : PySem.W.Frag} {H : Hp} {v : V} (k : Kd H v) : ∃ t, TyX K H v t ∧ PySem.W.kitOne K t (.type "str") = some (isS v) := by
  cases k with
  | non => exact ⟨_, .base .non, kit_ty (r := false) (by decide +kernel)⟩
  | bl b => exact ⟨_, .base (.bl b), kit_ty (r := false) (by decide +kernel)⟩
  | int i => exact ⟨_, .base (.int i), kit_ty (r := false) (by decide +kernel)⟩
  | str x => exact ⟨_, .base (.str x), kit_ty (r := true) (by decide +kernel)⟩
  | lst e => exact ⟨_, .base (.lst e), kit_ty (r := false) (by decide +kernel)⟩
  | tup e => exact ⟨_, .base (.tup e), kit_ty (r := false) (by decide +kernel)⟩
  | dk e => exact ⟨_, .base (.dK e), kit_ty (r := false) (by decide +kernel)⟩
/-- it is no tuple -/
inductive NoT (H : Hp) : V → Prop where
  | non : NoT H .non
  | bl (b : Bool) : NoT H (.bl b)
  | int (i : Int) : NoT H (.int i)
  | str (x : Str) : NoT H (.str x)
  | lst {p : Addr} {xs : List V} (e : H p = some (.lst xs)) : NoT H (.ref p)
  | dk {p : Addr} {kvs : List (Key × V)} (e : H p = some (.dK kvs)) : NoT H (.ref p)
theorem NoT.tup? {K : PySem.W.Frag} {H : Hp} {v : V} (k : NoT H v) : ∃ t, TyX K H v t ∧ PySem.W.kitOne K t (.type "tuple") = some false := by
  cases k with
  | non => exact ⟨_, .base .non, kit_ty (by decide +kernel)⟩
  | bl b => exact ⟨_, .base (.bl b), kit_ty (by decide +kernel)⟩
  | int i => exact ⟨_, .base (.int i), kit_ty (by decide +kernel)⟩
  | str x => exact ⟨_, .base (.str x), kit_ty (by decide +kernel)⟩
  | lst e => exact ⟨_, .base (.lst e), kit_ty (by decide +kernel)⟩
  | dk e => exact ⟨_, .base (.dK e), kit_ty (by decide +kernel)⟩
/-! ### texts of rights -/
def RT : Str := Str.ofString "rwlsnfxco"
def code (k : Nat) : Nat := [114, 119, 108, 115, 110, 102, 120, 99, 111].getD k 0
def one (c : Nat) : Str := ⟨#[c]⟩
theorem RT_size : RT.cps.size = 9 := by decide +kernel
theorem RT_get : ∀ k, k < 9 → RT.cps[k]? = some (code k) := by decide +kernel
theorem code_inj : ∀ j, j < 9 → ∀ k, k < 9 → code j = code k → j = k := by decide +kernel
def rcs (p : Nat → Bool) (i : Nat) : List Str := ((List.range i).filter p).map fun k => one (code k)
def rtx (p : Nat → Bool) : Str := Txt.join (Str.ofString "") (rcs p 9)
theorem joinL_nil : ∀ l : List (List Nat), TL.joinL [] l = l.flatten
  | [] => rfl
  | [p] => by simp [TL.joinL]
  | p :: q :: r => by
    show p ++ ([] ++ TL.joinL [] (q :: r)) = _
    rw [joinL_nil (q :: r)]; simp
theorem rtx_codes (p : Nat → Bool) : (rtx p).cps.toList = ((List.range 9).filter p).map code := by
  unfold rtx
  rw [TL.join_eq]
  show TL.tl (Str.join _ _) = _
  rw [TL.tl_join]
  have e : TL.tl (Str.ofString "") = [] := by decide +kernel
  rw [e, joinL_nil]
  unfold rcs
  generalize (List.range 9).filter p = l
  induction l with
  | nil => rfl
  | cons x r ih =>
    simp only [List.map_cons, List.flatten_cons] at *
    rw [ih]; rfl
theorem rtx_mem (p : Nat → Bool) {k : Nat} (hk : k < 9) : code k ∈ (rtx p).cps.toList ↔ p k = true := by
  rw [rtx_codes, List.mem_map]
  constructor
  · rintro ⟨j, hj, e⟩
    obtain ⟨h1, h2⟩ := List.mem_filter.mp hj
    have : j = k := code_inj j (List.mem_range.mp h1) k hk e
    subst this; exact h2
  · intro h
    exact ⟨k, List.mem_filter.mpr ⟨List.mem_range.mpr hk, h⟩, rfl⟩
theorem rcs_succ (p : Nat → Bool) (i : Nat) : rcs p (i + 1) = rcs p i ++ (if p i = true then [one (code i)] else []) := by
  unfold rcs
  rw [List.range_succ, List.filter_append, List.map_append]
  congr 1
  by_cases h : p i = true
  · simp [h]
  · simp [h]
theorem rcs_len (p : Nat → Bool) (i : Nat) : (rcs p i).length ≤ i := by
  unfold rcs
  rw [List.length_map]
  exact Nat.le_trans (List.length_filter_le _ _) (by rw [List.length_range]; exact Nat.le_refl _)
theorem rcs_one (p : Nat → Bool) (i : Nat) : ((rcs p i).map (·.length)).sum = (rcs p i).length := by
  unfold rcs
  generalize (List.range i).filter p = l
  induction l with
  | nil => rfl
  | cons x r ih =>
    simp only [List.map_cons, List.sum_cons, List.length_cons] at *
    rw [ih]
    show 1 + _ = _
    omega
theorem rcs_fit (p : Nat → Bool) : ((rcs p 9).map (·.length)).sum + (rcs p 9).length * (Str.ofString "").length ≤ 16777216 := by
  have e : (Str.ofString "").length = 0 := by decide +kernel
  rw [e, rcs_one]
  have := rcs_len p 9
  omega
theorem szn {n : Nat} (h : n < 1000) : n < sizeLine := small1000 (Nat.le_of_lt h)
/-- the right k is in a text -/
def hasR (r : Str) (k : Nat) : Bool := decide (code k ∈ r.cps.toList)
def hasG (r g : Str) : Bool := g.cps.toList.any fun c => decide (c ∈ r.cps.toList)
def G0 : Str := Str.ofString "rwlsn"
def G1 : Str := Str.ofString "x"
def G2 : Str := Str.ofString "co"
def OneW (r : Str) : Prop := ([G0, G1, G2].filter (hasG r)).length ≤ 1
def mask (p : Nat → Bool) (i : Nat) : List Int := ((List.range i).filter p).map fun k => (2 : Int) ^ k
def maskOf (r : Str) : Int := (mask (hasR r) 9).sum
theorem mask_succ (p : Nat → Bool) (i : Nat) : mask p (i + 1) = mask p i ++ (if p i = true then [(2 : Int) ^ i] else []) := by
  unfold mask
  rw [List.range_succ, List.filter_append, List.map_append]
  congr 1
  by_cases h : p i = true
  · simp [h]
  · simp [h]
theorem mask_len (p : Nat → Bool) (i : Nat) : (mask p i).length ≤ i := by
  unfold mask
  rw [List.length_map]
  exact Nat.le_trans (List.length_filter_le _ _) (by rw [List.length_range]; exact Nat.le_refl _)
theorem i0 (i : Nat) : (0 : Int) + (i : Int) = (i : Int) := by omega
theorem take_any {g r : Str} {i : Nat} (hi : i < g.cps.size) : (g.cps.toList.take (i + 1)).map (fun c => decide (c ∈ r.cps.toList)) = (g.cps.toList.take i).map (fun c => decide (c ∈ r.cps.toList)) ++ [decide (g.cps[i] ∈ r.cps.toList)] := by
  rw [List.take_add_one, List.map_append]
  congr 1
  simp [hi]
theorem wipe_in {σ : L2.St} {i : Nat} : ∀ {vs : List Nat}, i ∈ vs → (wipe σ vs)[i]? = if i < σ.length then some none else none
  | [], h => by cases h
  | a :: vs, h => by
    show ((wipe σ vs).set a none)[i]? = _
    by_cases e : a = i
    · subst e
      rw [List.getElem?_set_self']
      by_cases l : a < σ.length
      · rw [if_pos l, List.getElem?_eq_getElem (by rw [wipe_length]; exact l)]; rfl
      · rw [if_neg l, List.getElem?_eq_none (by rw [wipe_length]; omega)]; rfl
    · rw [List.getElem?_set_ne e]
      exact wipe_in (by rcases List.mem_cons.mp h with q | q; exact absurd q.symm e; exact q)
theorem wipe_set {σ : L2.St} {vs : List Nat} {j : Nat} {v : Option V} (h : j ∈ vs) : wipe (σ.set j v) vs = wipe σ vs := by
  refine List.ext_getElem? fun i => ?_
  by_cases c : i ∈ vs
  · rw [wipe_in c, wipe_in c, List.length_set]
  · have n : j ≠ i := fun e => c (e ▸ h)
    rw [wipe_out c, wipe_out c, List.getElem?_set_ne n]
theorem wipe_wipe {σ : L2.St} {vs : List Nat} : wipe (wipe σ vs) vs = wipe σ vs := by
  refine List.ext_getElem? fun i => ?_
  by_cases c : i ∈ vs
  · rw [wipe_in c, wipe_in c, wipe_length]
  · rw [wipe_out c]
theorem wp1 {σ : L2.St} {vs : List Nat} {j : Nat} {v : Option V} (h : j ∈ vs) : wipe ((wipe σ vs).set j v) vs = wipe σ vs := by rw [wipe_set h, wipe_wipe]
theorem wp2 {σ : L2.St} {vs : List Nat} {j k : Nat} {v u : Option V} (h : j ∈ vs) (h2 : k ∈ vs) : wipe (((wipe σ vs).set j v).set k u) vs = wipe σ vs := by rw [wipe_set h2, wipe_set h, wipe_wipe]
def bitp (m : Int) : Nat → Bool := fun k => decide (m / 2 ^ k % 2 = 1)
/-- what bits tell -/
def fAt (b : Int) : Int := b / 2 ^ 0 % 2 ^ 12
def fFirst (b : Int) : Int := b / 2 ^ 12 % 2 ^ 12
def fCnt (b : Int) : Int := b / 2 ^ 24 % 2 ^ 4 + 1
def fStep (b : Int) : Int := b / 2 ^ 28 % 2 ^ 4
def fRts (b : Int) : Int := b / 2 ^ 32 % 2 ^ 9
def fKind (b : Int) : Int := b / 2 ^ 41 % 2 ^ 4
def Tells (b : Int) : Prop := fStep b ≤ 8 ∧ (fStep b = 0 ∨ 9 ≤ fCnt b) ∧ (fFirst b + fCnt b) * 2 ^ (fStep b).toNat ≤ 4096
theorem fb (b : Int) : 0 ≤ fStep b ∧ fStep b ≤ 15 ∧ 1 ≤ fCnt b ∧ fCnt b ≤ 16 ∧ 0 ≤ fFirst b ∧ fFirst b ≤ 4095 := by
  unfold fStep fCnt fFirst; omega
theorem cpw {z s : Int} (h0 : 0 ≤ z) (h1 : z ≤ 10000000000000) (h2 : 0 ≤ s) (h3 : s ≤ 1000) : CPow z s := ⟨h2, by omega, by omega⟩
/-- the fields of a lawful marked word -/
def F5 (xs : List V) : Prop := ∃ (lo hi at' : Int) (r : Str) (kd : Int), xs = [.int lo, .int hi, .int at', .str r, .int kd] ∧ Bd lo hi ∧ (∃ s, Ex lo hi s) ∧ 0 ≤ at' ∧ at' ≤ 4095 ∧ 0 ≤ kd ∧ kd ≤ 15 ∧ r = rtx (hasR r) ∧ OneW r
def wl (a b c d e f : Int) : List Int := [a * 2 ^ 0, b * 2 ^ 12, c * 2 ^ 24, d * 2 ^ 28, e * 2 ^ 32, f * 2 ^ 41]
def wbits (lo hi at' mr kd : Int) (s : Nat) : Int := (wl at' (lo / 2 ^ s) (Dd lo hi s + 1 - 1) s mr kd).sum
def BW (z : Int) : Prop := 0 ≤ z ∧ z ≤ 10000000000000
theorem six_at {K : PySem.W.Frag} {pA pF pC pS pR pK : Addr} {a b c d e f : Int} {i : Nat} {x1 y1 : V} (hi : i < 6) (hx : [V.ref pA, .ref pF, .ref pC, .ref pS, .ref pR, .ref pK][i]? = some x1) (hy : [V.int a, .int b, .int c, .int d, .int e, .int f][i]? = some y1)
    (sA : ∀ H, SqT K H pA [.int 0, .int 12]) (sF : ∀ H, SqT K H pF [.int 12, .int 12]) (sC : ∀ H, SqT K H pC [.int 24, .int 4]) (sS : ∀ H, SqT K H pS [.int 28, .int 4]) (sR : ∀ H, SqT K H pR [.int 32, .int 9]) (sK : ∀ H, SqT K H pK [.int 41, .int 4])
    (ba : BW a) (bb : BW b) (bc : BW c) (bd : BW d) (be : BW e) (bf : BW f) :
    ∃ (p : Addr) (lo mn : Nat) (z : Int), x1 = .ref p ∧ (∀ H, SqT K H p [.int lo, .int mn]) ∧ lo ≤ 100 ∧ y1 = .int z ∧ BW z ∧ (wl a b c d e f).take (i + 1) = (wl a b c d e f).take i ++ [z * 2 ^ lo] := by
  have six : i = 0 ∨ i = 1 ∨ i = 2 ∨ i = 3 ∨ i = 4 ∨ i = 5 := by omega
  rcases six with h | h | h | h | h | h <;> subst h
  · exact ⟨pA, 0, 12, a, (Option.some.inj hx).symm, sA, by decide, (Option.some.inj hy).symm, ba, rfl⟩
  · exact ⟨pF, 12, 12, b, (Option.some.inj hx).symm, sF, by decide, (Option.some.inj hy).symm, bb, rfl⟩
  · exact ⟨pC, 24, 4, c, (Option.some.inj hx).symm, sC, by decide, (Option.some.inj hy).symm, bc, rfl⟩
  · exact ⟨pS, 28, 4, d, (Option.some.inj hx).symm, sS, by decide, (Option.some.inj hy).symm, bd, rfl⟩
  · exact ⟨pR, 32, 9, e, (Option.some.inj hx).symm, sR, by decide, (Option.some.inj hy).symm, be, rfl⟩
  · exact ⟨pK, 41, 4, f, (Option.some.inj hx).symm, sK, by decide, (Option.some.inj hy).symm, bf, rfl⟩
theorem mask_b (p : Nat → Bool) : ∀ i, i ≤ 9 → 0 ≤ (mask p i).sum ∧ (mask p i).sum < 2 ^ i
  | 0, _ => by unfold mask; simp
  | i + 1, h => by
    have ih := mask_b p i (by omega)
    rw [mask_succ, List.sum_append]
    have e : (2 : Int) ^ (i + 1) = 2 * 2 ^ i := by rw [Int.pow_succ]; omega
    rw [e]
    by_cases c : p i = true
    · simp only [if_pos c, List.sum_cons, List.sum_nil]; omega
    · simp only [if_neg c, List.sum_nil]; omega
theorem maskOf_b (r : Str) : 0 ≤ maskOf r ∧ maskOf r < 512 := by
  have := mask_b (hasR r) 9 (Nat.le_refl _)
  unfold maskOf; omega
instance (b : Int) : Decidable (Tells b) := by unfold Tells; infer_instance

/-! ### bits and fields there and back -/
theorem wb_eq (lo hi at' mr kd : Int) (s : Nat) : wbits lo hi at' mr kd s = at' + lo / 2 ^ s * 4096 + Dd lo hi s * 16777216 + (s : Int) * 268435456 + mr * 4294967296 + kd * 2199023255552 := by
  unfold wbits wl
  simp only [List.sum_cons, List.sum_nil]
  omega
theorem bits6 {a F D s m k : Int} (a0 : 0 ≤ a) (a1 : a ≤ 4095) (F0 : 0 ≤ F) (F1 : F ≤ 4095) (D0 : 0 ≤ D) (D1 : D ≤ 15) (s0 : 0 ≤ s) (s1 : s ≤ 8) (m0 : 0 ≤ m) (m1 : m < 512) (k0 : 0 ≤ k) (k1 : k ≤ 15) :
    fStep (a + F * 4096 + D * 16777216 + s * 268435456 + m * 4294967296 + k * 2199023255552) = s ∧ fFirst (a + F * 4096 + D * 16777216 + s * 268435456 + m * 4294967296 + k * 2199023255552) = F ∧ fCnt (a + F * 4096 + D * 16777216 + s * 268435456 + m * 4294967296 + k * 2199023255552) = D + 1 ∧
    fAt (a + F * 4096 + D * 16777216 + s * 268435456 + m * 4294967296 + k * 2199023255552) = a ∧ fRts (a + F * 4096 + D * 16777216 + s * 268435456 + m * 4294967296 + k * 2199023255552) = m ∧ fKind (a + F * 4096 + D * 16777216 + s * 268435456 + m * 4294967296 + k * 2199023255552) = k := by
  unfold fStep fFirst fCnt fAt fRts fKind
  rw [show (2 : Int) ^ 0 = 1 by decide, show (2 : Int) ^ 4 = 16 by decide, show (2 : Int) ^ 9 = 512 by decide, show (2 : Int) ^ 12 = 4096 by decide, show (2 : Int) ^ 24 = 16777216 by decide, show (2 : Int) ^ 28 = 268435456 by decide, show (2 : Int) ^ 32 = 4294967296 by decide, show (2 : Int) ^ 41 = 2199023255552 by decide]
  generalize hb : a + F * 4096 + D * 16777216 + s * 268435456 + m * 4294967296 + k * 2199023255552 = b
  have q1 : b / 4096 = F + 4096 * (D + 16 * (s + 16 * (m + 512 * k))) := by omega
  have q2 : b / 16777216 = D + 16 * (s + 16 * (m + 512 * k)) := by omega
  have q3 : b / 268435456 = s + 16 * (m + 512 * k) := by omega
  have q4 : b / 4294967296 = m + 512 * k := by omega
  have q5 : b / 2199023255552 = k := by omega
  rw [q1, q2, q3, q4, q5]
  refine ⟨?_, ?_, ?_, ?_, ?_, ?_⟩ <;> omega
theorem wb_dec {lo hi at' mr kd : Int} {s : Nat} (b : Bd lo hi) (e : Ex lo hi s) (a0 : 0 ≤ at') (a1 : at' ≤ 4095) (m0 : 0 ≤ mr) (m1 : mr < 512) (k0 : 0 ≤ kd) (k1 : kd ≤ 15) :
    0 ≤ wbits lo hi at' mr kd s ∧ Tells (wbits lo hi at' mr kd s) ∧ fFirst (wbits lo hi at' mr kd s) * 2 ^ (fStep (wbits lo hi at' mr kd s)).toNat = lo ∧ (fFirst (wbits lo hi at' mr kd s) + fCnt (wbits lo hi at' mr kd s)) * 2 ^ (fStep (wbits lo hi at' mr kd s)).toNat = hi ∧
    fAt (wbits lo hi at' mr kd s) = at' ∧ fRts (wbits lo hi at' mr kd s) = mr ∧ fKind (wbits lo hi at' mr kd s) = kd := by
  obtain ⟨⟨s8, e1, e2⟩, e3, e4⟩ := e
  obtain ⟨b1, b2, b3⟩ := b
  have dl := div_le' (s := s) b1
  have d0 : 0 ≤ Dd lo hi s := by
    unfold Dd
    have := Int.ediv_le_ediv (pow_pos2 s) (show lo ≤ hi - 1 by omega)
    omega
  have fo := first_over lo hi s
  have h9 : s = 0 ∨ 9 ≤ Dd lo hi s + 1 := by
    rcases Nat.eq_zero_or_pos s with c | c
    · exact .inl c
    · right
      have := e2 (s - 1) (by omega)
      clear e2 fo
      unfold Dd at *
      rcases le8 s8 with e | e | e | e | e | e | e | e | e <;> subst e <;> first | omega | (simp at *; omega)
  have ed : Dd lo hi s + 1 = (hi - 1) / 2 ^ s + 1 - lo / 2 ^ s := by omega
  rw [wb_eq]
  have eF : lo / 2 ^ s ≤ 4095 := by omega
  generalize hF : lo / 2 ^ s = F at *
  generalize hD : Dd lo hi s = D at *
  have s0 : (0 : Int) ≤ (s : Int) ∧ (s : Int) ≤ 8 := by omega
  have F0 : 0 ≤ F := dl.1
  obtain ⟨x1, x2, x3, x4, x5, x6⟩ := bits6 (a := at') (F := F) (D := D) (s := (s : Int)) (m := mr) (k := kd) a0 a1 F0 eF d0 e1 s0.1 s0.2 m0 m1 k0 k1
  have e5 : (F + (D + 1)) * 2 ^ s = hi := by rw [fo]; exact e4
  refine ⟨by omega, ⟨?_, ?_, ?_⟩, ?_, ?_, x4, x5, x6⟩
  · rw [x1]; omega
  · rw [x1, x3]; omega
  · rw [x1, x2, x3]
    show (F + (D + 1)) * 2 ^ s ≤ 4096
    rw [e5]; exact b3
  · rw [x1, x2]; exact e3
  · rw [x1, x2, x3]; exact e5
theorem R_ok : Str.ofString "r" = rtx (hasR (Str.ofString "r")) := by decide +kernel
theorem R_one : OneW (Str.ofString "r") := by unfold OneW; decide +kernel
theorem R_rtx : rtx (bitp (maskOf (Str.ofString "r"))) = Str.ofString "r" := by decide +kernel
theorem dp5 {K : PySem.W.Frag} {H : Hp} {p : Addr} {a b c d : Int} {r : Str} (h : H p = some (.tup [.int a, .int b, .int c, .str r, .int d])) : Dp K H (.ref p) (.tuple [.int a, .int b, .int c, .str r, .int d]) :=
  .tup (.of h) (.cons (.int a) (.cons (.int b) (.cons (.int c) (.cons (.str r) (.cons (.int d) .nil)))))
theorem d5_sh (a b c d : Int) (r : Str) (h : PyData.canLay0 (.str r) = true) : SeqAt.shaped (.tuple [.int a, .int b, .int c, .str r, .int d]) = true := by
  have e : PyData.canLay0 (.tuple [.int a, .int b, .int c, .str r, .int d]) = true := by
    simp only [PyData.canLay0, PyData.canLayAll0, Bool.true_and, Bool.and_true] at *
    exact h
  unfold SeqAt.shaped
  rw [e]
  simp [PyData.depth, PyData.depthAll]
theorem d5_refl (a b c d : Int) (r : Str) : PyData.eqv (.tuple [.int a, .int b, .int c, .str r, .int d]) (.tuple [.int a, .int b, .int c, .str r, .int d]) = true := by
  simp [PyData.eqv, PyData.eqvAll]

theorem mt_lcountB {X : Cx} : MtR X "list.count" (fun x xs H Q => ∃ (p : Addr) (bs : List Bool), x = .ref p ∧ xs = [.bl true] ∧ SqL X.K H p (bs.map V.bl) ∧ Q (.int ((bs.filter id).length : Nat)) H) := by
  intro pins s σ H x xs v us Q I rx rxs h
  obtain ⟨p, bs, rfl, rfl, hs, q⟩ := h
  cases rx
  obtain ⟨u, rfl, ru⟩ := rxs.one
  obtain rfl : u = Value.bool true := ru
  obtain ⟨its, rv, ⟨⟨cls, dd, data, sl⟩, n, ho, hc, hdn, hd⟩, hlen⟩ := I.list hs
  simp only at hc hd
  subst hc hd
  have hb := Vals.bls rv
  subst hb
  refine call_meets PySem.F.slot_list_count ⟨_, ho, rfl⟩ PySem.F.entry_list_count (PySem.F.args_list_count_2 _ _)
    (SeqAt.list_countAt p (bs.map Value.bool).toArray n dd sl (.bool true) (eqU (.bl true))) ⟨ho, fun y hy => mem_eqAt (x := .bl true) rfl rfl rv (by simp [flatV]) y (by simpa using hy), ?_⟩
  have ec : (bs.map Value.bool).toArray.toList.countP (eqU (.bl true)) = (bs.filter id).length := by
    show (bs.map Value.bool).countP (eqU (.bl true)) = _
    rw [List.countP_map, List.countP_eq_length_filter]
    congr 1
    refine List.filter_congr fun b _ => ?_
    cases b <;> rfl
  refine ⟨.int ((bs.filter id).length : Nat), H, I.tok _, ⟨s.toks, ?_⟩, q⟩
  show Value.int (((bs.map Value.bool).toArray.toList.countP (eqU (.bl true)) : Nat) : Int) s.toks = _
  rw [ec]
/-- bits that a marked word may have -/
def Law (b : Int) : Prop := Tells b ∧ OneW (rtx (bitp (fRts b)))
def W45 (b : Int) : Prop := 0 ≤ b ∧ b < 35184372088832

theorem bit_lift (b : Int) {i : Nat} (h : i < 9) : b / 2 ^ (32 + i) % 2 = fRts b / 2 ^ i % 2 := by
  unfold fRts
  rw [show (2 : Int) ^ 32 = 4294967296 by decide, show (2 : Int) ^ 9 = 512 by decide]
  rcases le8 (show i ≤ 8 by omega) with e | e | e | e | e | e | e | e | e <;> subst e
  · rw [show (2 : Int) ^ (32 + 0) = 4294967296 by decide, show (2 : Int) ^ 0 = 1 by decide]; omega
  · rw [show (2 : Int) ^ (32 + 1) = 8589934592 by decide, show (2 : Int) ^ 1 = 2 by decide]; omega
  · rw [show (2 : Int) ^ (32 + 2) = 17179869184 by decide, show (2 : Int) ^ 2 = 4 by decide]; omega
  · rw [show (2 : Int) ^ (32 + 3) = 34359738368 by decide, show (2 : Int) ^ 3 = 8 by decide]; omega
  · rw [show (2 : Int) ^ (32 + 4) = 68719476736 by decide, show (2 : Int) ^ 4 = 16 by decide]; omega
  · rw [show (2 : Int) ^ (32 + 5) = 137438953472 by decide, show (2 : Int) ^ 5 = 32 by decide]; omega
  · rw [show (2 : Int) ^ (32 + 6) = 274877906944 by decide, show (2 : Int) ^ 6 = 64 by decide]; omega
  · rw [show (2 : Int) ^ (32 + 7) = 549755813888 by decide, show (2 : Int) ^ 7 = 128 by decide]; omega
  · rw [show (2 : Int) ^ (32 + 8) = 1099511627776 by decide, show (2 : Int) ^ 8 = 256 by decide]; omega

theorem rtx_len (p : Nat → Bool) : (rtx p).cps.size ≤ 9 := by
  have e : (rtx p).cps.size = (rtx p).cps.toList.length := by simp
  rw [e, rtx_codes, List.length_map]
  exact Nat.le_trans (List.length_filter_le _ _) (by decide)
theorem code_ok : ∀ k, k < 9 → PyData.canLay0 (.str (one (code k))) = true := by decide +kernel
theorem rtx_ok (p : Nat → Bool) {c : Nat} (h : c ∈ (rtx p).cps.toList) : PyData.canLay0 (.str (one c)) = true := by
  rw [rtx_codes] at h
  obtain ⟨k, hk, rfl⟩ := List.mem_map.mp h
  exact code_ok k (List.mem_range.mp (List.mem_filter.mp hk).1)
theorem strs_lay : ∀ {l : List Nat}, (∀ c ∈ l, PyData.canLay0 (.str (one c)) = true) → PyData.canLayAll0 (l.map fun c => .str (one c)) = true
  | [], _ => by simp [PyData.canLayAll0]
  | c :: l, h => by
    have ih := strs_lay (l := l) fun x hx => h x (List.mem_cons_of_mem _ hx)
    simp only [List.map_cons, PyData.canLayAll0, ih, h c (List.mem_cons_self ..), Bool.and_self]
theorem strs_depth : ∀ l : List Nat, PyData.depthAll (l.map fun c => .str (one c)) = 0
  | [] => by simp [PyData.depthAll]
  | c :: l => by simp only [List.map_cons, PyData.depthAll, PyData.depth, strs_depth l]; rfl
theorem strs_shape {l : List Nat} (h : ∀ c ∈ l, PyData.canLay0 (.str (one c)) = true) : SeqAt.shaped (.list (l.map fun c => .str (one c))) = true := by
  have e : PyData.canLay0 (.list (l.map fun c => .str (one c))) = true := by
    simp only [PyData.canLay0]; exact strs_lay h
  unfold SeqAt.shaped
  rw [e]
  simp only [PyData.depth, strs_depth]; rfl
theorem dp_strs {K : PySem.W.Frag} {H : Hp} : ∀ l : List Nat, DpAll K H (l.map fun c => V.str (one c)) (l.map fun c => .str (one c))
  | [] => .nil
  | c :: l => .cons (.str (one c)) (dp_strs l)
theorem strs_eqv (l : List Nat) : PyData.eqv (.list (l.map fun c => .str (one c))) (.list []) = l.isEmpty := by
  cases l with
  | nil => rfl
  | cons c l => simp [PyData.eqv, PyData.eqvAll]
theorem hasG_iff (r g : Str) : (!(r.cps.toList.filter fun c => decide (c ∈ g.cps.toList)).isEmpty) = hasG r g := by
  unfold hasG
  rw [Bool.eq_iff_iff, List.any_eq_true]
  constructor
  · intro h
    cases e : r.cps.toList.filter fun c => decide (c ∈ g.cps.toList) with
    | nil => rw [e] at h; cases h
    | cons c l =>
      have m : c ∈ r.cps.toList.filter fun c => decide (c ∈ g.cps.toList) := by rw [e]; exact List.mem_cons_self ..
      obtain ⟨m1, m2⟩ := List.mem_filter.mp m
      exact ⟨c, of_decide_eq_true m2, decide_eq_true m1⟩
  · rintro ⟨c, m1, m2⟩
    have m : c ∈ r.cps.toList.filter fun c => decide (c ∈ g.cps.toList) := List.mem_filter.mpr ⟨of_decide_eq_true m2, decide_eq_true m1⟩
    cases e : r.cps.toList.filter fun c => decide (c ∈ g.cps.toList) with
    | nil => rw [e] at m; cases m
    | cons c l => rfl

/-! ### words and their fields there and back -/
theorem tw_eqv {m n : Bool} {a b : Int} : PyData.eqv (.tuple [.bool m, .int a]) (.tuple [.bool n, .int b]) = true ↔ m = n ∧ a = b := by
  simp [PyData.eqv, PyData.eqvAll]
theorem tw_no {m : Bool} {a b : Int} (e : PyData.eqv (.tuple [.bool m, .int a]) (.tuple [.bool m, .int b]) = false) (h : a = b) : False := by
  rw [tw_eqv.mpr ⟨rfl, h⟩] at e; cases e
theorem dpw {K : PySem.W.Frag} {H : Hp} {p : Addr} {m : Bool} {a : Int} (h : H p = some (.tup [.bl m, .int a])) : Dp K H (.ref p) (.tuple [.bool m, .int a]) :=
  .tup (.of h) (.cons (.bl m) (.cons (.int a) .nil))
theorem d5_eqv {a b c d a' b' c' d' : Int} {r r' : Str} : PyData.eqv (.tuple [.int a, .int b, .int c, .str r, .int d]) (.tuple [.int a', .int b', .int c', .str r', .int d']) = true ↔ a = a' ∧ b = b' ∧ c = c' ∧ r = r' ∧ d = d' := by
  simp [PyData.eqv, PyData.eqvAll]
theorem d5_no {a b c d : Int} {r : Str} (e : PyData.eqv (.tuple [.int a, .int b, .int c, .str r, .int d]) (.tuple [.int a, .int b, .int c, .str r, .int d]) = false) : False := by
  rw [d5_refl] at e; cases e
theorem rtx_congr {p q : Nat → Bool} (h : ∀ k, k < 9 → p k = q k) : rtx p = rtx q := by
  unfold rtx rcs
  rw [List.filter_congr fun k hk => h k (List.mem_range.mp hk)]
theorem hasR_rtx (p : Nat → Bool) {k : Nat} (h : k < 9) : hasR (rtx p) k = p k := by
  unfold hasR
  rw [Bool.eq_iff_iff, decide_eq_true_iff]
  exact rtx_mem p h
theorem rtx_self (p : Nat → Bool) : rtx p = rtx (hasR (rtx p)) := rtx_congr fun k h => (hasR_rtx p h).symm
theorem mask_congr {p q : Nat → Bool} (h : ∀ k, k < 9 → p k = q k) : mask p 9 = mask q 9 := by
  unfold mask
  rw [List.filter_congr fun k hk => h k (List.mem_range.mp hk)]
theorem maskOf_rtx (p : Nat → Bool) : maskOf (rtx p) = (mask p 9).sum := by
  unfold maskOf
  rw [mask_congr fun k h => hasR_rtx p h]
theorem mask512 : ∀ m : Fin 512, (mask (bitp (m.val : Int)) 9).sum = (m.val : Int) := by decide +kernel
theorem mask_bitp {m : Int} (h0 : 0 ≤ m) (h1 : m < 512) : (mask (bitp m) 9).sum = m := by
  have h := mask512 ⟨m.toNat, by omega⟩
  have e : ((m.toNat : Nat) : Int) = m := by omega
  rw [e] at h
  exact h
theorem rtx_can (p : Nat → Bool) : PyData.canLay0 (.str (rtx p)) = true := by
  simp only [PyData.canLay0, PyData.strOk]
  rw [Array.all_eq_true_iff_forall_mem]
  intro c hc
  have h := rtx_ok p (c := c) (by simpa using hc)
  simp only [PyData.canLay0, PyData.strOk] at h
  simpa [one] using h
structure WF (b lo hi at' : Int) (p : Nat → Bool) (kd : Int) (s : Nat) : Prop where
  bd : Bd lo hi
  ex : Ex lo hi s
  a0 : 0 ≤ at'
  a1 : at' ≤ 4095
  k0 : 0 ≤ kd
  k1 : kd ≤ 15
  ow : OneW (rtx p)
  wb : wbits lo hi at' (maskOf (rtx p)) kd s = b
theorem WF.f5 {b lo hi at' kd : Int} {p : Nat → Bool} {s : Nat} (W : WF b lo hi at' p kd s) : F5 [.int lo, .int hi, .int at', .str (rtx p), .int kd] :=
  ⟨lo, hi, at', _, kd, rfl, W.bd, ⟨s, W.ex⟩, W.a0, W.a1, W.k0, W.k1, rtx_self p, W.ow⟩
theorem wf_of {b : Int} (w : W45 b) (L : Law b) : ∃ (lo hi at' : Int) (p : Nat → Bool) (kd : Int) (s : Nat), [V.int (fFirst b * 2 ^ (fStep b).toNat), .int ((fFirst b + fCnt b) * 2 ^ (fStep b).toNat), .int (fAt b), .str (rtx (bitp (fRts b))), .int (fKind b)] = [.int lo, .int hi, .int at', .str (rtx p), .int kd] ∧ WF b lo hi at' p kd s := by
  obtain ⟨⟨t1, t2, t3⟩, ow⟩ := L
  obtain ⟨w0, w1⟩ := w
  have f := fb b
  have r0 : 0 ≤ fRts b := Int.emod_nonneg _ (by decide)
  have r1 : fRts b < 512 := Int.emod_lt_of_pos _ (by decide)
  have a0 : 0 ≤ fAt b := Int.emod_nonneg _ (by decide)
  have a1 : fAt b < 4096 := Int.emod_lt_of_pos _ (by decide)
  have k0 : 0 ≤ fKind b := Int.emod_nonneg _ (by decide)
  have k1 : fKind b < 16 := Int.emod_lt_of_pos _ (by decide)
  have sum : b = fAt b + fFirst b * 4096 + (fCnt b - 1) * 16777216 + fStep b * 268435456 + fRts b * 4294967296 + fKind b * 2199023255552 := by
    clear t1 t2 t3 ow f r0 r1 a0 a1 k0 k1
    unfold fAt fFirst fCnt fStep fRts fKind
    rw [show (2 : Int) ^ 0 = 1 by decide, show (2 : Int) ^ 4 = 16 by decide, show (2 : Int) ^ 9 = 512 by decide, show (2 : Int) ^ 12 = 4096 by decide, show (2 : Int) ^ 24 = 16777216 by decide, show (2 : Int) ^ 28 = 268435456 by decide, show (2 : Int) ^ 32 = 4294967296 by decide, show (2 : Int) ^ 41 = 2199023255552 by decide]
    omega
  obtain ⟨s, es⟩ : ∃ s : Nat, fStep b = (s : Int) := ⟨(fStep b).toNat, by omega⟩
  rw [es] at t1 t2 t3 sum ⊢
  have e1 : ((s : Int)).toNat = s := rfl
  rw [e1] at t3 ⊢
  generalize fFirst b = F at *
  generalize fCnt b = C at *
  have s8 : s ≤ 8 := by omega
  have core : Bd (F * 2 ^ s) ((F + C) * 2 ^ s) ∧ Ex (F * 2 ^ s) ((F + C) * 2 ^ s) s ∧ F * 2 ^ s / 2 ^ s = F ∧ Dd (F * 2 ^ s) ((F + C) * 2 ^ s) s + 1 = C := by
    have c9 : s = 0 ∨ 9 ≤ C := by omega
    clear sum es t2
    unfold Ex StepIs Dd Bd
    refine ⟨?_, ⟨⟨s8, ?_, fun t ht => ?_⟩, ?_, ?_⟩, ?_, ?_⟩
    · rcases le8 s8 with e | e | e | e | e | e | e | e | e <;> subst e <;> omega
    · rcases le8 s8 with e | e | e | e | e | e | e | e | e <;> subst e <;> omega
    · have t8 : t ≤ 8 := by omega
      rcases le8 s8 with e | e | e | e | e | e | e | e | e <;> subst e <;> rcases le8 t8 with e | e | e | e | e | e | e | e | e <;> subst e <;> first | omega | (simp at *; omega)
    all_goals (rcases le8 s8 with e | e | e | e | e | e | e | e | e <;> subst e <;> omega)
  refine ⟨_, _, _, bitp (fRts b), _, s, rfl, ⟨core.1, core.2.1, a0, by omega, k0, by omega, ow, ?_⟩⟩
  rw [wb_eq, core.2.2.1, maskOf_rtx, mask_bitp r0 r1]
  have := core.2.2.2
  omega
/-- one right less -/
def lessp (p : Nat → Bool) (i : Nat) : Nat → Bool := fun k => p k && decide (k ≠ i)
theorem less_mask (p : Nat → Bool) (i : Nat) (hp : p i = true) : ∀ n, (mask p n).sum = (mask (lessp p i) n).sum + (if i < n then (2 : Int) ^ i else 0)
  | 0 => by unfold mask; simp
  | n + 1 => by
    have ih := less_mask p i hp n
    rw [mask_succ, mask_succ, List.sum_append, List.sum_append, ih]
    unfold lessp
    rcases Nat.lt_trichotomy i n with c | c | c
    · have h1 : decide (n ≠ i) = true := decide_eq_true (by omega)
      rw [h1, Bool.and_true, if_pos c, if_pos (show i < n + 1 by omega)]
      omega
    · subst c
      have h1 : decide (i ≠ i) = false := decide_eq_false (by simp)
      rw [h1, Bool.and_false, if_pos hp, if_neg (Nat.lt_irrefl i), if_neg Bool.false_ne_true, if_pos (Nat.lt_succ_self i)]
      simp
    · have h1 : decide (n ≠ i) = true := decide_eq_true (by omega)
      rw [h1, Bool.and_true, if_neg (show ¬ i < n by omega), if_neg (show ¬ i < n + 1 by omega)]
      omega
theorem less_codes (p : Nat → Bool) {i : Nat} (hi : i < 9) : (((rtx p).cps.toList.filter fun c => !decide (V.str (one c) = V.str (one (code i)))).map one) = rcs (lessp p i) 9 := by
  rw [rtx_codes]
  unfold rcs lessp
  rw [List.filter_map, List.map_map, ← List.filter_filter]
  congr 1
  rw [List.filter_filter, List.filter_filter]
  refine List.filter_congr fun k hk => ?_
  have hk9 := List.mem_range.mp hk
  have e : decide (V.str (one (code k)) = V.str (one (code i))) = decide (k = i) := by
    rw [decide_eq_decide]
    constructor
    · intro h
      have h2 := V.str.inj h
      have h3 : code k = code i := by
        have h4 := congrArg (fun x : Str => x.cps.toList) h2
        simpa [one] using h4
      exact code_inj k hk9 i hi h3
    · intro h; rw [h]
  simp only [Function.comp]
  rw [e]
  by_cases c : k = i
  · simp [c]
  · simp [c]
theorem less_one {p : Nat → Bool} {i : Nat} (h : OneW (rtx p)) : OneW (rtx (lessp p i)) := by
  unfold OneW at *
  refine Nat.le_trans ?_ h
  have key : ∀ l : List Str, (l.filter (hasG (rtx (lessp p i)))).length ≤ (l.filter (hasG (rtx p))).length := by
    intro l
    induction l with
    | nil => exact Nat.le_refl _
    | cons g l ih =>
      have mono : hasG (rtx (lessp p i)) g = true → hasG (rtx p) g = true := by
        unfold hasG
        rw [List.any_eq_true, List.any_eq_true]
        rintro ⟨c, c1, c2⟩
        refine ⟨c, c1, decide_eq_true ?_⟩
        have c3 := of_decide_eq_true c2
        rw [rtx_codes] at c3 ⊢
        obtain ⟨k, k1, k2⟩ := List.mem_map.mp c3
        obtain ⟨k3, k4⟩ := List.mem_filter.mp k1
        refine List.mem_map.mpr ⟨k, List.mem_filter.mpr ⟨k3, ?_⟩, k2⟩
        unfold lessp at k4
        exact (Bool.and_eq_true_iff.mp k4).1
      rw [List.filter_cons, List.filter_cons]
      by_cases c : hasG (rtx (lessp p i)) g = true
      · rw [if_pos c, if_pos (mono c)]
        simp only [List.length_cons]
        omega
      · rw [if_neg c]
        split
        · simp only [List.length_cons]; omega
        · exact ih
  exact key _
/-! ### an error that is kept behind its suite -/
/-- at a: an exception of the class cls, its own dict at d -/
def kept (a : Addr) (cls : Value) (d : Option Addr) : HO := .ext fun h => ∃ oe, h.get? a = some oe ∧ Zc cls d oe ∧ ∃ vs, oe.data = .fields vs
theorem kept_ok {P : Program} {w : World} {H : Hp} {h : Heap} {a : Addr} {cls : Value} {d : Option Addr} {oe : Obj} {vs : Array Value} (e : h.get? a = some oe) (z : Zc cls d oe) (hd : oe.data = .fields vs) : ObjOk P w H h a (kept a cls d) :=
  ⟨⟨oe, e, z, vs, hd⟩, ⟨oe, e⟩, fun _ _ ⟨o, e1, r⟩ k => ⟨o, k o e1, r⟩⟩
theorem Inv.track {X : Cx} {pins : List (Addr × Obj)} {σ : L2.St} {H : Hp} {s : Shared} {a : Addr} {cls : Value} {d : Option Addr} {oe : Obj} {vs : Array Value} (I : Inv X pins σ H s)
    (e : s.heap.get? a = some oe) (z : Zc cls d oe) (hd : oe.data = .fields vs) (na : H a = none) (n0 : X.s_0.heap.get? a = none) (nL : a ≠ X.env.locals) (np : ∀ p ∈ X.pn ++ pins, p.1 ≠ a) :
    Inv X pins σ (upd H a (kept a cls d)) s := by
  refine ⟨I.ok, I.os, I.bare, ⟨I.base.keep, I.base.slot, fun b o q n hx => ?_, I.base.there, fun b xs q => ?_, fun b o u q => ?_, fun b ps q => ?_⟩, I.loc, I.cell, ?_, fun x c q => ?_, fun p hp => ?_, fun b o q => ?_, I.len⟩
  · have nb : b ≠ a := fun y => by rw [y, n0] at q; cases q
    rw [upd_ne nb]
    exact I.base.free b o q n hx
  · have q' := I.base.tups b xs q
    rw [upd_ne (ne_of_none q' na)]; exact q'
  · have q' := I.base.frzs b o u q
    rw [upd_ne (ne_of_none q' na)]; exact q'
  · obtain ⟨more, q'⟩ := I.base.tbls b ps q
    exact ⟨more, by rw [upd_ne (ne_of_none q' na)]; exact q'⟩
  · rw [upd_ne (Ne.symm nL)]; exact I.free
  · have nc : c ≠ a := fun y => by
      obtain ⟨v, o, e1, e2⟩ := I.cell x c q
      rw [y, e] at e1
      cases e1
      rw [hd] at e2
      cases e2
    rw [upd_ne nc]; exact I.freeC x c q
  · obtain ⟨p1, p2, p3, p4, p5⟩ := I.pin p hp
    exact ⟨p1, by rw [upd_ne (np p hp)]; exact p2, p3, p4, p5⟩
  · by_cases hb : b = a
    · subst hb
      rw [upd_same] at q
      cases q
      exact kept_ok e z hd
    · rw [upd_ne hb] at q
      exact (I.hok b o q).stay (fun _ _ _ y => y) (fun c hc => by rw [upd_ne (ne_of_none hc na)]; exact hc) fun c xs hc => by rw [upd_ne (ne_of_none hc na)]; exact hc
/-- what the clause 'except x as n' wishes of an exception of the body, where the error is kept -/
def wKp (K : PySem.W.Frag) (c : Value) (i : Nat) (ts : Addr → Value → Option Addr → TS) (Wout : WX) (D : Ends) : WX := fun cls d σ H =>
  ∃ b, PySem.W.exmOne K cls c = some b ∧ (b = true → ∀ a, H a = none → ts a cls d { nx := fun σ' H' => D.nx (σ'.set i none) (upd H' a (kept a cls d)), rt := fun v H' => D.rt v (upd H' a (kept a cls d)), bk := fun σ' H' => D.bk (σ'.set i none) (upd H' a (kept a cls d)), ct := fun σ' H' => D.ct (σ'.set i none) (upd H' a (kept a cls d)) } (σ.set i (some (.ref a))) H) ∧
    (b = false → Wout cls d σ H)
section
variable {X : Cx} {x n : Str} {c : Value} {i : Nat} {body suite : List Stmt} {b₀ : Stmt} {np pos pos' : Pos} {tb : WX → TS} {ts : Addr → Value → Option Addr → TS} {Wout : WX}
theorem ps_try_keep (hs : X.stack = X.env :: X.outer) (hex : X.ex = []) (hf : X.env.frame = some X.env.locals) (hN : X.N.Nodup) (hi : X.N[i]? = some n) (hln : X.env.kindOf n = some .local) (hc : Names X x c) (tk : Takes X Wout)
    (hb : ∀ (W : WX) (pn : List (Addr × Obj)) (xe : Value → Shared → Prop), Takes (X.tr pn xe) W → PassesOwn (model X.prog X.w) X.A X.env xe → PSs (X.tr pn xe) body (tb W))
    (hsu : ∀ (a : Addr) (oe : Obj) (cls : Value) (d : Option Addr) (pn : List (Addr × Obj)), Zc cls d oe → (∃ vs, oe.data = .fields vs) → PSs (X.suite a ((a, oe) :: pn)) (b₀ :: suite) (ts a cls d)) :
    PS X (.Try body [.ExceptHandler (some (.Name x np)) (some n) (b₀ :: suite) pos'] [] [] pos) (fun D σ H => tb (wKp X.K c i ts Wout D) D σ H) := by
  refine ⟨fun pins s σ H D I h => ?_⟩
  have ok := I.ok
  have hfr : X.A.frames = some (X.env :: X.outer) := by rw [ok.frames, hs]
  have hloc : Loc X.env.scope n := .inl hln
  refine wpAny_Try_except ?_
  refine wpAny_mono ((hb (wKp X.K c i ts Wout D) (X.pn ++ pins) (fun e s₁ => wpAny (model X.prog X.w) X.A (noteFrame e X.env) (fun _ s₂ => wpAny (model X.prog X.w) X.A (setFlight e none) (fun _ s₃ =>
    wpAny (model X.prog X.w) X.A (handleBy e X.env [.ExceptHandler (some (.Name x np)) (some n) (b₀ :: suite) pos']) (SP X pins D) X.xe s₃) X.xe s₂) X.xe s₁) (fun u s' xx => ?_) PassesOwn.looking).run [] s σ H D (I.toTry _) h) (fun f s1 hsp => ?_) (fun e s1 he => he)
  · obtain ⟨a, B, sI, pins', σ', H', cls, d, rfl, J', nb, up, sky, na, os, ag, b, hb1, hyes, hno⟩ := xx
    have J : Inv X pins σ' H' sI := J'.ofTry ok
    have sky' : Sky B (X.env :: X.outer) a (Zc cls d) X.env.locals s'.heap := by rw [← hs]; exact sky
    show wpAny (model X.prog X.w) X.A (noteFrame (.ref a) X.env) _ _ _
    refine Sky.land Zc.steady hfr hf sky' fun h3 fl3 up3 => ?_
    have J3 : Inv X pins σ' H' { s' with heap := h3 } := J.landed nb fl3.1 (up.trans up3) os ag
    obtain ⟨oe3, vs3, he3, hz3, hd3⟩ := fl3.there
    have notFr : ∀ {h : Heap} {o : Obj} {vs : Array Value}, h.FunFrames B (X.env :: X.outer) → h.get? a = some o → o.data = .fields vs → a ∉ frs (X.env :: X.outer) := fun {h o vs} ff e dd hm => by
      obtain ⟨_, o', e', hnf⟩ := ff.mem hm
      rw [e] at e'; cases e'
      exact hnf _ dd
    have nfr := notFr fl3.2.2.1 he3 hd3
    have nL : a ≠ X.env.locals := fun z => nfr (List.mem_filterMap.mpr ⟨X.env, List.mem_cons_self, by rw [hf, z]⟩)
    have nF : a ∉ X.fs := fun hm => by
      obtain ⟨e, he, q⟩ := List.mem_filterMap.mp hm
      exact nfr (List.mem_filterMap.mpr ⟨e, List.mem_cons_of_mem _ he, q⟩)
    have nI : sI.heap.get? a = none := by
      cases e : sI.heap.get? a with
      | none => rfl
      | some o =>
        have z := nb a o e (by rw [hs]; exact nfr)
        rw [fl3.2.1] at z
        cases z
    have n0 : X.s_0.heap.get? a = none := by
      cases e : X.s_0.heap.get? a with
      | none => rfl
      | some o =>
        obtain ⟨o', e'⟩ := J.base.there a o e (by rw [hex]; exact fun z => nomatch z)
        rw [nI] at e'
        cases e'
    have npin : ∀ p ∈ X.pn ++ pins, p.1 ≠ a := fun p hp z => by
      obtain ⟨e, _⟩ := J.pin p hp
      rw [z, nI] at e
      cases e
    have S3 := J3.suite he3 hd3 na nL nF
    refine wpAny_handleBy_cons (codeAny_handlers_test ?_) (by intro q; cases q)
    have LT : PySem.W.Looks (model X.prog X.w) h3 (typeOf (.ref a)) cls := fun A Q E s k q => wpAny_typeOf_ref (k _ _ he3) (by rw [hz3.1]; exact q)
    have LM := PySem.W.exm_one (M := model X.prog X.w) (J3.kIn) LT hb1
    have test : ∀ {Q : Value → Shared → Prop} {E : Value → Shared → Prop}, Q c { s' with heap := h3 } → wpAny (model X.prog X.w) (X.A.mark (some (.ref a))) (eval (.Name x np) X.env) Q E { s' with heap := h3 } := fun {Q E} q => by
      obtain ⟨hg, hdbg, hm | ⟨hm, hv, hnn⟩⟩ := hc
      · exact ld_glob (X := X.suite a ((a, oe3) :: (X.pn ++ pins))) S3 hg hm q hdbg
      · exact ld_blt (X := X.suite a ((a, oe3) :: (X.pn ++ pins))) S3 hg hm hv q hnn hdbg
    refine test (LM.here ?_)
    cases b with
    | true =>
      refine codeAny_handlers_suite_as ?_
      refine HandSPX.lands_againZ fl3 fun h4 fl4 up4 => ?_
      have J4 : Inv X pins σ' H' { s' with heap := h4 } := J.landed nb fl4.1 ((up.trans up3).trans up4) os ag
      obtain ⟨oe4, vs4, he4, hz4, hd4⟩ := fl4.there
      have S4 := J4.suite he4 hd4 na nL nF
      refine store_ok (X := X.suite a ((a, oe4) :: (X.pn ++ pins))) (v := .ref a) S4 hN hi hloc rfl (fun s5 S5 => ?_) (.inr hln)
      refine wpAny_mono ((hsu a oe4 cls d (X.pn ++ pins) hz4 ⟨_, hd4⟩).run [] s5 _ H' _ S5 (hyes rfl a na)) (fun f s6 hsp => ?_) (fun _ _ z => False.elim z)
      have end_ : ∀ {σ6 : L2.St} {H6 : Hp} {Q : Shared → Prop}, Inv (X.suite a ((a, oe4) :: (X.pn ++ pins))) [] σ6 H6 s6 → (∀ s7, Inv X pins (σ6.set i none) (upd H6 a (kept a cls d)) s7 → Q s7) →
          wpAny (model X.prog X.w) X.A (do bindName X.env n .none; unbindBehindTheSuite X.env n pos') (fun _ s7 => Q s7) X.xe s6 := fun {σ6 H6 Q} S6 hq => by
        obtain ⟨p1, p2, _⟩ := S6.pin (a, oe4) (List.mem_append.mpr (.inl List.mem_cons_self))
        exact gone_ok (My.Inv.track (S6.unsuite ok) p1 hz4 hd4 p2 n0 nL npin) hN hi hln hq
      cases f with
      | next =>
        obtain ⟨σ6, H6, S6, q6⟩ := hsp
        exact end_ S6 fun s7 J7 => ⟨_, _, J7, q6⟩
      | brk =>
        obtain ⟨σ6, H6, S6, q6⟩ := hsp
        exact end_ S6 fun s7 J7 => ⟨_, _, J7, q6⟩
      | cont =>
        obtain ⟨σ6, H6, S6, q6⟩ := hsp
        exact end_ S6 fun s7 J7 => ⟨_, _, J7, q6⟩
      | ret u =>
        obtain ⟨v6, σ6, H6, S6, r6, q6⟩ := hsp
        exact end_ S6 fun s7 J7 => ⟨_, _, _, J7, r6, q6⟩
    | false =>
      show wpAny _ X.A (handleBy (.ref a) X.env []) _ _ _
      refine wpAny_handleBy_nil ?_
      obtain ⟨k1, k2, k3, oe, vs, T, oT, ts', he, hz, hd, h1, hr⟩ := id fl3
      unfold PySem.passOn
      refine wpAny_bind (wpAny_field he hd h1 ?_)
      rw [if_neg (show ¬ ((Value.ref T == Value.none) = true) from by simp)]
      have fin : wpAny (model X.prog X.w) X.A (setFlight (.ref a) X.env.frame) (fun _ s4 => wpAny (model X.prog X.w) X.A (throw (.ref a) : Sem Flow) (SP X pins D) X.xe s4) X.xe { s' with heap := h3 } := by
        rw [hf]
        refine HandSPX.setFlight_upZ fl3 fun h4 hh4 up4 => wpAny_throw (tk _ _ ?_)
        exact ⟨a, B, sI, pins, σ', H', cls, d, rfl, J, nb, (up.trans up3).trans up4, .inr (.inr (by rw [hs]; exact hh4)), na, os, ag, hno rfl⟩
      first
        | exact wpAny_bind (wpAny_pure (wpAny_bind fin))
        | exact wpAny_bind fin
  · cases f with
    | next =>
      obtain ⟨σ', H', J', q⟩ := hsp
      exact wpAny_execs_nil ⟨σ', H', J'.ofTry ok, q⟩
    | brk =>
      obtain ⟨σ', H', J', q⟩ := hsp
      exact ⟨σ', H', J'.ofTry ok, q⟩
    | cont =>
      obtain ⟨σ', H', J', q⟩ := hsp
      exact ⟨σ', H', J'.ofTry ok, q⟩
    | ret u =>
      obtain ⟨v, σ', H', J', r, q⟩ := hsp
      exact ⟨v, σ', H', J'.ofTry ok, r, q⟩
end
/-! ### isinstance of a kept error -/
/-- what the written part says of the class of an error -/
structure ErrC (K : PySem.W.Frag) (C : Addr) : Prop where
  hg : PySem.W.findIn K (.ref C) "__getattribute__" = some (some (.builtin "BaseException.__getattribute__"))
  hk : PySem.W.findIn K (.ref C) "__getattr__" = some none
  hs : PySem.W.subIn K (.ref C) (.type "BaseException") = some true
  hd : PySem.W.hasDictIn K C = true
  ha : PySem.W.findIn K (.ref C) "__class__" = some (some (.builtin "object.__class__"))
  hn : PySem.W.specialIn K (.builtin "object.__class__") "__get__" = some (some (.builtin "getset_descriptor.__get__"))
  ht : PySem.W.takesIn K (.builtin "object.__class__") = some true
  hm : PySem.W.mroIn K C (.type "object") = some true
theorem kept_at {X : Cx} {pins : List (Addr × Obj)} {σ : L2.St} {H : Hp} {s : Shared} {a C d : Addr} {fs : List (Str × V)} (I : Inv X pins σ H s) (e : H a = some (kept a (.ref C) (some d))) (ed : H d = some (.xd fs)) :
    ∃ oe od, PySem.W.InstAt s.heap a oe C (some od) := by
  obtain ⟨⟨oe, h1, hz, vs, hd⟩, _⟩ := (show ObjOk X.prog X.w H s.heap a (kept a (.ref C) (some d)) from I.hok a _ e)
  obtain ⟨mA, hns, _⟩ := (show ObjOk X.prog X.w H s.heap d (.xd fs) from I.hok d _ ed)
  obtain ⟨od, _, _, ho, _⟩ := hns
  exact ⟨oe, od, h1, hz.1, by unfold PySem.W.notCls; rw [hd] <;> rfl, by rw [hz.2]; exact ho⟩
theorem ErrC.kit {K : PySem.W.Frag} {C x : Addr} {ox : Obj} {od : Option Obj} (E : ErrC K C) : PySem.W.KitX K (.ref x) (.ref C) (fun h => PySem.W.InstAt h x ox C od) :=
  PySem.W.kitx_exc (by obtain ⟨cd, hc, _⟩ := PySem.W.any_some E.hd; rw [hc]; rfl) E.hg E.hk E.hs E.ha E.hn E.ht E.hm
/-- isinstance(e, c), e a kept error of the class C -/
def rIsX (K : PySem.W.Frag) : List V → Hp → VK → Prop := fun xs H Q => ∃ (a C d : Addr) (fs : List (Str × V)) (c : V) (u : Value) (b : Bool), xs = [.ref a, c] ∧ H a = some (kept a (.ref C) (some d)) ∧ H d = some (.xd fs) ∧ ErrC K C ∧ ClsV c u ∧ PySem.W.kitOne K (.ref C) u = some b ∧ Q (.bl b) H
/-- isinstance(e, (c1, c2, ..)) -/
def rIsXT (K : PySem.W.Frag) : List V → Hp → VK → Prop := fun xs H Q => ∃ (a C d : Addr) (fs : List (Str × V)) (tp : Addr) (cs : List V) (us : List Value) (b : Bool), xs = [.ref a, .ref tp] ∧ H a = some (kept a (.ref C) (some d)) ∧ H d = some (.xd fs) ∧ ErrC K C ∧ H tp = some (.tup cs) ∧ Paired ClsV cs us ∧ PySem.W.kitAny K (.ref C) us = some b ∧ Q (.bl b) H
section
variable {X : Cx}
theorem call_isX : CallR X (.builtin "isinstance") (rIsX X.K) := by
  intro pins s σ H xs us Q I r h
  obtain ⟨a, C, d, fs, c, u, b, rfl, ea, ed, E, k, e, q⟩ := h
  obtain ⟨u1, u2, rfl, r1, r2⟩ := vals2 r
  have e2 := k.eq r2
  subst e2
  cases (show u1 = Value.ref a from r1)
  obtain ⟨oe, od, J⟩ := kept_at I ea ed
  exact PySem.W.kia_one E.kit I.kIn J e (fun z => nomatch z) fun tk => ⟨.bl b, H, I.tok tk, rfl, q⟩
theorem call_isXT : CallR X (.builtin "isinstance") (rIsXT X.K) := by
  intro pins s σ H xs us Q I r h
  obtain ⟨a, C, d, fs, tp, cs, ws, b, rfl, ea, ed, E, hT, k, e, q⟩ := h
  obtain ⟨u1, u2, rfl, r1, r2⟩ := vals2 r
  cases (show u1 = Value.ref a from r1)
  cases (show u2 = Value.ref tp from r2)
  obtain ⟨oe, od, J⟩ := kept_at I ea ed
  obtain ⟨_, its, rv, o, h1, h2, n, h3⟩ := (show ObjOk X.prog X.w H s.heap tp (.tup cs) from I.hok tp _ hT)
  have e3 := ClsV.all k rv
  subst e3
  obtain ⟨oc, od', dt, sl⟩ := o
  simp only at h2 h3
  subst h2 h3
  exact PySem.W.kia_tup E.kit I.kIn J h1 e (fun z => nomatch z) fun tk => ⟨.bl b, H, I.tok tk, rfl, q⟩
end
/-! ### defs that raise, called by name -/
structure CalX (P : Program) (w : World) (K : PySem.W.Frag) (mg : Str → Option Value) (base : Heap) (x : Str) (k : Nat) (ps : List Str) (sp : Sp) : Prop where
  ex : ∃ (f : Addr) (fd : FuncData), FnOk P w K mg base (L2.CX P w) k f fd ps sp ∧ mg x = some (.ref f) ∧ PySem.W.keepIn K (.ref f) = true ∧ Binds K fd ps []
theorem pe_calX {X : Cx} {x : Str} {k : Nat} {ps : List Str} {sp : Sp} {e : Expr} {es : List Expr} {t : TA} {W : WX} {p pos : Pos} (C : CalX X.prog X.w X.K X.mg X.base x k ps sp) (hr : Room k X.A) (tk : Takes X W)
    (ha : PA X (e :: es) t) (hg : Gl X x := by rfl) (hdb : (x == ("__debug__" : Str)) = false := by decide) (he : starEach (e :: es) X.env = (false, eval e X.env) :: starEach es X.env := by rfl) (hpl : (backTo pos (starEach es X.env)).any (·.1) = false := by rfl) :
    PE X (.Call (.Name x p) (e :: es) [] pos) (tCallS sp (WE W) t) := by
  obtain ⟨f, fd, G, g, kp, b⟩ := C.ex
  exact pe_callS G hr hg g kp b (fun σ => passAt tk σ) ha hdb he hpl
/-! ### own errors of one field -/
/-- what __init__ keeps -/
def spErr (C : Addr) (f : Str) : Sp := fun vs H Q _ => ∃ (a : Addr) (v : V), vs = [.ref a, v] ∧ H a = some (exo a C none) ∧ ∀ dx, H dx = none → dx ≠ a → Q .non (upd (upd H dx (exd dx [(f, v)])) a (exo a C (some dx)))
/-- the class of errors by the name x, its field f -/
structure ErrK (P : Program) (w : World) (K : PySem.W.Frag) (mg : Str → Option Value) (base : Heap) (x f : Str) : Prop where
  ex : ∃ (C fI : Addr) (fd : FuncData), PySem.W.nsIn K mainGlobals x = some (some (.ref C)) ∧ mg x = some (.ref C) ∧ OexC K C ∧ PySem.W.findIn K (.ref C) "__init__" = some (some (.ref fI)) ∧ PySem.W.typeIn K (.ref fI) = some (.type "function") ∧
    FnOk P w K mg base CX0 1 fI fd ["self", f] (spErr C f) ∧ Binds K fd ["self", f] []
/-- an error of the class by the name x may leave, its field f, all else as it was -/
def Lets (K : PySem.W.Frag) (x f : Str) (H : Hp) (E : XK) : Prop := ∀ (C d : Addr) (v : V) (H1 : Hp), PySem.W.nsIn K mainGlobals x = some (some (.ref C)) → Same H H1 → H1 d = none → E (.ref C) (some d) (upd H1 d (.xd [(f, v)]))
theorem Lets.same {K : PySem.W.Frag} {x f : Str} {H H2 : Hp} {E : XK} (l : Lets K x f H E) (s : Same H H2) : Lets K x f H2 E := fun C d v H1 h1 h2 h3 => l C d v H1 h1 (s.trans h2) h3
section
variable {X : Cx} {x f : Str} {e : Expr} {te : TE} {p pos : Pos}
theorem PE.more (he : PE X e te) : PE X e (fun σ H Q => ∃ Q1 : VK, te σ H Q1 ∧ ∀ v H1, Q1 v H1 → Q v H1) :=
  ⟨fun pins s σ H Q I ⟨Q1, h, k⟩ => wpAny_mono (he.run pins s σ H Q1 I h) (fun _ _ ⟨v, H', I', r, q⟩ => ⟨v, H', I', r, k _ _ q⟩) fun _ _ z => z⟩
theorem pmk_err (R : ErrK X.prog X.w X.K X.mg X.base x f) (hr : Room 2 X.A) (ha : PE X e te) (hg : Gl X x := by rfl) (hdb : (x == ("__debug__" : Str)) = false := by decide)
    (he : starEach (e :: []) X.env = (false, eval e X.env) :: starEach [] X.env := by rfl) (hpl : (backTo pos (starEach [] X.env)).any (·.1) = false := by rfl) :
    PMk X (.Call (.Name x p) [e] [] pos) (fun σ H Q => te σ H fun v H1 => ∀ C d, PySem.W.nsIn X.K mainGlobals x = some (some (.ref C)) → H1 d = none → Q (.ref C) (some d) (upd H1 d (.xd [(f, v)]))) := by
  obtain ⟨C, fI, fd, aC, gC, T, iC, tI, F, b⟩ := R.ex
  intro pins s σ H Q I h
  refine pmk_oex (dvs := []) (ds := []) T iC tI F hr b .nil pass0 hg gC (pa_cons (PE.more ha) pa_nil (hs := he)) hdb he hpl pins s σ H Q I ⟨_, h, fun v H1 q => ?_⟩
  refine ⟨(by show 1 ≤ 1000; decide), fun a na => ⟨a, v, rfl, upd_same, fun dx hd ne => ⟨rfl, dx, [(f, v)], upd_same, ?_, ?_, ?_⟩⟩⟩
  · rw [upd_ne ne, upd_same]
  · rw [upd_ne ne] at hd; exact hd
  · rw [upd_ne ne] at hd
    have z := q C dx aC hd
    have eq : upd (del (upd (upd (upd H1 a (exo a C none)) dx (exd dx [(f, v)])) a (exo a C (some dx))) a) dx (.xd [(f, v)]) = upd H1 dx (.xd [(f, v)]) := by
      funext c
      by_cases h1 : c = dx
      · rw [h1, upd_same, upd_same]
      · rw [upd_ne h1, upd_ne h1]
        by_cases h2 : c = a
        · rw [h2, del_same, na]
        · rw [del_ne h2, upd_ne h2, upd_ne h1, upd_ne h2]
    rw [eq]
    exact z
end
section
variable {X : Cx} {x : Str} {k : Nat} {ps : List Str} {sp : Sp} {e : Expr} {es : List Expr} {t : TA} {p pos : Pos}
/-- a def that may raise, called where it doesn't -/
theorem pe_calX0 (C : CalX X.prog X.w X.K X.mg X.base x k ps sp) (hr : Room k X.A)
    (ha : PA X (e :: es) t) (hg : Gl X x := by rfl) (hdb : (x == ("__debug__" : Str)) = false := by decide) (he : starEach (e :: es) X.env = (false, eval e X.env) :: starEach es X.env := by rfl) (hpl : (backTo pos (starEach es X.env)).any (·.1) = false := by rfl) :
    PE X (.Call (.Name x p) (e :: es) [] pos) (tCall sp [] E0 t) := by
  obtain ⟨f, fd, G, g, kp, b⟩ := C.ex
  exact pe_call G hr hg g kp b .nil passL ha hdb he hpl
end
theorem exm_own {K : PySem.W.Frag} {C : Addr} {cls : Value} {b : Bool} (h1 : PySem.W.subIn K (.ref C) (.type "BaseException") = some true) (hdct : PySem.W.hasDictIn K C = true) (ht : PySem.W.typeIn K (.ref C) = some (.type "type")) (h4 : PySem.W.subIn K cls (.ref C) = some b) : PySem.W.exmOne K cls (.ref C) = some b := by
  obtain ⟨cd, hc, _⟩ := PySem.W.any_some hdct
  have e1 : (PySem.W.subIn K (.ref C) (.type "BaseException") == some true) = true := by rw [h1] <;> rfl
  have e2 : ((PySem.W.clsIn K C).isSome && PySem.W.typeIn K (.ref C) == some (.type "type")) = true := by rw [hc, ht] <;> rfl
  show (if (PySem.W.subIn K (.ref C) (.type "BaseException") == some true) = true then (if ((PySem.W.clsIn K C).isSome && PySem.W.typeIn K (.ref C) == some (.type "type")) = true then PySem.W.subIn K cls (.ref C) else none) else none) = some b
  rw [if_pos e1, if_pos e2]
  exact h4
/-- one class stands by a name -/
theorem ns_one {K : PySem.W.Frag} {x : Str} {C D : Addr} (h : PySem.W.nsIn K mainGlobals x = some (some (.ref C))) (k : PySem.W.nsIn K mainGlobals x = some (some (.ref D))) : C = D := by
  rw [h] at k
  cases k
  rfl
/-! ### defs that raise, with keyword-only names; calls by names alone -/
structure CalXD (P : Program) (w : World) (K : PySem.W.Frag) (mg : Str → Option Value) (base : Heap) (x : Str) (k : Nat) (ps : List Str) (dvs : List V) (sp : Sp) : Prop where
  ex : ∃ (f : Addr) (fd : FuncData) (ds : List Value), FnOk P w K mg base (L2.CX P w) k f fd ps sp ∧ mg x = some (.ref f) ∧ PySem.W.keepIn K (.ref f) = true ∧ Vals dvs ds ∧ Binds K fd ps ds
structure CalXK (P : Program) (w : World) (K : PySem.W.Frag) (mg : Str → Option Value) (base : Heap) (x : Str) (k : Nat) (ps : List Str) (n : Nat) (ks : List Str) (sp : Sp) : Prop where
  ex : ∃ (f : Addr) (fd : FuncData) (g : List Value → List Value → List Value), FnOk P w K mg base (L2.CX P w) k f fd ps sp ∧ mg x = some (.ref f) ∧ PySem.W.keepIn K (.ref f) = true ∧ KBn K fd ps n ks g (fun vs zs => vs ++ zs)
/-- two handed in the other way about -/
def swap2 {α : Type} : List α → List α
  | [a, b] => [b, a]
  | l => l
theorem swap2_rel : ∀ {zs : List V} {ws : List Value}, Vals zs ws → Vals (swap2 zs) (swap2 ws)
  | _, _, .nil => .nil
  | _, _, .cons a .nil => .cons a .nil
  | _, _, .cons a (.cons b .nil) => .cons b (.cons a .nil)
  | _, _, .cons a (.cons b (.cons c r)) => .cons a (.cons b (.cons c r))
structure CalN (CX : CXT) (P : Program) (w : World) (K : PySem.W.Frag) (mg : Str → Option Value) (base : Heap) (x : Str) (k : Nat) (ps : List Str) (ks : List Str) (c : List V → List V) (sp : Sp) : Prop where
  ex : ∃ (f : Addr) (fd : FuncData) (g : List Value → List Value → List Value), FnOk P w K mg base CX k f fd ps sp ∧ mg x = some (.ref f) ∧ PySem.W.keepIn K (.ref f) = true ∧ KBn K fd ps 0 ks g (fun _ zs => c zs)
section
variable {X : Cx} {x : Str} {k n : Nat} {ps ks : List Str} {dvs : List V} {sp : Sp} {e : Expr} {es : List Expr} {kws : List Keyword} {t tk : TA} {p pos : Pos}
theorem pe_calXD0 (C : CalXD X.prog X.w X.K X.mg X.base x k ps dvs sp) (hr : Room k X.A)
    (ha : PA X (e :: es) t) (hg : Gl X x := by rfl) (hdb : (x == ("__debug__" : Str)) = false := by decide) (he : starEach (e :: es) X.env = (false, eval e X.env) :: starEach es X.env := by rfl) (hpl : (backTo pos (starEach es X.env)).any (·.1) = false := by rfl) :
    PE X (.Call (.Name x p) (e :: es) [] pos) (tCall sp dvs E0 t) := by
  obtain ⟨f, fd, ds, G, g, kp, hd, b⟩ := C.ex
  exact pe_call G hr hg g kp b hd passL ha hdb he hpl
theorem pe_calXK0 (C : CalXK X.prog X.w X.K X.mg X.base x k ps n ks sp) (hr : Room k X.A)
    (ha : PA X (e :: es) t) (hkw : PK X kws tk) (hg : Gl X x := by rfl) (hall : (backToKw pos (keywordEach kws X.env)).all (·.1.isSome) = true := by rfl) (hks : (backToKw pos (keywordEach kws X.env)).filterMap (·.1) = ks := by rfl)
    (hdb : (x == ("__debug__" : Str)) = false := by decide) (he : starEach (e :: es) X.env = (false, eval e X.env) :: starEach es X.env := by rfl)
    (hpl : ((backTo pos (starEach (e :: es) X.env)).any (·.1) || (backToKw pos (keywordEach kws X.env)).any (·.1.isNone)) = false := by rfl) :
    PE X (.Call (.Name x p) (e :: es) kws pos) (tCallN n ks.length sp (fun vs zs => vs ++ zs) E0 t tk) := by
  obtain ⟨f, fd, g, G, gm, kp, b⟩ := C.ex
  exact pe_callN G hr hg gm kp b passL ha hkw hall hks hdb he hpl
/-- f(e, .., k = v, ..) that may raise -/
def tCallNS (n m : Nat) (sp : Sp) (gV : List V → List V → List V) (E : L2.St → XK) (t tk : TA) : TE := fun σ H Q => t σ H fun vs H1 => tk σ H1 fun zs H2 => vs.length = n ∧ zs.length = m ∧ sp (gV vs zs) H2 Q (E σ)
theorem run_fnNS {CX : CXT} {pins : List (Addr × Obj)} {σ : L2.St} {H : Hp} {s : Shared} {Q : VK} {us ws : List Value} {vs zs : List V} {f : Addr} {fd : FuncData} {g : List Value → List Value → List Value} {gV : List V → List V → List V} {E : L2.St → XK} (F : FnOk X.prog X.w X.K X.mg X.base CX k f fd ps sp) (hr : Room k X.A) (hb : KBn X.K fd ps n ks g gV) (hx : PassesAt CX X σ (E σ))
    (I : Inv X pins σ H s) (r : Vals vs us) (rz : Vals zs ws) (l1 : vs.length = n) (l2 : zs.length = ks.length) (h : sp (gV vs zs) H Q (E σ)) : wpAny (model X.prog X.w) X.A (call (.ref f) us (ks.zip ws)) (EP X pins σ Q) X.xe s := by
  have r2 := hb.rel r rz
  refine wpAny_call (codeAny_mono (F.run X.A X.stack s H ⟨us, ks.zip ws⟩ (g us ws) (gV vs zs) Q (E σ) hr I.env0 (hb.to s us ws I.kIn (r.length.symm.trans l1) (rz.length.symm.trans l2)) r2 h) fun r s' hq => ?_)
  cases r with
  | error e => exact hx pins H s e s' I hq
  | ok fl =>
    cases fl with
    | ret u => exact I.after hq
    | next => exact False.elim hq
    | brk => exact False.elim hq
    | cont => exact False.elim hq
theorem pe_calXK {W : WX} (C : CalXK X.prog X.w X.K X.mg X.base x k ps n ks sp) (hr : Room k X.A) (tw : Takes X W)
    (ha : PA X (e :: es) t) (hkw : PK X kws tk) (hg : Gl X x := by rfl) (hall : (backToKw pos (keywordEach kws X.env)).all (·.1.isSome) = true := by rfl) (hks : (backToKw pos (keywordEach kws X.env)).filterMap (·.1) = ks := by rfl)
    (hdb : (x == ("__debug__" : Str)) = false := by decide) (he : starEach (e :: es) X.env = (false, eval e X.env) :: starEach es X.env := by rfl)
    (hpl : ((backTo pos (starEach (e :: es) X.env)).any (·.1) || (backToKw pos (keywordEach kws X.env)).any (·.1.isNone)) = false := by rfl) :
    PE X (.Call (.Name x p) (e :: es) kws pos) (tCallNS n ks.length sp (fun vs zs => vs ++ zs) (WE W) t tk) := by
  obtain ⟨f, fd, g, G, gm, kp, b⟩ := C.ex
  refine ⟨fun pins s σ H Q I h => ?_⟩
  refine wpAny_Call_Name_kw (ld_glob I hg gm ?_ hdb)
  refine PySem.W.callWith_KW (h₀ := X.base) I.ok.mod.kin kp hall (thn (ha.run pos pins s σ H _ I h) fun us s1 ⟨vs, H1, I1, r, q⟩ => ?_) hpl he
  refine thn (hkw.run pos pins s1 σ H1 _ I1 q) fun ws s2 ⟨zs, H2, I2, rz, l1, l2, q2⟩ => ⟨I2.kIn, ?_⟩
  rw [hks]
  exact run_fnNS G hr b (passAt tw σ) I2 r rz l1 l2 q2
/-- f(k = v, ..), by names alone -/
theorem pe_calN {CX : CXT} {c : List V → List V} (C : CalN CX X.prog X.w X.K X.mg X.base x k ps ks c sp) (hr : Room k X.A) (hx : Passes CX X E0) (hkw : PK X kws tk) (hg : Gl X x := by rfl)
    (hall : (backToKw pos (keywordEach kws X.env)).all (·.1.isSome) = true := by rfl) (hks : (backToKw pos (keywordEach kws X.env)).filterMap (·.1) = ks := by rfl) (hdb : (x == ("__debug__" : Str)) = false := by decide)
    (hpl : ((backTo pos (starEach [] X.env)).any (·.1) || (backToKw pos (keywordEach kws X.env)).any (·.1.isNone)) = false := by rfl) :
    PE X (.Call (.Name x p) [] kws pos) (fun σ H Q => tk σ H fun zs H2 => zs.length = ks.length ∧ sp (c zs) H2 Q E0) := by
  obtain ⟨f, fd, g, G, gm, kp, b⟩ := C.ex
  refine ⟨fun pins s σ H Q I h => ?_⟩
  refine wpAny_Call_Name_kw (ld_glob I hg gm ?_ hdb)
  refine PySem.W.callWith_KW0 (h₀ := X.base) I.ok.mod.kin kp hall ?_ hpl
  refine thn (hkw.run pos pins s σ H _ I h) fun ws s2 ⟨zs, H2, I2, rz, l2, q2⟩ => ⟨I2.kIn, ?_⟩
  rw [hks]
  exact run_fnN (us := []) (vs := []) G hr b hx I2 .nil rz rfl l2 q2
end
/-! ### the law's own call, where nothing guards: repr of data -/
/-- a def's body, walked for one caller's state A alone -/
theorem body_at {P : Program} {w : World} {K : PySem.W.Frag} {mg : Str → Option Value} {base : Heap} {k : Nat} {f : Addr} {name qual : Str} {params : Arguments} {body : List Stmt} {scope : Scope}
    {dV kV doc pm cdv ct oc : Value} {an od : Option Addr} {osl : Array (Option Value)} {N ps : List Str} {A : Around} {outer : List Env} {s : Shared} {H : Hp} {args : Args} {us : List Value} {vs : List V} {Q : VK}
    (lk : K.lookup f = some ⟨oc, od, .func (PySem.W.fnOf name qual params body scope dV kV doc pm an cdv ct), osl⟩) (hcd : PySem.W.codeIn K cdv qual = true) (S : FnScope N ps scope) (hl : vs.length = ps.length)
    (hr : Room (k + 1) A) (e0 : Env0 P w K mg base A outer s H) (hb : BindsTo s (PySem.W.fnOf name qual params body scope dV kV doc pm an cdv ct) args (ps.zip us)) (rv : Vals vs us)
    (walk : ∃ t, PSs (cxOf CX0 P w K mg base N qual scope f cdv A outer s H (fun _ _ _ => False)) body t ∧ t { nx := fun _ H' => Q .non H', rt := Q } (start N vs) H) :
    codeAny (model P w) A (.call (.ref f) args) (CR CX0 outer P w H s Q fun _ _ _ => False) s := by
  have old : ∀ b o, base.get? b = some o → s.heap.get? b = some o := fun b o z => (e0.bs b o z).1
  have inK : K.In s.heap := e0.mod.kin.keeps old
  have slots : ∀ y ∈ ps.zip us, scope.names.lookup y.1 = some .local ∨ (scope.names.lookup y.1 = some .cell ∧ ((cellsFrom (s.heap.objs.size + 1) scope.names []).lookup y.1).isSome = true) := by
    rintro ⟨n, v⟩ hy
    cases S.par n (List.of_mem_zip hy).1 with
    | inl z => exact Or.inl z
    | inr z => exact Or.inr ⟨z, PySem.W.cellsFrom_some _ _ _ (Or.inl z)⟩
  obtain ⟨t, ht, hq⟩ := walk
  refine codeAny_call_function hr.depth (inK _ _ lk) rfl S.co S.gen rfl (PySem.W.codeRec_of inK hcd) (hb _ _ _ _ ?_)
  refine wpAny_newFunctionEnv_cells S.kind slots fun env eenv s1 ic => ?_
  subst eenv
  refine ⟨(e0.mod.nolimit.keeps old).keeps ic.toInCall.keep, codeAny_func ?_⟩
  have J := inv_start (CX := CX0) (E := fun _ _ _ => False) S hr.hd e0 hl rv ic
  refine wpAny_mono (ht.run [] s1 _ H _ J hq) (fun fl s' got => ?_) fun _ _ z => z
  match fl, got with
  | .ret u, ⟨v, σ', H', J', r', q'⟩ => exact ⟨v, H', J'.os, J'.bare, J'.base, J'.hok, r', q'⟩
  | .next, ⟨σ', H', J', q'⟩ => exact ⟨.non, H', J'.os, J'.bare, J'.base, J'.hok, rfl, q'⟩
  | .brk, ⟨_, _, _, q'⟩ => exact q'.elim
  | .cont, ⟨_, _, _, q'⟩ => exact q'.elim
/-- the script as the only thing that may be tracked -/
structure Scr (P : Program) (w : World) (K : PySem.W.Frag) (h : Heap) (a : Addr) (ns : List Int) (H : Hp) : Prop where
  only : Only H
  seq : SqL K H a (ns.map V.int)
  ok : HOk P w H h
  at' : ∀ b, H b ≠ none → b = a ∧ K.lookup a = none
theorem scr {P : Program} {w : World} {K : PySem.W.Frag} {h : Heap} {a : Addr} {vs : List Value} {ns : List Int} (KX : K.In h)
    (ha : h.get? a = some { cls := .type "list", data := .seq vs.toArray }) (hi : IntsAre vs ns) (hl : ns.length ≤ sizeLine) : ∃ H, Scr P w K h a ns H := by
  have rel := vals_ints hi
  have len : (ns.map V.int).length ≤ sizeLine := by rw [List.length_map]; exact hl
  by_cases inK : K.lookup a = none
  · refine ⟨upd (fun _ => none) a (.frz { cls := .type "list", data := .seq vs.toArray } (.lst (ns.map V.int))), fun b => ?_, .inl (.inr ⟨_, upd_same⟩), fun b o e => ?_, fun b e => ?_⟩
    · rcases Decidable.em (b = a) with z | z
      · subst z; exact .inr ⟨_, _, upd_same⟩
      · exact .inl (upd_ne z)
    · rcases Decidable.em (b = a) with z | z
      · subst z
        rw [upd_same] at e
        cases e
        exact ⟨ha, len, vs, _, rel, ha⟩
      · rw [upd_ne z] at e; cases e
    · rcases Decidable.em (b = a) with z | z
      · exact ⟨z, inK⟩
      · exact absurd (upd_ne z) e
  · obtain ⟨o, ho⟩ : ∃ o, K.lookup a = some o := by
      cases e : K.lookup a with
      | none => exact absurd e inK
      | some o => exact ⟨o, rfl⟩
    have same : o = { cls := .type "list", data := .seq vs.toArray } := Option.some.inj ((KX a o ho).symm.trans ha)
    subst same
    refine ⟨fun _ => none, fun _ => .inl rfl, .inr ⟨_, vs.toArray, 0, ho, rfl, rfl, rfl, ?_, ?_⟩, fun _ _ e => ?_, fun _ e => absurd rfl e⟩
    · have := hi.length
      show vs.toArray.size ≤ sizeLine
      rw [List.size_toArray]; omega
    · show Vals _ vs.toArray.toList
      exact rel
    · exact nomatch e
/-- the law's call from its promise, walked where nothing guards -/
theorem call_scr {P : Program} {w : World} {K : PySem.W.Frag} {mg mb : Str → Option Value} {fa a : Addr} {s₁ : Shared} {vs : List Value} {ns : List Int}
    (KX : K.In s₁.heap) (hns : s₁.heap.Ns mainGlobals mg) (hb : s₁.heap.Ns builtinsNs mb) (hbb : ∀ x : Str, x ≠ "__name__" → mb x = bootBuiltins x) (hlim : s₁.heap.NoLimit) (hg : s₁.gens = #[])
    (ha : s₁.heap.get? a = some { cls := .type "list", data := .seq vs.toArray }) (hi : IntsAre vs ns) (hl : ns.length ≤ sizeLine)
    (B : ∀ base H, K.In base → base.Ns mainGlobals mg → Env0 P w K mg base callerA [] s₁ H → SqL K H a (ns.map V.int) →
      codeAny (model P w) callerA (.call (.ref fa) ⟨[.ref a], []⟩) (CR CX0 [] P w H s₁ (fun v _ => v = .bl true) fun _ _ _ => False) s₁) :
    codeAny (model P w) callerA (.call (.ref fa) ⟨[.ref a], []⟩) (fun r s' => r = .ok (.ret (.bool true)) ∧ OldK s₁.heap s'.heap ∧ s'.os = s₁.os ∧ AllBare s'.gens) s₁ := by
  obtain ⟨H, C⟩ := scr (P := P) (w := w) KX ha hi hl
  -- what holds no list stands in the part that is not tracked
  have free : ∀ b o, s₁.heap.get? b = some o → (∀ n, o.data ≠ .seq vs.toArray n) → H b = none := fun b o e nd => by
    rcases Decidable.em (H b = none) with z | z
    · exact z
    · have q := (C.at' b z).1
      subst q
      rw [ha] at e
      cases e
      exact absurd rfl (nd _)
  have ns_of : ∀ L m, s₁.heap.Ns L m → (hidT s₁.heap H).Ns L m := fun L m n => by
    obtain ⟨o, es, ep, e, d, r⟩ := n
    exact ⟨o, es, ep, hidT_get e (free _ _ e fun k z => by rw [d] at z; cases z), d, r⟩
  have kin : K.In (hidT s₁.heap H) := fun b o e => by
    refine hidT_get (KX b o e) ?_
    rcases Decidable.em (H b = none) with z | z
    · exact z
    · obtain ⟨q, u⟩ := C.at' b z
      subst q
      rw [u] at e; cases e
  obtain ⟨mc, l1, l2⟩ := hlim
  have e0 : Env0 P w K mg (hidT s₁.heap H) callerA [] s₁ H :=
    ⟨rfl, ⟨kin, ns_of _ _ hns, ⟨mb, ns_of _ _ hb, hbb⟩, mc, ns_of _ _ l1, l2⟩, fun b o e => of_hidT e, Nat.le_of_eq (hidT_size _ _), trivial, fun b z => absurd (show b ∈ ([] : List Addr) from z) (by simp), C.ok, AllBare.of_eq hg⟩
  refine codeAny_mono (B _ H kin (ns_of _ _ hns) e0 C.seq) fun r s' got => ?_
  match r, got with
  | .ok (.ret u), ⟨v, H', os, bare, un, hok', rv, q⟩ =>
    cases q
    cases rv
    refine ⟨rfl, OldK.of_keep fun b o e => ?_, os, bare⟩
    rcases C.only b with z | ⟨ob, xs, z⟩
    · exact un.keep b o e z (fun y => nomatch y) (fun y => nomatch y)
    · have o1 := (C.ok b _ z).1
      have o2 := (hok' b _ (un.frzs b ob _ z)).1
      have := Option.some.inj (o1.symm.trans e)
      subst this
      exact o2
  | .ok .next, z => exact False.elim z
  | .ok .brk, z => exact False.elim z
  | .ok .cont, z => exact False.elim z
  | .error e, z => exact False.elim z
/-- the goal that the head leaves: the law's def walked for its caller's own state, in which nothing guards -/
theorem walk_scr {l : PySem.W.OpenLaw} {n : Nat} {q : Program} {loose : List Str} {XP : (Str → Option Value) → Heap → Prop} {YP : World → Heap → Prop} {d : DefRec} {K : Params → PySem.W.Frag}
    (hn : l.most = some n) (hn2 : n ≤ sizeLine) (hdf : d.params.defaults = []) (hY : ∀ (w : World) (h : Heap), YP w h → (K w.params).In h)
    (F : ∀ (w : World) (mg : Str → Option Value) (fa : Addr) (h : Heap), (K w.params).In h → h.Ns mainGlobals mg → mg d.name = some (.ref fa) →
      ∀ (base : Heap) (H : Hp) (s : Shared) (a : Addr) (ns : List Int), (K w.params).In base → base.Ns mainGlobals mg → Env0 l.prog w (K w.params) mg base callerA [] s H → SqL (K w.params) H a (ns.map V.int) → ns.length ≤ n →
        codeAny (model l.prog w) callerA (.call (.ref fa) ⟨[.ref a], []⟩) (CR CX0 [] l.prog w H s (fun v _ => v = .bl true) fun _ _ _ => False) s) :
    PySem.W.WalkO q loose XP YP l.row.toRowW d [] (fun f vs => PySem.call f vs) := by
  refine Att.attach_call hn hdf fun w s₀ s₁ mg mb fa o pm cd doc a vs ns G Y _ _ _ hmg hobj hints hlen hg => ?_
  have KX := hY w _ Y
  exact call_scr KX G.T.g G.T.b G.T.builtins G.T.nolimit hg hobj hints (Nat.le_trans hlen hn2) fun base H kb nb e0 hS => F w mg fa _ KX G.T.g hmg base H s₁ a ns kb nb e0 hS hlen
theorem caller_guards : callerA.guards = some [] := by first | rfl | decide
/-- repr of data, where nothing guards -/
def rRepr (K : PySem.W.Frag) : List V → Hp → VK → Prop := fun xs H Q => ∃ (x : V) (d : PyData), xs = [x] ∧ Dp K H x d ∧ d.showable = true ∧ d.hasDict = false ∧ d.depth ≤ 50 ∧ d.shown.length ≤ sizeLine ∧ Q (.str d.shown) H
theorem call_reprD {X : Cx} (gd : X.A.guards = some []) (hu : X.A.units + 64 < cLine) : CallR X (.builtin "repr") (rRepr X.K) := by
  intro pins s σ H xs us Q I r h
  obtain ⟨x, d, rfl, hd, hs, hnd, hdp, hz, hq⟩ := h
  obtain ⟨u, rfl, ru⟩ := r.one
  obtain ⟨as, rd⟩ := Dp.reads I d x u hd ru
  have byRef : ∀ a, u = .ref a → wpAny (model X.prog X.w) X.A (call (.builtin "repr") [u]) (EP X pins σ Q) X.xe s := fun a e => by
    subst e
    exact repr_of_reads' rd hs (fun z => by rw [hnd] at z; cases z) gd (by omega) (fun _ _ z => z) (fun h' v tk k => ⟨.str d.shown, H, I.kept (t' := tk) k, ⟨_, rfl⟩, hq⟩) hz
  cases hd with
  | non =>
    cases ru
    exact PySem.P.repr_of_none ⟨.str "None", H, I.tok _, ⟨_, rfl⟩, hq⟩
  | bl b =>
    cases ru
    exact PySem.P.repr_of_bool ⟨.str (if b then "True" else "False"), H, I.tok _, ⟨_, rfl⟩, hq⟩
  | int i =>
    obtain ⟨t, rfl⟩ := ru
    exact PySem.P.repr_of_int (of_decide_eq_true hs) ⟨.str (toString i), H, I.tok _, ⟨_, rfl⟩, hq⟩
  | str z =>
    obtain ⟨t, rfl⟩ := ru
    exact PySem.P.repr_of_str ⟨.str (reprText z), H, I.tok _, ⟨_, rfl⟩, hq⟩ hz
  | lst _ _ => exact byRef _ ru
  | tup _ _ => exact byRef _ ru
theorem int_short {i : Int} (h : i.natAbs < 10 ^ 200) : PyData.leavesShort 600 (.int i) = true := by
  have e := int_text_length_le10 (k := 200) (by decide) h
  clear h
  simp only [PyData.leavesShort, PyData.shown]
  refine decide_eq_true ?_
  rw [PySem.ofString_length]
  omega
theorem int_log {i : Int} (h : i.natAbs < 10 ^ 200) : i.natAbs.log2 < 800 := by
  have h2 : (10 : Nat) ^ 200 ≤ 16 ^ 200 := Nat.pow_le_pow_left (by decide) 200
  have h3 : (16 : Nat) ^ 200 = 2 ^ 800 := by rw [show (16 : Nat) = 2 ^ 4 by decide, ← Nat.pow_mul]
  exact PySem.Flt.log2_lt_of (by decide) (Nat.lt_of_lt_of_le h (h3 ▸ h2))
theorem int_able {i : Int} (h : i.natAbs < 10 ^ 200) : PyData.showable (.int i) = true := by
  have := int_log h
  simp only [PyData.showable]
  exact decide_eq_true (by omega)
theorem w45_log {b : Int} (w : W45 b) : b.natAbs.log2 < 45 := by
  obtain ⟨w0, w1⟩ := w
  refine PySem.Flt.log2_lt_of (by decide) ?_
  have e : (2 : Nat) ^ 45 = 35184372088832 := by decide
  rw [e]; omega
theorem w45_abs {b : Int} (w : W45 b) : b.natAbs < 10 ^ 14 := by
  obtain ⟨w0, w1⟩ := w
  have e : (10 : Nat) ^ 14 = 100000000000000 := by decide
  rw [e]; omega
theorem p10 {n k m : Nat} (h : n < 10 ^ k) (hk : k ≤ m) : n < 10 ^ m := Nat.lt_of_lt_of_le h (Nat.pow_le_pow_right (by decide) hk)
/-- the data of a word -/
def dw (m : Bool) (b : Int) : PyData := .tuple [.bool m, .int b]
theorem dw_small {m : Bool} {b : Int} (w : W45 b) : (dw m b).showable = true ∧ (dw m b).hasDict = false ∧ (dw m b).leavesShort 600 = true ∧ (dw m b).weight ≤ 60 ∧ (dw m b).depth = 1 := by
  have h1 := int_able (p10 (w45_abs w) (by decide : 14 ≤ 200))
  have h2 := int_short (p10 (w45_abs w) (by decide : 14 ≤ 200))
  unfold dw
  refine ⟨?_, ?_, ?_, ?_, ?_⟩
  · simp only [PyData.showable, PyData.showableAll, Bool.true_and, Bool.and_true] at *; exact h1
  · simp [PyData.hasDict, PyData.hasDictAll]
  · simp only [PyData.leavesShort, PyData.leavesShortAll, Bool.true_and, Bool.and_true] at *; exact h2
  · have := w45_log w
    simp [PyData.weight, PyData.weightAll]
    split <;> omega
  · simp [PyData.depth, PyData.depthAll]
theorem shown_fit {d : PyData} (h : d.leavesShort 600 = true) (w : d.weight ≤ 2000) : d.shown.length ≤ sizeLine := by
  have := PyData.shown_le 600 (by decide) d h
  rw [sizeLine_eq]; omega

theorem same_pool {H H1 H2 : Hp} {p : Addr} (s : Same H H1) (n : H p = none) (b : But p H1 H2) : Same H H2 := fun q o e => b q o (ne_of_none e n) (s q o e)
theorem Pool.same {H H' : Hp} {p : Addr} {x y : Int} (h : Pool H p x y) (s : Same H H') : Pool H' p x y := ⟨s _ _ h.1, h.2⟩
theorem code_small : ∀ k, k < 9 → code k < 16 ^ 8 := by decide +kernel
def dat5 (a b c : Int) (r : Str) (d : Int) : PyData := .tuple [.int a, .int b, .int c, .str r, .int d]
theorem int_w {i : Int} (h : i.natAbs < 10 ^ 14) : (if i == 0 then 0 else i.natAbs.log2 + 1) ≤ 57 := by
  have h2 : (10 : Nat) ^ 14 ≤ 16 ^ 14 := Nat.pow_le_pow_left (by decide) 14
  have h3 : (16 : Nat) ^ 14 = 2 ^ 56 := by decide
  have := PySem.Flt.log2_lt_of (by decide) (Nat.lt_of_lt_of_le h (h3 ▸ h2))
  split <;> omega
theorem f5_fit {a b c d : Int} {p : Nat → Bool} (ha : a.natAbs < 10 ^ 14) (hb : b.natAbs < 10 ^ 14) (hc : c.natAbs < 10 ^ 14) (hd : d.natAbs < 10 ^ 14) :
    (dat5 a b c (rtx p) d).showable = true ∧ (dat5 a b c (rtx p) d).hasDict = false ∧ (dat5 a b c (rtx p) d).depth ≤ 50 ∧ (dat5 a b c (rtx p) d).shown.length ≤ sizeLine := by
  have a1 := int_able (p10 ha (by decide : 14 ≤ 200))
  have b1 := int_able (p10 hb (by decide : 14 ≤ 200))
  have c1 := int_able (p10 hc (by decide : 14 ≤ 200))
  have d1 := int_able (p10 hd (by decide : 14 ≤ 200))
  have a2 := int_short (p10 ha (by decide : 14 ≤ 200))
  have b2 := int_short (p10 hb (by decide : 14 ≤ 200))
  have c2 := int_short (p10 hc (by decide : 14 ≤ 200))
  have d2 := int_short (p10 hd (by decide : 14 ≤ 200))
  have a3 := int_w ha
  have b3 := int_w hb
  have c3 := int_w hc
  have d3 := int_w hd
  clear ha hb hc hd
  have rs : PyData.leavesShort 600 (.str (rtx p)) = true := by
    simp only [PyData.leavesShort]
    rw [List.all_eq_true]
    intro z hz
    rw [rtx_codes] at hz
    obtain ⟨k, k1, rfl⟩ := List.mem_map.mp hz
    exact decide_eq_true (code_small k (List.mem_range.mp (List.mem_filter.mp k1).1))
  have rw' : PyData.weight (.str (rtx p)) ≤ 9 := by
    show (rtx p).cps.size ≤ 9
    rw [← Array.length_toList, rtx_codes, List.length_map]
    exact Nat.le_trans (List.length_filter_le _ _) (by rw [List.length_range]; exact Nat.le_refl _)
  have rv : PyData.showable (.str (rtx p)) = true := rfl
  generalize rtx p = r at *
  unfold dat5
  refine ⟨?_, ?_, ?_, shown_fit ?_ ?_⟩
  · simp only [PyData.showable, PyData.showableAll, Bool.true_and, Bool.and_true] at *; rw [a1, b1, c1, d1]; rfl
  · simp [PyData.hasDict, PyData.hasDictAll]
  · simp [PyData.depth, PyData.depthAll]
  · simp only [PyData.leavesShort, PyData.leavesShortAll, Bool.and_true] at *; rw [a2, b2, c2, d2, rs]; rfl
  · simp only [PyData.weight, PyData.weightAll] at *; omega
theorem none_fit : (PyData.none).showable = true ∧ (PyData.none).hasDict = false ∧ (PyData.none).depth ≤ 50 ∧ (PyData.none).shown.length ≤ sizeLine :=
  ⟨rfl, rfl, by decide, shown_fit rfl (by decide)⟩
/-- the fields of bits, small -/
theorem tells_small {b : Int} (t : Tells b) : (fFirst b * 2 ^ (fStep b).toNat).natAbs < 10 ^ 14 ∧ ((fFirst b + fCnt b) * 2 ^ (fStep b).toNat).natAbs < 10 ^ 14 ∧ (fAt b).natAbs < 10 ^ 14 ∧ (fKind b).natAbs < 10 ^ 14 := by
  have f := fb b
  have pp := pow_pos2 (fStep b).toNat
  have t3 := t.2.2
  have hc : (fFirst b + fCnt b) * 2 ^ (fStep b).toNat = fFirst b * 2 ^ (fStep b).toNat + fCnt b * 2 ^ (fStep b).toNat := Int.add_mul ..
  have hc1 : 0 < fCnt b * 2 ^ (fStep b).toNat := Int.mul_pos (by omega) pp
  have hc2 : 0 ≤ fFirst b * 2 ^ (fStep b).toNat := Int.mul_nonneg (by omega) (Int.le_of_lt pp)
  have e : (10 : Nat) ^ 14 = 100000000000000 := by decide
  have a0 : 0 ≤ fAt b := Int.emod_nonneg _ (by decide)
  have a1 : fAt b < 4096 := Int.emod_lt_of_pos _ (by decide)
  have k0 : 0 ≤ fKind b := Int.emod_nonneg _ (by decide)
  have k1 : fKind b < 16 := Int.emod_lt_of_pos _ (by decide)
  have key : ∀ z : Int, 0 ≤ z → z ≤ 4096 → z.natAbs < 10 ^ 14 := fun z h0 h1 => by rw [e]; omega
  exact ⟨key _ hc2 (by omega), key _ (by omega) t3, key _ (by omega) (by omega), key _ (by omega) (by omega)⟩
theorem tells0 : Tells 0 := by
  have e1 : fStep 0 = 0 := by decide
  have e2 : fCnt 0 = 1 := by decide
  have e3 : fFirst 0 = 0 := by decide
  unfold Tells
  rw [e1, e2, e3]
  decide
theorem ef0 : [V.int (fFirst 0 * 2 ^ (fStep 0).toNat), .int ((fFirst 0 + fCnt 0) * 2 ^ (fStep 0).toNat), .int (fAt 0), .str (rtx (bitp (fRts 0))), .int (fKind 0)] = [V.int 0, .int 1, .int 0, .str (Str.ofString ""), .int 0] := by
  have e1 : fStep 0 = 0 := by decide
  have e2 : fCnt 0 = 1 := by decide
  have e3 : fFirst 0 = 0 := by decide
  have e4 : fAt 0 = 0 := by decide
  have e5 : fKind 0 = 0 := by decide
  have e6 : fRts 0 = 0 := by decide
  have e7 : rtx (bitp 0) = Str.ofString "" := by decide +kernel
  rw [e1, e2, e3, e4, e5, e6, e7]
  rfl
theorem str_no {x : Str} (e : PyData.eqv (.str x) (.str x) = false) : False := by
  simp [PyData.eqv] at e
theorem wide_fit {n : Int} (w : W45 n) : (dw false n).showable = true ∧ (dw false n).hasDict = false ∧ (dw false n).depth ≤ 50 ∧ (dw false n).shown.length ≤ sizeLine := by
  obtain ⟨a1, a2, a3, a4, a5⟩ := dw_small (m := false) w
  exact ⟨a1, a2, by rw [a5]; decide, shown_fit a3 (by omega)⟩
theorem mod_w45 (z : Int) : W45 (z % 35184372088832) := ⟨Int.emod_nonneg _ (by decide), Int.emod_lt_of_pos _ (by decide)⟩

def topS (i : Nat) : Stmt := PySem.Challenge.pw_sealedreach_k02_fields_told_of_words.main.body.getD i (.Pass ⟨0, 0, 0, 0⟩)
abbrev s_is_whole : Stmt := topS 6
abbrev s_are_bounds : Stmt := topS 12
abbrev s_look_at_bounds : Stmt := topS 13
abbrev s__steps_over : Stmt := topS 17
abbrev s_in_bits : Stmt := topS 16
abbrev s_least_bounds : Stmt := topS 15
abbrev s_is_exact : Stmt := topS 14
abbrev s__has_some : Stmt := topS 39
abbrev s__lead_one_way : Stmt := topS 38
abbrev s_bits_of_rights : Stmt := topS 36
abbrev s_field : Stmt := topS 33
abbrev s_rights_in : Stmt := topS 35
abbrev s__tell : Stmt := topS 37
abbrev s_bounds_in : Stmt := topS 34
abbrev s_fields_of : Stmt := topS 30
abbrev s_is_rights : Stmt := topS 29
abbrev s__are_fields : Stmt := topS 40
abbrev s_word_of : Stmt := topS 31
abbrev s_plain : Stmt := topS 32
abbrev s__law_take : Stmt := topS 43
abbrev s__law_pool : Stmt := topS 42
abbrev s__law_bits : Stmt := topS 44
abbrev s__law_mask : Stmt := topS 46
abbrev s__law_drawn : Stmt := topS 45
abbrev s__law_fields : Stmt := topS 47
abbrev s__law_good : Stmt := topS 48
abbrev s__law_told : Stmt := topS 49
abbrev s_law : Stmt := topS 50
theorem sc_is_whole : FnScope ["thing", "least", "most"] ["thing", "least", "most"] (defScope s_is_whole) := ⟨rfl, rfl, rfl, by decide +kernel, rfl, by decide +kernel, by decide +kernel⟩
theorem sc_are_bounds : FnScope ["low", "high"] ["low", "high"] (defScope s_are_bounds) := ⟨rfl, rfl, rfl, by decide +kernel, rfl, by decide +kernel, by decide +kernel⟩
theorem sc_look_at_bounds : FnScope ["low", "high"] ["low", "high"] (defScope s_look_at_bounds) := ⟨rfl, rfl, rfl, by decide +kernel, rfl, by decide +kernel, by decide +kernel⟩
theorem sc__steps_over : FnScope ["low", "high", "step", "first", "behind"] ["low", "high", "step"] (defScope s__steps_over) := ⟨rfl, rfl, rfl, by decide +kernel, rfl, by decide +kernel, by decide +kernel⟩
theorem sc_in_bits : FnScope ["low", "high", "step"] ["low", "high"] (defScope s_in_bits) := ⟨rfl, rfl, rfl, by decide +kernel, rfl, by decide +kernel, by decide +kernel⟩
theorem sc_least_bounds : FnScope ["low", "high", "step", "first", "count"] ["low", "high"] (defScope s_least_bounds) := ⟨rfl, rfl, rfl, by decide +kernel, rfl, by decide +kernel, by decide +kernel⟩
theorem sc_is_exact : FnScope ["low", "high"] ["low", "high"] (defScope s_is_exact) := ⟨rfl, rfl, rfl, by decide +kernel, rfl, by decide +kernel, by decide +kernel⟩
theorem sc__has_some : FnScope ["rights", "group", "sign"] ["rights", "group"] (defScope s__has_some) := ⟨rfl, rfl, rfl, by decide +kernel, rfl, by decide +kernel, by decide +kernel⟩
theorem sc__lead_one_way : FnScope ["rights", "group"] ["rights"] (defScope s__lead_one_way) := ⟨rfl, rfl, rfl, by decide +kernel, rfl, by decide +kernel, by decide +kernel⟩
theorem sc_bits_of_rights : FnScope ["rights", "k", "sign"] ["rights"] (defScope s_bits_of_rights) := ⟨rfl, rfl, rfl, by decide +kernel, rfl, by decide +kernel, by decide +kernel⟩
theorem sc_field : FnScope ["bits", "place", "lowest", "many"] ["bits", "place"] (defScope s_field) := ⟨rfl, rfl, rfl, by decide +kernel, rfl, by decide +kernel, by decide +kernel⟩
theorem sc_rights_in : FnScope ["bits", "number", "k", "sign"] ["bits"] (defScope s_rights_in) := ⟨rfl, rfl, rfl, by decide +kernel, rfl, by decide +kernel, by decide +kernel⟩
theorem sc__tell : FnScope ["bits", "step", "count"] ["bits"] (defScope s__tell) := ⟨rfl, rfl, rfl, by decide +kernel, rfl, by decide +kernel, by decide +kernel⟩
theorem sc_bounds_in : FnScope ["bits", "step", "first"] ["bits"] (defScope s_bounds_in) := ⟨rfl, rfl, rfl, by decide +kernel, rfl, by decide +kernel, by decide +kernel⟩
theorem sc_fields_of : FnScope ["word", "bits", "low", "high"] ["word"] (defScope s_fields_of) := ⟨rfl, rfl, rfl, by decide +kernel, rfl, by decide +kernel, by decide +kernel⟩
theorem sc_is_rights : FnScope ["thing", "sign"] ["thing"] (defScope s_is_rights) := ⟨rfl, rfl, rfl, by decide +kernel, rfl, by decide +kernel, by decide +kernel⟩
theorem sc__are_fields : FnScope ["thing", "low", "high", "at", "rights", "kind"] ["thing"] (defScope s__are_fields) := ⟨rfl, rfl, rfl, by decide +kernel, rfl, by decide +kernel, by decide +kernel⟩
theorem sc_word_of : FnScope ["fields", "marked", "low", "high", "at", "rights", "kind", "step", "first", "count", "places", "worths", "place", "worth"] ["fields", "marked"] (defScope s_word_of) := ⟨rfl, rfl, rfl, by decide +kernel, rfl, by decide +kernel, by decide +kernel⟩
theorem sc_plain : FnScope ["number"] ["number"] (defScope s_plain) := ⟨rfl, rfl, rfl, by decide +kernel, rfl, by decide +kernel, by decide +kernel⟩
theorem sc__law_take : FnScope ["_law_pool_here", "_law_many", "_law_found"] ["_law_pool_here", "_law_many"] (defScope s__law_take) := ⟨rfl, rfl, rfl, by decide +kernel, rfl, by decide +kernel, by decide +kernel⟩
theorem sc__law_pool : FnScope ["_law_script", "_law_k", "_law_cell", "_law_great", "_law_mixed"] ["_law_script", "_law_k"] (defScope s__law_pool) := ⟨rfl, rfl, rfl, by decide +kernel, rfl, by decide +kernel, by decide +kernel⟩
theorem sc__law_bits : FnScope ["_law_at", "_law_first", "_law_count", "_law_step", "_law_rights", "_law_kind"] ["_law_at", "_law_first", "_law_count", "_law_step", "_law_rights", "_law_kind"] (defScope s__law_bits) := ⟨rfl, rfl, rfl, by decide +kernel, rfl, by decide +kernel, by decide +kernel⟩
theorem sc__law_mask : FnScope ["_law_pool_here", "_law_far", "_law_some"] ["_law_pool_here"] (defScope s__law_mask) := ⟨rfl, rfl, rfl, by decide +kernel, rfl, by decide +kernel, by decide +kernel⟩
theorem sc__law_drawn : FnScope ["_law_pool_here", "_law_step", "_law_count", "_law_wide", "_law_first", "_law_kind", "_law_at"] ["_law_pool_here"] (defScope s__law_drawn) := ⟨rfl, rfl, rfl, by decide +kernel, rfl, by decide +kernel, by decide +kernel⟩
theorem sc__law_fields : FnScope ["_law_bits_here", "_law_first", "_law_count", "_law_step", "_law_at", "_law_sign", "_law_rights"] ["_law_bits_here"] (defScope s__law_fields) := ⟨rfl, rfl, rfl, by decide +kernel, rfl, by decide +kernel, by decide +kernel⟩
theorem sc__law_good : FnScope ["_law_rights", "_law_sign", "_law_some", "_law_groups"] ["_law_rights"] (defScope s__law_good) := ⟨rfl, rfl, rfl, by decide +kernel, rfl, by decide +kernel, by decide +kernel⟩
theorem sc__law_told : FnScope ["_law_own", "_law_mark", "_law_error", "_law_found", "e"] ["_law_own", "_law_mark"] (defScope s__law_told) := ⟨rfl, rfl, rfl, by decide +kernel, rfl, by decide +kernel, by decide +kernel⟩
theorem sc_law : FnScope ["_law_script", "_law_k", "_law_pool_here", "_law_bits_here", "_law_due", "_law_mark", "_law_good_here", "_law_some", "_law_great"] ["_law_script"] (defScope s_law) := ⟨rfl, rfl, rfl, by decide +kernel, rfl, by decide +kernel, by decide +kernel⟩
abbrev si_NoFields : Stmt := inClass (topS 2) 0
theorem sci_NoFields : FnScope ["self", "text"] ["self", "text"] (defScope si_NoFields) := ⟨rfl, rfl, rfl, by decide +kernel, rfl, by decide +kernel, by decide +kernel⟩
structure Txt (K : PySem.W.Frag) (mg : Str → Option Value) : Prop where
  z_abs : mg "abs" = none
  z_any : mg "any" = none
  z_bool : mg "bool" = none
  z_enumerate : mg "enumerate" = none
  z_int : mg "int" = none
  z_isinstance : mg "isinstance" = none
  z_len : mg "len" = none
  z_max : mg "max" = none
  z_min : mg "min" = none
  z_range : mg "range" = none
  z_repr : mg "repr" = none
  z_str : mg "str" = none
  z_sum : mg "sum" = none
  z_tuple : mg "tuple" = none
  z_zip : mg "zip" = none
  c_AT : ∃ p, mg "AT" = some (.ref p) ∧ ∀ H, SqT K H p [.int 0, .int 12]
  c_CELLS : ∃ t, mg "CELLS" = some (.int 4096 t)
  c_COUNT_LESS_ONE : ∃ p, mg "COUNT_LESS_ONE" = some (.ref p) ∧ ∀ H, SqT K H p [.int 24, .int 4]
  c_FIRST : ∃ p, mg "FIRST" = some (.ref p) ∧ ∀ H, SqT K H p [.int 12, .int 12]
  c_GROUPS : ∃ p, mg "GROUPS" = some (.ref p) ∧ ∀ H, SqT K H p [.str (Str.ofString "rwlsn"), .str (Str.ofString "x"), .str (Str.ofString "co")]
  c_KIND : ∃ p, mg "KIND" = some (.ref p) ∧ ∀ H, SqT K H p [.int 41, .int 4]
  c_LEAST_COUNT : ∃ t, mg "LEAST_COUNT" = some (.int 9 t)
  c_RIGHTS : ∃ t, mg "RIGHTS" = some (.str (Str.ofString "rwlsnfxco") t)
  c_RIGHTS_BITS : ∃ p, mg "RIGHTS_BITS" = some (.ref p) ∧ ∀ H, SqT K H p [.int 32, .int 9]
  c_STEP : ∃ p, mg "STEP" = some (.ref p) ∧ ∀ H, SqT K H p [.int 28, .int 4]
  c_TOP_COUNT : ∃ t, mg "TOP_COUNT" = some (.int 16 t)
  c_TOP_KIND : ∃ t, mg "TOP_KIND" = some (.int 15 t)
  c_TOP_STEP : ∃ t, mg "TOP_STEP" = some (.int 8 t)
  c_WORTHS : ∃ t, mg "WORTHS" = some (.int 35184372088832 t)
  k_NoFields : ∃ C, mg "NoFields" = some (.ref C) ∧ PySem.W.nsIn K mainGlobals "NoFields" = some (some (.ref C))
  k_NoText : ∃ C, mg "NoText" = some (.ref C) ∧ PySem.W.nsIn K mainGlobals "NoText" = some (some (.ref C))
  k_ReachError : ∃ C, mg "ReachError" = some (.ref C) ∧ PySem.W.nsIn K mainGlobals "ReachError" = some (some (.ref C))
  x_NoFields_ReachError : ∀ C D, PySem.W.nsIn K mainGlobals "NoFields" = some (some (.ref C)) → PySem.W.nsIn K mainGlobals "ReachError" = some (some (.ref D)) → PySem.W.exmOne K (.ref C) (.ref D) = some true
  e_NoFields : ∀ C, PySem.W.nsIn K mainGlobals "NoFields" = some (some (.ref C)) → ErrC K C
  i_NoFields_NoFields : ∀ C D, PySem.W.nsIn K mainGlobals "NoFields" = some (some (.ref C)) → PySem.W.nsIn K mainGlobals "NoFields" = some (some (.ref D)) → PySem.W.kitOne K (.ref C) (.ref D) = some true
  i_NoFields_NoText : ∀ C D, PySem.W.nsIn K mainGlobals "NoFields" = some (some (.ref C)) → PySem.W.nsIn K mainGlobals "NoText" = some (some (.ref D)) → PySem.W.kitOne K (.ref C) (.ref D) = some false
section
variable {P : Program} {w : World} {K : PySem.W.Frag} {mg : Str → Option Value} {base : Heap}
theorem oki_NoFields {f C : Addr} {fd : FuncData} (F : Fun K "__init__" "NoFields.__init__" si_NoFields f fd) (T : OexC K C) (hno : PySem.W.findIn K (.ref C) "text" = some none) : FnOk P w K mg base CX0 1 f fd ["self", "text"] (spErr C "text") := by
  refine F.ok sci_NoFields (fun vs H Q E h => ?_) (fun cdv A outer s H vs Q E hr h => ?_)
  · obtain ⟨a, v, rfl, h1, q⟩ := h; rfl
  · obtain ⟨a, v, rfl, h1, q⟩ := h
    refine ⟨_, pss_one (ps_ost (pv 0) (pv 1)), ?_⟩
    exact ⟨_, rfl, _, rfl, a, C, rfl, T, hno, .inl ⟨h1, fun dx h2 h3 => q dx h2 h3⟩⟩

def sp_is_whole (K : PySem.W.Frag) : Sp := fun vs H Q _ => ∃ v l m, vs = [v, .int l, .int m] ∧ Kd H v ∧ ∀ b, (b = true ↔ ∃ n, v = .int n ∧ l ≤ n ∧ n ≤ m) → Q (.bl b) H
theorem ok_is_whole {f : Addr} {fd : FuncData} (F : Fun K "is_whole" "is_whole" s_is_whole f fd) (T : Txt K mg) : FnOk P w K mg base CX0 1 f fd ["thing", "least", "most"] (sp_is_whole K) := by
  refine F.ok sc_is_whole (fun vs H Q E h => ?_) (fun cdv A outer s H vs Q E hr h => ?_)
  · obtain ⟨v, l, m, rfl, hv, q⟩ := h; rfl
  · obtain ⟨v, l, m, rfl, hv, q⟩ := h
    refine ⟨_, (pss_one (ps_ret (pe_and (pe_callB call_isi (by rfl) T.z_isinstance (by decide +kernel) (pa_cons (pv 0) (pa_cons (pe_bltn (v := .ty "int") (by rfl) T.z_int (by decide +kernel) rfl) pa_nil))) (pe_and (pe_not (pe_callB call_isi (by rfl) T.z_isinstance (by decide +kernel) (pa_cons (pv 0) (pa_cons (pe_bltn (v := .ty "bool") (by rfl) T.z_bool (by decide +kernel) rfl) pa_nil)))) (pe_one (pe_chain op_le op_le (pv 1) (pv 0) (pv 2))))))), ?_⟩
    obtain ⟨t, ty, kt⟩ := hv.int? (K := K)
    refine ⟨_, rfl, _, _, t, _, isI v, rfl, .ty "int", ty, kt, isI v, rfl, ifb (fun e1 => ?_) (fun e1 => ?_)⟩
    · obtain ⟨t2, ty2, kt2⟩ := hv.bool? (K := K)
      refine ⟨_, rfl, _, _, t2, _, isB v, rfl, .ty "bool", ty2, kt2, isB v, rfl, !isB v, rfl, ifnb (fun e2 => ?_) (fun e2 => ?_)⟩
      · obtain ⟨n, rfl⟩ : ∃ n, v = .int n := by
          cases hv with
          | int i => exact ⟨i, rfl⟩
          | bl b => cases e2
          | _ => cases e1
        refine ⟨_, rfl, _, rfl, _, _, rfl, rfl, _, rfl, ifd (fun h1 => ?_) (fun h1 => ?_)⟩
        · refine ⟨_, rfl, _, _, rfl, rfl, q _ ?_⟩
          rw [decide_eq_true_iff]
          exact ⟨fun h => ⟨n, rfl, h1, h⟩, fun ⟨n', e, h3, h4⟩ => by cases e; exact h4⟩
        · refine q _ ⟨fun h => Bool.noConfusion h, fun ⟨n', e, h3, h4⟩ => by cases e; exact absurd h3 h1⟩
      · refine q _ ⟨fun h => Bool.noConfusion h, fun ⟨n', e, h3, h4⟩ => by cases e; cases e2⟩
    · refine q _ ⟨fun h => Bool.noConfusion h, fun ⟨n', e, h3, h4⟩ => by cases e; cases e1⟩

def sp_are_bounds (K : PySem.W.Frag) : Sp := fun vs H Q _ => ∃ v u, vs = [v, u] ∧ Kd H v ∧ Kd H u ∧ ∀ b, (b = true ↔ ∃ lo hi, v = .int lo ∧ u = .int hi ∧ Bd lo hi) → Q (.bl b) H
theorem ok_are_bounds {f : Addr} {fd : FuncData} (F : Fun K "are_bounds" "are_bounds" s_are_bounds f fd) (T : Txt K mg) (C_is_whole : Cal P w K mg base "is_whole" 1 ["thing", "least", "most"] (sp_is_whole K)) : FnOk P w K mg base CX0 2 f fd ["low", "high"] (sp_are_bounds K) := by
  obtain ⟨t_CELLS, hc_CELLS⟩ := T.c_CELLS
  refine F.ok sc_are_bounds (fun vs H Q E h => ?_) (fun cdv A outer s H vs Q E hr h => ?_)
  · obtain ⟨v, u, rfl, hv, hu, q⟩ := h; rfl
  · obtain ⟨v, u, rfl, hv, hu, q⟩ := h
    refine ⟨_, (pss_one (ps_ret (pe_and (pe_cal C_is_whole (hr.mono (by decide)) (pa_cons (pv 0) (pa_cons pe_int (pa_cons (pe_glob (v := .int 4096) (by rfl) hc_CELLS ⟨_, rfl⟩) pa_nil)))) (pe_and (pe_cal C_is_whole (hr.mono (by decide)) (pa_cons (pv 1) (pa_cons pe_int (pa_cons (pe_glob (v := .int 4096) (by rfl) hc_CELLS ⟨_, rfl⟩) pa_nil)))) (pe_one (pe_cmpR op_lt (pv 0) (pv 1) (nomark _))))))), ?_⟩
    refine ⟨_, rfl, _, _, _, rfl, hv, fun b hb => ⟨_, rfl, ifb (fun e => ?_) (fun e => ?_)⟩⟩
    · refine ⟨_, rfl, _, _, _, rfl, hu, fun c hc => ⟨_, rfl, ifb (fun e2 => ?_) (fun e2 => ?_)⟩⟩
      · obtain ⟨lo, rfl, l1, l2⟩ := hb.mp e
        obtain ⟨hi, rfl, l3, l4⟩ := hc.mp e2
        refine ⟨_, rfl, _, rfl, _, _, rfl, rfl, q _ ?_⟩
        rw [decide_eq_true_iff]
        exact ⟨fun h => ⟨lo, hi, rfl, rfl, l1, h, l4⟩, fun ⟨a, c, e3, e4, h⟩ => by cases e3; cases e4; exact h.2.1⟩
      · refine q _ ⟨fun h => Bool.noConfusion h, fun ⟨a, c, e3, e4, h⟩ => ?_⟩
        obtain ⟨h1, h2, h3⟩ := h
        rw [hc.mpr ⟨c, e4, by omega, h3⟩] at e2; cases e2
    · refine q _ ⟨fun h => Bool.noConfusion h, fun ⟨a, c, e3, e4, h⟩ => ?_⟩
      obtain ⟨h1, h2, h3⟩ := h
      rw [hb.mpr ⟨a, e3, h1, by omega⟩] at e; cases e

def sp_look_at_bounds (K : PySem.W.Frag) : Sp := fun vs H Q _ => ∃ lo hi, vs = [.int lo, .int hi] ∧ Bd lo hi ∧ Q .non H
theorem ok_look_at_bounds {f : Addr} {fd : FuncData} (F : Fun K "look_at_bounds" "look_at_bounds" s_look_at_bounds f fd) (T : Txt K mg) (C_are_bounds : Cal P w K mg base "are_bounds" 2 ["low", "high"] (sp_are_bounds K)) : FnOk P w K mg base CX0 3 f fd ["low", "high"] (sp_look_at_bounds K) := by
  refine F.ok sc_look_at_bounds (fun vs H Q E h => ?_) (fun cdv A outer s H vs Q E hr h => ?_)
  · obtain ⟨lo, hi, rfl, hb, q⟩ := h; rfl
  · obtain ⟨lo, hi, rfl, hb, q⟩ := h
    refine ⟨_, (pss_one (ps_if (pt_not (pt_val (pe_cal C_are_bounds (hr.mono (by decide)) (pa_cons (pv 0) (pa_cons (pv 1) pa_nil))))) (pss_one ps_never) pss_nil)), ?_⟩
    refine ⟨_, rfl, _, rfl, .int lo, .int hi, rfl, .int _, .int _, fun b hb2 => ⟨_, rfl, ?_⟩⟩
    have e : b = true := hb2.mpr ⟨lo, hi, rfl, rfl, hb⟩
    subst e
    exact q

def sp__steps_over (K : PySem.W.Frag) : Sp := fun vs H Q _ => ∃ (lo hi : Int) (s : Nat), vs = [.int lo, .int hi, .int s] ∧ s ≤ 1000 ∧ Q (.int (Dd lo hi s + 1)) H
theorem ok__steps_over {f : Addr} {fd : FuncData} (F : Fun K "_steps_over" "_steps_over" s__steps_over f fd) (T : Txt K mg) : FnOk P w K mg base CX0 1 f fd ["low", "high", "step"] (sp__steps_over K) := by
  refine F.ok sc__steps_over (fun vs H Q E h => ?_) (fun cdv A outer s H vs Q E hr h => ?_)
  · obtain ⟨lo, hi, s, rfl, hs, q⟩ := h; rfl
  · obtain ⟨lo, hi, s, rfl, hs, q⟩ := h
    refine ⟨_, (pss_cons (ps_set (i := 3) sc__steps_over.nd rfl (.inl rfl) (pe_op op_shr (pv 0) (pv 2)))
      (pss_cons (ps_set (i := 4) sc__steps_over.nd rfl (.inl rfl) (pe_op op_shr (pe_op op_sub (pe_op op_add (pv 1) (pe_op op_shl pe_int (pv 2))) pe_int) (pv 2)))
      (pss_one (ps_ret (pe_op op_sub (pv 4) (pv 3)))))), ?_⟩
    walk_at "g"
    rw [← over_eq] at q
    exact q

def sp_in_bits (K : PySem.W.Frag) : Sp := fun vs H Q _ => ∃ lo hi, vs = [.int lo, .int hi] ∧ Bd lo hi ∧ ∀ (s : Nat) p, StepIs lo hi s → H p = none → Q (.ref p) (upd H p (.tup [.int s, .int (lo / 2 ^ s), .int (Dd lo hi s + 1)]))
theorem ok_in_bits {f : Addr} {fd : FuncData} (F : Fun K "in_bits" "in_bits" s_in_bits f fd) (T : Txt K mg) (C_look_at_bounds : Cal P w K mg base "look_at_bounds" 3 ["low", "high"] (sp_look_at_bounds K)) (C__steps_over : Cal P w K mg base "_steps_over" 1 ["low", "high", "step"] (sp__steps_over K)) : FnOk P w K mg base CX0 4 f fd ["low", "high"] (sp_in_bits K) := by
  obtain ⟨t_TOP_COUNT, hc_TOP_COUNT⟩ := T.c_TOP_COUNT
  refine F.ok sc_in_bits (fun vs H Q E h => ?_) (fun cdv A outer s H vs Q E hr h => ?_)
  · obtain ⟨lo, hi, rfl, hb, q⟩ := h; rfl
  · obtain ⟨lo, hi, rfl, hb, q⟩ := h
    refine ⟨_, (pss_cons (ps_expr (pe_cal C_look_at_bounds (hr.mono (by decide)) (pa_cons (pv 0) (pa_cons (pv 1) pa_nil))))
      (pss_cons (ps_set (i := 2) sc_in_bits.nd rfl (.inl rfl) pe_int)
      (pss_cons (ps_while PassesOwn.never (pt_cmpR op_gt (pe_cal C__steps_over (hr.mono (by decide)) (pa_cons (pv 0) (pa_cons (pv 1) (pa_cons (pv 2) pa_nil)))) (pe_glob (v := .int 16) (by rfl) hc_TOP_COUNT ⟨_, rfl⟩) (nomark _)) (pss_one (ps_aug (i := 2) sc_in_bits.nd rfl (.inl rfl) pe_int ip_add)))
      (pss_one (ps_ret (pe_tup (pa_cons (pv 2) (pa_cons (pe_op op_shr (pv 0) (pv 2)) (pa_cons (pe_cal C__steps_over (hr.mono (by decide)) (pa_cons (pv 0) (pa_cons (pv 1) (pa_cons (pv 2) pa_nil)))) pa_nil))))))))), ?_⟩
    refine ⟨_, rfl, _, rfl, lo, hi, rfl, hb, ?_⟩
    refine ⟨fun m σ H' => ∃ s : Nat, σ = [some (.int lo), some (.int hi), some (.int s)] ∧ H' = H ∧ s ≤ 8 ∧ m = 8 - s ∧ ∀ t, t < s → 15 < Dd lo hi t, ⟨8, 0, rfl, rfl, by omega, rfl, fun t ht => by omega⟩, ?_⟩
    rintro m σ H' ⟨s, rfl, rfl, h8, em, hbl⟩
    refine ⟨_, rfl, _, rfl, _, rfl, lo, hi, s, rfl, by omega, ?_⟩
    refine ⟨_, _, rfl, rfl, _, rfl, ifd (fun c => ?_) (fun c => ?_)⟩
    · have l8 := lt8 hb (by omega) h8
      refine ⟨_, fun _ _ h => h, ?_⟩
      refine ⟨_, rfl, _, _, rfl, rfl, 8 - (s + 1), by omega, s + 1, rfl, rfl, by omega, rfl, fun t ht => ?_⟩
      rcases Nat.lt_or_ge t s with d | d
      · exact hbl t d
      · have : t = s := by omega
        subst this; omega
    · refine ⟨_, rfl, _, rfl, _, rfl, _, _, rfl, rfl, by omega, ?_⟩
      refine ⟨_, rfl, _, rfl, _, rfl, lo, hi, s, rfl, by omega, ?_⟩
      refine ⟨sz (by simp), fun p hp => ?_⟩
      exact q s p ⟨h8, by omega, hbl⟩ hp

def sp_least_bounds (K : PySem.W.Frag) : Sp := fun vs H Q _ => ∃ lo hi, vs = [.int lo, .int hi] ∧ Bd lo hi ∧ ∀ (s : Nat) p H', StepIs lo hi s → Same H H' → H p = none → H' p = some (.tup [.int (lo / 2 ^ s * 2 ^ s), .int (((hi - 1) / 2 ^ s + 1) * 2 ^ s)]) → Q (.ref p) H'
theorem ok_least_bounds {f : Addr} {fd : FuncData} (F : Fun K "least_bounds" "least_bounds" s_least_bounds f fd) (T : Txt K mg) (C_in_bits : Cal P w K mg base "in_bits" 4 ["low", "high"] (sp_in_bits K)) : FnOk P w K mg base CX0 5 f fd ["low", "high"] (sp_least_bounds K) := by
  refine F.ok sc_least_bounds (fun vs H Q E h => ?_) (fun cdv A outer s H vs Q E hr h => ?_)
  · obtain ⟨lo, hi, rfl, hb, q⟩ := h; rfl
  · obtain ⟨lo, hi, rfl, hb, q⟩ := h
    refine ⟨_, (pss_cons (ps_asg (pe_cal C_in_bits (hr.mono (by decide)) (pa_cons (pv 0) (pa_cons (pv 1) pa_nil))) (pg_tup rfl (pgs_cons (pg_name (i := 2) sc_least_bounds.nd rfl (.inl rfl)) (pgs_cons (pg_name (i := 3) sc_least_bounds.nd rfl (.inl rfl)) (pgs_cons (pg_name (i := 4) sc_least_bounds.nd rfl (.inl rfl)) pgs_nil)))))
      (pss_one (ps_ret (pe_tup (pa_cons (pe_op op_shl (pv 3) (pv 2)) (pa_cons (pe_op op_shl (pe_op op_add (pv 3) (pv 4)) (pv 2)) pa_nil)))))), ?_⟩
    refine ⟨_, rfl, _, rfl, lo, hi, rfl, hb, fun s p hs hp => ?_⟩
    refine ⟨p, _, rfl, .of upd_same, rfl, _, _, rfl, _, _, rfl, _, _, rfl, rfl, ?_⟩
    have h8 := hs.1
    refine ⟨_, rfl, _, rfl, _, _, rfl, rfl, bc hb h8, ?_⟩
    refine ⟨_, rfl, _, rfl, _, _, rfl, rfl, _, rfl, _, _, rfl, rfl, bc2 hb hs, sz (by simp), fun p2 hp2 => ?_⟩
    have n : p ≠ p2 := ne_of_none upd_same hp2
    refine q s p2 _ hs (sameN (same_new hp) hp2) ?_ ?_
    · exact Same.free (same_new hp) hp2
    · rw [upd_same, first_over]; rfl

def sp_is_exact (K : PySem.W.Frag) : Sp := fun vs H Q _ => ∃ lo hi, vs = [.int lo, .int hi] ∧ Bd lo hi ∧ ∀ b H', Same H H' → (b = true ↔ ∃ s, Ex lo hi s) → Q (.bl b) H'
theorem ok_is_exact {f : Addr} {fd : FuncData} (F : Fun K "is_exact" "is_exact" s_is_exact f fd) (T : Txt K mg) (C_least_bounds : Cal P w K mg base "least_bounds" 5 ["low", "high"] (sp_least_bounds K)) : FnOk P w K mg base CX0 6 f fd ["low", "high"] (sp_is_exact K) := by
  refine F.ok sc_is_exact (fun vs H Q E h => ?_) (fun cdv A outer s H vs Q E hr h => ?_)
  · obtain ⟨lo, hi, rfl, hb, q⟩ := h; rfl
  · obtain ⟨lo, hi, rfl, hb, q⟩ := h
    refine ⟨_, (pss_one (ps_ret (pe_cmpR (r := rEqD K) (op_eqD hr.units) (pe_cal C_least_bounds (hr.mono (by decide)) (pa_cons (pv 0) (pa_cons (pv 1) pa_nil))) (pe_tup (pa_cons (pv 0) (pa_cons (pv 1) pa_nil))) (nomark _)))), ?_⟩
    refine ⟨_, rfl, _, rfl, lo, hi, rfl, hb, fun s p H1 hs sm hp hp1 => ?_⟩
    refine ⟨_, rfl, _, rfl, sz (by simp), fun p2 hp2 => ?_⟩
    have n : p ≠ p2 := ne_of_none hp1 hp2
    refine ⟨_, _, dp2 (by walk_at "at"), dp2 upd_same, rfl, rfl, ?_⟩
    refine q _ _ (sameN sm hp2) ?_
    rw [t2_eqv]
    constructor
    · intro e; exact ⟨s, hs, e.1, e.2⟩
    · rintro ⟨t, ht, e1, e2⟩
      have : t = s := ht.uniq hs
      subst this
      exact ⟨e1, e2⟩

def sp__has_some (K : PySem.W.Frag) : Sp := fun vs H Q _ => ∃ r g : Str, vs = [.str r, .str g] ∧ g.cps.size ≤ 9 ∧ ∀ H', Same H H' → Q (.bl (hasG r g)) H'
theorem ok__has_some {f : Addr} {fd : FuncData} (F : Fun K "_has_some" "_has_some" s__has_some f fd) (T : Txt K mg) : FnOk P w K mg base CX0 1 f fd ["rights", "group"] (sp__has_some K) := by
  refine F.ok sc__has_some (fun vs H Q E h => ?_) (fun cdv A outer s H vs Q E hr h => ?_)
  · obtain ⟨r, g, rfl, hg, q⟩ := h; rfl
  · obtain ⟨r, g, rfl, hg, q⟩ := h
    refine ⟨_, (pss_one (ps_ret (pe_callB (cr_any rfl) (by rfl) T.z_any (by decide +kernel) (pa_cons (pe_lc (own := [("sign", 2)]) rfl sc__has_some.nd (pi_str (pv 1)) (blkOk_by (own := [("sign", 2)]) (N := ["rights", "group", "sign"]) (sc := defScope s__has_some) (by decide +kernel)) (fun _ _ _ _ _ => (pg_name (i := 2) sc__has_some.nd rfl (.inl rfl))) (fun _ _ _ _ _ => pts_nil) (fun _ _ _ _ _ => (pe_cmpR op_in_sign (pv 2) (pv 0) (by rfl)))) pa_nil)))), ?_⟩
    refine ⟨_, rfl, g, rfl, fun D hD => ?_⟩
    refine lc_it (walk_str (z := g)) (fun i H' => Same H H' ∧ H' D = some (.lst (((g.cps.toList.take i).map fun c => decide (c ∈ r.cps.toList)).map V.bl))) ⟨same_new hD, upd_same⟩ (fun _ _ _ _ => trivial) ?_ ?_
    · rintro i x H1 H2 hi ⟨sm, hl⟩ ⟨rfl, c, hc, rfl⟩
      refine ⟨rfl, ?_⟩
      refine ⟨_, rfl, _, rfl, c, r, rfl, rfl, _, hl, ?_, ?_, ?_⟩
      · rw [List.length_map, List.length_map, List.length_take]; exact szn (by omega)
      · exact fun b o e => by
          have n : b ≠ D := ne_of_none e hD
          rw [upd_ne n]; exact sm b o e
      · rw [upd_same, take_any hi, List.map_append]
        have e : g.cps[i] = c := by
          have := Array.getElem?_eq_getElem hi
          rw [this] at hc
          exact Option.some.inj hc
        rw [e]; rfl
    · rintro H1 ⟨sm, hl⟩
      refine ⟨D, _, rfl, .of hl, ?_⟩
      have e : (((g.cps.toList.take g.cps.size).map fun c => decide (c ∈ r.cps.toList)).any id) = hasG r g := by
        rw [show g.cps.size = g.cps.toList.length by simp, List.take_length]
        unfold hasG
        rw [List.any_map]; rfl
      exact qb (q _ sm) e

def sp__lead_one_way (K : PySem.W.Frag) : Sp := fun vs H Q _ => ∃ r : Str, vs = [.str r] ∧ ∀ H', Same H H' → Q (.bl (decide (([G0, G1, G2].filter (hasG r)).length ≤ 1))) H'
theorem ok__lead_one_way {f : Addr} {fd : FuncData} (F : Fun K "_lead_one_way" "_lead_one_way" s__lead_one_way f fd) (T : Txt K mg) (C__has_some : Cal P w K mg base "_has_some" 1 ["rights", "group"] (sp__has_some K)) : FnOk P w K mg base CX0 2 f fd ["rights"] (sp__lead_one_way K) := by
  obtain ⟨p_GROUPS, hc_GROUPS, hs_GROUPS⟩ := T.c_GROUPS
  refine F.ok sc__lead_one_way (fun vs H Q E h => ?_) (fun cdv A outer s H vs Q E hr h => ?_)
  · obtain ⟨r, rfl, q⟩ := h; rfl
  · obtain ⟨r, rfl, q⟩ := h
    refine ⟨_, (pss_one (ps_ret (pe_cmpR op_le (pe_callB call_len_seq (by rfl) T.z_len (by decide +kernel) (pa_cons (pe_lc (own := [("group", 1)]) rfl sc__lead_one_way.nd (pi_tup (pe_glob (v := .ref p_GROUPS) (by rfl) hc_GROUPS rfl)) (blkOk_by (own := [("group", 1)]) (N := ["rights", "group"]) (sc := defScope s__lead_one_way) (by decide +kernel)) (fun _ _ _ _ _ => (pg_name (i := 1) sc__lead_one_way.nd rfl (.inl rfl))) (fun _ _ _ _ _ => (pts_one (pt_val (pe_cal C__has_some (hr.mono (by decide)) (pa_cons (pv 0) (pa_cons (pv 1) pa_nil)))))) (fun _ _ _ _ _ => (pv 1))) pa_nil)) pe_int (nomark _)))), ?_⟩
    refine ⟨p_GROUPS, rfl, ⟨_, hs_GROUPS _⟩, fun D hD => ?_⟩
    refine lc_it (walk_tup (xs := [.str G0, .str G1, .str G2])) (fun i H' => Same H H' ∧ H' D = some (.lst ((([G0, G1, G2].take i).filter (hasG r)).map V.str))) ⟨same_new hD, upd_same⟩ (fun _ _ _ _ => hs_GROUPS _) ?_ ?_
    · rintro i x H1 H2 hi ⟨sm, hl⟩ ⟨rfl, hx⟩
      obtain ⟨g, hg, rfl⟩ : ∃ g, [G0, G1, G2][i]? = some g ∧ x = V.str g := by
        have : i = 0 ∨ i = 1 ∨ i = 2 := by simp at hi; omega
        rcases this with e | e | e <;> subst e <;> exact ⟨_, rfl, (Option.some.inj hx).symm⟩
      have hg9 : g.cps.size ≤ 9 := by
        have : i = 0 ∨ i = 1 ∨ i = 2 := by simp at hi; omega
        rcases this with e | e | e <;> subst e <;> (cases hg; decide +kernel)
      refine ⟨rfl, ?_⟩
      refine ⟨_, rfl, _, rfl, r, g, rfl, hg9, fun H3 s3 => ⟨_, rfl, ?_⟩⟩
      have tk : [G0, G1, G2].take (i + 1) = [G0, G1, G2].take i ++ [g] := by rw [List.take_add_one, hg]; rfl
      have sm3 := sm.trans s3
      refine ifb (fun e => ?_) (fun e => ?_)
      · refine ⟨_, rfl, _, s3 _ _ hl, ?_, ?_, ?_⟩
        · rw [List.length_map]
          have h1 := List.length_filter_le (hasG r) ([G0, G1, G2].take i)
          have h2 : ([G0, G1, G2].take i).length ≤ 3 := by rw [List.length_take]; exact Nat.min_le_right _ _
          exact szn (by omega)
        · exact fun b o e => by
            have n : b ≠ D := ne_of_none e hD
            rw [upd_ne n]; exact sm3 b o e
        · rw [upd_same, tk, List.filter_append, List.map_append]
          simp [e]
      · refine ⟨sm3, ?_⟩
        rw [tk, List.filter_append]
        simp [e]
        exact s3 _ _ hl
    · rintro H1 ⟨sm, hl⟩
      refine ⟨D, _, rfl, .inl (.of hl), _, _, rfl, rfl, ?_⟩
      have e : decide (((([G0, G1, G2].take 3).filter (hasG r)).map V.str).length ≤ (1 : Int)) = decide (([G0, G1, G2].filter (hasG r)).length ≤ 1) := by
        rw [List.length_map, show [G0, G1, G2].take 3 = [G0, G1, G2] from rfl]
        rw [decide_eq_decide]
        omega
      exact qb (q _ sm) e

def sp_bits_of_rights (K : PySem.W.Frag) : Sp := fun vs H Q _ => ∃ r : Str, vs = [.str r] ∧ ∀ H', Same H H' → Q (.int (maskOf r)) H'
theorem ok_bits_of_rights {f : Addr} {fd : FuncData} (F : Fun K "bits_of_rights" "bits_of_rights" s_bits_of_rights f fd) (T : Txt K mg) : FnOk P w K mg base CX0 1 f fd ["rights"] (sp_bits_of_rights K) := by
  obtain ⟨t_RIGHTS, hc_RIGHTS⟩ := T.c_RIGHTS
  refine F.ok sc_bits_of_rights (fun vs H Q E h => ?_) (fun cdv A outer s H vs Q E hr h => ?_)
  · obtain ⟨r, rfl, q⟩ := h; rfl
  · obtain ⟨r, rfl, q⟩ := h
    refine ⟨_, (pss_one (ps_ret (pe_callB (cr_sum rfl) (by rfl) T.z_sum (by decide +kernel) (pa_cons (pe_lc (own := [("k", 1), ("sign", 2)]) (g := gTup K 2 (gCons (gName 1) (gCons (gName 2) gNil))) rfl sc_bits_of_rights.nd (pi_enumS (by rfl) T.z_enumerate (pa_cons (pe_glob (v := .str (Str.ofString "rwlsnfxco")) (by rfl) hc_RIGHTS ⟨_, rfl⟩) pa_nil)) (blkOk_by (own := [("k", 1), ("sign", 2)]) (N := ["rights", "k", "sign"]) (sc := defScope s_bits_of_rights) (by decide +kernel)) (fun _ _ _ _ _ => by exact (pg_tup rfl (pgs_cons (pg_name (i := 1) sc_bits_of_rights.nd rfl (.inl rfl)) (pgs_cons (pg_name (i := 2) sc_bits_of_rights.nd rfl (.inl rfl)) pgs_nil)))) (fun _ _ _ _ _ => (pts_one (pt_cmpR op_in_sign (pv 2) (pv 0) (by rfl)))) (fun _ _ _ _ _ => (pe_op op_shl pe_int (pv 1)))) pa_nil)))), ?_⟩
    refine ⟨RT, rfl, fun D hD => ?_⟩
    refine lc_it (walk_enumS (z := RT)) (fun i H' => Same H H' ∧ H' D = some (.lst ((mask (hasR r) i).map V.int))) ⟨same_new hD, upd_same⟩ (fun _ _ _ _ => trivial) ?_ ?_
    · rintro i x H1 H2 hi ⟨sm, hl⟩ ⟨Tp, x1, y1, rfl, hn, rfl, hx1, hy1⟩
      rw [RT_size] at hi
      have hy1 : (RT.cps[i]?).map (fun c => V.str ⟨#[c]⟩) = some y1 := hy1
      rw [RT_get i hi] at hy1
      have e1 : x1 = .int (i : Int) := (Option.some.inj hx1).symm
      have e2 : y1 = .str (one (code i)) := (Option.some.inj hy1).symm
      subst e1 e2
      have nD : D ≠ Tp := ne_of_none hl hn
      refine ⟨Tp, _, rfl, .of upd_same, rfl, _, _, rfl, _, _, rfl, rfl, wp2 (by simp) (by simp), ?_⟩
      refine ⟨_, rfl, _, rfl, code i, r, rfl, rfl, _, rfl, ifb (fun e => ?_) (fun e => ?_)⟩
      · refine ⟨_, rfl, _, _, rfl, rfl, ⟨by omega, by omega, by decide⟩, _, (by rw [upd_ne nD]; exact hl), ?_, ?_, ?_⟩
        · rw [List.length_map]
          have := mask_len (hasR r) i
          exact szn (by omega)
        · exact fun b o e => by
            have n : b ≠ D := ne_of_none e hD
            have n2 : b ≠ Tp := ne_of_none (sm b o e) hn
            rw [upd_ne n, upd_ne n2]; exact sm b o e
        · rw [upd_same, mask_succ, List.map_append, if_pos (show hasR r i = true from e)]
          show some (HO.lst (_ ++ [V.int (1 * 2 ^ i)])) = some (HO.lst (_ ++ [V.int (2 ^ i)]))
          rw [Int.one_mul]
      · refine ⟨sameN sm hn, ?_⟩
        rw [upd_ne nD, mask_succ, if_neg (by unfold hasR; rw [e]; exact Bool.false_ne_true), List.append_nil]
        exact hl
    · rintro H1 ⟨sm, hl⟩
      rw [RT_size] at hl
      exact ⟨D, _, rfl, .of hl, q _ sm⟩

def sp_field (K : PySem.W.Frag) : Sp := fun vs H Q _ => ∃ (b : Int) (p : Addr) (lo mn : Nat), vs = [.int b, .ref p] ∧ SqT K H p [.int lo, .int mn] ∧ 0 ≤ b ∧ lo ≤ 100 ∧ mn ≤ 100 ∧ Q (.int (b / 2 ^ lo % 2 ^ mn)) H
theorem ok_field {f : Addr} {fd : FuncData} (F : Fun K "field" "field" s_field f fd) (T : Txt K mg) : FnOk P w K mg base CX0 1 f fd ["bits", "place"] (sp_field K) := by
  refine F.ok sc_field (fun vs H Q E h => ?_) (fun cdv A outer s H vs Q E hr h => ?_)
  · obtain ⟨b, p, lo, mn, rfl, hp, hb, hlo, hmn, q⟩ := h; rfl
  · obtain ⟨b, p, lo, mn, rfl, hp, hb, hlo, hmn, q⟩ := h
    refine ⟨_, (pss_cons (ps_asg (pv 1) (pg_tup rfl (pgs_cons (pg_name (i := 2) sc_field.nd rfl (.inl rfl)) (pgs_cons (pg_name (i := 3) sc_field.nd rfl (.inl rfl)) pgs_nil))))
      (pss_one (ps_ret (pe_op op_and (pe_op op_shr (pv 0) (pv 2)) (pe_op op_sub (pe_op op_shl pe_int (pv 3)) pe_int))))), ?_⟩
    refine ⟨_, rfl, p, _, rfl, hp, rfl, _, _, rfl, _, _, rfl, rfl, ?_⟩
    refine ⟨_, rfl, _, rfl, _, _, rfl, rfl, by omega, _, rfl, _, _, rfl, rfl, ⟨by omega, by omega, by decide⟩, _, _, rfl, rfl, _, _, rfl, rfl, ?_⟩
    have e : Builtin.bitAnd (b / 2 ^ lo) (1 * 2 ^ mn - 1) = b / 2 ^ lo % 2 ^ mn := by
      rw [Int.one_mul, Bits.bitAnd_mask mn (Int.ediv_nonneg hb (Int.le_of_lt (pow_pos2 lo)))]
    exact qi q e

def sp_rights_in (K : PySem.W.Frag) : Sp := fun vs H Q _ => ∃ b : Int, vs = [.int b] ∧ 0 ≤ b ∧ ∀ H', Same H H' → Q (.str (rtx (bitp (fRts b)))) H'
theorem ok_rights_in {f : Addr} {fd : FuncData} (F : Fun K "rights_in" "rights_in" s_rights_in f fd) (T : Txt K mg) (C_field : Cal P w K mg base "field" 1 ["bits", "place"] (sp_field K)) : FnOk P w K mg base CX0 2 f fd ["bits"] (sp_rights_in K) := by
  obtain ⟨t_RIGHTS, hc_RIGHTS⟩ := T.c_RIGHTS
  obtain ⟨p_RIGHTS_BITS, hc_RIGHTS_BITS, hs_RIGHTS_BITS⟩ := T.c_RIGHTS_BITS
  refine F.ok sc_rights_in (fun vs H Q E h => ?_) (fun cdv A outer s H vs Q E hr h => ?_)
  · obtain ⟨b, rfl, hb, q⟩ := h; rfl
  · obtain ⟨b, rfl, hb, q⟩ := h
    refine ⟨_, (pss_cons (ps_set (i := 1) sc_rights_in.nd rfl (.inr rfl) (pe_cal C_field (hr.mono (by decide)) (pa_cons (pv 0) (pa_cons (pe_glob (v := .ref p_RIGHTS_BITS) (by rfl) hc_RIGHTS_BITS rfl) pa_nil))))
      (pss_one (ps_ret (pe_join pe_str (pe_lc (own := [("k", 2), ("sign", 3)]) (g := gTup K 2 (gCons (gName 2) (gCons (gName 3) gNil))) rfl sc_rights_in.nd (pi_enumS (by rfl) T.z_enumerate (pa_cons (pe_glob (v := .str (Str.ofString "rwlsnfxco")) (by rfl) hc_RIGHTS ⟨_, rfl⟩) pa_nil)) (blkOk_by (own := [("k", 2), ("sign", 3)]) (N := ["bits", "number", "k", "sign"]) (sc := defScope s_rights_in) (by decide +kernel)) (fun _ _ _ _ _ => by exact (pg_tup rfl (pgs_cons (pg_name (i := 2) sc_rights_in.nd rfl (.inl rfl)) (pgs_cons (pg_name (i := 3) sc_rights_in.nd rfl (.inl rfl)) pgs_nil)))) (fun _ _ _ _ _ => (pts_one (pt_cmpR op_eq (pe_op op_and (pe_op op_shr (pv 1) (pv 2)) pe_int) pe_int (nomark _)))) (fun _ _ _ _ _ => (pv 3))))))), ?_⟩
    refine ⟨_, rfl, b, p_RIGHTS_BITS, 32, 9, rfl, hs_RIGHTS_BITS _, hb, by decide, by decide, ?_⟩
    refine ⟨⟨_, rfl⟩, RT, rfl, fun D hD => ?_⟩
    have h0 : 0 ≤ fRts b := Int.emod_nonneg _ (by decide)
    refine lc_it (walk_enumS (z := RT)) (fun i H' => Same H H' ∧ H' D = some (.lst ((rcs (bitp (fRts b)) i).map V.str))) ⟨same_new hD, upd_same⟩ (fun _ _ _ _ => trivial) ?_ ?_
    · rintro i x H1 H2 hi ⟨sm, hl⟩ ⟨Tp, x1, y1, rfl, hn, rfl, hx1, hy1⟩
      rw [RT_size] at hi
      have hy1 : (RT.cps[i]?).map (fun c => V.str ⟨#[c]⟩) = some y1 := hy1
      rw [RT_get i hi] at hy1
      have e1 : x1 = .int (i : Int) := (Option.some.inj hx1).symm
      have e2 : y1 = .str (one (code i)) := (Option.some.inj hy1).symm
      subst e1 e2
      have nD : D ≠ Tp := ne_of_none hl hn
      refine ⟨Tp, _, rfl, .of upd_same, rfl, _, _, rfl, _, _, rfl, rfl, wp2 (by simp) (by simp), ?_⟩
      have eb : Builtin.bitAnd (fRts b / 2 ^ i) 1 = fRts b / 2 ^ i % 2 := by
        have := Bits.bitAnd_mask 1 (x := fRts b / 2 ^ i) (Int.ediv_nonneg h0 (Int.le_of_lt (pow_pos2 i)))
        exact this
      refine ⟨_, rfl, _, rfl, _, _, rfl, rfl, by omega, _, _, rfl, rfl, rfl, _, rfl, ifd (fun e => ?_) (fun e => ?_)⟩
      · have e3 : bitp (fRts b) i = true := by
          unfold bitp
          rw [← eb]
          exact decide_eq_true (V.int.inj e)
        refine ⟨_, rfl, _, (by rw [upd_ne nD]; exact hl), ?_, ?_, ?_⟩
        · rw [List.length_map]
          have := rcs_len (bitp (fRts b)) i
          exact szn (by omega)
        · exact fun b o e => by
            have n : b ≠ D := ne_of_none e hD
            have n2 : b ≠ Tp := ne_of_none (sm b o e) hn
            rw [upd_ne n, upd_ne n2]; exact sm b o e
        · rw [upd_same, rcs_succ, List.map_append, if_pos e3]; rfl
      · refine ⟨sameN sm hn, ?_⟩
        have e3 : ¬ bitp (fRts b) i = true := by
          unfold bitp
          rw [← eb]
          intro z
          exact e (congrArg V.int (of_decide_eq_true z))
        rw [upd_ne nD, rcs_succ, if_neg e3, List.append_nil]
        exact hl
    · rintro H1 ⟨sm, hl⟩
      rw [RT_size] at hl
      exact ⟨_, D, _, rfl, rfl, .inl (.of hl), rcs_fit _, q _ sm⟩

def sp__tell (K : PySem.W.Frag) : Sp := fun vs H Q _ => ∃ b : Int, vs = [.int b] ∧ 0 ≤ b ∧ ∀ c, (c = true ↔ Tells b) → Q (.bl c) H
theorem ok__tell {f : Addr} {fd : FuncData} (F : Fun K "_tell" "_tell" s__tell f fd) (T : Txt K mg) (C_field : Cal P w K mg base "field" 1 ["bits", "place"] (sp_field K)) : FnOk P w K mg base CX0 2 f fd ["bits"] (sp__tell K) := by
  obtain ⟨t_CELLS, hc_CELLS⟩ := T.c_CELLS
  obtain ⟨p_COUNT_LESS_ONE, hc_COUNT_LESS_ONE, hs_COUNT_LESS_ONE⟩ := T.c_COUNT_LESS_ONE
  obtain ⟨p_FIRST, hc_FIRST, hs_FIRST⟩ := T.c_FIRST
  obtain ⟨t_LEAST_COUNT, hc_LEAST_COUNT⟩ := T.c_LEAST_COUNT
  obtain ⟨p_STEP, hc_STEP, hs_STEP⟩ := T.c_STEP
  obtain ⟨t_TOP_STEP, hc_TOP_STEP⟩ := T.c_TOP_STEP
  refine F.ok sc__tell (fun vs H Q E h => ?_) (fun cdv A outer s H vs Q E hr h => ?_)
  · obtain ⟨b, rfl, hb, q⟩ := h; rfl
  · obtain ⟨b, rfl, hb, q⟩ := h
    refine ⟨_, (pss_cons (ps_set (i := 1) sc__tell.nd rfl (.inl rfl) (pe_cal C_field (hr.mono (by decide)) (pa_cons (pv 0) (pa_cons (pe_glob (v := .ref p_STEP) (by rfl) hc_STEP rfl) pa_nil))))
      (pss_cons (ps_set (i := 2) sc__tell.nd rfl (.inl rfl) (pe_op op_add (pe_cal C_field (hr.mono (by decide)) (pa_cons (pv 0) (pa_cons (pe_glob (v := .ref p_COUNT_LESS_ONE) (by rfl) hc_COUNT_LESS_ONE rfl) pa_nil))) pe_int))
      (pss_cons (ps_if (PW.pt (pw_or (pt_cmpR op_gt (pv 1) (pe_glob (v := .int 8) (by rfl) hc_TOP_STEP ⟨_, rfl⟩) (nomark _)) (pw_or1 (PW.pt (pw_and (pt_cmpR op_gt (pv 1) pe_int (nomark _)) (pw_and1 (pt_cmpR op_lt (pv 2) (pe_glob (v := .int 9) (by rfl) hc_LEAST_COUNT ⟨_, rfl⟩) (nomark _)))))))) (pss_one (ps_ret pe_bl)) pss_nil)
      (pss_one (ps_ret (pe_cmpR op_le (pe_op op_shl (pe_op op_add (pe_cal C_field (hr.mono (by decide)) (pa_cons (pv 0) (pa_cons (pe_glob (v := .ref p_FIRST) (by rfl) hc_FIRST rfl) pa_nil))) (pv 2)) (pv 1)) (pe_glob (v := .int 4096) (by rfl) hc_CELLS ⟨_, rfl⟩) (nomark _))))))), ?_⟩
    have f := fb b
    refine ⟨_, rfl, b, p_STEP, 28, 4, rfl, hs_STEP _, hb, by decide, by decide, ?_⟩
    refine ⟨_, rfl, b, p_COUNT_LESS_ONE, 24, 4, rfl, hs_COUNT_LESS_ONE _, hb, by decide, by decide, _, _, rfl, rfl, ?_⟩
    refine ⟨_, rfl, _, _, rfl, rfl, _, rfl, ifd (fun c1 => ?_) (fun c1 => ?_)⟩
    · have c2 : 8 < fStep b := c1
      show Q (.bl false) H
      exact q _ ⟨fun h => Bool.noConfusion h, fun h => absurd h.1 (by omega)⟩
    have c2 : ¬ 8 < fStep b := c1
    have fin : ((fStep b = 0 ∨ 9 ≤ fCnt b)) → Q (.bl (decide ((fFirst b + fCnt b) * 2 ^ (fStep b).toNat ≤ 4096))) H := fun z => by
      refine q _ ?_
      rw [decide_eq_true_iff]
      exact ⟨fun h => ⟨by omega, z, h⟩, fun h => h.2.2⟩
    refine ⟨_, rfl, _, _, rfl, rfl, _, rfl, ifd (fun c3 => ?_) (fun c3 => ?_)⟩
    · have c4 : 0 < fStep b := c3
      refine ⟨_, rfl, _, _, rfl, rfl, _, rfl, ifd (fun c5 => ?_) (fun c5 => ?_)⟩
      · have c6 : fCnt b < 9 := c5
        show Q (.bl false) H
        exact q _ ⟨fun h => Bool.noConfusion h, fun h => by have := h.2.1; omega⟩
      · have c6 : ¬ fCnt b < 9 := c5
        refine ⟨_, rfl, b, p_FIRST, 12, 12, rfl, hs_FIRST _, hb, by decide, by decide, _, rfl, _, _, rfl, rfl, _, rfl, _, _, rfl, rfl, cpw (z := fFirst b + fCnt b) (s := fStep b) (by omega) (by omega) (by omega) (by omega), _, _, rfl, rfl, fin (.inr (by omega))⟩
    · have c4 : ¬ 0 < fStep b := c3
      refine ⟨_, rfl, b, p_FIRST, 12, 12, rfl, hs_FIRST _, hb, by decide, by decide, _, rfl, _, _, rfl, rfl, _, rfl, _, _, rfl, rfl, cpw (z := fFirst b + fCnt b) (s := fStep b) (by omega) (by omega) (by omega) (by omega), _, _, rfl, rfl, fin (.inl (by omega))⟩

def sp_bounds_in (K : PySem.W.Frag) : Sp := fun vs H Q _ => ∃ b : Int, vs = [.int b] ∧ 0 ≤ b ∧ ∀ p H', Same H H' → H p = none → H' p = some (.tup [.int (fFirst b * 2 ^ (fStep b).toNat), .int ((fFirst b + fCnt b) * 2 ^ (fStep b).toNat)]) → Q (.ref p) H'
theorem ok_bounds_in {f : Addr} {fd : FuncData} (F : Fun K "bounds_in" "bounds_in" s_bounds_in f fd) (T : Txt K mg) (C_field : Cal P w K mg base "field" 1 ["bits", "place"] (sp_field K)) : FnOk P w K mg base CX0 2 f fd ["bits"] (sp_bounds_in K) := by
  obtain ⟨p_COUNT_LESS_ONE, hc_COUNT_LESS_ONE, hs_COUNT_LESS_ONE⟩ := T.c_COUNT_LESS_ONE
  obtain ⟨p_FIRST, hc_FIRST, hs_FIRST⟩ := T.c_FIRST
  obtain ⟨p_STEP, hc_STEP, hs_STEP⟩ := T.c_STEP
  refine F.ok sc_bounds_in (fun vs H Q E h => ?_) (fun cdv A outer s H vs Q E hr h => ?_)
  · obtain ⟨b, rfl, hb, q⟩ := h; rfl
  · obtain ⟨b, rfl, hb, q⟩ := h
    refine ⟨_, (pss_cons (ps_set (i := 1) sc_bounds_in.nd rfl (.inl rfl) (pe_cal C_field (hr.mono (by decide)) (pa_cons (pv 0) (pa_cons (pe_glob (v := .ref p_STEP) (by rfl) hc_STEP rfl) pa_nil))))
      (pss_cons (ps_set (i := 2) sc_bounds_in.nd rfl (.inl rfl) (pe_cal C_field (hr.mono (by decide)) (pa_cons (pv 0) (pa_cons (pe_glob (v := .ref p_FIRST) (by rfl) hc_FIRST rfl) pa_nil))))
      (pss_one (ps_ret (pe_tup (pa_cons (pe_op op_shl (pv 2) (pv 1)) (pa_cons (pe_op op_shl (pe_op op_add (pe_op op_add (pv 2) (pe_cal C_field (hr.mono (by decide)) (pa_cons (pv 0) (pa_cons (pe_glob (v := .ref p_COUNT_LESS_ONE) (by rfl) hc_COUNT_LESS_ONE rfl) pa_nil)))) pe_int) (pv 1)) pa_nil))))))), ?_⟩
    have f := fb b
    refine ⟨_, rfl, b, p_STEP, 28, 4, rfl, hs_STEP _, hb, by decide, by decide, ?_⟩
    refine ⟨_, rfl, b, p_FIRST, 12, 12, rfl, hs_FIRST _, hb, by decide, by decide, ?_⟩
    refine ⟨_, rfl, _, rfl, _, _, rfl, rfl, cpw (z := fFirst b) (s := fStep b) (by omega) (by omega) (by omega) (by omega), ?_⟩
    refine ⟨_, rfl, _, rfl, b, p_COUNT_LESS_ONE, 24, 4, rfl, hs_COUNT_LESS_ONE _, hb, by decide, by decide, _, _, rfl, rfl, _, _, rfl, rfl, _, rfl, _, _, rfl, rfl, cpw (z := fFirst b + (b / 2 ^ 24 % 2 ^ 4) + 1) (s := fStep b) (by unfold fCnt at f; omega) (by unfold fCnt at f; omega) (by omega) (by omega), sz (by simp), fun p hp => ?_⟩
    refine q p _ (same_new hp) hp ?_
    rw [upd_same]
    have e2 : fFirst b + (b / 2 ^ 24 % 2 ^ 4) + 1 = fFirst b + fCnt b := by unfold fCnt; omega
    rw [← e2]
    rfl

def sp_fields_of (K : PySem.W.Frag) : Sp := fun vs H Q _ => ∃ (p : Addr) (v : V) (b : Int), vs = [.ref p] ∧ H p = some (.tup [v, .int b]) ∧ 0 ≤ b ∧ (¬ Tells b → ∀ H', Same H H' → Q .non H') ∧ (Tells b → ∀ q H', Same H H' → H q = none → H' q = some (.tup [.int (fFirst b * 2 ^ (fStep b).toNat), .int ((fFirst b + fCnt b) * 2 ^ (fStep b).toNat), .int (fAt b), .str (rtx (bitp (fRts b))), .int (fKind b)]) → Q (.ref q) H')
theorem ok_fields_of {f : Addr} {fd : FuncData} (F : Fun K "fields_of" "fields_of" s_fields_of f fd) (T : Txt K mg) (C_field : Cal P w K mg base "field" 1 ["bits", "place"] (sp_field K)) (C_rights_in : Cal P w K mg base "rights_in" 2 ["bits"] (sp_rights_in K)) (C__tell : Cal P w K mg base "_tell" 2 ["bits"] (sp__tell K)) (C_bounds_in : Cal P w K mg base "bounds_in" 2 ["bits"] (sp_bounds_in K)) : FnOk P w K mg base CX0 3 f fd ["word"] (sp_fields_of K) := by
  obtain ⟨p_AT, hc_AT, hs_AT⟩ := T.c_AT
  obtain ⟨p_KIND, hc_KIND, hs_KIND⟩ := T.c_KIND
  refine F.ok sc_fields_of (fun vs H Q E h => ?_) (fun cdv A outer s H vs Q E hr h => ?_)
  · obtain ⟨p, v, b, rfl, hp, hb, q1, q2⟩ := h; rfl
  · obtain ⟨p, v, b, rfl, hp, hb, q1, q2⟩ := h
    refine ⟨_, (pss_cons (ps_set (i := 1) sc_fields_of.nd rfl (.inl rfl) (pe_ix (r := rIxT K) ix_tup (pv 0) pe_int (fun _ _ => rfl)))
      (pss_cons (ps_if (pt_not (pt_val (pe_cal C__tell (hr.mono (by decide)) (pa_cons (pv 1) pa_nil)))) (pss_one (ps_ret pe_non)) pss_nil)
      (pss_cons (ps_asg (pe_cal C_bounds_in (hr.mono (by decide)) (pa_cons (pv 1) pa_nil)) (pg_tup rfl (pgs_cons (pg_name (i := 2) sc_fields_of.nd rfl (.inl rfl)) (pgs_cons (pg_name (i := 3) sc_fields_of.nd rfl (.inl rfl)) pgs_nil))))
      (pss_one (ps_ret (pe_tup (pa_cons (pv 2) (pa_cons (pv 3) (pa_cons (pe_cal C_field (hr.mono (by decide)) (pa_cons (pv 1) (pa_cons (pe_glob (v := .ref p_AT) (by rfl) hc_AT rfl) pa_nil))) (pa_cons (pe_cal C_rights_in (hr.mono (by decide)) (pa_cons (pv 1) pa_nil)) (pa_cons (pe_cal C_field (hr.mono (by decide)) (pa_cons (pv 1) (pa_cons (pe_glob (v := .ref p_KIND) (by rfl) hc_KIND rfl) pa_nil))) pa_nil))))))))))), ?_⟩
    refine ⟨_, rfl, p, _, 1, _, rfl, rfl, .of hp, atI_nat (j := 1) rfl, ?_⟩
    refine ⟨_, rfl, b, rfl, hb, fun c hc => ⟨_, rfl, ifnb (fun e => ?_) (fun e => ?_)⟩⟩
    · show Q .non H
      exact q1 (fun z => by rw [hc.mpr z] at e; cases e) H (Same.refl _)
    refine ⟨_, rfl, b, rfl, hb, fun p1 H0 s0 hp1 h1 => ?_⟩
    refine ⟨p1, _, rfl, .of h1, rfl, _, _, rfl, _, _, rfl, rfl, ?_⟩
    refine ⟨_, rfl, _, rfl, _, rfl, b, p_AT, 0, 12, rfl, hs_AT _, hb, by decide, by decide, _, rfl, b, rfl, hb, fun H1 s1 => ?_⟩
    refine ⟨_, rfl, b, p_KIND, 41, 4, rfl, hs_KIND _, hb, by decide, by decide, sz (by simp), fun q hq => ?_⟩
    refine q2 (hc.mp e) q _ (sameN (s0.trans s1) hq) (Same.free (s0.trans s1) hq) ?_
    rw [upd_same]
    rfl

def sp_is_rights (K : PySem.W.Frag) : Sp := fun vs H Q _ => ∃ v, vs = [v] ∧ Kd H v ∧ ∀ b H', Same H H' → (b = true ↔ ∃ r, v = .str r ∧ r = rtx (hasR r)) → Q (.bl b) H'
theorem ok_is_rights {f : Addr} {fd : FuncData} (F : Fun K "is_rights" "is_rights" s_is_rights f fd) (T : Txt K mg) : FnOk P w K mg base CX0 1 f fd ["thing"] (sp_is_rights K) := by
  obtain ⟨t_RIGHTS, hc_RIGHTS⟩ := T.c_RIGHTS
  refine F.ok sc_is_rights (fun vs H Q E h => ?_) (fun cdv A outer s H vs Q E hr h => ?_)
  · obtain ⟨v, rfl, hv, q⟩ := h; rfl
  · obtain ⟨v, rfl, hv, q⟩ := h
    refine ⟨_, (pss_one (ps_ret (pe_and (pe_callB call_isi (by rfl) T.z_isinstance (by decide +kernel) (pa_cons (pv 0) (pa_cons (pe_bltn (v := .ty "str") (by rfl) T.z_str (by decide +kernel) rfl) pa_nil))) (pe_one (pe_cmpR op_eq (pv 0) (pe_join pe_str (pe_lc (own := [("sign", 1)]) rfl sc_is_rights.nd (pi_str (pe_glob (v := .str (Str.ofString "rwlsnfxco")) (by rfl) hc_RIGHTS ⟨_, rfl⟩)) (blkOk_by (own := [("sign", 1)]) (N := ["thing", "sign"]) (sc := defScope s_is_rights) (by decide +kernel)) (fun _ _ _ _ _ => (pg_name (i := 1) sc_is_rights.nd rfl (.inl rfl))) (fun _ _ _ _ _ => (pts_one (pt_cmpR op_in_sign (pv 1) (pv 0) (by rfl)))) (fun _ _ _ _ _ => (pv 1)))) (nomark _)))))), ?_⟩
    obtain ⟨t, ty, kt⟩ := hv.str? (K := K)
    refine ⟨_, rfl, _, _, t, _, isS v, rfl, .ty "str", ty, kt, isS v, rfl, ifb (fun e1 => ?_) (fun e1 => ?_)⟩
    · obtain ⟨r, rfl⟩ : ∃ r, v = .str r := by
        cases hv with
        | str r => exact ⟨r, rfl⟩
        | _ => cases e1
      refine ⟨_, rfl, ⟨_, rfl⟩, RT, rfl, fun D hD => ?_⟩
      refine lc_it (walk_str (z := RT)) (fun i H' => Same H H' ∧ H' D = some (.lst ((rcs (hasR r) i).map V.str))) ⟨same_new hD, upd_same⟩ (fun _ _ _ _ => trivial) ?_ ?_
      · rintro i x H1 H2 hi ⟨sm, hl⟩ ⟨rfl, c, hc, rfl⟩
        rw [RT_size] at hi
        rw [RT_get i hi] at hc
        have ec : c = code i := (Option.some.inj hc).symm
        subst ec
        refine ⟨rfl, ?_⟩
        refine ⟨_, rfl, _, rfl, code i, r, rfl, rfl, _, rfl, ifb (fun e => ?_) (fun e => ?_)⟩
        · refine ⟨_, rfl, _, hl, ?_, ?_, ?_⟩
          · rw [List.length_map]
            have := rcs_len (hasR r) i
            exact szn (by omega)
          · exact fun b o e => by
              have n : b ≠ D := ne_of_none e hD
              rw [upd_ne n]; exact sm b o e
          · rw [upd_same, rcs_succ, List.map_append, if_pos (show hasR r i = true from e)]; rfl
        · refine ⟨sm, ?_⟩
          rw [rcs_succ, if_neg (by unfold hasR; rw [e]; exact Bool.false_ne_true), List.append_nil]
          exact hl
      · rintro H1 ⟨sm, hl⟩
        rw [RT_size] at hl
        refine ⟨_, D, _, rfl, rfl, .inl (.of hl), rcs_fit _, rfl, q _ _ sm ?_⟩
        rw [decide_eq_true_iff]
        exact ⟨fun h => ⟨r, rfl, V.str.inj h⟩, fun ⟨r', e, h⟩ => by cases e; exact congrArg V.str h⟩
    · refine q _ _ (Same.refl _) ⟨fun h => Bool.noConfusion h, fun ⟨r', e, h⟩ => by cases e; cases e1⟩

def sp__are_fields (K : PySem.W.Frag) : Sp := fun vs H Q _ => ∃ v, vs = [v] ∧ ((∃ p xs, v = .ref p ∧ H p = some (.tup xs) ∧ (∀ x ∈ xs, Kd H x) ∧ ∀ b H', Same H H' → (b = true ↔ F5 xs) → Q (.bl b) H') ∨ (NoT H v ∧ ∀ H', Same H H' → Q (.bl false) H'))
theorem ok__are_fields {f : Addr} {fd : FuncData} (F : Fun K "_are_fields" "_are_fields" s__are_fields f fd) (T : Txt K mg) (C_is_whole : Cal P w K mg base "is_whole" 1 ["thing", "least", "most"] (sp_is_whole K)) (C_are_bounds : Cal P w K mg base "are_bounds" 2 ["low", "high"] (sp_are_bounds K)) (C_is_exact : Cal P w K mg base "is_exact" 6 ["low", "high"] (sp_is_exact K)) (C__lead_one_way : Cal P w K mg base "_lead_one_way" 2 ["rights"] (sp__lead_one_way K)) (C_is_rights : Cal P w K mg base "is_rights" 1 ["thing"] (sp_is_rights K)) : FnOk P w K mg base CX0 7 f fd ["thing"] (sp__are_fields K) := by
  obtain ⟨t_CELLS, hc_CELLS⟩ := T.c_CELLS
  obtain ⟨t_TOP_KIND, hc_TOP_KIND⟩ := T.c_TOP_KIND
  refine F.ok sc__are_fields (fun vs H Q E h => ?_) (fun cdv A outer s H vs Q E hr h => ?_)
  · obtain ⟨v, rfl, q⟩ := h; rfl
  · obtain ⟨v, rfl, q⟩ := h
    refine ⟨_, (pss_cons (ps_if (PW.pt (pw_or (pt_not (pt_val (pe_callB call_isi (by rfl) T.z_isinstance (by decide +kernel) (pa_cons (pv 0) (pa_cons (pe_bltn (v := .ty "tuple") (by rfl) T.z_tuple (by decide +kernel) rfl) pa_nil))))) (pw_or1 (pt_cmpR op_ne (pe_callB call_len_seq (by rfl) T.z_len (by decide +kernel) (pa_cons (pv 0) pa_nil)) pe_int (nomark _))))) (pss_one (ps_ret pe_bl)) pss_nil)
      (pss_cons (ps_asg (pv 0) (pg_tup rfl (pgs_cons (pg_name (i := 1) sc__are_fields.nd rfl (.inl rfl)) (pgs_cons (pg_name (i := 2) sc__are_fields.nd rfl (.inl rfl)) (pgs_cons (pg_name (i := 3) sc__are_fields.nd rfl (.inl rfl)) (pgs_cons (pg_name (i := 4) sc__are_fields.nd rfl (.inl rfl)) (pgs_cons (pg_name (i := 5) sc__are_fields.nd rfl (.inl rfl)) pgs_nil)))))))
      (pss_cons (ps_if (PW.pt (pw_or (pt_not (pt_val (pe_cal C_are_bounds (hr.mono (by decide)) (pa_cons (pv 1) (pa_cons (pv 2) pa_nil))))) (pw_or1 (pt_not (pt_val (pe_cal C_is_exact (hr.mono (by decide)) (pa_cons (pv 1) (pa_cons (pv 2) pa_nil)))))))) (pss_one (ps_ret pe_bl)) pss_nil)
      (pss_cons (ps_if (PW.pt (pw_or (pt_not (pt_val (pe_cal C_is_whole (hr.mono (by decide)) (pa_cons (pv 3) (pa_cons pe_int (pa_cons (pe_op op_sub (pe_glob (v := .int 4096) (by rfl) hc_CELLS ⟨_, rfl⟩) pe_int) pa_nil)))))) (pw_or1 (pt_not (pt_val (pe_cal C_is_whole (hr.mono (by decide)) (pa_cons (pv 5) (pa_cons pe_int (pa_cons (pe_glob (v := .int 15) (by rfl) hc_TOP_KIND ⟨_, rfl⟩) pa_nil))))))))) (pss_one (ps_ret pe_bl)) pss_nil)
      (pss_one (ps_ret (pe_and (pe_cal C_is_rights (hr.mono (by decide)) (pa_cons (pv 4) pa_nil)) (pe_one (pe_cal C__lead_one_way (hr.mono (by decide)) (pa_cons (pv 4) pa_nil)))))))))), ?_⟩
    rcases q with ⟨p, xs, rfl, hp, hk, q⟩ | ⟨nt, q⟩
    · refine ⟨_, rfl, _, _, _, _, true, rfl, .ty "tuple", .base (.tup hp), kit_ty (by decide +kernel), true, rfl, ?_⟩
      refine ⟨_, rfl, p, _, rfl, .inr (.of hp), rfl, _, rfl, ifnd (fun c => ?_) (fun c => ?_)⟩
      · show Q (.bl false) H
        refine q _ _ (Same.refl _) ⟨fun h => Bool.noConfusion h, fun ⟨a1, a2, a3, a4, a5, e, _⟩ => ?_⟩
        subst e
        exact absurd rfl c
      have h5 : xs.length = 5 := by
        have := V.int.inj c
        omega
      obtain ⟨x1, x2, x3, x4, x5, rfl⟩ : ∃ x1 x2 x3 x4 x5, xs = [x1, x2, x3, x4, x5] := match xs, h5 with
        | [a, b, c, d, e], _ => ⟨a, b, c, d, e, rfl⟩
      refine ⟨_, rfl, p, _, rfl, .of hp, rfl, _, _, rfl, _, _, rfl, _, _, rfl, _, _, rfl, _, _, rfl, rfl, ?_⟩
      have no : ∀ H', Same H H' → ¬ F5 [x1, x2, x3, x4, x5] → Q (.bl false) H' := fun H' s z => q _ _ s ⟨fun h => Bool.noConfusion h, fun h => absurd h z⟩
      refine ⟨_, rfl, _, rfl, x1, x2, rfl, hk x1 (by simp), hk x2 (by simp), fun b hb => ⟨_, rfl, ifnb (fun e => ?_) (fun e => ?_)⟩⟩
      · show Q (.bl false) H
        refine no _ (Same.refl _) ?_
        rintro ⟨lo, hi, a, r, kd, ex, bd, _⟩
        injection ex with e1 e2
        injection e2 with e2 e3
        rw [hb.mpr ⟨lo, hi, e1, e2, bd⟩] at e; cases e
      obtain ⟨lo, hi, rfl, rfl, bd⟩ := hb.mp e
      refine ⟨_, rfl, _, rfl, lo, hi, rfl, bd, fun b2 H1 s1 hb2 => ⟨_, rfl, ifnb (fun e2 => ?_) (fun e2 => ?_)⟩⟩
      · show Q (.bl false) H1
        refine no _ s1 ?_
        rintro ⟨lo', hi', a, r, kd, ex, bd, hex, _⟩
        injection ex with e1 e3
        injection e3 with e3 e4
        cases e1; cases e3
        rw [hb2.mpr hex] at e2; cases e2
      have hex := hb2.mp e2
      refine ⟨_, rfl, _, _, rfl, rfl, x3, _, _, rfl, (hk x3 (by simp)).same s1, fun b3 hb3 => ⟨_, rfl, ifnb (fun e3 => ?_) (fun e3 => ?_)⟩⟩
      · show Q (.bl false) H1
        refine no _ s1 ?_
        rintro ⟨lo', hi', a, r, kd, ex, _, _, a0, a1, _⟩
        injection ex with _ ex
        injection ex with _ ex
        injection ex with ex _
        rw [hb3.mpr ⟨a, ex, a0, a1⟩] at e3; cases e3
      obtain ⟨at', rfl, a0, a1⟩ := hb3.mp e3
      refine ⟨_, rfl, x5, _, _, rfl, (hk x5 (by simp)).same s1, fun b4 hb4 => ⟨_, rfl, ifnb (fun e4 => ?_) (fun e4 => ?_)⟩⟩
      · show Q (.bl false) H1
        refine no _ s1 ?_
        rintro ⟨lo', hi', a, r, kd, ex, _, _, _, _, k0, k1, _⟩
        injection ex with _ ex
        injection ex with _ ex
        injection ex with _ ex
        injection ex with _ ex
        injection ex with ex _
        rw [hb4.mpr ⟨kd, ex, k0, k1⟩] at e4; cases e4
      obtain ⟨kd, rfl, k0, k1⟩ := hb4.mp e4
      refine ⟨_, rfl, x4, rfl, (hk x4 (by simp)).same s1, fun b5 H2 s2 hb5 => ⟨_, rfl, ifb (fun e5 => ?_) (fun e5 => ?_)⟩⟩
      · obtain ⟨r, rfl, hr5⟩ := hb5.mp e5
        refine ⟨_, rfl, r, rfl, fun H3 s3 => q _ _ ((s1.trans s2).trans s3) ?_⟩
        rw [decide_eq_true_iff]
        constructor
        · intro h
          exact ⟨lo, hi, at', r, kd, rfl, bd, hex, a0, a1, k0, k1, hr5, h⟩
        · rintro ⟨lo', hi', a, r', kd', ex, _, _, _, _, _, _, _, h⟩
          injection ex with _ ex
          injection ex with _ ex
          injection ex with _ ex
          injection ex with ex _
          cases ex
          exact h
      · refine no _ (s1.trans s2) ?_
        rintro ⟨lo', hi', a, r, kd', ex, _, _, _, _, _, _, hr5, _⟩
        injection ex with _ ex
        injection ex with _ ex
        injection ex with _ ex
        injection ex with ex _
        rw [hb5.mpr ⟨r, ex, hr5⟩] at e5; cases e5
    · obtain ⟨t, ty, kt⟩ := nt.tup? (K := K)
      refine ⟨_, rfl, _, _, t, _, false, rfl, .ty "tuple", ty, kt, false, rfl, ?_⟩
      show Q (.bl false) H
      exact q _ (Same.refl _)

def sp_word_of (K : PySem.W.Frag) : Sp := fun vs H Q E => ∃ (p : Addr) (lo hi at' : Int) (r : Str) (kd : Int) (mk : V), vs = [.ref p, mk] ∧ H p = some (.tup [.int lo, .int hi, .int at', .str r, .int kd]) ∧ (F5 [.int lo, .int hi, .int at', .str r, .int kd] → ∀ (s : Nat) q H', StepIs lo hi s → Same H H' → H q = none → H' q = some (.tup [mk, .int (wbits lo hi at' (maskOf r) kd s)]) → Q (.ref q) H') ∧ (¬ F5 [.int lo, .int hi, .int at', .str r, .int kd] → Lets K "NoFields" "text" H E)
theorem ok_word_of {f : Addr} {fd : FuncData} (F : Fun K "word_of" "word_of" s_word_of f fd) (T : Txt K mg) (C_in_bits : Cal P w K mg base "in_bits" 4 ["low", "high"] (sp_in_bits K)) (C_bits_of_rights : Cal P w K mg base "bits_of_rights" 1 ["rights"] (sp_bits_of_rights K)) (C__are_fields : Cal P w K mg base "_are_fields" 7 ["thing"] (sp__are_fields K)) (R_NoFields : ErrK P w K mg base "NoFields" "text") : FnOk P w K mg base (L2.CX P w) 8 f fd ["fields", "marked"] (sp_word_of K) := by
  obtain ⟨p_AT, hc_AT, hs_AT⟩ := T.c_AT
  obtain ⟨p_COUNT_LESS_ONE, hc_COUNT_LESS_ONE, hs_COUNT_LESS_ONE⟩ := T.c_COUNT_LESS_ONE
  obtain ⟨p_FIRST, hc_FIRST, hs_FIRST⟩ := T.c_FIRST
  obtain ⟨p_KIND, hc_KIND, hs_KIND⟩ := T.c_KIND
  obtain ⟨p_RIGHTS_BITS, hc_RIGHTS_BITS, hs_RIGHTS_BITS⟩ := T.c_RIGHTS_BITS
  obtain ⟨p_STEP, hc_STEP, hs_STEP⟩ := T.c_STEP
  refine F.okX sc_word_of (fun vs H Q E h => ?_) (fun cdv A outer s H vs Q E hr h => ?_)
  · obtain ⟨p, lo, hi, at', r, kd, mk, rfl, hp, q, bad⟩ := h; rfl
  · obtain ⟨p, lo, hi, at', r, kd, mk, rfl, hp, q, bad⟩ := h
    refine ⟨_, (pss_cons (ps_if (pt_not (pt_val (pe_cal C__are_fields (hr.mono (by decide)) (pa_cons (pv 0) pa_nil)))) (pss_one (ps_raise rfl (takes_of rfl rfl rfl rfl) (by exact (pmk_err R_NoFields (hr.mono (by decide)) pe_str)))) pss_nil)
      (PSs.nox (pss_cons (ps_asg (pv 0) (pg_tup rfl (pgs_cons (pg_name (i := 2) sc_word_of.nd rfl (.inl rfl)) (pgs_cons (pg_name (i := 3) sc_word_of.nd rfl (.inl rfl)) (pgs_cons (pg_name (i := 4) sc_word_of.nd rfl (.inl rfl)) (pgs_cons (pg_name (i := 5) sc_word_of.nd rfl (.inl rfl)) (pgs_cons (pg_name (i := 6) sc_word_of.nd rfl (.inl rfl)) pgs_nil)))))))
      (pss_cons (ps_asg (pe_cal C_in_bits (hr.mono (by decide)) (pa_cons (pv 2) (pa_cons (pv 3) pa_nil))) (pg_tup rfl (pgs_cons (pg_name (i := 7) sc_word_of.nd rfl (.inl rfl)) (pgs_cons (pg_name (i := 8) sc_word_of.nd rfl (.inl rfl)) (pgs_cons (pg_name (i := 9) sc_word_of.nd rfl (.inl rfl)) pgs_nil)))))
      (pss_cons (ps_set (i := 10) sc_word_of.nd rfl (.inl rfl) (pe_tup (pa_cons (pe_glob (v := .ref p_AT) (by rfl) hc_AT rfl) (pa_cons (pe_glob (v := .ref p_FIRST) (by rfl) hc_FIRST rfl) (pa_cons (pe_glob (v := .ref p_COUNT_LESS_ONE) (by rfl) hc_COUNT_LESS_ONE rfl) (pa_cons (pe_glob (v := .ref p_STEP) (by rfl) hc_STEP rfl) (pa_cons (pe_glob (v := .ref p_RIGHTS_BITS) (by rfl) hc_RIGHTS_BITS rfl) (pa_cons (pe_glob (v := .ref p_KIND) (by rfl) hc_KIND rfl) pa_nil))))))))
      (pss_cons (ps_set (i := 11) sc_word_of.nd rfl (.inl rfl) (pe_tup (pa_cons (pv 4) (pa_cons (pv 8) (pa_cons (pe_op op_sub (pv 9) pe_int) (pa_cons (pv 7) (pa_cons (pe_cal C_bits_of_rights (hr.mono (by decide)) (pa_cons (pv 5) pa_nil)) (pa_cons (pv 6) pa_nil))))))))
      (pss_one (ps_ret (pe_tup (pa_cons (pv 1) (pa_cons (pe_callB (cr_sum rfl) (by rfl) T.z_sum (by decide +kernel) (pa_cons (pe_lc (own := [("place", 12), ("worth", 13)]) (g := gTup K 2 (gCons (gName 12) (gCons (gName 13) gNil))) rfl sc_word_of.nd (RZ.pi_zipA (by rfl) T.z_zip (pa_cons (pv 10) (pa_cons (pv 11) pa_nil))) (blkOk_by (own := [("place", 12), ("worth", 13)]) (N := ["fields", "marked", "low", "high", "at", "rights", "kind", "step", "first", "count", "places", "worths", "place", "worth"]) (sc := defScope s_word_of) (by decide +kernel)) (fun _ _ _ _ _ => by exact (pg_tup rfl (pgs_cons (pg_name (i := 12) sc_word_of.nd rfl (.inl rfl)) (pgs_cons (pg_name (i := 13) sc_word_of.nd rfl (.inl rfl)) pgs_nil)))) (fun _ _ _ _ _ => pts_nil) (fun _ _ _ _ _ => (pe_op op_shl (pv 13) (pe_ix (r := rIxT K) ix_tup (pv 12) pe_int (fun _ _ => rfl))))) pa_nil)) pa_nil))))))))))), ?_⟩
    refine ⟨_, rfl, _, rfl, .inl ⟨p, _, rfl, hp, ?_, fun b H1 s1 hb => ⟨_, rfl, ?_⟩⟩⟩
    · intro x hx
      simp at hx
      rcases hx with h | h | h | h | h <;> subst h
      · exact .int _
      · exact .int _
      · exact .int _
      · exact .str _
      · exact .int _
    refine ifnb (fun e => ?_) (fun e => ?_)
    · have nf : ¬ F5 [.int lo, .int hi, .int at', .str r, .int kd] := fun z => by rw [hb.mpr z] at e; cases e
      exact fun C d hC hd => bad nf C d _ H1 hC s1 hd
    have hf := hb.mp e
    obtain ⟨lo', hi', a', r', k', ex, bd, hex, a0, a1, k0, k1, hr5, how⟩ := id hf
    cases ex
    replace q := q hf
    refine ⟨_, rfl, p, _, rfl, .of (s1 _ _ hp), rfl, _, _, rfl, _, _, rfl, _, _, rfl, _, _, rfl, _, _, rfl, rfl, ?_⟩
    refine ⟨_, rfl, _, rfl, lo, hi, rfl, bd, fun s p1 hs hp1 => ?_⟩
    refine ⟨p1, _, rfl, .of upd_same, rfl, _, _, rfl, _, _, rfl, _, _, rfl, rfl, ?_⟩
    refine ⟨sz (by simp), fun pp hpp => ?_⟩
    refine ⟨_, rfl, _, rfl, _, rfl, _, _, rfl, rfl, _, rfl, _, rfl, r, rfl, fun H2 s2 => ⟨_, rfl, sz (by simp), fun pw hpw => ?_⟩⟩
    have npw : pp ≠ pw := ne_of_none (s2 _ _ upd_same) hpw
    refine ⟨_, rfl, _, rfl, _, rfl, pp, pw, _, _, rfl, .inr ⟨.of (by rw [upd_ne npw]; exact s2 _ _ upd_same), .of upd_same, fun D hD => ?_⟩⟩
    have sA : Same H (upd H2 pw (.tup [.int at', .int (lo / 2 ^ s), .int (Dd lo hi s + 1 - 1), .int s, .int (maskOf r), .int kd])) := sameN (((s1.trans (sameN (same_new hp1) hpp))).trans s2) hpw
    have fpp := s2 pp _ upd_same
    have h8 := hs.1
    have dl := div_le' (s := s) bd.1
    have mb := maskOf_b r
    have dd := hs.2.1
    have dd0' : 0 ≤ Dd lo hi s := by
      unfold Dd
      have := Int.ediv_le_ediv (pow_pos2 s) (show lo ≤ hi - 1 by have := bd.2.1; omega)
      omega
    have b3 := bd.2
    have ewb : wbits lo hi at' (maskOf r) kd s = (wl at' (lo / 2 ^ s) (Dd lo hi s + 1 - 1) s (maskOf r) kd).sum := rfl
    have q' := q s
    rw [ewb] at q'
    have w1 : BW at' := ⟨a0, by omega⟩
    have w2 : BW (lo / 2 ^ s) := ⟨dl.1, by omega⟩
    have w3 : BW (Dd lo hi s + 1 - 1) := ⟨by omega, by omega⟩
    have w4 : BW (s : Int) := ⟨by omega, by omega⟩
    have w5 : BW (maskOf r) := ⟨mb.1, by omega⟩
    have w6 : BW kd := ⟨k0, by omega⟩
    clear mb dd dd0' q
    refine lc_it (walk_zipT (K := K) (a := pp) (b := pw) (n := 6) (xs := [.ref p_AT, .ref p_FIRST, .ref p_COUNT_LESS_ONE, .ref p_STEP, .ref p_RIGHTS_BITS, .ref p_KIND]) (ys := [.int at', .int (lo / 2 ^ s), .int (Dd lo hi s + 1 - 1), .int s, .int (maskOf r), .int kd]) rfl) (fun i H' => Same _ H' ∧ H' D = some (.lst (((wl at' (lo / 2 ^ s) (Dd lo hi s + 1 - 1) s (maskOf r) kd).take i).map V.int))) ⟨same_new hD, upd_same⟩ (fun i H' _ h => ⟨.of (h.1 _ _ (by rw [upd_ne npw]; exact fpp)), .of (h.1 _ _ upd_same)⟩) ?_ ?_
    · rintro i x H3 H4 hi6 ⟨sm, hl⟩ ⟨Tp, x1, y1, rfl, hn, rfl, hx1, hy1⟩
      have nD : D ≠ Tp := ne_of_none hl hn
      obtain ⟨pa, lo2, mn2, z, rfl, sq, l100, rfl, bz, tk⟩ := six_at hi6 hx1 hy1 hs_AT hs_FIRST hs_COUNT_LESS_ONE hs_STEP hs_RIGHTS_BITS hs_KIND w1 w2 w3 w4 w5 w6
      generalize hw : wipe _ (List.map _ _) = τ
      have ht : τ = [some (.ref p), some mk, some (.int lo), some (.int hi), some (.int at'), some (.str r), some (.int kd), some (.int s), some (.int (lo / 2 ^ s)), some (.int (Dd lo hi s + 1)), some (.ref pp), some (.ref pw), none, none] := by rw [← hw]; rfl
      clear hw
      subst ht
      refine ⟨Tp, _, rfl, .of upd_same, rfl, _, _, rfl, _, _, rfl, rfl, rfl, ?_⟩
      refine ⟨_, rfl, _, rfl, pa, _, 0, _, rfl, rfl, sq _, atI_nat (j := 0) rfl, _, _, rfl, rfl, cpw bz.1 bz.2 (by omega) (by omega), _, (by rw [upd_ne nD]; exact hl), ?_, ?_, ?_⟩
      · rw [List.length_map, List.length_take]
        exact szn (Nat.lt_of_le_of_lt (Nat.min_le_left _ _) (by omega))
      · exact fun b o e => by
          have n : b ≠ D := ne_of_none e hD
          have n2 : b ≠ Tp := ne_of_none (sm b o e) hn
          rw [upd_ne n, upd_ne n2]; exact sm b o e
      · rw [upd_same, tk, List.map_append]; rfl
    · rintro H3 ⟨sm, hl⟩
      refine ⟨D, _, rfl, .of hl, sz (by simp), fun pq hpq => ?_⟩
      refine q' pq _ hs (sameN (sA.trans sm) hpq) (Same.free (sA.trans sm) hpq) ?_
      rw [upd_same]; rfl

def sp_plain (K : PySem.W.Frag) : Sp := fun vs H Q _ => ∃ n, vs = [.int n] ∧ ∀ p, H p = none → Q (.ref p) (upd H p (.tup [.bl false, .int (n % 35184372088832)]))
theorem ok_plain {f : Addr} {fd : FuncData} (F : Fun K "plain" "plain" s_plain f fd) (T : Txt K mg) : FnOk P w K mg base CX0 1 f fd ["number"] (sp_plain K) := by
  obtain ⟨t_WORTHS, hc_WORTHS⟩ := T.c_WORTHS
  refine F.ok sc_plain (fun vs H Q E h => ?_) (fun cdv A outer s H vs Q E hr h => ?_)
  · obtain ⟨n, rfl, q⟩ := h; rfl
  · obtain ⟨n, rfl, q⟩ := h
    refine ⟨_, (pss_one (ps_ret (pe_tup (pa_cons pe_bl (pa_cons (pe_op op_mod (pv 0) (pe_glob (v := .int 35184372088832) (by rfl) hc_WORTHS ⟨_, rfl⟩)) pa_nil))))), ?_⟩
    refine ⟨_, rfl, _, _, rfl, rfl, (by show (0 : Int) < _; decide), sz (by simp), fun p hp => q p hp⟩

def sp__law_take (K : PySem.W.Frag) : Sp := fun vs H Q _ => ∃ (a : Addr) (x y m : Int), vs = [.ref a, .int m] ∧ Pool H a x y ∧ 0 < m ∧ m < 1073741824 ∧ ∀ r x1 y1, 0 ≤ r → r < m → Pool (upd H a (.lst [.int x1, .int y1])) a x1 y1 → Q (.int r) (upd H a (.lst [.int x1, .int y1]))
theorem ok__law_take {f : Addr} {fd : FuncData} (F : Fun K "_law_take" "_law_take" s__law_take f fd) (T : Txt K mg) : FnOk P w K mg base CX0 1 f fd ["_law_pool_here", "_law_many"] (sp__law_take K) := by
  refine F.ok sc__law_take (fun vs H Q E h => ?_) (fun cdv A outer s H vs Q E hr h => ?_)
  · obtain ⟨a, x, y, m, rfl, hp, hm, hm2, q⟩ := h; rfl
  · obtain ⟨a, x, y, m, rfl, hp, hm, hm2, q⟩ := h
    refine ⟨_, (pss_cons (ps_if (pt_cmpR op_gt (pe_ix (r := rIxL K) ix_list (pv 0) pe_int (fun _ _ => rfl)) pe_int (nomark _)) (pss_cons (ps_set (i := 2) sc__law_take.nd rfl (.inl rfl) (pe_op op_mod (pe_ix (r := rIxL K) ix_list (pv 0) pe_int (fun _ _ => rfl)) (pv 1)))
      (pss_cons (ps_asg (pe_op op_fdiv (pe_ix (r := rIxL K) ix_list (pv 0) pe_int (fun _ _ => rfl)) (pv 1)) (pg_sub (pv 0) pe_int set_list))
      (pss_one (ps_ret (pv 2))))) pss_nil)
      (pss_cons (ps_asg (pe_op op_mod (pe_op op_add (pe_op op_mul (pe_ix (r := rIxL K) ix_list (pv 0) pe_int (fun _ _ => rfl)) pe_int) pe_int) pe_int) (pg_sub (pv 0) pe_int set_list))
      (pss_one (ps_ret (pe_op op_mod (pe_op op_fdiv (pe_op op_mod (pe_op op_mul (pe_ix (r := rIxL K) ix_list (pv 0) pe_int (fun _ _ => rfl)) (pe_ix (r := rIxL K) ix_list (pv 0) pe_int (fun _ _ => rfl))) pe_int) pe_int) (pv 1)))))), ?_⟩
    obtain ⟨hp, x0, y0, y1⟩ := hp
    refine ⟨_, rfl, a, _, 0, _, rfl, rfl, .of hp, atI_nat (j := 0) rfl, _, _, rfl, rfl, _, rfl, ifd (fun c => ?_) (fun c => ?_)⟩
    · refine ⟨_, rfl, a, _, 0, _, rfl, rfl, .of hp, atI_nat (j := 0) rfl, _, rfl, _, _, rfl, rfl, hm, ?_⟩
      refine ⟨_, rfl, a, _, 0, _, rfl, rfl, .of hp, atI_nat (j := 0) rfl, _, rfl, _, _, rfl, rfl, ⟨hm, hm2⟩, ?_⟩
      refine ⟨_, rfl, a, _, 0, 0, rfl, rfl, hp, rfl, ?_⟩
      refine ⟨_, rfl, q (x % m) (x / m) y (Int.emod_nonneg _ (by omega)) (Int.emod_lt_of_pos _ hm) ⟨upd_same, Int.ediv_nonneg x0 (by omega), y0, y1⟩⟩
    · refine ⟨_, rfl, a, _, 1, _, rfl, rfl, .of hp, atI_nat (j := 1) rfl, _, _, rfl, rfl, .inr ⟨by decide, by decide⟩, _, _, rfl, rfl, _, _, rfl, rfl, (by show (0 : Int) < _; decide), ?_⟩
      refine ⟨_, rfl, a, _, 1, 1, rfl, rfl, hp, rfl, ?_⟩
      have u1 : 0 ≤ (y * 48271 + 11) % 2147483647 := Int.emod_nonneg _ (by decide)
      have u2 : (y * 48271 + 11) % 2147483647 < 2147483647 := Int.emod_lt_of_pos _ (by decide)
      refine ⟨_, rfl, a, _, 1, _, rfl, rfl, .of upd_same, atI_nat (j := 1) rfl, _, rfl, a, _, 1, _, rfl, rfl, .of upd_same, atI_nat (j := 1) rfl, _, _, rfl, rfl, .inl ⟨by omega, by omega⟩, _, _, rfl, rfl, (by show (0 : Int) < _; decide), _, _, rfl, rfl, ⟨by decide, by decide⟩, _, rfl, _, _, rfl, rfl, hm, ?_⟩
      exact q _ x ((y * 48271 + 11) % 2147483647) (Int.emod_nonneg _ (by omega)) (Int.emod_lt_of_pos _ hm) ⟨upd_same, x0, u1, u2⟩

def sp__law_pool (K : PySem.W.Frag) : Sp := fun vs H Q _ => ∃ (a : Addr) (ns : List Int) (k : Nat), vs = [.ref a, .int k] ∧ SqL K H a (ns.map V.int) ∧ ns.length ≤ 63 ∧ k ≤ 63 ∧ ∀ x y p H', Same H H' → H p = none → Pool H' p x y → Q (.ref p) H'
theorem ok__law_pool {f : Addr} {fd : FuncData} (F : Fun K "_law_pool" "_law_pool" s__law_pool f fd) (T : Txt K mg) : FnOk P w K mg base CX0 1 f fd ["_law_script", "_law_k"] (sp__law_pool K) := by
  refine F.ok sc__law_pool (fun vs H Q E h => ?_) (fun cdv A outer s H vs Q E hr h => ?_)
  · obtain ⟨a, ns, k, rfl, hS, hlen, hk, q⟩ := h; rfl
  · obtain ⟨a, ns, k, rfl, hS, hlen, hk, q⟩ := h
    refine ⟨_, (pss_cons (ps_set (i := 2) sc__law_pool.nd rfl (.inl rfl) (pe_op op_add (pe_op op_mul pe_int (pe_callB (cr_sum rfl) (by rfl) T.z_sum (by decide +kernel) (pa_cons (pe_slice sl_list (pv 0) po_none (po_some pe_int)) pa_nil))) (pv 1)))
      (pss_cons (ps_if (pt_cmpR op_lt (pv 1) (pe_callB call_len_seq (by rfl) T.z_len (by decide +kernel) (pa_cons (pv 0) pa_nil)) (nomark _)) (pss_one (ps_set (i := 2) sc__law_pool.nd rfl (.inl rfl) (pe_ix (r := rIxL K) ix_list (pv 0) (pv 1) (fun _ _ => rfl)))) pss_nil)
      (pss_cons (ps_set (i := 3) sc__law_pool.nd rfl (.inl rfl) (pe_callB call_abs (by rfl) T.z_abs (by decide +kernel) (pa_cons (pv 2) pa_nil)))
      (pss_cons (ps_set (i := 4) sc__law_pool.nd rfl (.inl rfl) (pe_op op_mod (pe_op op_mul (pe_op op_add (pe_op op_add (pe_op op_add (pe_op op_mod (pv 3) pe_int) (pe_op op_mul (pe_op op_mul pe_int (pv 1)) (pv 1))) (pe_op op_mul pe_int (pv 1))) pe_int) pe_int) pe_int))
      (pss_one (ps_ret (pe_lst (pa_cons (pe_op op_mul (pv 3) (pe_callTy call_int1 (by rfl) T.z_int (by decide +kernel) (pa_cons (pe_cmpR op_ge (pv 3) (pe_op op_pow pe_int pe_int) (nomark _)) pa_nil))) (pa_cons (pe_op op_mod (pe_op op_mul (pv 4) (pv 4)) pe_int) pa_nil))))))))), ?_⟩
    refine ⟨_, rfl, _, rfl, a, _, rfl, hS, fun p hp => ?_⟩
    have s1 : Same H (upd H p (.lst (cutV (ns.map V.int) none (some 63)))) := same_new hp
    have hS1 : SqL K (upd H p (.lst (cutV (ns.map V.int) none (some 63)))) a (ns.map V.int) := s1.seq hS
    refine ⟨p, ns, rfl, .of (by rw [upd_same, cut63 hlen]), _, _, rfl, rfl, .inl ⟨by decide, by decide⟩, _, rfl, _, _, rfl, rfl, ?_⟩
    refine ⟨_, rfl, _, rfl, a, _, rfl, .inl hS1, _, _, rfl, rfl, _, rfl, ifd (fun c => ?_) (fun c => ?_)⟩
    · rw [List.length_map] at c
      have hk2 : k < ns.length := by omega
      refine ⟨_, rfl, _, rfl, a, _, (k : Int), .int ns[k], rfl, rfl, hS1, atI_nat (by rw [List.getElem?_map, List.getElem?_eq_getElem hk2]; rfl), ?_⟩
      refine ⟨_, rfl, _, rfl, ?_⟩
      refine ⟨_, rfl, _, _, rfl, rfl, (by show (0 : Int) < _; decide), _, rfl, _, _, rfl, rfl, .inl ⟨by decide, by decide⟩, _, rfl, _, _, rfl, rfl, .inr ⟨by omega, by omega⟩, _, _, rfl, rfl, _, rfl, _, _, rfl, rfl, .inl ⟨by decide, by decide⟩, _, _, rfl, rfl, _, _, rfl, rfl, _, _, rfl, rfl, .inr ⟨by decide, by decide⟩, _, _, rfl, rfl, (by show (0 : Int) < _; decide), ?_⟩
      refine ⟨_, rfl, _, rfl, _, _, rfl, rfl, ⟨by decide, by decide, by decide⟩, _, _, rfl, rfl, .inr ⟨_, rfl, _, _, rfl, rfl, .inr (b01 _), ?_⟩⟩
      refine ⟨_, rfl, _, rfl, _, _, rfl, rfl, .inl (mixb _), _, _, rfl, rfl, (by show (0 : Int) < _; decide), sz (by simp), fun p2 hp2 => ?_⟩
      exact q _ _ p2 _ (sameN s1 hp2) (Same.free s1 hp2) ⟨upd_same, sizeb _ _, Int.emod_nonneg _ (by decide), Int.lt_trans (Int.emod_lt_of_pos _ (by decide)) (by decide)⟩
    · refine ⟨_, rfl, _, rfl, ?_⟩
      refine ⟨_, rfl, _, _, rfl, rfl, (by show (0 : Int) < _; decide), _, rfl, _, _, rfl, rfl, .inl ⟨by decide, by decide⟩, _, rfl, _, _, rfl, rfl, .inr ⟨by omega, by omega⟩, _, _, rfl, rfl, _, rfl, _, _, rfl, rfl, .inl ⟨by decide, by decide⟩, _, _, rfl, rfl, _, _, rfl, rfl, _, _, rfl, rfl, .inr ⟨by decide, by decide⟩, _, _, rfl, rfl, (by show (0 : Int) < _; decide), ?_⟩
      refine ⟨_, rfl, _, rfl, _, _, rfl, rfl, ⟨by decide, by decide, by decide⟩, _, _, rfl, rfl, .inr ⟨_, rfl, _, _, rfl, rfl, .inr (b01 _), ?_⟩⟩
      refine ⟨_, rfl, _, rfl, _, _, rfl, rfl, .inl (mixb _), _, _, rfl, rfl, (by show (0 : Int) < _; decide), sz (by simp), fun p2 hp2 => ?_⟩
      exact q _ _ p2 _ (sameN s1 hp2) (Same.free s1 hp2) ⟨upd_same, sizeb _ _, Int.emod_nonneg _ (by decide), Int.lt_trans (Int.emod_lt_of_pos _ (by decide)) (by decide)⟩

def sp__law_bits (K : PySem.W.Frag) : Sp := fun vs H Q _ => ∃ a f c s r k, vs = [.int a, .int f, .int c, .int s, .int r, .int k] ∧ BW f ∧ BW (c - 1) ∧ BW s ∧ BW r ∧ BW k ∧ Q (.int (a + f * 4096 + (c - 1) * 16777216 + s * 268435456 + r * 4294967296 + k * 2199023255552)) H
theorem ok__law_bits {f : Addr} {fd : FuncData} (F : Fun K "_law_bits" "_law_bits" s__law_bits f fd) (T : Txt K mg) : FnOk P w K mg base CX0 1 f fd ["_law_at", "_law_first", "_law_count", "_law_step", "_law_rights", "_law_kind"] (sp__law_bits K) := by
  refine F.ok sc__law_bits (fun vs H Q E h => ?_) (fun cdv A outer s H vs Q E hr h => ?_)
  · obtain ⟨a, f1, c, s1, r, k, rfl, bf, bc, bs, br, bk, q⟩ := h; rfl
  · obtain ⟨a, f1, c, s1, r, k, rfl, bf, bc, bs, br, bk, q⟩ := h
    refine ⟨_, (pss_one (ps_ret (pe_op op_add (pe_op op_add (pe_op op_add (pe_op op_add (pe_op op_add (pv 0) (pe_op op_shl (pv 1) pe_int)) (pe_op op_shl (pe_op op_sub (pv 2) pe_int) pe_int)) (pe_op op_shl (pv 3) pe_int)) (pe_op op_shl (pv 4) pe_int)) (pe_op op_shl (pv 5) pe_int)))), ?_⟩
    refine ⟨_, rfl, _, rfl, _, _, rfl, rfl, cpw bf.1 bf.2 (by decide) (by decide), _, _, rfl, rfl, _, rfl, _, _, rfl, rfl, _, _, rfl, rfl, cpw bc.1 bc.2 (by decide) (by decide), _, _, rfl, rfl, _, rfl, _, _, rfl, rfl, cpw bs.1 bs.2 (by decide) (by decide), _, _, rfl, rfl, _, rfl, _, _, rfl, rfl, cpw br.1 br.2 (by decide) (by decide), _, _, rfl, rfl, _, rfl, _, _, rfl, rfl, cpw bk.1 bk.2 (by decide) (by decide), _, _, rfl, rfl, q⟩

def sp__law_mask (K : PySem.W.Frag) : Sp := fun vs H Q _ => ∃ (a : Addr) (x y : Int), vs = [.ref a] ∧ Pool H a x y ∧ ∀ r x1 y1 H', 0 ≤ r → r < 512 → But a H H' → Pool H' a x1 y1 → Q (.int r) H'
theorem ok__law_mask {f : Addr} {fd : FuncData} (F : Fun K "_law_mask" "_law_mask" s__law_mask f fd) (T : Txt K mg) (C__law_take : Cal P w K mg base "_law_take" 1 ["_law_pool_here", "_law_many"] (sp__law_take K)) : FnOk P w K mg base CX0 2 f fd ["_law_pool_here"] (sp__law_mask K) := by
  refine F.ok sc__law_mask (fun vs H Q E h => ?_) (fun cdv A outer s H vs Q E hr h => ?_)
  · obtain ⟨a, x, y, rfl, hP, q⟩ := h; rfl
  · obtain ⟨a, x, y, rfl, hP, q⟩ := h
    refine ⟨_, (pss_cons (ps_set (i := 1) sc__law_mask.nd rfl (.inl rfl) (pe_op op_mul pe_int (pe_cal C__law_take (hr.mono (by decide)) (pa_cons (pv 0) (pa_cons pe_int pa_nil)))))
      (pss_cons (ps_set (i := 2) sc__law_mask.nd rfl (.inl rfl) (pe_lst (pa_cons (pe_op op_add (pe_cal C__law_take (hr.mono (by decide)) (pa_cons (pv 0) (pa_cons pe_int pa_nil))) (pv 1)) (pa_cons (pe_op op_add pe_int (pv 1)) (pa_cons (pe_op op_add (pv 1) (pe_op op_mul pe_int (pe_op op_add pe_int (pe_cal C__law_take (hr.mono (by decide)) (pa_cons (pv 0) (pa_cons pe_int pa_nil)))))) (pa_cons (pe_cal C__law_take (hr.mono (by decide)) (pa_cons (pv 0) (pa_cons pe_int pa_nil))) pa_nil))))))
      (pss_one (ps_ret (pe_ix (r := rIxL K) ix_list (pv 2) (pe_cal C__law_take (hr.mono (by decide)) (pa_cons (pv 0) (pa_cons pe_int pa_nil))) (fun _ _ => rfl)))))), ?_⟩
    refine ⟨_, rfl, a, x, y, _, rfl, hP, by decide, by decide, fun r1 x1 y1 r10 r11 P1 => ⟨_, _, rfl, rfl, .inl ⟨by decide, by decide⟩, ?_⟩⟩
    refine ⟨_, rfl, a, x1, y1, _, rfl, P1, by decide, by decide, fun r2 x2 y2 r20 r21 P2 => ⟨_, rfl, _, _, rfl, rfl, _, rfl, _, _, rfl, rfl, _, rfl, ?_⟩⟩
    refine ⟨_, rfl, a, x2, y2, _, rfl, P2, by decide, by decide, fun r3 x3 y3 r30 r31 P3 => ⟨_, _, rfl, rfl, _, _, rfl, rfl, .inl ⟨by decide, by decide⟩, _, _, rfl, rfl, ?_⟩⟩
    refine ⟨_, rfl, a, x3, y3, _, rfl, P3, by decide, by decide, fun r4 x4 y4 r40 r41 P4 => ⟨sz (by simp), fun q1 hq1 => ?_⟩⟩
    refine ⟨_, rfl, _, rfl, a, x4, y4, _, rfl, P4.new hq1, by decide, by decide, fun r5 x5 y5 r50 r51 P5 => ?_⟩
    have n1 : q1 ≠ a := (ne_of_none P4.1 hq1).symm
    obtain ⟨lv, hv, z, rfl, z0, z1⟩ := pick (xs := [.int (r2 + 32 * r1), .int (64 + 32 * r1), .int (32 * r1 + 128 * (1 + r3)), .int r4]) (fun v => ∃ z, v = .int z ∧ 0 ≤ z ∧ z < 512) r50 r51 (by
      intro v hv
      simp at hv
      rcases hv with h | h | h | h <;> exact ⟨_, h, by omega, by omega⟩)
    refine ⟨q1, _, _, _, rfl, rfl, .of (by rw [upd_ne n1, upd_same]), hv, ?_⟩
    exact q z x5 y5 _ z0 z1 (But.upd (But.new (But.upd (But.upd (But.upd (But.upd (But.refl _ _))))) hq1)) P5

def sp__law_drawn (K : PySem.W.Frag) : Sp := fun vs H Q _ => ∃ (a : Addr) (x y : Int), vs = [.ref a] ∧ Pool H a x y ∧ ∀ r x1 y1 H', W45 r → But a H H' → Pool H' a x1 y1 → Q (.int r) H'
theorem ok__law_drawn {f : Addr} {fd : FuncData} (F : Fun K "_law_drawn" "_law_drawn" s__law_drawn f fd) (T : Txt K mg) (C__law_take : Cal P w K mg base "_law_take" 1 ["_law_pool_here", "_law_many"] (sp__law_take K)) (C__law_bits : Cal P w K mg base "_law_bits" 1 ["_law_at", "_law_first", "_law_count", "_law_step", "_law_rights", "_law_kind"] (sp__law_bits K)) (C__law_mask : Cal P w K mg base "_law_mask" 2 ["_law_pool_here"] (sp__law_mask K)) : FnOk P w K mg base CX0 3 f fd ["_law_pool_here"] (sp__law_drawn K) := by
  refine F.ok sc__law_drawn (fun vs H Q E h => ?_) (fun cdv A outer s H vs Q E hr h => ?_)
  · obtain ⟨a, x, y, rfl, hP, q⟩ := h; rfl
  · obtain ⟨a, x, y, rfl, hP, q⟩ := h
    refine ⟨_, (pss_cons (ps_set (i := 1) sc__law_drawn.nd rfl (.inl rfl) (pe_ix (r := rIxL K) ix_list (pe_lst (pa_cons pe_int (pa_cons pe_int (pa_cons pe_int (pa_cons pe_int (pa_cons pe_int (pa_cons pe_int (pa_cons pe_int (pa_cons pe_int (pa_cons pe_int (pa_cons pe_int (pa_cons pe_int (pa_cons pe_int pa_nil))))))))))))) (pe_cal C__law_take (hr.mono (by decide)) (pa_cons (pv 0) (pa_cons pe_int pa_nil))) (fun _ _ => rfl)))
      (pss_cons (ps_set (i := 2) sc__law_drawn.nd rfl (.inl rfl) (pe_ix (r := rIxL K) ix_list (pe_lst (pa_cons (pe_op op_add pe_int (pe_cal C__law_take (hr.mono (by decide)) (pa_cons (pv 0) (pa_cons pe_int pa_nil)))) (pa_cons (pe_op op_add pe_int (pe_cal C__law_take (hr.mono (by decide)) (pa_cons (pv 0) (pa_cons pe_int pa_nil)))) (pa_cons pe_int (pa_cons pe_int (pa_cons pe_int pa_nil)))))) (pe_cal C__law_take (hr.mono (by decide)) (pa_cons (pv 0) (pa_cons pe_int pa_nil))) (fun _ _ => rfl)))
      (pss_cons (ps_set (i := 3) sc__law_drawn.nd rfl (.inl rfl) (pe_callB (call_max2 rfl) (by rfl) T.z_max (by decide +kernel) (pa_cons pe_int (pa_cons (pe_op op_add (pe_op op_sub (pe_op op_shr pe_int (pe_callB (call_min2 rfl) (by rfl) T.z_min (by decide +kernel) (pa_cons (pv 1) (pa_cons pe_int pa_nil)))) (pv 2)) pe_int) pa_nil))))
      (pss_cons (ps_set (i := 4) sc__law_drawn.nd rfl (.inl rfl) (pe_op op_mod (pe_ix (r := rIxL K) ix_list (pe_lst (pa_cons (pe_cal C__law_take (hr.mono (by decide)) (pa_cons (pv 0) (pa_cons (pv 3) pa_nil))) (pa_cons (pe_cal C__law_take (hr.mono (by decide)) (pa_cons (pv 0) (pa_cons pe_int pa_nil))) (pa_cons (pe_op op_sub (pv 3) pe_int) (pa_cons (pv 3) pa_nil))))) (pe_cal C__law_take (hr.mono (by decide)) (pa_cons (pv 0) (pa_cons pe_int pa_nil))) (fun _ _ => rfl)) pe_int))
      (pss_cons (ps_set (i := 5) sc__law_drawn.nd rfl (.inl rfl) (pe_ix (r := rIxL K) ix_list (pe_lst (pa_cons pe_int (pa_cons pe_int (pa_cons pe_int (pa_cons pe_int (pa_cons pe_int (pa_cons (pe_cal C__law_take (hr.mono (by decide)) (pa_cons (pv 0) (pa_cons pe_int pa_nil))) pa_nil))))))) (pe_cal C__law_take (hr.mono (by decide)) (pa_cons (pv 0) (pa_cons pe_int pa_nil))) (fun _ _ => rfl)))
      (pss_cons (ps_set (i := 6) sc__law_drawn.nd rfl (.inl rfl) (pe_ix (r := rIxL K) ix_list (pe_lst (pa_cons (pe_cal C__law_take (hr.mono (by decide)) (pa_cons (pv 0) (pa_cons pe_int pa_nil))) (pa_cons (pe_op op_and (pe_op op_shl (pv 4) (pe_callB (call_min2 rfl) (by rfl) T.z_min (by decide +kernel) (pa_cons (pv 1) (pa_cons pe_int pa_nil)))) pe_int) (pa_cons pe_int pa_nil)))) (pe_cal C__law_take (hr.mono (by decide)) (pa_cons (pv 0) (pa_cons pe_int pa_nil))) (fun _ _ => rfl)))
      (pss_one (ps_ret (pe_cal C__law_bits (hr.mono (by decide)) (pa_cons (pv 6) (pa_cons (pv 4) (pa_cons (pv 2) (pa_cons (pv 1) (pa_cons (pe_cal C__law_mask (hr.mono (by decide)) (pa_cons (pv 0) pa_nil)) (pa_cons (pv 5) pa_nil))))))))))))))), ?_⟩
    refine ⟨sz (by simp), fun q1 hq1 => ?_⟩
    refine ⟨_, rfl, a, x, y, _, rfl, hP.new hq1, by decide, by decide, fun r1 x1 y1 r10 r11 P1 => ?_⟩
    have n1 : q1 ≠ a := (ne_of_none hP.1 hq1).symm
    obtain ⟨v1, hv1, st, rfl, st0, st1⟩ := pick (xs := [.int 0, .int 0, .int 1, .int 2, .int 3, .int 4, .int 5, .int 6, .int 7, .int 8, .int 9, .int 15]) (fun v => ∃ z, v = .int z ∧ 0 ≤ z ∧ z ≤ 15) r10 r11 (by
      intro v hv
      simp at hv
      rcases hv with h | h | h | h | h | h | h | h | h | h | h <;> exact ⟨_, h, by omega, by omega⟩)
    refine ⟨q1, _, _, _, rfl, rfl, .of (by rw [upd_ne n1, upd_same]), hv1, ?_⟩
    have B1 := But.upd (o := .lst [.int x1, .int y1]) (But.new (o := .lst [.int 0, .int 0, .int 1, .int 2, .int 3, .int 4, .int 5, .int 6, .int 7, .int 8, .int 9, .int 15]) (But.refl a H) hq1)
    generalize eH1 : upd (upd H q1 _) a _ = H1 at P1 B1 ⊢
    clear eH1 hv1 n1 hq1 hP
    refine ⟨_, rfl, a, x1, y1, _, rfl, P1, by decide, by decide, fun r2 x2 y2 r20 r21 P2 => ⟨_, _, rfl, rfl, ?_⟩⟩
    refine ⟨_, rfl, a, x2, y2, _, rfl, P2, by decide, by decide, fun r3 x3 y3 r30 r31 P3 => ⟨_, _, rfl, rfl, sz (by simp), fun q2 hq2 => ?_⟩⟩
    refine ⟨_, rfl, a, x3, y3, _, rfl, P3.new hq2, by decide, by decide, fun r4 x4 y4 r40 r41 P4 => ?_⟩
    have n2 : q2 ≠ a := (ne_of_none P3.1 hq2).symm
    obtain ⟨v2, hv2, ct, rfl, ct0, ct1⟩ := pick (xs := [.int (1 + r2), .int (9 + r3), .int 9, .int 16, .int 8]) (fun v => ∃ z, v = .int z ∧ 1 ≤ z ∧ z ≤ 16) r40 r41 (by
      intro v hv
      simp at hv
      rcases hv with h | h | h | h | h <;> exact ⟨_, h, by omega, by omega⟩)
    refine ⟨q2, _, _, _, rfl, rfl, .of (by rw [upd_ne n2, upd_same]), hv2, ?_⟩
    have B2 := But.upd (o := .lst [.int x4, .int y4]) (But.new (o := .lst [.int (1 + r2), .int (9 + r3), .int 9, .int 16, .int 8]) (But.upd (o := .lst [.int x3, .int y3]) (But.upd (o := .lst [.int x2, .int y2]) B1)) hq2)
    generalize eH2 : upd (upd (upd (upd H1 a _) a _) q2 _) a _ = H2 at P4 B2 ⊢
    clear eH2 hv2 n2 hq2 P1 P2 P3 B1
    obtain ⟨sm, esm, sm0, sm1⟩ : ∃ sm : Int, sm = (if 8 < st then 8 else st) ∧ 0 ≤ sm ∧ sm ≤ 8 := ⟨_, rfl, by split <;> omega, by split <;> omega⟩
    refine ⟨_, rfl, _, _, rfl, ?_⟩
    rw [← esm]
    refine ⟨_, _, rfl, rfl, sm0, _, rfl, _, _, rfl, rfl, _, _, rfl, rfl, _, _, rfl, ?_⟩
    have dv : 0 ≤ 4096 / (2 : Int) ^ sm.toNat ∧ 4096 / (2 : Int) ^ sm.toNat ≤ 4096 := div_le' (by decide)
    obtain ⟨wd, ewd, wd0, wd1⟩ : ∃ wd : Int, wd = (if 4096 / (2 : Int) ^ sm.toNat - ct + 1 > 1 then 4096 / (2 : Int) ^ sm.toNat - ct + 1 else 1) ∧ 1 ≤ wd ∧ wd ≤ 4096 := ⟨_, rfl, by split <;> omega, by split <;> omega⟩
    rw [← ewd]
    refine ⟨_, rfl, _, rfl, a, x4, y4, _, rfl, P4, by omega, by omega, fun r5 x5 y5 r50 r51 P5 => ?_⟩
    refine ⟨_, rfl, a, x5, y5, _, rfl, P5, by decide, by decide, fun r6 x6 y6 r60 r61 P6 => ⟨_, rfl, _, _, rfl, rfl, _, rfl, sz (by simp), fun q3 hq3 => ?_⟩⟩
    refine ⟨_, rfl, a, x6, y6, _, rfl, P6.new hq3, by decide, by decide, fun r7 x7 y7 r70 r71 P7 => ?_⟩
    have n3 : q3 ≠ a := (ne_of_none P6.1 hq3).symm
    obtain ⟨v3, hv3, fi', rfl, fi0', fi1'⟩ := pick (xs := [.int r5, .int r6, .int (wd - 1), .int wd]) (fun v => ∃ z, v = .int z ∧ 0 ≤ z ∧ z ≤ 4096) r70 r71 (by
      intro v hv
      simp at hv
      rcases hv with h | h | h | h <;> exact ⟨_, h, by omega, by omega⟩)
    refine ⟨q3, _, _, _, rfl, rfl, .of (by rw [upd_ne n3, upd_same]), hv3, _, _, rfl, rfl, (by show (0 : Int) < _; decide), ?_⟩
    have fi0 : 0 ≤ fi' % 4096 := by omega
    have fi1 : fi' % 4096 ≤ 4095 := by omega
    have B3 := But.upd (o := .lst [.int x7, .int y7]) (But.new (o := .lst [.int r5, .int r6, .int (wd - 1), .int wd]) (But.upd (o := .lst [.int x6, .int y6]) (But.upd (o := .lst [.int x5, .int y5]) B2)) hq3)
    generalize eH3 : upd (upd (upd (upd H2 a _) a _) q3 _) a _ = H3 at P7 B3 ⊢
    clear eH3 hv3 n3 hq3 P4 P5 P6 B2
    refine ⟨_, rfl, a, x7, y7, _, rfl, P7, by decide, by decide, fun r8 x8 y8 r80 r81 P8 => ⟨sz (by simp), fun q4 hq4 => ?_⟩⟩
    refine ⟨_, rfl, a, x8, y8, _, rfl, P8.new hq4, by decide, by decide, fun r9 x9 y9 r90 r91 P9 => ?_⟩
    have n4 : q4 ≠ a := (ne_of_none P8.1 hq4).symm
    obtain ⟨v4, hv4, kd, rfl, kd0, kd1⟩ := pick (xs := [.int 0, .int 0, .int 1, .int 2, .int 3, .int r8]) (fun v => ∃ z, v = .int z ∧ 0 ≤ z ∧ z ≤ 15) r90 r91 (by
      intro v hv
      simp at hv
      rcases hv with h | h | h | h | h <;> exact ⟨_, h, by omega, by omega⟩)
    refine ⟨q4, _, _, _, rfl, rfl, .of (by rw [upd_ne n4, upd_same]), hv4, ?_⟩
    have B4 := But.upd (o := .lst [.int x9, .int y9]) (But.new (o := .lst [.int 0, .int 0, .int 1, .int 2, .int 3, .int r8]) (But.upd (o := .lst [.int x8, .int y8]) B3) hq4)
    generalize eH4 : upd (upd (upd H3 a _) q4 _) a _ = H4 at P9 B4 ⊢
    clear eH4 hv4 n4 hq4 P7 P8 B3
    refine ⟨_, rfl, a, x9, y9, _, rfl, P9, by decide, by decide, fun ra xa ya ra0 ra1 Pa => ⟨_, rfl, _, rfl, _, _, rfl, ?_⟩⟩
    rw [← esm]
    have fpos : 0 ≤ fi' % 4096 * 2 ^ sm.toNat := Int.mul_nonneg fi0 (Int.le_of_lt (pow_pos2 _))
    refine ⟨_, _, rfl, rfl, cpw fi0 (by omega) sm0 (by omega), _, _, rfl, rfl, sz (by simp), fun q5 hq5 => ?_⟩
    have eand : Builtin.bitAnd (fi' % 4096 * 2 ^ sm.toNat) 4095 = fi' % 4096 * 2 ^ sm.toNat % 4096 := Bits.bitAnd_mask 12 fpos
    have an0 : 0 ≤ Builtin.bitAnd (fi' % 4096 * 2 ^ sm.toNat) 4095 := by rw [eand]; omega
    have an1 : Builtin.bitAnd (fi' % 4096 * 2 ^ sm.toNat) 4095 ≤ 4095 := by rw [eand]; omega
    refine ⟨_, rfl, a, xa, ya, _, rfl, Pa.new hq5, by decide, by decide, fun rb xb yb rb0 rb1 Pb => ?_⟩
    have n5 : q5 ≠ a := (ne_of_none Pa.1 hq5).symm
    obtain ⟨v5, hv5, at', rfl, at0, at1⟩ := pick (xs := [.int ra, .int (Builtin.bitAnd (fi' % 4096 * 2 ^ sm.toNat) 4095), .int 4095]) (fun v => ∃ z, v = .int z ∧ 0 ≤ z ∧ z ≤ 4095) rb0 rb1 (by
      intro v hv
      simp at hv
      rcases hv with h | h | h <;> exact ⟨_, h, by omega, by omega⟩)
    refine ⟨q5, _, _, _, rfl, rfl, .of (by rw [upd_ne n5, upd_same]), hv5, ?_⟩
    have B5 := But.upd (o := .lst [.int xb, .int yb]) (But.new (o := .lst [.int ra, .int (Builtin.bitAnd (fi' % 4096 * 2 ^ sm.toNat) 4095), .int 4095]) (But.upd (o := .lst [.int xa, .int ya]) B4) hq5)
    generalize eH5 : upd (upd (upd H4 a _) q5 _) a _ = H5 at Pb B5 ⊢
    clear eH5 hv5 n5 hq5 P9 Pa B4
    refine ⟨_, rfl, _, rfl, _, rfl, _, rfl, _, rfl, a, xb, yb, rfl, Pb, fun mk xc yc H6 mk0 mk1 B6 P6 => ⟨_, rfl, _, _, _, _, _, _, rfl, ⟨fi0, by omega⟩, ⟨by omega, by omega⟩, ⟨st0, by omega⟩, ⟨mk0, by omega⟩, ⟨kd0, by omega⟩, ?_⟩⟩
    exact q _ xc yc H6 ⟨by omega, by omega⟩ (B5.trans B6) P6

def sp__law_fields (K : PySem.W.Frag) : Sp := fun vs H Q _ => ∃ b : Int, vs = [.int b] ∧ W45 b ∧ (¬ Tells b → ∀ H', Same H H' → Q .non H') ∧ (Tells b → ∀ q H', Same H H' → H q = none → H' q = some (.tup [.int (fFirst b * 2 ^ (fStep b).toNat), .int ((fFirst b + fCnt b) * 2 ^ (fStep b).toNat), .int (fAt b), .str (rtx (bitp (fRts b))), .int (fKind b)]) → Q (.ref q) H')
theorem ok__law_fields {f : Addr} {fd : FuncData} (F : Fun K "_law_fields" "_law_fields" s__law_fields f fd) (T : Txt K mg) : FnOk P w K mg base CX0 1 f fd ["_law_bits_here"] (sp__law_fields K) := by
  refine F.ok sc__law_fields (fun vs H Q E h => ?_) (fun cdv A outer s H vs Q E hr h => ?_)
  · obtain ⟨b, rfl, hw, q1, q2⟩ := h; rfl
  · obtain ⟨b, rfl, hw, q1, q2⟩ := h
    refine ⟨_, (pss_cons (ps_par (i := 1) (j := 2) rfl sc__law_fields.nd rfl rfl (by decide) rfl rfl (pa_cons (pe_op op_and (pe_op op_shr (pv 0) pe_int) pe_int) (pa_cons (pe_op op_add (pe_op op_and (pe_op op_shr (pv 0) pe_int) pe_int) pe_int) pa_nil)) (by rfl))
      (pss_cons (ps_set (i := 3) sc__law_fields.nd rfl (.inl rfl) (pe_op op_and (pe_op op_shr (pv 0) pe_int) pe_int))
      (pss_cons (ps_if (PW.pt (pw_or (pt_cmpR op_gt (pv 3) pe_int (nomark _)) (pw_or (PW.pt (pw_and (pt_cmpR op_gt (pv 3) pe_int (nomark _)) (pw_and1 (pt_cmpR op_lt (pv 2) pe_int (nomark _))))) (pw_or1 (pt_cmpR op_gt (pe_op op_shl (pe_op op_add (pv 1) (pv 2)) (pv 3)) pe_int (nomark _)))))) (pss_one (ps_ret pe_non)) pss_nil)
      (pss_cons (ps_set (i := 6) sc__law_fields.nd rfl (.inl rfl) (pe_join pe_str (pe_lc (own := [("_law_at", 4), ("_law_sign", 5)]) (g := gTup K 2 (gCons (gName 4) (gCons (gName 5) gNil))) rfl sc__law_fields.nd (pi_enumS (by rfl) T.z_enumerate (pa_cons pe_str pa_nil)) (blkOk_by (own := [("_law_at", 4), ("_law_sign", 5)]) (N := ["_law_bits_here", "_law_first", "_law_count", "_law_step", "_law_at", "_law_sign", "_law_rights"]) (sc := defScope s__law_fields) (by decide +kernel)) (fun _ _ _ _ _ => by exact (pg_tup rfl (pgs_cons (pg_name (i := 4) sc__law_fields.nd rfl (.inl rfl)) (pgs_cons (pg_name (i := 5) sc__law_fields.nd rfl (.inl rfl)) pgs_nil)))) (fun _ _ _ _ _ => (pts_one (pt_cmpR op_eq (pe_op op_and (pe_op op_shr (pv 0) (pe_op op_add pe_int (pv 4))) pe_int) pe_int (nomark _)))) (fun _ _ _ _ _ => (pv 5)))))
      (pss_one (ps_ret (pe_tup (pa_cons (pe_op op_shl (pv 1) (pv 3)) (pa_cons (pe_op op_shl (pe_op op_add (pv 1) (pv 2)) (pv 3)) (pa_cons (pe_op op_and (pv 0) pe_int) (pa_cons (pv 6) (pa_cons (pe_op op_shr (pv 0) pe_int) pa_nil)))))))))))), ?_⟩
    obtain ⟨h0, h45⟩ := hw
    have f := fb b
    have a12 : Builtin.bitAnd (b / 2 ^ 12) 4095 = fFirst b := Bits.bitAnd_mask 12 (by omega)
    have a24 : Builtin.bitAnd (b / 2 ^ 24) 15 + 1 = fCnt b := congrArg (· + 1) (Bits.bitAnd_mask 4 (by omega))
    have a28 : Builtin.bitAnd (b / 2 ^ 28) 15 = fStep b := Bits.bitAnd_mask 4 (by omega)
    have a0 : Builtin.bitAnd b 4095 = fAt b := by
      have := Bits.bitAnd_mask (x := b) 12 h0
      unfold fAt
      rw [show (2 : Int) ^ 0 = 1 by decide, Int.ediv_one]
      exact this
    have a41 : b / 2 ^ 41 = fKind b := by
      unfold fKind
      rw [show (2 : Int) ^ 41 = 2199023255552 by decide, show (2 : Int) ^ 4 = 16 by decide]
      omega
    have cp3 : CPow (Builtin.bitAnd (b / 2 ^ 12) 4095 + (Builtin.bitAnd (b / 2 ^ 24) 15 + 1)) (Builtin.bitAnd (b / 2 ^ 28) 15) := by rw [a12, a24, a28]; exact cpw (by omega) (by omega) (by omega) (by omega)
    have cp1 : CPow (Builtin.bitAnd (b / 2 ^ 12) 4095) (Builtin.bitAnd (b / 2 ^ 28) 15) := by rw [a12, a28]; exact cpw (by omega) (by omega) (by omega) (by omega)
    refine ⟨_, rfl, _, _, rfl, rfl, (by show (0 : Int) ≤ _; decide), _, _, rfl, rfl, _, rfl, _, _, rfl, rfl, (by show (0 : Int) ≤ _; decide), _, _, rfl, rfl, _, _, rfl, rfl, _, _, rfl, ?_⟩
    refine ⟨_, rfl, _, _, rfl, rfl, (by show (0 : Int) ≤ _; decide), _, _, rfl, rfl, ?_⟩
    have no : ¬ Tells b → Q .non H := fun z => q1 z H (Same.refl _)
    have fin : Tells b → tSeq (tAsg (tM1 (fun x xs H Q => ∃ a p, ∃ ys : List Str, x = .str a ∧ xs = [.ref p] ∧ (SqL K H p (ys.map V.str) ∨ SqT K H p (ys.map V.str)) ∧ (ys.map (·.length)).sum + ys.length * a.length ≤ 16777216 ∧ Q (.str (Txt.join a ys)) H) (tC (.str (Str.ofString ""))) (tLc (iEnumS (tCons (tC (.str (Str.ofString "rwlsnfxco"))) tNil)) (gTup K 2 (gCons (gName 4) (gCons (gName 5) gNil))) (tTest (tOp rEq (tOp (rI0 fun i j => .int (Builtin.bitAnd i j)) (tOp (rI (fun _ j => 0 ≤ j) fun i j => .int (i / 2 ^ j.toNat)) (tVar 0) (tOp (rI0 fun i j => .int (i + j)) (tC (.int 32)) (tVar 4))) (tC (.int 1))) (tC (.int 1)))) (tVar 5) [4, 5])) (gName 6)) (tRet (tTup (tCons (tOp (rI CPow fun i j => .int (i * 2 ^ j.toNat)) (tVar 1) (tVar 3)) (tCons (tOp (rI CPow fun i j => .int (i * 2 ^ j.toNat)) (tOp (rI0 fun i j => .int (i + j)) (tVar 1) (tVar 2)) (tVar 3)) (tCons (tOp (rI0 fun i j => .int (Builtin.bitAnd i j)) (tVar 0) (tC (.int 4095))) (tCons (tVar 6) (tCons (tOp (rI (fun _ j => 0 ≤ j) fun i j => .int (i / 2 ^ j.toNat)) (tVar 0) (tC (.int 41))) tNil))))))) { nx := fun _ H' => Q .non H', rt := Q } [some (.int b), some (.int (Builtin.bitAnd (b / 2 ^ 12) 4095)), some (.int (Builtin.bitAnd (b / 2 ^ 24) 15 + 1)), some (.int (Builtin.bitAnd (b / 2 ^ 28) 15)), none, none, none] H := fun tl => by
      have hr0 : 0 ≤ fRts b := Int.emod_nonneg _ (by decide)
      refine ⟨⟨_, rfl⟩, RT, rfl, fun D hD => ?_⟩
      refine lc_it (walk_enumS (z := RT)) (fun i H' => Same H H' ∧ H' D = some (.lst ((rcs (bitp (fRts b)) i).map V.str))) ⟨same_new hD, upd_same⟩ (fun _ _ _ _ => trivial) ?_ ?_
      · rintro i x H1 H2 hi ⟨sm, hl⟩ ⟨Tp, x1, y1, rfl, hn, rfl, hx1, hy1⟩
        rw [RT_size] at hi
        have hy1 : (RT.cps[i]?).map (fun c => V.str ⟨#[c]⟩) = some y1 := hy1
        rw [RT_get i hi] at hy1
        have e1 : x1 = .int (i : Int) := (Option.some.inj hx1).symm
        have e2 : y1 = .str (one (code i)) := (Option.some.inj hy1).symm
        subst e1 e2
        have nD : D ≠ Tp := ne_of_none hl hn
        refine ⟨Tp, _, rfl, .of upd_same, rfl, _, _, rfl, _, _, rfl, rfl, rfl, ?_⟩
        have eb : Builtin.bitAnd (b / 2 ^ (32 + i)) 1 = b / 2 ^ (32 + i) % 2 := Bits.bitAnd_mask 1 (Int.ediv_nonneg h0 (Int.le_of_lt (pow_pos2 _)))
        have el := bit_lift b hi
        refine ⟨_, rfl, _, rfl, _, _, rfl, rfl, _, _, rfl, rfl, by omega, _, _, rfl, rfl, rfl, _, rfl, ifd (fun e => ?_) (fun e => ?_)⟩
        · have e3 : bitp (fRts b) i = true := by
            unfold bitp
            rw [← el, ← eb]
            exact decide_eq_true (V.int.inj e)
          refine ⟨_, rfl, _, (by rw [upd_ne nD]; exact hl), ?_, ?_, ?_⟩
          · rw [List.length_map]
            have := rcs_len (bitp (fRts b)) i
            exact szn (by omega)
          · exact fun b o e => by
              have n : b ≠ D := ne_of_none e hD
              have n2 : b ≠ Tp := ne_of_none (sm b o e) hn
              rw [upd_ne n, upd_ne n2]; exact sm b o e
          · rw [upd_same, rcs_succ, List.map_append, if_pos e3]; rfl
        · refine ⟨sameN sm hn, ?_⟩
          have e3 : ¬ bitp (fRts b) i = true := by
            unfold bitp
            rw [← el, ← eb]
            intro z
            exact e (congrArg V.int (of_decide_eq_true z))
          rw [upd_ne nD, rcs_succ, if_neg e3, List.append_nil]
          exact hl
      · rintro H1 ⟨sm, hl⟩
        rw [RT_size] at hl
        refine ⟨_, D, _, rfl, rfl, .inl (.of hl), rcs_fit _, ?_⟩
        refine ⟨_, rfl, _, rfl, _, _, rfl, rfl, cp1, _, rfl, _, rfl, _, _, rfl, rfl, _, rfl, _, _, rfl, rfl, cp3, _, rfl, _, _, rfl, rfl, _, rfl, _, rfl, _, _, rfl, rfl, (by show (0 : Int) ≤ _; decide), sz (by simp), fun q hq => ?_⟩
        refine q2 tl q _ (sameN sm hq) (Same.free sm hq) ?_
        rw [upd_same]
        show some (HO.tup [.int (Builtin.bitAnd (b / 2 ^ 12) 4095 * 2 ^ (Builtin.bitAnd (b / 2 ^ 28) 15).toNat), .int ((Builtin.bitAnd (b / 2 ^ 12) 4095 + (Builtin.bitAnd (b / 2 ^ 24) 15 + 1)) * 2 ^ (Builtin.bitAnd (b / 2 ^ 28) 15).toNat), .int (Builtin.bitAnd b 4095), .str (rtx (bitp (fRts b))), .int (b / 2 ^ 41)]) = _
        rw [a12, a24, a28, a0, a41]
    refine ⟨_, rfl, _, _, rfl, rfl, _, rfl, ifd (fun c => ?_) (fun c => ?_)⟩
    · have c2 : 8 < fStep b := by rw [← a28]; exact c
      exact no fun z => absurd z.1 (by omega)
    have c2 : ¬ 8 < fStep b := by rw [← a28]; exact c
    have last : (fStep b = 0 ∨ 9 ≤ fCnt b) → ∀ c : Bool, (c = true ↔ ¬ (fFirst b + fCnt b) * 2 ^ (fStep b).toNat ≤ 4096) → (c = true → ¬ Tells b) ∧ (c = false → Tells b) := fun z c hc =>
      ⟨fun e t => hc.mp e t.2.2, fun e => ⟨by omega, z, by
        rcases Decidable.em ((fFirst b + fCnt b) * 2 ^ (fStep b).toNat ≤ 4096) with h | h
        · exact h
        · rw [hc.mpr h] at e; cases e⟩⟩
    have l3 : decide (4096 < (Builtin.bitAnd (b / 2 ^ 12) 4095 + (Builtin.bitAnd (b / 2 ^ 24) 15 + 1)) * 2 ^ (Builtin.bitAnd (b / 2 ^ 28) 15).toNat) = true ↔ ¬ (fFirst b + fCnt b) * 2 ^ (fStep b).toNat ≤ 4096 := by
      rw [a12, a24, a28, decide_eq_true_iff]; omega
    refine ⟨_, rfl, _, _, rfl, rfl, _, rfl, ifd (fun c3 => ?_) (fun c3 => ?_)⟩
    · have c4 : 0 < fStep b := by rw [← a28]; exact c3
      refine ⟨_, rfl, _, _, rfl, rfl, _, rfl, ifd (fun c5 => ?_) (fun c5 => ?_)⟩
      · have c6 : fCnt b < 9 := by rw [← a24]; exact c5
        exact no fun z => by have := z.2.1; omega
      · have c6 : ¬ fCnt b < 9 := by rw [← a24]; exact c5
        refine ⟨_, rfl, _, rfl, _, _, rfl, rfl, _, rfl, _, _, rfl, rfl, cp3, _, _, rfl, rfl, _, rfl, ifb (fun e => ?_) (fun e => ?_)⟩
        · exact no ((last (.inr (by omega)) _ l3).1 e)
        · exact fin ((last (.inr (by omega)) _ l3).2 e)
    · have c4 : ¬ 0 < fStep b := by rw [← a28]; exact c3
      refine ⟨_, rfl, _, rfl, _, _, rfl, rfl, _, rfl, _, _, rfl, rfl, cp3, _, _, rfl, rfl, _, rfl, ifb (fun e => ?_) (fun e => ?_)⟩
      · exact no ((last (.inl (by omega)) _ l3).1 e)
      · exact fin ((last (.inl (by omega)) _ l3).2 e)
abbrev scope_good : Scope := { kind := ScopeKind.function, names := [(Str.ofString ".0", NameKind.local), (Str.ofString "_law_some", NameKind.cell), (Str.ofString "_law_rights", NameKind.cell)], isGenerator := false, isCoroutine := false }
def sp__law_good (K : PySem.W.Frag) : Sp := fun vs H Q _ => ∃ p, vs = [.str (rtx p)] ∧ ∀ b H', Same H H' → (b = true ↔ OneW (rtx p)) → Q (.bl b) H'
theorem ok__law_good {f : Addr} {fd : FuncData} (F : Fun K "_law_good" "_law_good" s__law_good f fd) (T : Txt K mg) : FnOk P w K mg base CX0 1 f fd ["_law_rights"] (sp__law_good K) := by
  refine F.ok sc__law_good (fun vs H Q E h => ?_) (fun cdv A outer s H vs Q E hr h => ?_)
  · obtain ⟨p, rfl, q⟩ := h; rfl
  · obtain ⟨p, rfl, q⟩ := h
    refine ⟨_, (pss_cons (ps_setLc (i := 3) (own := [("_law_some", 2)]) rfl sc__law_good.nd rfl rfl (sw_true rfl rfl rfl (by decide +kernel)) (pi_list (pe_lst (pa_cons pe_str (pa_cons pe_str (pa_cons pe_str pa_nil))))) (blkOk_by (own := [("_law_some", 2)]) (N := ["_law_rights", "_law_sign", "_law_some", "_law_groups"]) (sc := defScope s__law_good) (by decide +kernel)) (fun _ _ _ _ _ => (pg_name (i := 2) sc__law_good.nd rfl (.inr rfl))) (fun _ _ _ _ _ => pts_nil) (fun _ _ _ _ _ => (pe_cmpR (r := rNeD K) (op_neD hr.units) (pe_lc (own := [("_law_sign", 1)]) rfl sc__law_good.nd (pi_str (pv 0)) (blkOk_by (own := [("_law_sign", 1)]) (N := ["_law_rights", "_law_sign", "_law_some", "_law_groups"]) (sc := scope_good) (by decide +kernel)) (fun _ _ _ _ _ => (pg_name (i := 1) sc__law_good.nd rfl (.inl rfl))) (fun _ _ _ _ _ => by exact (pts_one (pt_cmpR op_in_sign (pv 1) (pv 2) (by rfl)))) (fun _ _ _ _ _ => by exact (pv 1))) (pe_lst pa_nil) (nomark _))))
      (pss_one (ps_ret (pe_cmpR op_lt (pe_bm PySem.F.plainAttrs_list PySem.F.slot_list_count PySem.F.type_list_count mt_lcountB (pv 3) (pa_cons pe_bl pa_nil)) pe_int (nomark _))))), ?_⟩
    refine ⟨sz (by simp), fun L hL => ?_⟩
    refine ⟨L, rfl, ⟨_, .of upd_same⟩, fun D hD => ?_⟩
    have nLD : L ≠ D := ne_of_none upd_same hD
    refine lc_it (walk_list (xs := [.str G0, .str G1, .str G2])) (fun i H' => Same _ H' ∧ H' D = some (.lst ((([G0, G1, G2].take i).map (hasG (rtx p))).map V.bl))) ⟨same_new hD, upd_same⟩ (fun i H' _ h => .of (h.1 _ _ upd_same)) ?_ ?_
    · rintro i x H1 H2 hi ⟨sm, hl⟩ ⟨rfl, hx⟩
      obtain ⟨g, hg, rfl⟩ : ∃ g, [G0, G1, G2][i]? = some g ∧ x = V.str g := by
        have : i = 0 ∨ i = 1 ∨ i = 2 := by simp at hi; omega
        rcases this with e | e | e <;> subst e <;> exact ⟨_, rfl, (Option.some.inj hx).symm⟩
      have tk : [G0, G1, G2].take (i + 1) = [G0, G1, G2].take i ++ [g] := by rw [List.take_add_one, hg]; rfl
      refine ⟨rfl, ?_⟩
      refine ⟨_, rfl, _, rfl, fun D2 hD2 => ?_⟩
      have nD2 : D ≠ D2 := ne_of_none hl hD2
      refine lc_it (walk_str (z := rtx p)) (fun j H' => Same H2 H' ∧ H' D2 = some (.lst ((((rtx p).cps.toList.take j).filter fun c => decide (c ∈ g.cps.toList)).map fun c => V.str (one c)))) ⟨same_new hD2, upd_same⟩ (fun _ _ _ _ => trivial) ?_ ?_
      · rintro j x H3 H4 hj ⟨sm3, hl3⟩ ⟨rfl, c, hc, rfl⟩
        refine ⟨rfl, ?_⟩
        have ec : (rtx p).cps.toList[j]? = some c := by rw [Array.getElem?_toList]; exact hc
        have tk2 : (rtx p).cps.toList.take (j + 1) = (rtx p).cps.toList.take j ++ [c] := by rw [List.take_add_one, ec]; rfl
        refine ⟨_, rfl, _, rfl, c, g, rfl, rfl, _, rfl, ifb (fun e => ?_) (fun e => ?_)⟩
        · refine ⟨_, rfl, _, hl3, ?_, ?_, ?_⟩
          · rw [List.length_map]
            have h1 := List.length_filter_le (fun c => decide (c ∈ g.cps.toList)) ((rtx p).cps.toList.take j)
            have h2 : ((rtx p).cps.toList.take j).length ≤ j := by rw [List.length_take]; exact Nat.min_le_left _ _
            have h3 := rtx_len p
            exact szn (by omega)
          · exact fun b o e => by
              have n : b ≠ D2 := ne_of_none e hD2
              rw [upd_ne n]; exact sm3 b o e
          · rw [upd_same, tk2, List.filter_append, List.map_append, show List.filter (fun c => decide (c ∈ g.cps.toList)) [c] = [c] by rw [List.filter_cons, if_pos e]; rfl]
            rfl
        · refine ⟨sm3, ?_⟩
          rw [tk2, List.filter_append, show List.filter (fun c => decide (c ∈ g.cps.toList)) [c] = [] by rw [List.filter_cons, if_neg (by rw [e]; exact Bool.false_ne_true)]; rfl, List.append_nil]
          exact hl3
      · rintro H3 ⟨sm3, hl3⟩
        refine ⟨sz (by simp), fun D3 hD3 => ?_⟩
        have n23 : D2 ≠ D3 := ne_of_none hl3 hD3
        have nD3 : D ≠ D3 := ne_of_none (sm3 _ _ hl) hD3
        have efull : (rtx p).cps.toList.take (rtx p).cps.size = (rtx p).cps.toList := by rw [show (rtx p).cps.size = (rtx p).cps.toList.length by simp, List.take_length]
        rw [efull] at hl3
        refine ⟨_, _, .lst (.of (show (upd H3 D3 _) D2 = _ by rw [upd_ne n23]; exact hl3)) (dp_strs _), .lst (.of upd_same) .nil, strs_shape (fun c hc => rtx_ok p (List.mem_filter.mp hc).1), rfl, ?_⟩
        refine ⟨_, (show (upd H3 D3 _) D = _ by rw [upd_ne nD3]; exact sm3 _ _ hl), ?_, ?_, ?_⟩
        · rw [List.length_map, List.length_map, List.length_take]
          exact szn (Nat.lt_of_le_of_lt (Nat.min_le_right _ _) (by decide))
        · exact fun b o e => by
            have n : b ≠ D := ne_of_none e hD
            have n3 : b ≠ D3 := ne_of_none (sm3 _ _ (sm _ _ e)) hD3
            rw [upd_ne n, upd_ne n3]
            exact sm3 _ _ (sm _ _ e)
        · rw [upd_same, tk, List.map_append, List.map_append, strs_eqv, hasG_iff]
          rfl
    · rintro H1 ⟨sm, hl⟩
      refine ⟨_, rfl, .inl ⟨rfl, _, .inl (.inl hl)⟩, D, _, rfl, rfl, .of hl, _, _, rfl, rfl, q _ _ (Same.trans (same_new hL) sm) ?_⟩
      rw [decide_eq_true_iff]
      unfold OneW
      have e : ((([G0, G1, G2].take 3).map (hasG (rtx p))).filter id).length = ([G0, G1, G2].filter (hasG (rtx p))).length := by
        rw [List.filter_map, List.length_map]; rfl
      show ((((([G0, G1, G2].take 3).map (hasG (rtx p))).filter id).length : Nat) : Int) < 2 ↔ _
      rw [e]
      omega

def sp__law_told (K : PySem.W.Frag) : Sp := fun vs H Q _ => ∃ (p : Addr) (lo hi at' : Int) (r : Str) (kd : Int) (mk : Bool), vs = [.ref p, .bl mk] ∧ H p = some (.tup [.int lo, .int hi, .int at', .str r, .int kd]) ∧ (F5 [.int lo, .int hi, .int at', .str r, .int kd] → ∀ (s : Nat) q H', StepIs lo hi s → Same H H' → H q = none → H' q = some (.tup [.bl mk, .int (wbits lo hi at' (maskOf r) kd s)]) → Q (.ref q) H') ∧ (¬ F5 [.int lo, .int hi, .int at', .str r, .int kd] → ∀ H', Same H H' → Q (.str (Str.ofString "none")) H')
theorem ok__law_told {f : Addr} {fd : FuncData} (F : Fun K "_law_told" "_law_told" s__law_told f fd) (T : Txt K mg) (C_word_of : CalXD P w K mg base "word_of" 8 ["fields", "marked"] [.bl true] (sp_word_of K)) (C_word_of_k : CalXK P w K mg base "word_of" 8 ["fields", "marked"] 1 ["marked"] (sp_word_of K)) : FnOk P w K mg base CX0 9 f fd ["_law_own", "_law_mark"] (sp__law_told K) := by
  obtain ⟨p_NoFields, hk_NoFields, ak_NoFields⟩ := T.k_NoFields
  obtain ⟨p_NoText, hk_NoText, ak_NoText⟩ := T.k_NoText
  obtain ⟨p_ReachError, hk_ReachError, ak_ReachError⟩ := T.k_ReachError
  refine F.ok sc__law_told (fun vs H Q E h => ?_) (fun cdv A outer s H vs Q E hr h => ?_)
  · obtain ⟨p, lo, hi, at', r, kd, mk, rfl, hp, q1, q2⟩ := h; rfl
  · obtain ⟨p, lo, hi, at', r, kd, mk, rfl, hp, q1, q2⟩ := h
    refine ⟨_, (pss_cons (ps_set (i := 2) sc__law_told.nd rfl (.inl rfl) pe_non)
      (pss_cons (ps_set (i := 3) sc__law_told.nd rfl (.inl rfl) pe_non)
      (pss_cons (ps_try_keep (i := 4) (c := .ref p_ReachError) (Wout := fun _ _ _ _ => False) rfl rfl rfl sc__law_told.nd rfl rfl ⟨rfl, by decide, .inl hk_ReachError⟩ takes0
      (fun W pn xe tk _ => (pss_one (ps_set (i := 3) sc__law_told.nd rfl (.inl rfl) (by exact (pe_calXK C_word_of_k (hr.mono (by decide)) tk (by exact (pa_cons (pv 0) pa_nil)) (by exact (pk_cons (pv 1) pk_nil)))))))
      (fun a oe cls d pn hz hf => (pss_one (ps_set (i := 2) sc__law_told.nd rfl (.inl rfl) (pv 4)))))
      (pss_cons (ps_if (pt_cmpR op_isN (pv 2) pe_non (nomark _)) (pss_one (ps_ret (pv 3))) pss_nil)
      (pss_one (ps_ret (pe_ifExp (PW.pt (pw_and (pt_val (pe_callB call_isX (by rfl) T.z_isinstance (by decide +kernel) (pa_cons (pv 2) (pa_cons (pe_glob (v := .ref p_NoFields) (by rfl) hk_NoFields rfl) pa_nil)))) (pw_and1 (pt_not (pt_val (pe_callB call_isX (by rfl) T.z_isinstance (by decide +kernel) (pa_cons (pv 2) (pa_cons (pe_glob (v := .ref p_NoText) (by rfl) hk_NoText rfl) pa_nil)))))))) pe_str pe_str))))))), ?_⟩
    refine ⟨_, rfl, _, rfl, rfl, rfl, p, lo, hi, at', r, kd, .bl mk, rfl, hp, fun hf s q H1 hs sm hq hq2 => ?_, fun nf C d v H1 hC sm hd => ?_⟩
    · refine ⟨_, rfl, rfl, _, rfl, ifd (fun _ => ?_) (fun c => absurd rfl c)⟩
      exact ⟨_, rfl, q1 hf s q H1 hs sm hq hq2⟩
    · refine ⟨true, T.x_NoFields_ReachError _ _ hC ak_ReachError, fun _ a na => ?_, fun z => nomatch z⟩
      refine ⟨_, rfl, ?_⟩
      have nd : d ≠ a := ne_of_none upd_same na
      have e1 : (upd (upd H1 d (.xd [("text", v)])) a (kept a (.ref C) (some d))) a = some (kept a (.ref C) (some d)) := upd_same
      have e2 : (upd (upd H1 d (.xd [("text", v)])) a (kept a (.ref C) (some d))) d = some (.xd [("text", v)]) := by rw [upd_ne nd, upd_same]
      have sm2 : Same H (upd (upd H1 d (.xd [("text", v)])) a (kept a (.ref C) (some d))) := sameN (sameN sm hd) na
      refine ⟨_, rfl, rfl, _, rfl, ifd (fun c => by cases c) (fun _ => ?_)⟩
      generalize upd (upd H1 d (.xd [("text", v)])) a (kept a (.ref C) (some d)) = H2 at e1 e2 sm2 ⊢
      refine ⟨_, rfl, a, C, d, _, _, _, true, rfl, e1, e2, T.e_NoFields _ hC, .own _, T.i_NoFields_NoFields _ _ hC ak_NoFields, ?_⟩
      refine ⟨_, rfl, iteT ?_⟩
      refine ⟨_, rfl, a, C, d, _, _, _, false, rfl, e1, e2, T.e_NoFields _ hC, .own _, T.i_NoFields_NoText _ _ hC ak_NoText, ?_⟩
      refine ⟨_, rfl, ifnb (fun _ => ?_) (fun c => by cases c)⟩
      exact q2 nf H2 sm2

theorem ok_law {f : Addr} {oc kV dc pm cdv ct : Value} {od an : Option Addr} {osl : Array (Option Value)} (lk : K.lookup f = some ⟨oc, od, .func (PySem.W.fnOf "law" "law" (defArgs s_law) (defBody s_law) (defScope s_law) .none kV dc pm an cdv ct), osl⟩) (hcd : PySem.W.codeIn K cdv "law" = true) (T : Txt K mg) (C_fields_of : Cal P w K mg base "fields_of" 3 ["word"] (sp_fields_of K)) (C_fields_of_n_word : CalN CX0 P w K mg base "fields_of" 3 ["word"] ["word"] id (sp_fields_of K)) (C_word_of : CalXD P w K mg base "word_of" 8 ["fields", "marked"] [.bl true] (sp_word_of K)) (C_word_of_n_marked_fields : CalN (L2.CX P w) P w K mg base "word_of" 8 ["fields", "marked"] ["marked", "fields"] swap2 (sp_word_of K)) (C_plain : Cal P w K mg base "plain" 1 ["number"] (sp_plain K)) (C_plain_n_number : CalN CX0 P w K mg base "plain" 1 ["number"] ["number"] id (sp_plain K)) (C__law_take : Cal P w K mg base "_law_take" 1 ["_law_pool_here", "_law_many"] (sp__law_take K)) (C__law_pool : Cal P w K mg base "_law_pool" 1 ["_law_script", "_law_k"] (sp__law_pool K)) (C__law_drawn : Cal P w K mg base "_law_drawn" 3 ["_law_pool_here"] (sp__law_drawn K)) (C__law_fields : Cal P w K mg base "_law_fields" 1 ["_law_bits_here"] (sp__law_fields K)) (C__law_good : Cal P w K mg base "_law_good" 1 ["_law_rights"] (sp__law_good K)) (C__law_told : Cal P w K mg base "_law_told" 9 ["_law_own", "_law_mark"] (sp__law_told K)) {s : Shared} {H : Hp} {a : Addr} {ns : List Int} (e0 : Env0 P w K mg base callerA [] s H) (hS : SqL K H a (ns.map V.int)) (hlen : ns.length ≤ 63) :
    codeAny (model P w) callerA (.call (.ref f) ⟨[.ref a], []⟩) (CR CX0 [] P w H s (fun v _ => v = .bl true) fun _ _ _ => False) s := by
  have hr : Room 9 (callerA.deeper (envOfC "law" (defScope s_law) s.heap.objs.size f cdv)) := Room.deeper (k := 9) ⟨rfl, by decide, by decide⟩ _
  have gd : (callerA.deeper (envOfC "law" (defScope s_law) s.heap.objs.size f cdv)).guards = some [] := caller_guards
  generalize hQ : (fun (v : V) (_ : Hp) => v = V.bl true) = Q
  have q : ∀ H', Q (.bl true) H' := fun _ => by rw [← hQ]
  refine body_at (N := ["_law_script", "_law_k", "_law_pool_here", "_law_bits_here", "_law_due", "_law_mark", "_law_good_here", "_law_some", "_law_great"]) (ps := ["_law_script"]) (vs := [.ref a]) (us := [.ref a]) lk hcd sc_law rfl (k := 9) ⟨rfl, by decide, by decide⟩ e0 (.of_eq rfl) (.cons rfl .nil) ?_
  refine ⟨_, PSs.nox (pss_cons (ps_for PassesOwn.never rfl (pi_range1 (by rfl) T.z_range (pa_cons (pe_callB (call_max2 rfl) (by rfl) T.z_max (by decide +kernel) (pa_cons pe_int (pa_cons (pe_callB (call_min2 rfl) (by rfl) T.z_min (by decide +kernel) (pa_cons (pe_callB call_len_seq (by rfl) T.z_len (by decide +kernel) (pa_cons (pv 0) pa_nil)) (pa_cons pe_int pa_nil))) pa_nil))) pa_nil)) (pg_name (i := 1) sc_law.nd rfl (.inl rfl)) (pss_cons (ps_set (i := 2) sc_law.nd rfl (.inl rfl) (pe_cal C__law_pool (hr.mono (by decide)) (pa_cons (pv 0) (pa_cons (pv 1) pa_nil))))
      (pss_cons (ps_set (i := 3) sc_law.nd rfl (.inl rfl) (pe_cal C__law_drawn (hr.mono (by decide)) (pa_cons (pv 2) pa_nil)))
      (pss_cons (ps_set (i := 4) sc_law.nd rfl (.inl rfl) (pe_cal C__law_fields (hr.mono (by decide)) (pa_cons (pv 3) pa_nil)))
      (pss_cons (ps_for PassesOwn.never rfl (pi_list (pe_lst (pa_cons pe_bl (pa_cons pe_bl pa_nil)))) (pg_name (i := 5) sc_law.nd rfl (.inl rfl)) (pss_cons (ps_if (PW.pt (pw_or (pt_cmpR op_ne (pe_callB (call_reprD gd hr.units) (by rfl) T.z_repr (by decide +kernel) (pa_cons (pe_cal C_fields_of (hr.mono (by decide)) (pa_cons (pe_tup (pa_cons (pv 5) (pa_cons (pv 3) pa_nil))) pa_nil)) pa_nil)) (pe_callB (call_reprD gd hr.units) (by rfl) T.z_repr (by decide +kernel) (pa_cons (pv 4) pa_nil)) (nomark _)) (pw_or1 (pt_cmpR op_ne (pe_callB (call_reprD gd hr.units) (by rfl) T.z_repr (by decide +kernel) (pa_cons (pe_calN C_fields_of_n_word (hr.mono (by decide)) pass0 (pk_cons (pe_tup (pa_cons (pv 5) (pa_cons (pv 3) pa_nil))) pk_nil)) pa_nil)) (pe_callB (call_reprD gd hr.units) (by rfl) T.z_repr (by decide +kernel) (pa_cons (pv 4) pa_nil)) (nomark _))))) (pss_one (ps_ret pe_bl)) pss_nil)
      (pss_one (ps_if (pt_cmpR op_notN (pv 4) pe_non (nomark _)) (pss_cons (ps_set (i := 6) sc_law.nd rfl (.inl rfl) (pe_cal C__law_good (hr.mono (by decide)) (pa_cons (pe_ix (r := rIxT K) ix_tup (pv 4) pe_int (fun _ _ => rfl)) pa_nil)))
      (pss_cons (ps_if (pt_cmpR (r := rNeD K) (op_neD hr.units) (pe_cal C__law_told (hr.mono (by decide)) (pa_cons (pv 4) (pa_cons (pv 5) pa_nil))) (pe_ifExp (pt_val (pv 6)) (pe_tup (pa_cons (pv 5) (pa_cons (pv 3) pa_nil))) pe_str) (nomark _)) (pss_one (ps_ret pe_bl)) pss_nil)
      (pss_cons (ps_if (PW.pt (pw_and (pt_val (pv 6)) (pw_and1 (pt_cmpR (r := rNeD K) (op_neD hr.units) (pe_calXD0 C_word_of (hr.mono (by decide)) (pa_cons (pv 4) pa_nil)) (pe_tup (pa_cons pe_bl (pa_cons (pv 3) pa_nil))) (nomark _))))) (pss_one (ps_ret pe_bl)) pss_nil)
      (pss_one (ps_if (PW.pt (pw_and (pt_val (pv 6)) (pw_and1 (pt_cmpR (r := rNeD K) (op_neD hr.units) (pe_calN C_word_of_n_marked_fields (hr.mono (by decide)) passL (pk_cons (pv 5) (pk_cons (pv 4) pk_nil))) (pe_tup (pa_cons (pv 5) (pa_cons (pv 3) pa_nil))) (nomark _))))) (pss_one (ps_ret pe_bl)) pss_nil))))) pss_nil))))
      (pss_cons (ps_set (i := 7) sc_law.nd rfl (.inl rfl) (pe_lst (pa_cons (pe_cal C__law_take (hr.mono (by decide)) (pa_cons (pv 2) (pa_cons pe_int pa_nil))) (pa_cons (pv 3) (pa_cons (pe_op op_add (pe_op op_shl pe_int pe_int) (pv 3)) (pa_cons (pe_op op_sub pe_int (pv 3)) (pa_cons (pe_op op_add (pe_op op_pow pe_int pe_int) (pv 3)) (pa_cons (pe_un un_neg pe_int) (pa_cons (pe_op op_shl pe_int pe_int) pa_nil)))))))))
      (pss_cons (ps_set (i := 8) sc_law.nd rfl (.inl rfl) (pe_ix (r := rIxL K) ix_list (pv 7) (pe_cal C__law_take (hr.mono (by decide)) (pa_cons (pv 2) (pa_cons pe_int pa_nil))) (fun _ _ => rfl)))
      (pss_one (ps_if (PW.pt (pw_or (pt_cmpR op_ne (pe_callB (call_reprD gd hr.units) (by rfl) T.z_repr (by decide +kernel) (pa_cons (pe_cal C_plain (hr.mono (by decide)) (pa_cons (pv 8) pa_nil)) pa_nil)) (pe_callB (call_reprD gd hr.units) (by rfl) T.z_repr (by decide +kernel) (pa_cons (pe_tup (pa_cons pe_bl (pa_cons (pe_op op_mod (pv 8) (pe_op op_shl pe_int pe_int)) pa_nil))) pa_nil)) (nomark _)) (pw_or1 (pt_cmpR (r := rNeD K) (op_neD hr.units) (pe_calN C_plain_n_number (hr.mono (by decide)) pass0 (pk_cons (pv 8) pk_nil)) (pe_cal C_plain (hr.mono (by decide)) (pa_cons (pv 8) pa_nil)) (nomark _))))) (pss_one (ps_ret pe_bl)) pss_nil)))))))))
      (pss_one (ps_ret (pe_and (pe_cmpR (r := rEqD K) (op_eqD hr.units) (pe_cal C_fields_of (hr.mono (by decide)) (pa_cons (pe_tup (pa_cons pe_bl (pa_cons pe_int pa_nil))) pa_nil)) (pe_tup (pa_cons pe_int (pa_cons pe_int (pa_cons pe_int (pa_cons pe_str (pa_cons pe_int pa_nil)))))) (nomark _)) (pe_one (pe_cmpR (r := rEqD K) (op_eqD hr.units) (pe_cal C_plain (hr.mono (by decide)) (pa_cons (pe_un un_neg pe_int) pa_nil)) (pe_tup (pa_cons pe_bl (pa_cons (pe_op op_sub (pe_op op_shl pe_int pe_int) pe_int) pa_nil))) (nomark _))))))), ?_⟩
  refine ⟨_, rfl, a, _, rfl, .inl hS, _, _, rfl, _, _, rfl, _, rfl, rep_lo (c := 30) (by decide) (by decide), rep_hi (c := 30) (by decide) (by decide), for_range (fun i σ H' => ∃ v1 v2 v3 v4 v5 v6 v7 v8, σ = [some (.ref a), v1, v2, v3, v4, v5, v6, v7, v8] ∧ Same H H') ⟨_, _, _, _, _, _, _, _, rfl, Same.refl _⟩ ?_ ?_⟩
  · rintro i σ H3 hi ⟨v1, v2, v3, v4, v5, v6, v7, v8, rfl, s3⟩
    have hi63 := rep_i (c := 30) (by decide) (by decide) hi
    rw [i0]
    refine ⟨_, rfl, _, rfl, a, ns, i, rfl, s3.seq hS, hlen, hi63, fun x y p H4 sm4 hp0 P4 => ?_⟩
    refine ⟨_, rfl, p, x, y, rfl, P4, fun b x5 y5 H5 w B5 P5 => ?_⟩
    refine ⟨_, rfl, b, rfl, w, fun nt HX SX => ?_, fun tl qd HX SX hqd hqd2 => ?_⟩
    · refine ⟨sz (by simp), fun L hL => ?_⟩
      have SL := same_new (o := .lst [.bl true, .bl false]) hL
      have hL2 : (upd HX L (.lst [.bl true, .bl false])) L = some (.lst [.bl true, .bl false]) := upd_same
      generalize upd HX L (.lst [.bl true, .bl false]) = H0 at SL hL2 ⊢
      refine ⟨L, rfl, ⟨_, .of hL2⟩, for_list (K := K) (a := L) (xs := [.bl true, .bl false]) (fun j σ H' => ∃ v5 v6 v7 v8, σ = [some (.ref a), some (.int (i : Int)), some (.ref p), some (.int b), some V.non, v5, v6, v7, v8] ∧ Same H0 H') ⟨_, _, _, _, rfl, Same.refl _⟩ (fun j σ H' _ ⟨_, _, _, _, _, sm⟩ => .of (sm _ _ hL2)) ?_ ?_⟩
      · rintro j xx σ H7 hx ⟨v5, v6, v7, v8, rfl, S7⟩
        obtain ⟨mk, rfl⟩ : ∃ mk : Bool, xx = .bl mk := by
          have h := List.mem_of_getElem? hx
          simp only [List.mem_cons, List.not_mem_nil, or_false] at h
          rcases h with h | h <;> exact ⟨_, h⟩
        clear hx
        have nf := none_fit
        refine ⟨_, rfl, _, rfl, sz (by simp), fun p1 hp1 => ⟨p1, _, b, rfl, upd_same, w.1, fun _ H8 s8 => ?_, fun tl => absurd tl nt⟩⟩
        refine ⟨.non, .none, rfl, .non, nf.1, nf.2.1, nf.2.2.1, nf.2.2.2, ?_⟩
        refine ⟨_, rfl, .non, .none, rfl, .non, nf.1, nf.2.1, nf.2.2.1, nf.2.2.2, ?_⟩
        refine ⟨rfl, _, rfl, ifnd (fun c => absurd rfl c) (fun _ => ?_)⟩
        refine ⟨_, rfl, _, rfl, sz (by simp), fun p2 hp2 => ⟨rfl, p2, _, b, rfl, upd_same, w.1, fun _ H9 s9 => ?_, fun tl => absurd tl nt⟩⟩
        refine ⟨.non, .none, rfl, .non, nf.1, nf.2.1, nf.2.2.1, nf.2.2.2, ?_⟩
        refine ⟨_, rfl, .non, .none, rfl, .non, nf.1, nf.2.1, nf.2.2.1, nf.2.2.2, ?_⟩
        refine ⟨rfl, _, rfl, ifnd (fun c => absurd rfl c) (fun _ => ?_)⟩
        refine ⟨_, rfl, rfl, _, rfl, ifnd (fun c => absurd rfl c) (fun _ => ?_)⟩
        exact ⟨_, _, _, _, rfl, (sameN ((sameN S7 hp1).trans s8) hp2).trans s9⟩
      · rintro σ H7 ⟨v5, v6, v7, v8, rfl, S7⟩
        have B7 : But p H4 H7 := (B5.trans (But.of SX)).trans (But.of (SL.trans S7))
        have P7 := (P5.same SX).same (SL.trans S7)
        refine ⟨_, rfl, p, x5, y5, _, rfl, P7, by decide, by decide, fun r x8 y8 r0 r1 P8 => ?_⟩
        refine ⟨_, rfl, _, _, rfl, rfl, ⟨by decide, by decide, by decide⟩, _, rfl, _, _, rfl, rfl, _, rfl, _, _, rfl, rfl, _, _, rfl, rfl, ⟨by decide, by decide, by decide⟩, _, rfl, _, _, rfl, rfl, _, rfl, _, _, rfl, rfl, ⟨by decide, by decide, by decide⟩, sz (by simp), fun M hM => ?_⟩
        obtain ⟨ns2, ens⟩ : ∃ ns2 : List Int, [V.int r, .int b, .int (1 * 2 ^ (45 : Int).toNat + b), .int (0 - b), .int (10 ^ (28 : Int).toNat + b), .int (-1), .int (1 * 2 ^ (45 : Int).toNat)] = ns2.map V.int ∧ ns2.length = 7 := ⟨[r, b, 1 * 2 ^ (45 : Int).toNat + b, 0 - b, 10 ^ (28 : Int).toNat + b, -1, 1 * 2 ^ (45 : Int).toNat], rfl, rfl⟩
        have fM : (upd (upd H7 p (.lst [.int x8, .int y8])) M (.lst [.int r, .int b, .int (1 * 2 ^ (45 : Int).toNat + b), .int (0 - b), .int (10 ^ (28 : Int).toNat + b), .int (-1), .int (1 * 2 ^ (45 : Int).toNat)])) M = some (.lst (ns2.map V.int)) := by rw [upd_same, ens.1]
        have P9 := P8.new hM (o := .lst [.int r, .int b, .int (1 * 2 ^ (45 : Int).toNat + b), .int (0 - b), .int (10 ^ (28 : Int).toNat + b), .int (-1), .int (1 * 2 ^ (45 : Int).toNat)])
        have B9 : But p H4 (upd (upd H7 p (.lst [.int x8, .int y8])) M (.lst [.int r, .int b, .int (1 * 2 ^ (45 : Int).toNat + b), .int (0 - b), .int (10 ^ (28 : Int).toNat + b), .int (-1), .int (1 * 2 ^ (45 : Int).toNat)])) := B7.upd.new hM
        have nM : M ≠ p := (ne_of_none P8.1 hM).symm
        generalize upd (upd H7 p (.lst [.int x8, .int y8])) M _ = H9 at fM P9 B9 ⊢
        refine ⟨_, rfl, _, rfl, p, x8, y8, _, rfl, P9, by decide, by decide, fun j x9 y9 j0 j1 P10 => ?_⟩
        obtain ⟨k, rfl⟩ := Int.eq_ofNat_of_zero_le j0
        have hk : k < ns2.length := by rw [ens.2]; omega
        refine ⟨M, _, (k : Int), .int ns2[k], rfl, rfl, .of (by rw [upd_ne nM]; exact fM), atI_nat (by rw [List.getElem?_map, List.getElem?_eq_getElem hk]; rfl), ?_⟩
        have B10 : But p H4 (upd H9 p (.lst [.int x9, .int y9])) := B9.upd
        generalize upd H9 p (.lst [.int x9, .int y9]) = H10 at P10 B10 ⊢
        generalize ns2[k] = z
        have e45 : (1 : Int) * 2 ^ (45 : Int).toNat = 35184372088832 := by decide
        have wz := mod_w45 z
        have wf := wide_fit wz
        refine ⟨_, rfl, z, rfl, fun p1 hp1 => ?_⟩
        refine ⟨.ref p1, dw false (z % 35184372088832), rfl, dpw upd_same, wf.1, wf.2.1, wf.2.2.1, wf.2.2.2, ?_⟩
        refine ⟨_, rfl, _, _, rfl, rfl, ⟨by decide, by decide, by decide⟩, _, _, rfl, rfl, (by show (0 : Int) < 1 * 2 ^ (45 : Int).toNat; decide), sz (by simp), fun p2 hp2 => ?_⟩
        refine ⟨.ref p2, dw false (z % 35184372088832), rfl, dpw (by rw [upd_same, ← e45]), wf.1, wf.2.1, wf.2.2.1, wf.2.2.2, ?_⟩
        refine ⟨rfl, _, rfl, ifnd (fun c => absurd rfl c) (fun _ => ?_)⟩
        refine ⟨_, rfl, rfl, z, rfl, fun p3 hp3 => ⟨_, rfl, z, rfl, fun p4 hp4 => ?_⟩⟩
        have n34 : p3 ≠ p4 := ne_of_none upd_same hp4
        refine ⟨_, _, dpw (by rw [upd_ne n34]; exact upd_same), dpw upd_same, rfl, rfl, _, rfl, ifnb (fun c => (tw_no c rfl).elim) (fun _ => ?_)⟩
        exact ⟨_, _, _, _, _, _, _, _, rfl, same_pool (s3.trans sm4) (s3.free hp0) ((((B10.new hp1).new hp2).new hp3).new hp4)⟩
    have ts := tells_small tl
    rcases Classical.em (OneW (rtx (bitp (fRts b)))) with ow | now
    · obtain ⟨lo, hi', at', pr, kd, s0, ef, W⟩ := wf_of w ⟨tl, ow⟩
      have ff := f5_fit (p := bitp (fRts b)) ts.1 ts.2.1 ts.2.2.1 ts.2.2.2
      rw [ef] at hqd2
      have fe := ef
      injection fe with g1 fe; injection fe with g2 fe; injection fe with g3 fe; injection fe with g4 fe; injection fe with g5 fe
      rw [V.int.inj g1, V.int.inj g2, V.int.inj g3, V.str.inj g4, V.int.inj g5] at ff
      clear fe
      obtain ⟨D5, dpD, ff⟩ : ∃ D5 : PyData, (∀ (H : Hp) (q : Addr), H q = some (.tup [.int lo, .int hi', .int at', .str (rtx pr), .int kd]) → Dp K H (.ref q) D5) ∧ D5.showable = true ∧ D5.hasDict = false ∧ D5.depth ≤ 50 ∧ D5.shown.length ≤ sizeLine := ⟨dat5 lo hi' at' (rtx pr) kd, fun H q h => dp5 h, ff⟩
      refine ⟨sz (by simp), fun L hL => ?_⟩
      have SL := same_new (o := .lst [.bl true, .bl false]) hL
      have hL2 : (upd HX L (.lst [.bl true, .bl false])) L = some (.lst [.bl true, .bl false]) := upd_same
      generalize upd HX L (.lst [.bl true, .bl false]) = H0 at SL hL2 ⊢
      refine ⟨L, rfl, ⟨_, .of hL2⟩, for_list (K := K) (a := L) (xs := [.bl true, .bl false]) (fun j σ H' => ∃ v5 v6 v7 v8, σ = [some (.ref a), some (.int (i : Int)), some (.ref p), some (.int b), some (V.ref qd), v5, v6, v7, v8] ∧ Same H0 H') ⟨_, _, _, _, rfl, Same.refl _⟩ (fun j σ H' _ ⟨_, _, _, _, _, sm⟩ => .of (sm _ _ hL2)) ?_ ?_⟩
      · rintro j xx σ H7 hx ⟨v5, v6, v7, v8, rfl, S7⟩
        obtain ⟨mk, rfl⟩ : ∃ mk : Bool, xx = .bl mk := by
          have h := List.mem_of_getElem? hx
          simp only [List.mem_cons, List.not_mem_nil, or_false] at h
          rcases h with h | h <;> exact ⟨_, h⟩
        clear hx
        have hqd3 := SL _ _ hqd2
        refine ⟨_, rfl, _, rfl, sz (by simp), fun p1 hp1 => ⟨p1, _, b, rfl, upd_same, w.1, fun nt => absurd tl nt, fun _ q1 H8 s8 hq1 hq12 => ?_⟩⟩
        have S8 := (sameN S7 hp1).trans s8
        rw [ef] at hq12
        refine ⟨.ref q1, D5, rfl, dpD _ _ hq12, ff.1, ff.2.1, ff.2.2.1, ff.2.2.2, ?_⟩
        refine ⟨_, rfl, .ref qd, D5, rfl, dpD _ _ (S8 _ _ hqd3), ff.1, ff.2.1, ff.2.2.1, ff.2.2.2, ?_⟩
        refine ⟨rfl, _, rfl, ifnd (fun c => absurd rfl c) (fun _ => ?_)⟩
        refine ⟨_, rfl, _, rfl, sz (by simp), fun p2 hp2 => ⟨rfl, p2, _, b, rfl, upd_same, w.1, fun nt => absurd tl nt, fun _ q2 H9 s9 hq2 hq22 => ?_⟩⟩
        have S9 := (sameN S8 hp2).trans s9
        rw [ef] at hq22
        refine ⟨.ref q2, D5, rfl, dpD _ _ hq22, ff.1, ff.2.1, ff.2.2.1, ff.2.2.2, ?_⟩
        refine ⟨_, rfl, .ref qd, D5, rfl, dpD _ _ (S9 _ _ hqd3), ff.1, ff.2.1, ff.2.2.1, ff.2.2.2, ?_⟩
        refine ⟨rfl, _, rfl, ifnd (fun c => absurd rfl c) (fun _ => ?_)⟩
        refine ⟨_, rfl, rfl, _, rfl, ifnd (fun _ => ?_) (fun c => by cases c)⟩
        refine ⟨_, rfl, qd, _, 3, _, rfl, rfl, .of (S9 _ _ hqd3), atI_nat (j := 3) rfl, pr, rfl, fun g H10 s10 hg => ?_⟩
        have S10 := S9.trans s10
        have eg : g = true := hg.mpr W.ow
        subst eg
        refine ⟨_, rfl, _, rfl, qd, lo, hi', at', rtx pr, kd, mk, rfl, S10 _ _ hqd3, fun _ s' q3 H11 hs' s11 hq3 hq32 => ?_, fun nf => absurd W.f5 nf⟩
        have e8 : s0 = s' := W.ex.1.uniq hs'
        subst e8
        rw [W.wb] at hq32
        have S11 := S10.trans s11
        refine ⟨_, rfl, _, rfl, iteT ?_⟩
        refine ⟨_, rfl, _, rfl, sz (by simp), fun p3 hp3 => ?_⟩
        have n3 : q3 ≠ p3 := ne_of_none hq32 hp3
        refine ⟨_, _, dpw (show (upd H11 p3 _) q3 = _ by rw [upd_ne n3]; exact hq32), dpw upd_same, rfl, rfl, _, rfl, ifnb (fun c => (tw_no c rfl).elim) (fun _ => ?_)⟩
        have S12 := sameN (o := .tup [.bl mk, .int b]) S11 hp3
        refine ⟨_, rfl, _, rfl, iteT ?_⟩
        refine ⟨_, rfl, qd, lo, hi', at', rtx pr, kd, .bl true, rfl, S12 _ _ hqd3, fun _ s' q4 H13 hs' s13 hq4 hq42 => ?_, fun nf => absurd W.f5 nf⟩
        have e8 : s0 = s' := W.ex.1.uniq hs'
        subst e8
        rw [W.wb] at hq42
        have S13 := S12.trans s13
        refine ⟨_, rfl, sz (by simp), fun p4 hp4 => ?_⟩
        have n4 : q4 ≠ p4 := ne_of_none hq42 hp4
        refine ⟨_, _, dpw (show (upd H13 p4 _) q4 = _ by rw [upd_ne n4]; exact hq42), dpw upd_same, rfl, rfl, _, rfl, ifnb (fun c => (tw_no c rfl).elim) (fun _ => ?_)⟩
        have S14 := sameN (o := .tup [.bl true, .int b]) S13 hp4
        refine ⟨_, rfl, _, rfl, iteT ?_⟩
        refine ⟨_, rfl, _, rfl, rfl, qd, lo, hi', at', rtx pr, kd, .bl mk, rfl, S14 _ _ hqd3, fun _ s' q5 H15 hs' s15 hq5 hq52 => ?_, fun nf => absurd W.f5 nf⟩
        have e8 : s0 = s' := W.ex.1.uniq hs'
        subst e8
        rw [W.wb] at hq52
        have S15 := S14.trans s15
        refine ⟨_, rfl, _, rfl, sz (by simp), fun p5 hp5 => ?_⟩
        have n5 : q5 ≠ p5 := ne_of_none hq52 hp5
        refine ⟨_, _, dpw (show (upd H15 p5 _) q5 = _ by rw [upd_ne n5]; exact hq52), dpw upd_same, rfl, rfl, _, rfl, ifnb (fun c => (tw_no c rfl).elim) (fun _ => ?_)⟩
        exact ⟨_, _, _, _, rfl, sameN S15 hp5⟩
      · rintro σ H7 ⟨v5, v6, v7, v8, rfl, S7⟩
        have B7 : But p H4 H7 := (B5.trans (But.of SX)).trans (But.of (SL.trans S7))
        have P7 := (P5.same SX).same (SL.trans S7)
        refine ⟨_, rfl, p, x5, y5, _, rfl, P7, by decide, by decide, fun r x8 y8 r0 r1 P8 => ?_⟩
        refine ⟨_, rfl, _, _, rfl, rfl, ⟨by decide, by decide, by decide⟩, _, rfl, _, _, rfl, rfl, _, rfl, _, _, rfl, rfl, _, _, rfl, rfl, ⟨by decide, by decide, by decide⟩, _, rfl, _, _, rfl, rfl, _, rfl, _, _, rfl, rfl, ⟨by decide, by decide, by decide⟩, sz (by simp), fun M hM => ?_⟩
        obtain ⟨ns2, ens⟩ : ∃ ns2 : List Int, [V.int r, .int b, .int (1 * 2 ^ (45 : Int).toNat + b), .int (0 - b), .int (10 ^ (28 : Int).toNat + b), .int (-1), .int (1 * 2 ^ (45 : Int).toNat)] = ns2.map V.int ∧ ns2.length = 7 := ⟨[r, b, 1 * 2 ^ (45 : Int).toNat + b, 0 - b, 10 ^ (28 : Int).toNat + b, -1, 1 * 2 ^ (45 : Int).toNat], rfl, rfl⟩
        have fM : (upd (upd H7 p (.lst [.int x8, .int y8])) M (.lst [.int r, .int b, .int (1 * 2 ^ (45 : Int).toNat + b), .int (0 - b), .int (10 ^ (28 : Int).toNat + b), .int (-1), .int (1 * 2 ^ (45 : Int).toNat)])) M = some (.lst (ns2.map V.int)) := by rw [upd_same, ens.1]
        have P9 := P8.new hM (o := .lst [.int r, .int b, .int (1 * 2 ^ (45 : Int).toNat + b), .int (0 - b), .int (10 ^ (28 : Int).toNat + b), .int (-1), .int (1 * 2 ^ (45 : Int).toNat)])
        have B9 : But p H4 (upd (upd H7 p (.lst [.int x8, .int y8])) M (.lst [.int r, .int b, .int (1 * 2 ^ (45 : Int).toNat + b), .int (0 - b), .int (10 ^ (28 : Int).toNat + b), .int (-1), .int (1 * 2 ^ (45 : Int).toNat)])) := B7.upd.new hM
        have nM : M ≠ p := (ne_of_none P8.1 hM).symm
        generalize upd (upd H7 p (.lst [.int x8, .int y8])) M _ = H9 at fM P9 B9 ⊢
        refine ⟨_, rfl, _, rfl, p, x8, y8, _, rfl, P9, by decide, by decide, fun j x9 y9 j0 j1 P10 => ?_⟩
        obtain ⟨k, rfl⟩ := Int.eq_ofNat_of_zero_le j0
        have hk : k < ns2.length := by rw [ens.2]; omega
        refine ⟨M, _, (k : Int), .int ns2[k], rfl, rfl, .of (by rw [upd_ne nM]; exact fM), atI_nat (by rw [List.getElem?_map, List.getElem?_eq_getElem hk]; rfl), ?_⟩
        have B10 : But p H4 (upd H9 p (.lst [.int x9, .int y9])) := B9.upd
        generalize upd H9 p (.lst [.int x9, .int y9]) = H10 at P10 B10 ⊢
        generalize ns2[k] = z
        have e45 : (1 : Int) * 2 ^ (45 : Int).toNat = 35184372088832 := by decide
        have wz := mod_w45 z
        have wf := wide_fit wz
        refine ⟨_, rfl, z, rfl, fun p1 hp1 => ?_⟩
        refine ⟨.ref p1, dw false (z % 35184372088832), rfl, dpw upd_same, wf.1, wf.2.1, wf.2.2.1, wf.2.2.2, ?_⟩
        refine ⟨_, rfl, _, _, rfl, rfl, ⟨by decide, by decide, by decide⟩, _, _, rfl, rfl, (by show (0 : Int) < 1 * 2 ^ (45 : Int).toNat; decide), sz (by simp), fun p2 hp2 => ?_⟩
        refine ⟨.ref p2, dw false (z % 35184372088832), rfl, dpw (by rw [upd_same, ← e45]), wf.1, wf.2.1, wf.2.2.1, wf.2.2.2, ?_⟩
        refine ⟨rfl, _, rfl, ifnd (fun c => absurd rfl c) (fun _ => ?_)⟩
        refine ⟨_, rfl, rfl, z, rfl, fun p3 hp3 => ⟨_, rfl, z, rfl, fun p4 hp4 => ?_⟩⟩
        have n34 : p3 ≠ p4 := ne_of_none upd_same hp4
        refine ⟨_, _, dpw (by rw [upd_ne n34]; exact upd_same), dpw upd_same, rfl, rfl, _, rfl, ifnb (fun c => (tw_no c rfl).elim) (fun _ => ?_)⟩
        exact ⟨_, _, _, _, _, _, _, _, rfl, same_pool (s3.trans sm4) (s3.free hp0) ((((B10.new hp1).new hp2).new hp3).new hp4)⟩
    · obtain ⟨lo, hi', at', pr, kd, ef, ff, now'⟩ : ∃ (lo hi' at' : Int) (pr : Nat → Bool) (kd : Int), [V.int (fFirst b * 2 ^ (fStep b).toNat), .int ((fFirst b + fCnt b) * 2 ^ (fStep b).toNat), .int (fAt b), .str (rtx (bitp (fRts b))), .int (fKind b)] = [V.int lo, .int hi', .int at', .str (rtx pr), .int kd] ∧
          ((dat5 lo hi' at' (rtx pr) kd).showable = true ∧ (dat5 lo hi' at' (rtx pr) kd).hasDict = false ∧ (dat5 lo hi' at' (rtx pr) kd).depth ≤ 50 ∧ (dat5 lo hi' at' (rtx pr) kd).shown.length ≤ sizeLine) ∧ ¬ OneW (rtx pr) := ⟨_, _, _, _, _, rfl, f5_fit ts.1 ts.2.1 ts.2.2.1 ts.2.2.2, now⟩
      clear now
      rw [ef] at hqd2
      obtain ⟨D5, dpD, ff⟩ : ∃ D5 : PyData, (∀ (H : Hp) (q : Addr), H q = some (.tup [.int lo, .int hi', .int at', .str (rtx pr), .int kd]) → Dp K H (.ref q) D5) ∧ D5.showable = true ∧ D5.hasDict = false ∧ D5.depth ≤ 50 ∧ D5.shown.length ≤ sizeLine := ⟨dat5 lo hi' at' (rtx pr) kd, fun H q h => dp5 h, ff⟩
      refine ⟨sz (by simp), fun L hL => ?_⟩
      have SL := same_new (o := .lst [.bl true, .bl false]) hL
      have hL2 : (upd HX L (.lst [.bl true, .bl false])) L = some (.lst [.bl true, .bl false]) := upd_same
      generalize upd HX L (.lst [.bl true, .bl false]) = H0 at SL hL2 ⊢
      refine ⟨L, rfl, ⟨_, .of hL2⟩, for_list (K := K) (a := L) (xs := [.bl true, .bl false]) (fun j σ H' => ∃ v5 v6 v7 v8, σ = [some (.ref a), some (.int (i : Int)), some (.ref p), some (.int b), some (V.ref qd), v5, v6, v7, v8] ∧ Same H0 H') ⟨_, _, _, _, rfl, Same.refl _⟩ (fun j σ H' _ ⟨_, _, _, _, _, sm⟩ => .of (sm _ _ hL2)) ?_ ?_⟩
      · rintro j xx σ H7 hx ⟨v5, v6, v7, v8, rfl, S7⟩
        obtain ⟨mk, rfl⟩ : ∃ mk : Bool, xx = .bl mk := by
          have h := List.mem_of_getElem? hx
          simp only [List.mem_cons, List.not_mem_nil, or_false] at h
          rcases h with h | h <;> exact ⟨_, h⟩
        clear hx
        have hqd3 := SL _ _ hqd2
        refine ⟨_, rfl, _, rfl, sz (by simp), fun p1 hp1 => ⟨p1, _, b, rfl, upd_same, w.1, fun nt => absurd tl nt, fun _ q1 H8 s8 hq1 hq12 => ?_⟩⟩
        have S8 := (sameN S7 hp1).trans s8
        rw [ef] at hq12
        refine ⟨.ref q1, D5, rfl, dpD _ _ hq12, ff.1, ff.2.1, ff.2.2.1, ff.2.2.2, ?_⟩
        refine ⟨_, rfl, .ref qd, D5, rfl, dpD _ _ (S8 _ _ hqd3), ff.1, ff.2.1, ff.2.2.1, ff.2.2.2, ?_⟩
        refine ⟨rfl, _, rfl, ifnd (fun c => absurd rfl c) (fun _ => ?_)⟩
        refine ⟨_, rfl, _, rfl, sz (by simp), fun p2 hp2 => ⟨rfl, p2, _, b, rfl, upd_same, w.1, fun nt => absurd tl nt, fun _ q2 H9 s9 hq2 hq22 => ?_⟩⟩
        have S9 := (sameN S8 hp2).trans s9
        rw [ef] at hq22
        refine ⟨.ref q2, D5, rfl, dpD _ _ hq22, ff.1, ff.2.1, ff.2.2.1, ff.2.2.2, ?_⟩
        refine ⟨_, rfl, .ref qd, D5, rfl, dpD _ _ (S9 _ _ hqd3), ff.1, ff.2.1, ff.2.2.1, ff.2.2.2, ?_⟩
        refine ⟨rfl, _, rfl, ifnd (fun c => absurd rfl c) (fun _ => ?_)⟩
        refine ⟨_, rfl, rfl, _, rfl, ifnd (fun _ => ?_) (fun c => by cases c)⟩
        refine ⟨_, rfl, qd, _, 3, _, rfl, rfl, .of (S9 _ _ hqd3), atI_nat (j := 3) rfl, pr, rfl, fun g H10 s10 hg => ?_⟩
        have S10 := S9.trans s10
        have eg : g = false := by
          cases g with
          | false => rfl
          | true => exact absurd (hg.mp rfl) now'
        subst eg
        refine ⟨_, rfl, _, rfl, qd, _, _, _, _, _, mk, rfl, S10 _ _ hqd3, fun f5 => ?_, fun _ H11 s11 => ?_⟩
        · obtain ⟨_, _, _, _, _, ex, _, _, _, _, _, _, _, how⟩ := f5
          injection ex with g1 ex; injection ex with g2 ex; injection ex with g3 ex; injection ex with g4 ex
          rw [← V.str.inj g4] at how
          exact absurd how now'
        have S11 := S10.trans s11
        refine ⟨_, rfl, _, rfl, iteF ?_⟩
        refine ⟨_, _, .str _, .str _, (by decide +kernel), (by decide +kernel), _, rfl, ifnb (fun c => (str_no c).elim) (fun _ => ?_)⟩
        refine ⟨_, rfl, _, rfl, iteF ?_⟩
        refine ⟨_, rfl, _, rfl, iteF ?_⟩
        exact ⟨_, _, _, _, rfl, S11⟩
      · rintro σ H7 ⟨v5, v6, v7, v8, rfl, S7⟩
        have B7 : But p H4 H7 := (B5.trans (But.of SX)).trans (But.of (SL.trans S7))
        have P7 := (P5.same SX).same (SL.trans S7)
        refine ⟨_, rfl, p, x5, y5, _, rfl, P7, by decide, by decide, fun r x8 y8 r0 r1 P8 => ?_⟩
        refine ⟨_, rfl, _, _, rfl, rfl, ⟨by decide, by decide, by decide⟩, _, rfl, _, _, rfl, rfl, _, rfl, _, _, rfl, rfl, _, _, rfl, rfl, ⟨by decide, by decide, by decide⟩, _, rfl, _, _, rfl, rfl, _, rfl, _, _, rfl, rfl, ⟨by decide, by decide, by decide⟩, sz (by simp), fun M hM => ?_⟩
        obtain ⟨ns2, ens⟩ : ∃ ns2 : List Int, [V.int r, .int b, .int (1 * 2 ^ (45 : Int).toNat + b), .int (0 - b), .int (10 ^ (28 : Int).toNat + b), .int (-1), .int (1 * 2 ^ (45 : Int).toNat)] = ns2.map V.int ∧ ns2.length = 7 := ⟨[r, b, 1 * 2 ^ (45 : Int).toNat + b, 0 - b, 10 ^ (28 : Int).toNat + b, -1, 1 * 2 ^ (45 : Int).toNat], rfl, rfl⟩
        have fM : (upd (upd H7 p (.lst [.int x8, .int y8])) M (.lst [.int r, .int b, .int (1 * 2 ^ (45 : Int).toNat + b), .int (0 - b), .int (10 ^ (28 : Int).toNat + b), .int (-1), .int (1 * 2 ^ (45 : Int).toNat)])) M = some (.lst (ns2.map V.int)) := by rw [upd_same, ens.1]
        have P9 := P8.new hM (o := .lst [.int r, .int b, .int (1 * 2 ^ (45 : Int).toNat + b), .int (0 - b), .int (10 ^ (28 : Int).toNat + b), .int (-1), .int (1 * 2 ^ (45 : Int).toNat)])
        have B9 : But p H4 (upd (upd H7 p (.lst [.int x8, .int y8])) M (.lst [.int r, .int b, .int (1 * 2 ^ (45 : Int).toNat + b), .int (0 - b), .int (10 ^ (28 : Int).toNat + b), .int (-1), .int (1 * 2 ^ (45 : Int).toNat)])) := B7.upd.new hM
        have nM : M ≠ p := (ne_of_none P8.1 hM).symm
        generalize upd (upd H7 p (.lst [.int x8, .int y8])) M _ = H9 at fM P9 B9 ⊢
        refine ⟨_, rfl, _, rfl, p, x8, y8, _, rfl, P9, by decide, by decide, fun j x9 y9 j0 j1 P10 => ?_⟩
        obtain ⟨k, rfl⟩ := Int.eq_ofNat_of_zero_le j0
        have hk : k < ns2.length := by rw [ens.2]; omega
        refine ⟨M, _, (k : Int), .int ns2[k], rfl, rfl, .of (by rw [upd_ne nM]; exact fM), atI_nat (by rw [List.getElem?_map, List.getElem?_eq_getElem hk]; rfl), ?_⟩
        have B10 : But p H4 (upd H9 p (.lst [.int x9, .int y9])) := B9.upd
        generalize upd H9 p (.lst [.int x9, .int y9]) = H10 at P10 B10 ⊢
        generalize ns2[k] = z
        have e45 : (1 : Int) * 2 ^ (45 : Int).toNat = 35184372088832 := by decide
        have wz := mod_w45 z
        have wf := wide_fit wz
        refine ⟨_, rfl, z, rfl, fun p1 hp1 => ?_⟩
        refine ⟨.ref p1, dw false (z % 35184372088832), rfl, dpw upd_same, wf.1, wf.2.1, wf.2.2.1, wf.2.2.2, ?_⟩
        refine ⟨_, rfl, _, _, rfl, rfl, ⟨by decide, by decide, by decide⟩, _, _, rfl, rfl, (by show (0 : Int) < 1 * 2 ^ (45 : Int).toNat; decide), sz (by simp), fun p2 hp2 => ?_⟩
        refine ⟨.ref p2, dw false (z % 35184372088832), rfl, dpw (by rw [upd_same, ← e45]), wf.1, wf.2.1, wf.2.2.1, wf.2.2.2, ?_⟩
        refine ⟨rfl, _, rfl, ifnd (fun c => absurd rfl c) (fun _ => ?_)⟩
        refine ⟨_, rfl, rfl, z, rfl, fun p3 hp3 => ⟨_, rfl, z, rfl, fun p4 hp4 => ?_⟩⟩
        have n34 : p3 ≠ p4 := ne_of_none upd_same hp4
        refine ⟨_, _, dpw (by rw [upd_ne n34]; exact upd_same), dpw upd_same, rfl, rfl, _, rfl, ifnb (fun c => (tw_no c rfl).elim) (fun _ => ?_)⟩
        exact ⟨_, _, _, _, _, _, _, _, rfl, same_pool (s3.trans sm4) (s3.free hp0) ((((B10.new hp1).new hp2).new hp3).new hp4)⟩
  · rintro σ H3 ⟨v1, v2, v3, v4, v5, v6, v7, v8, rfl, s3⟩
    refine ⟨sz (by simp), fun p1 hp1 => ⟨p1, _, 0, rfl, upd_same, by decide, fun nt => absurd tells0 nt, fun _ q1 H4 s4 hq1 hq12 => ?_⟩⟩
    rw [ef0] at hq12
    refine ⟨sz (by simp), fun p2 hp2 => ?_⟩
    have n1 : q1 ≠ p2 := ne_of_none hq12 hp2
    refine ⟨_, _, dp5 (show (upd H4 p2 _) q1 = _ by rw [upd_ne n1]; exact hq12), dp5 upd_same, d5_sh _ _ _ _ _ (by decide +kernel), d5_sh _ _ _ _ _ (by decide +kernel), _, rfl, ifb (fun _ => ?_) (fun c => (d5_no c).elim)⟩
    refine ⟨_, rfl, -1, rfl, fun p3 hp3 => ?_⟩
    refine ⟨_, _, rfl, rfl, ⟨by decide, by decide, by decide⟩, _, _, rfl, rfl, sz (by simp), fun p4 hp4 => ?_⟩
    have n3 : p3 ≠ p4 := ne_of_none upd_same hp4
    refine ⟨_, _, dpw (by rw [upd_ne n3]; exact upd_same), dpw upd_same, rfl, rfl, ?_⟩
    rw [tw_eqv.mpr ⟨rfl, by decide⟩]
    exact q _
end
theorem all_mk {l : PySem.W.OpenLaw} {w : World} {K : PySem.W.Frag} {h : Heap} {mg : Str → Option Value} {fa f0 f1 f2 f3 f4 f5 f6 f7 f8 f9 f10 f11 f12 f13 f14 f15 f16 f17 f18 f19 f20 f21 f22 f23 f24 f25 f26 f27 : Addr} (X : K.In h) (G : h.Ns mainGlobals mg) (hfa : mg "law" = some (.ref fa))
    {od0 an0 od1 an1 od2 an2 od3 an3 od4 an4 od5 an5 od6 an6 od7 an7 od8 an8 od9 an9 od10 an10 od11 an11 od12 an12 od13 an13 od14 an14 od15 an15 od16 an16 od17 an17 od18 an18 od19 an19 od20 an20 od21 an21 od22 an22 od23 an23 od24 an24 od25 an25 od26 an26 od27 an27 : Option Addr} {sl0 sl1 sl2 sl3 sl4 sl5 sl6 sl7 sl8 sl9 sl10 sl11 sl12 sl13 sl14 sl15 sl16 sl17 sl18 sl19 sl20 sl21 sl22 sl23 sl24 sl25 sl26 sl27 : Array (Option Value)} {oc0 kV0 dc0 pm0 cd0 ct0 oc1 kV1 dc1 pm1 cd1 ct1 oc2 kV2 dc2 pm2 cd2 ct2 oc3 kV3 dc3 pm3 cd3 ct3 oc4 kV4 dc4 pm4 cd4 ct4 oc5 kV5 dc5 pm5 cd5 ct5 oc6 kV6 dc6 pm6 cd6 ct6 oc7 kV7 dc7 pm7 cd7 ct7 oc8 kV8 dc8 pm8 cd8 ct8 oc9 kV9 dc9 pm9 cd9 ct9 oc10 kV10 dc10 pm10 cd10 ct10 oc11 kV11 dc11 pm11 cd11 ct11 oc12 kV12 dc12 pm12 cd12 ct12 oc13 kV13 dc13 pm13 cd13 ct13 oc14 kV14 dc14 pm14 cd14 ct14 oc15 kV15 dc15 pm15 cd15 ct15 oc16 kV16 dc16 pm16 cd16 ct16 oc17 dc17 pm17 cd17 ct17 oc18 kV18 dc18 pm18 cd18 ct18 oc19 kV19 dc19 pm19 cd19 ct19 oc20 kV20 dc20 pm20 cd20 ct20 oc21 kV21 dc21 pm21 cd21 ct21 oc22 kV22 dc22 pm22 cd22 ct22 oc23 kV23 dc23 pm23 cd23 ct23 oc24 kV24 dc24 pm24 cd24 ct24 oc25 kV25 dc25 pm25 cd25 ct25 oc26 kV26 dc26 pm26 cd26 ct26 oc27 kV27 dc27 pm27 cd27 ct27 : Value}
    (a0 : PySem.W.nsIn K mainGlobals "is_whole" = some (some (.ref f0))) (l0 : K.lookup f0 = some ⟨oc0, od0, .func (PySem.W.fnOf "is_whole" "is_whole" (defArgs s_is_whole) (defBody s_is_whole) (defScope s_is_whole) .none kV0 dc0 pm0 an0 cd0 ct0), sl0⟩) (c0 : PySem.W.codeIn K cd0 "is_whole" = true) (k0 : PySem.W.keepIn K (.ref f0) = true)
    (a1 : PySem.W.nsIn K mainGlobals "are_bounds" = some (some (.ref f1))) (l1 : K.lookup f1 = some ⟨oc1, od1, .func (PySem.W.fnOf "are_bounds" "are_bounds" (defArgs s_are_bounds) (defBody s_are_bounds) (defScope s_are_bounds) .none kV1 dc1 pm1 an1 cd1 ct1), sl1⟩) (c1 : PySem.W.codeIn K cd1 "are_bounds" = true) (k1 : PySem.W.keepIn K (.ref f1) = true)
    (a2 : PySem.W.nsIn K mainGlobals "look_at_bounds" = some (some (.ref f2))) (l2 : K.lookup f2 = some ⟨oc2, od2, .func (PySem.W.fnOf "look_at_bounds" "look_at_bounds" (defArgs s_look_at_bounds) (defBody s_look_at_bounds) (defScope s_look_at_bounds) .none kV2 dc2 pm2 an2 cd2 ct2), sl2⟩) (c2 : PySem.W.codeIn K cd2 "look_at_bounds" = true) (k2 : PySem.W.keepIn K (.ref f2) = true)
    (a3 : PySem.W.nsIn K mainGlobals "_steps_over" = some (some (.ref f3))) (l3 : K.lookup f3 = some ⟨oc3, od3, .func (PySem.W.fnOf "_steps_over" "_steps_over" (defArgs s__steps_over) (defBody s__steps_over) (defScope s__steps_over) .none kV3 dc3 pm3 an3 cd3 ct3), sl3⟩) (c3 : PySem.W.codeIn K cd3 "_steps_over" = true) (k3 : PySem.W.keepIn K (.ref f3) = true)
    (a4 : PySem.W.nsIn K mainGlobals "in_bits" = some (some (.ref f4))) (l4 : K.lookup f4 = some ⟨oc4, od4, .func (PySem.W.fnOf "in_bits" "in_bits" (defArgs s_in_bits) (defBody s_in_bits) (defScope s_in_bits) .none kV4 dc4 pm4 an4 cd4 ct4), sl4⟩) (c4 : PySem.W.codeIn K cd4 "in_bits" = true) (k4 : PySem.W.keepIn K (.ref f4) = true)
    (a5 : PySem.W.nsIn K mainGlobals "least_bounds" = some (some (.ref f5))) (l5 : K.lookup f5 = some ⟨oc5, od5, .func (PySem.W.fnOf "least_bounds" "least_bounds" (defArgs s_least_bounds) (defBody s_least_bounds) (defScope s_least_bounds) .none kV5 dc5 pm5 an5 cd5 ct5), sl5⟩) (c5 : PySem.W.codeIn K cd5 "least_bounds" = true) (k5 : PySem.W.keepIn K (.ref f5) = true)
    (a6 : PySem.W.nsIn K mainGlobals "is_exact" = some (some (.ref f6))) (l6 : K.lookup f6 = some ⟨oc6, od6, .func (PySem.W.fnOf "is_exact" "is_exact" (defArgs s_is_exact) (defBody s_is_exact) (defScope s_is_exact) .none kV6 dc6 pm6 an6 cd6 ct6), sl6⟩) (c6 : PySem.W.codeIn K cd6 "is_exact" = true) (k6 : PySem.W.keepIn K (.ref f6) = true)
    (a7 : PySem.W.nsIn K mainGlobals "_has_some" = some (some (.ref f7))) (l7 : K.lookup f7 = some ⟨oc7, od7, .func (PySem.W.fnOf "_has_some" "_has_some" (defArgs s__has_some) (defBody s__has_some) (defScope s__has_some) .none kV7 dc7 pm7 an7 cd7 ct7), sl7⟩) (c7 : PySem.W.codeIn K cd7 "_has_some" = true) (k7 : PySem.W.keepIn K (.ref f7) = true)
    (a8 : PySem.W.nsIn K mainGlobals "_lead_one_way" = some (some (.ref f8))) (l8 : K.lookup f8 = some ⟨oc8, od8, .func (PySem.W.fnOf "_lead_one_way" "_lead_one_way" (defArgs s__lead_one_way) (defBody s__lead_one_way) (defScope s__lead_one_way) .none kV8 dc8 pm8 an8 cd8 ct8), sl8⟩) (c8 : PySem.W.codeIn K cd8 "_lead_one_way" = true) (k8 : PySem.W.keepIn K (.ref f8) = true)
    (a9 : PySem.W.nsIn K mainGlobals "bits_of_rights" = some (some (.ref f9))) (l9 : K.lookup f9 = some ⟨oc9, od9, .func (PySem.W.fnOf "bits_of_rights" "bits_of_rights" (defArgs s_bits_of_rights) (defBody s_bits_of_rights) (defScope s_bits_of_rights) .none kV9 dc9 pm9 an9 cd9 ct9), sl9⟩) (c9 : PySem.W.codeIn K cd9 "bits_of_rights" = true) (k9 : PySem.W.keepIn K (.ref f9) = true)
    (a10 : PySem.W.nsIn K mainGlobals "field" = some (some (.ref f10))) (l10 : K.lookup f10 = some ⟨oc10, od10, .func (PySem.W.fnOf "field" "field" (defArgs s_field) (defBody s_field) (defScope s_field) .none kV10 dc10 pm10 an10 cd10 ct10), sl10⟩) (c10 : PySem.W.codeIn K cd10 "field" = true) (k10 : PySem.W.keepIn K (.ref f10) = true)
    (a11 : PySem.W.nsIn K mainGlobals "rights_in" = some (some (.ref f11))) (l11 : K.lookup f11 = some ⟨oc11, od11, .func (PySem.W.fnOf "rights_in" "rights_in" (defArgs s_rights_in) (defBody s_rights_in) (defScope s_rights_in) .none kV11 dc11 pm11 an11 cd11 ct11), sl11⟩) (c11 : PySem.W.codeIn K cd11 "rights_in" = true) (k11 : PySem.W.keepIn K (.ref f11) = true)
    (a12 : PySem.W.nsIn K mainGlobals "_tell" = some (some (.ref f12))) (l12 : K.lookup f12 = some ⟨oc12, od12, .func (PySem.W.fnOf "_tell" "_tell" (defArgs s__tell) (defBody s__tell) (defScope s__tell) .none kV12 dc12 pm12 an12 cd12 ct12), sl12⟩) (c12 : PySem.W.codeIn K cd12 "_tell" = true) (k12 : PySem.W.keepIn K (.ref f12) = true)
    (a13 : PySem.W.nsIn K mainGlobals "bounds_in" = some (some (.ref f13))) (l13 : K.lookup f13 = some ⟨oc13, od13, .func (PySem.W.fnOf "bounds_in" "bounds_in" (defArgs s_bounds_in) (defBody s_bounds_in) (defScope s_bounds_in) .none kV13 dc13 pm13 an13 cd13 ct13), sl13⟩) (c13 : PySem.W.codeIn K cd13 "bounds_in" = true) (k13 : PySem.W.keepIn K (.ref f13) = true)
    (a14 : PySem.W.nsIn K mainGlobals "fields_of" = some (some (.ref f14))) (l14 : K.lookup f14 = some ⟨oc14, od14, .func (PySem.W.fnOf "fields_of" "fields_of" (defArgs s_fields_of) (defBody s_fields_of) (defScope s_fields_of) .none kV14 dc14 pm14 an14 cd14 ct14), sl14⟩) (c14 : PySem.W.codeIn K cd14 "fields_of" = true) (k14 : PySem.W.keepIn K (.ref f14) = true)
    (a15 : PySem.W.nsIn K mainGlobals "is_rights" = some (some (.ref f15))) (l15 : K.lookup f15 = some ⟨oc15, od15, .func (PySem.W.fnOf "is_rights" "is_rights" (defArgs s_is_rights) (defBody s_is_rights) (defScope s_is_rights) .none kV15 dc15 pm15 an15 cd15 ct15), sl15⟩) (c15 : PySem.W.codeIn K cd15 "is_rights" = true) (k15 : PySem.W.keepIn K (.ref f15) = true)
    (a16 : PySem.W.nsIn K mainGlobals "_are_fields" = some (some (.ref f16))) (l16 : K.lookup f16 = some ⟨oc16, od16, .func (PySem.W.fnOf "_are_fields" "_are_fields" (defArgs s__are_fields) (defBody s__are_fields) (defScope s__are_fields) .none kV16 dc16 pm16 an16 cd16 ct16), sl16⟩) (c16 : PySem.W.codeIn K cd16 "_are_fields" = true) (k16 : PySem.W.keepIn K (.ref f16) = true)
    {D17 : Addr} (a17 : PySem.W.nsIn K mainGlobals "word_of" = some (some (.ref f17))) (l17 : K.lookup f17 = some ⟨oc17, od17, .func (PySem.W.fnOf "word_of" "word_of" (defArgs s_word_of) (defBody s_word_of) (defScope s_word_of) .none (.ref D17) dc17 pm17 an17 cd17 ct17), sl17⟩) (c17 : PySem.W.codeIn K cd17 "word_of" = true) (k17 : PySem.W.keepIn K (.ref f17) = true)
    (d17_marked : PySem.W.nsIn K D17 "marked" = some (some (.bool true)))
    (a18 : PySem.W.nsIn K mainGlobals "plain" = some (some (.ref f18))) (l18 : K.lookup f18 = some ⟨oc18, od18, .func (PySem.W.fnOf "plain" "plain" (defArgs s_plain) (defBody s_plain) (defScope s_plain) .none kV18 dc18 pm18 an18 cd18 ct18), sl18⟩) (c18 : PySem.W.codeIn K cd18 "plain" = true) (k18 : PySem.W.keepIn K (.ref f18) = true)
    (a19 : PySem.W.nsIn K mainGlobals "_law_take" = some (some (.ref f19))) (l19 : K.lookup f19 = some ⟨oc19, od19, .func (PySem.W.fnOf "_law_take" "_law_take" (defArgs s__law_take) (defBody s__law_take) (defScope s__law_take) .none kV19 dc19 pm19 an19 cd19 ct19), sl19⟩) (c19 : PySem.W.codeIn K cd19 "_law_take" = true) (k19 : PySem.W.keepIn K (.ref f19) = true)
    (a20 : PySem.W.nsIn K mainGlobals "_law_pool" = some (some (.ref f20))) (l20 : K.lookup f20 = some ⟨oc20, od20, .func (PySem.W.fnOf "_law_pool" "_law_pool" (defArgs s__law_pool) (defBody s__law_pool) (defScope s__law_pool) .none kV20 dc20 pm20 an20 cd20 ct20), sl20⟩) (c20 : PySem.W.codeIn K cd20 "_law_pool" = true) (k20 : PySem.W.keepIn K (.ref f20) = true)
    (a21 : PySem.W.nsIn K mainGlobals "_law_bits" = some (some (.ref f21))) (l21 : K.lookup f21 = some ⟨oc21, od21, .func (PySem.W.fnOf "_law_bits" "_law_bits" (defArgs s__law_bits) (defBody s__law_bits) (defScope s__law_bits) .none kV21 dc21 pm21 an21 cd21 ct21), sl21⟩) (c21 : PySem.W.codeIn K cd21 "_law_bits" = true) (k21 : PySem.W.keepIn K (.ref f21) = true)
    (a22 : PySem.W.nsIn K mainGlobals "_law_mask" = some (some (.ref f22))) (l22 : K.lookup f22 = some ⟨oc22, od22, .func (PySem.W.fnOf "_law_mask" "_law_mask" (defArgs s__law_mask) (defBody s__law_mask) (defScope s__law_mask) .none kV22 dc22 pm22 an22 cd22 ct22), sl22⟩) (c22 : PySem.W.codeIn K cd22 "_law_mask" = true) (k22 : PySem.W.keepIn K (.ref f22) = true)
    (a23 : PySem.W.nsIn K mainGlobals "_law_drawn" = some (some (.ref f23))) (l23 : K.lookup f23 = some ⟨oc23, od23, .func (PySem.W.fnOf "_law_drawn" "_law_drawn" (defArgs s__law_drawn) (defBody s__law_drawn) (defScope s__law_drawn) .none kV23 dc23 pm23 an23 cd23 ct23), sl23⟩) (c23 : PySem.W.codeIn K cd23 "_law_drawn" = true) (k23 : PySem.W.keepIn K (.ref f23) = true)
    (a24 : PySem.W.nsIn K mainGlobals "_law_fields" = some (some (.ref f24))) (l24 : K.lookup f24 = some ⟨oc24, od24, .func (PySem.W.fnOf "_law_fields" "_law_fields" (defArgs s__law_fields) (defBody s__law_fields) (defScope s__law_fields) .none kV24 dc24 pm24 an24 cd24 ct24), sl24⟩) (c24 : PySem.W.codeIn K cd24 "_law_fields" = true) (k24 : PySem.W.keepIn K (.ref f24) = true)
    (a25 : PySem.W.nsIn K mainGlobals "_law_good" = some (some (.ref f25))) (l25 : K.lookup f25 = some ⟨oc25, od25, .func (PySem.W.fnOf "_law_good" "_law_good" (defArgs s__law_good) (defBody s__law_good) (defScope s__law_good) .none kV25 dc25 pm25 an25 cd25 ct25), sl25⟩) (c25 : PySem.W.codeIn K cd25 "_law_good" = true) (k25 : PySem.W.keepIn K (.ref f25) = true)
    (a26 : PySem.W.nsIn K mainGlobals "_law_told" = some (some (.ref f26))) (l26 : K.lookup f26 = some ⟨oc26, od26, .func (PySem.W.fnOf "_law_told" "_law_told" (defArgs s__law_told) (defBody s__law_told) (defScope s__law_told) .none kV26 dc26 pm26 an26 cd26 ct26), sl26⟩) (c26 : PySem.W.codeIn K cd26 "_law_told" = true) (k26 : PySem.W.keepIn K (.ref f26) = true)
    (a27 : PySem.W.nsIn K mainGlobals "law" = some (some (.ref f27))) (l27 : K.lookup f27 = some ⟨oc27, od27, .func (PySem.W.fnOf "law" "law" (defArgs s_law) (defBody s_law) (defScope s_law) .none kV27 dc27 pm27 an27 cd27 ct27), sl27⟩) (c27 : PySem.W.codeIn K cd27 "law" = true) (k27 : PySem.W.keepIn K (.ref f27) = true)
    (z_abs : PySem.W.nsIn K mainGlobals "abs" = some none)
    (z_any : PySem.W.nsIn K mainGlobals "any" = some none)
    (z_bool : PySem.W.nsIn K mainGlobals "bool" = some none)
    (z_enumerate : PySem.W.nsIn K mainGlobals "enumerate" = some none)
    (z_int : PySem.W.nsIn K mainGlobals "int" = some none)
    (z_isinstance : PySem.W.nsIn K mainGlobals "isinstance" = some none)
    (z_len : PySem.W.nsIn K mainGlobals "len" = some none)
    (z_max : PySem.W.nsIn K mainGlobals "max" = some none)
    (z_min : PySem.W.nsIn K mainGlobals "min" = some none)
    (z_range : PySem.W.nsIn K mainGlobals "range" = some none)
    (z_repr : PySem.W.nsIn K mainGlobals "repr" = some none)
    (z_str : PySem.W.nsIn K mainGlobals "str" = some none)
    (z_sum : PySem.W.nsIn K mainGlobals "sum" = some none)
    (z_tuple : PySem.W.nsIn K mainGlobals "tuple" = some none)
    (z_zip : PySem.W.nsIn K mainGlobals "zip" = some none)
    {p_AT : Addr} {dd_AT : Option Addr} {n_AT : Nat} {sl_AT : Array (Option Value)} {t_AT_0 t_AT_1 : Tok} (v_AT : PySem.W.nsIn K mainGlobals "AT" = some (some (.ref p_AT))) (w_AT : K.lookup p_AT = some ⟨.type "tuple", dd_AT, .seq #[(Value.int 0 t_AT_0), (Value.int 12 t_AT_1)] n_AT, sl_AT⟩)
    {t_CELLS : Tok} (v_CELLS : PySem.W.nsIn K mainGlobals "CELLS" = some (some (.int 4096 t_CELLS)))
    {p_COUNT_LESS_ONE : Addr} {dd_COUNT_LESS_ONE : Option Addr} {n_COUNT_LESS_ONE : Nat} {sl_COUNT_LESS_ONE : Array (Option Value)} {t_COUNT_LESS_ONE_0 t_COUNT_LESS_ONE_1 : Tok} (v_COUNT_LESS_ONE : PySem.W.nsIn K mainGlobals "COUNT_LESS_ONE" = some (some (.ref p_COUNT_LESS_ONE))) (w_COUNT_LESS_ONE : K.lookup p_COUNT_LESS_ONE = some ⟨.type "tuple", dd_COUNT_LESS_ONE, .seq #[(Value.int 24 t_COUNT_LESS_ONE_0), (Value.int 4 t_COUNT_LESS_ONE_1)] n_COUNT_LESS_ONE, sl_COUNT_LESS_ONE⟩)
    {p_FIRST : Addr} {dd_FIRST : Option Addr} {n_FIRST : Nat} {sl_FIRST : Array (Option Value)} {t_FIRST_0 t_FIRST_1 : Tok} (v_FIRST : PySem.W.nsIn K mainGlobals "FIRST" = some (some (.ref p_FIRST))) (w_FIRST : K.lookup p_FIRST = some ⟨.type "tuple", dd_FIRST, .seq #[(Value.int 12 t_FIRST_0), (Value.int 12 t_FIRST_1)] n_FIRST, sl_FIRST⟩)
    {p_GROUPS : Addr} {dd_GROUPS : Option Addr} {n_GROUPS : Nat} {sl_GROUPS : Array (Option Value)} {t_GROUPS_0 t_GROUPS_1 t_GROUPS_2 : Tok} (v_GROUPS : PySem.W.nsIn K mainGlobals "GROUPS" = some (some (.ref p_GROUPS))) (w_GROUPS : K.lookup p_GROUPS = some ⟨.type "tuple", dd_GROUPS, .seq #[(Value.str (Str.ofString "rwlsn") t_GROUPS_0), (Value.str (Str.ofString "x") t_GROUPS_1), (Value.str (Str.ofString "co") t_GROUPS_2)] n_GROUPS, sl_GROUPS⟩)
    {p_KIND : Addr} {dd_KIND : Option Addr} {n_KIND : Nat} {sl_KIND : Array (Option Value)} {t_KIND_0 t_KIND_1 : Tok} (v_KIND : PySem.W.nsIn K mainGlobals "KIND" = some (some (.ref p_KIND))) (w_KIND : K.lookup p_KIND = some ⟨.type "tuple", dd_KIND, .seq #[(Value.int 41 t_KIND_0), (Value.int 4 t_KIND_1)] n_KIND, sl_KIND⟩)
    {t_LEAST_COUNT : Tok} (v_LEAST_COUNT : PySem.W.nsIn K mainGlobals "LEAST_COUNT" = some (some (.int 9 t_LEAST_COUNT)))
    {t_RIGHTS : Tok} (v_RIGHTS : PySem.W.nsIn K mainGlobals "RIGHTS" = some (some (.str (Str.ofString "rwlsnfxco") t_RIGHTS)))
    {p_RIGHTS_BITS : Addr} {dd_RIGHTS_BITS : Option Addr} {n_RIGHTS_BITS : Nat} {sl_RIGHTS_BITS : Array (Option Value)} {t_RIGHTS_BITS_0 t_RIGHTS_BITS_1 : Tok} (v_RIGHTS_BITS : PySem.W.nsIn K mainGlobals "RIGHTS_BITS" = some (some (.ref p_RIGHTS_BITS))) (w_RIGHTS_BITS : K.lookup p_RIGHTS_BITS = some ⟨.type "tuple", dd_RIGHTS_BITS, .seq #[(Value.int 32 t_RIGHTS_BITS_0), (Value.int 9 t_RIGHTS_BITS_1)] n_RIGHTS_BITS, sl_RIGHTS_BITS⟩)
    {p_STEP : Addr} {dd_STEP : Option Addr} {n_STEP : Nat} {sl_STEP : Array (Option Value)} {t_STEP_0 t_STEP_1 : Tok} (v_STEP : PySem.W.nsIn K mainGlobals "STEP" = some (some (.ref p_STEP))) (w_STEP : K.lookup p_STEP = some ⟨.type "tuple", dd_STEP, .seq #[(Value.int 28 t_STEP_0), (Value.int 4 t_STEP_1)] n_STEP, sl_STEP⟩)
    {t_TOP_COUNT : Tok} (v_TOP_COUNT : PySem.W.nsIn K mainGlobals "TOP_COUNT" = some (some (.int 16 t_TOP_COUNT)))
    {t_TOP_KIND : Tok} (v_TOP_KIND : PySem.W.nsIn K mainGlobals "TOP_KIND" = some (some (.int 15 t_TOP_KIND)))
    {t_TOP_STEP : Tok} (v_TOP_STEP : PySem.W.nsIn K mainGlobals "TOP_STEP" = some (some (.int 8 t_TOP_STEP)))
    {t_WORTHS : Tok} (v_WORTHS : PySem.W.nsIn K mainGlobals "WORTHS" = some (some (.int 35184372088832 t_WORTHS)))
    {C_NoFields : Addr} (ac_NoFields : PySem.W.nsIn K mainGlobals "NoFields" = some (some (.ref C_NoFields)))
    {C_NoText : Addr} (ac_NoText : PySem.W.nsIn K mainGlobals "NoText" = some (some (.ref C_NoText)))
    {C_ReachError : Addr} (ac_ReachError : PySem.W.nsIn K mainGlobals "ReachError" = some (some (.ref C_ReachError)))
    {nm_NoFields q_NoFields : Str} {N_NoFields B_NoFields fi_NoFields : Addr} {bs_NoFields : List Value} {sn_NoFields : List Str} {sub_NoFields : List Value} {ab_NoFields : Bool} {col_NoFields : Option Bool} {dd_NoFields od_NoFields an_NoFields : Option Addr} {m0_NoFields m1_NoFields m2_NoFields m3_NoFields m5_NoFields : Option Value} {oc_NoFields kV_NoFields dc_NoFields pm_NoFields cd_NoFields ct_NoFields : Value} {osl_NoFields : Array (Option Value)}
    (xl_NoFields : K.lookup C_NoFields = some (excClassObj nm_NoFields q_NoFields C_NoFields N_NoFields bs_NoFields [.ref B_NoFields, .type "ValueError", .type "Exception", .type "BaseException", .type "object"] true sn_NoFields sub_NoFields ab_NoFields col_NoFields dd_NoFields m0_NoFields m1_NoFields m2_NoFields m3_NoFields m5_NoFields "ValueError.__new__"))
    (sa_NoFields : PySem.W.findIn K (.ref C_NoFields) "__setattr__" = some (some (.builtin "object.__setattr__")))
    (eb_NoFields : PySem.W.subIn K (.ref C_NoFields) (.type "BaseException") = some true)
    (ty_NoFields : PySem.W.typeIn K (.ref C_NoFields) = some (.type "type"))
    (kc_NoFields : PySem.W.keepIn K (.ref C_NoFields) = true)
    (no_NoFields : PySem.W.findIn K (.ref C_NoFields) "text" = some none)
    (in_NoFields : PySem.W.findIn K (.ref C_NoFields) "__init__" = some (some (.ref fi_NoFields))) (ti_NoFields : PySem.W.typeIn K (.ref fi_NoFields) = some (.type "function"))
    (li_NoFields : K.lookup fi_NoFields = some ⟨oc_NoFields, od_NoFields, .func (PySem.W.fnOf "__init__" "NoFields.__init__" (defArgs si_NoFields) (defBody si_NoFields) (defScope si_NoFields) .none kV_NoFields dc_NoFields pm_NoFields an_NoFields cd_NoFields ct_NoFields), osl_NoFields⟩) (ci_NoFields : PySem.W.codeIn K cd_NoFields "NoFields.__init__" = true) (ki_NoFields : PySem.W.keepIn K (.ref fi_NoFields) = true)
    (xb_NoFields_ReachError : PySem.W.subIn K (.ref C_ReachError) (.type "BaseException") = some true)
    (xh_NoFields_ReachError : PySem.W.hasDictIn K C_ReachError = true)
    (xt_NoFields_ReachError : PySem.W.typeIn K (.ref C_ReachError) = some (.type "type"))
    (xs_NoFields_ReachError : PySem.W.subIn K (.ref C_NoFields) (.ref C_ReachError) = some true)
    (ecg_NoFields : PySem.W.findIn K (.ref C_NoFields) "__getattribute__" = some (some (.builtin "BaseException.__getattribute__")))
    (eck_NoFields : PySem.W.findIn K (.ref C_NoFields) "__getattr__" = some none)
    (ecs_NoFields : PySem.W.subIn K (.ref C_NoFields) (.type "BaseException") = some true)
    (ecd_NoFields : PySem.W.hasDictIn K C_NoFields = true)
    (eca_NoFields : PySem.W.findIn K (.ref C_NoFields) "__class__" = some (some (.builtin "object.__class__")))
    (ecn_NoFields : PySem.W.specialIn K (.builtin "object.__class__") "__get__" = some (some (.builtin "getset_descriptor.__get__")))
    (ect_NoFields : PySem.W.takesIn K (.builtin "object.__class__") = some true)
    (ecm_NoFields : PySem.W.mroIn K C_NoFields (.type "object") = some true)
    (kt_NoFields_NoFields : PySem.W.kitOne K (.ref C_NoFields) (.ref C_NoFields) = some true)
    (kt_NoFields_NoText : PySem.W.kitOne K (.ref C_NoFields) (.ref C_NoText) = some false)
    : ∀ (base : Heap) (H : Hp) (s : Shared) (a : Addr) (ns : List Int), K.In base → base.Ns mainGlobals mg → Env0 l.prog w K mg base callerA [] s H → SqL K H a (ns.map V.int) → ns.length ≤ 63 → codeAny (model l.prog w) callerA (.call (.ref fa) ⟨[.ref a], []⟩) (CR CX0 [] l.prog w H s (fun v _ => v = .bl true) fun _ _ _ => False) s := by
  have e := hfa.symm.trans (PySem.W.mg_of X G a27)
  cases e
  have F0 := fun_mk (st := s_is_whole) l0 c0 k0
  have F1 := fun_mk (st := s_are_bounds) l1 c1 k1
  have F2 := fun_mk (st := s_look_at_bounds) l2 c2 k2
  have F3 := fun_mk (st := s__steps_over) l3 c3 k3
  have F4 := fun_mk (st := s_in_bits) l4 c4 k4
  have F5 := fun_mk (st := s_least_bounds) l5 c5 k5
  have F6 := fun_mk (st := s_is_exact) l6 c6 k6
  have F7 := fun_mk (st := s__has_some) l7 c7 k7
  have F8 := fun_mk (st := s__lead_one_way) l8 c8 k8
  have F9 := fun_mk (st := s_bits_of_rights) l9 c9 k9
  have F10 := fun_mk (st := s_field) l10 c10 k10
  have F11 := fun_mk (st := s_rights_in) l11 c11 k11
  have F12 := fun_mk (st := s__tell) l12 c12 k12
  have F13 := fun_mk (st := s_bounds_in) l13 c13 k13
  have F14 := fun_mk (st := s_fields_of) l14 c14 k14
  have F15 := fun_mk (st := s_is_rights) l15 c15 k15
  have F16 := fun_mk (st := s__are_fields) l16 c16 k16
  have F17 := fun_mk (st := s_word_of) l17 c17 k17
  have F18 := fun_mk (st := s_plain) l18 c18 k18
  have F19 := fun_mk (st := s__law_take) l19 c19 k19
  have F20 := fun_mk (st := s__law_pool) l20 c20 k20
  have F21 := fun_mk (st := s__law_bits) l21 c21 k21
  have F22 := fun_mk (st := s__law_mask) l22 c22 k22
  have F23 := fun_mk (st := s__law_drawn) l23 c23 k23
  have F24 := fun_mk (st := s__law_fields) l24 c24 k24
  have F25 := fun_mk (st := s__law_good) l25 c25 k25
  have F26 := fun_mk (st := s__law_told) l26 c26 k26
  have F27 := fun_mk (st := s_law) l27 c27 k27
  have T : Txt K mg := ⟨PySem.W.mg_none_of X G z_abs, PySem.W.mg_none_of X G z_any, PySem.W.mg_none_of X G z_bool, PySem.W.mg_none_of X G z_enumerate, PySem.W.mg_none_of X G z_int, PySem.W.mg_none_of X G z_isinstance, PySem.W.mg_none_of X G z_len, PySem.W.mg_none_of X G z_max, PySem.W.mg_none_of X G z_min, PySem.W.mg_none_of X G z_range, PySem.W.mg_none_of X G z_repr, PySem.W.mg_none_of X G z_str, PySem.W.mg_none_of X G z_sum, PySem.W.mg_none_of X G z_tuple, PySem.W.mg_none_of X G z_zip, ⟨_, PySem.W.mg_of X G v_AT, fun H => .inr ⟨_, _, _, w_AT, rfl, rfl, by show 2 ≤ sizeLine; decide, .cons ⟨_, rfl⟩ (.cons ⟨_, rfl⟩ (.nil))⟩⟩, ⟨_, PySem.W.mg_of X G v_CELLS⟩, ⟨_, PySem.W.mg_of X G v_COUNT_LESS_ONE, fun H => .inr ⟨_, _, _, w_COUNT_LESS_ONE, rfl, rfl, by show 2 ≤ sizeLine; decide, .cons ⟨_, rfl⟩ (.cons ⟨_, rfl⟩ (.nil))⟩⟩, ⟨_, PySem.W.mg_of X G v_FIRST, fun H => .inr ⟨_, _, _, w_FIRST, rfl, rfl, by show 2 ≤ sizeLine; decide, .cons ⟨_, rfl⟩ (.cons ⟨_, rfl⟩ (.nil))⟩⟩, ⟨_, PySem.W.mg_of X G v_GROUPS, fun H => .inr ⟨_, _, _, w_GROUPS, rfl, rfl, by show 3 ≤ sizeLine; decide, .cons ⟨_, rfl⟩ (.cons ⟨_, rfl⟩ (.cons ⟨_, rfl⟩ (.nil)))⟩⟩, ⟨_, PySem.W.mg_of X G v_KIND, fun H => .inr ⟨_, _, _, w_KIND, rfl, rfl, by show 2 ≤ sizeLine; decide, .cons ⟨_, rfl⟩ (.cons ⟨_, rfl⟩ (.nil))⟩⟩, ⟨_, PySem.W.mg_of X G v_LEAST_COUNT⟩, ⟨_, PySem.W.mg_of X G v_RIGHTS⟩, ⟨_, PySem.W.mg_of X G v_RIGHTS_BITS, fun H => .inr ⟨_, _, _, w_RIGHTS_BITS, rfl, rfl, by show 2 ≤ sizeLine; decide, .cons ⟨_, rfl⟩ (.cons ⟨_, rfl⟩ (.nil))⟩⟩, ⟨_, PySem.W.mg_of X G v_STEP, fun H => .inr ⟨_, _, _, w_STEP, rfl, rfl, by show 2 ≤ sizeLine; decide, .cons ⟨_, rfl⟩ (.cons ⟨_, rfl⟩ (.nil))⟩⟩, ⟨_, PySem.W.mg_of X G v_TOP_COUNT⟩, ⟨_, PySem.W.mg_of X G v_TOP_KIND⟩, ⟨_, PySem.W.mg_of X G v_TOP_STEP⟩, ⟨_, PySem.W.mg_of X G v_WORTHS⟩, ⟨C_NoFields, PySem.W.mg_of X G ac_NoFields, ac_NoFields⟩, ⟨C_NoText, PySem.W.mg_of X G ac_NoText, ac_NoText⟩, ⟨C_ReachError, PySem.W.mg_of X G ac_ReachError, ac_ReachError⟩, fun C D h1 h2 => by cases ns_one ac_NoFields h1; cases ns_one ac_ReachError h2; exact exm_own xb_NoFields_ReachError xh_NoFields_ReachError xt_NoFields_ReachError xs_NoFields_ReachError, fun C h1 => by cases ns_one ac_NoFields h1; exact ⟨ecg_NoFields, eck_NoFields, ecs_NoFields, ecd_NoFields, eca_NoFields, ecn_NoFields, ect_NoFields, ecm_NoFields⟩, fun C D h1 h2 => by cases ns_one ac_NoFields h1; cases ns_one ac_NoFields h2; exact kt_NoFields_NoFields, fun C D h1 h2 => by cases ns_one ac_NoFields h1; cases ns_one ac_NoText h2; exact kt_NoFields_NoText⟩
  intro base H s a ns kb nb e0 hS hlen
  have TO_NoFields : OexC K C_NoFields := ⟨⟨_, _, _, _, _, _, _, _, _, _, _, _, _, _, _, xl_NoFields, by rfl⟩, sa_NoFields, eb_NoFields, ty_NoFields, kc_NoFields⟩
  have FI_NoFields := fun_mk (st := si_NoFields) li_NoFields ci_NoFields ki_NoFields
  have R_NoFields : ErrK l.prog w K mg base "NoFields" "text" := ⟨C_NoFields, fi_NoFields, _, ac_NoFields, PySem.W.mg_of X G ac_NoFields, TO_NoFields, in_NoFields, ti_NoFields, oki_NoFields FI_NoFields TO_NoFields no_NoFields, FI_NoFields.binds fun _ _ _ _ _ _ us hl => match us, hl with | [_, _], _ => rfl⟩
  have C_is_whole : Cal l.prog w K mg base "is_whole" 1 ["thing", "least", "most"] (sp_is_whole K) := ⟨_, _, ok_is_whole F0 T, PySem.W.mg_of X G a0, F0.kp, F0.binds fun _ _ _ _ _ _ us hl => match us, hl with | [_, _, _], _ => rfl⟩
  have C_are_bounds : Cal l.prog w K mg base "are_bounds" 2 ["low", "high"] (sp_are_bounds K) := ⟨_, _, ok_are_bounds F1 T C_is_whole, PySem.W.mg_of X G a1, F1.kp, F1.binds fun _ _ _ _ _ _ us hl => match us, hl with | [_, _], _ => rfl⟩
  have C_look_at_bounds : Cal l.prog w K mg base "look_at_bounds" 3 ["low", "high"] (sp_look_at_bounds K) := ⟨_, _, ok_look_at_bounds F2 T C_are_bounds, PySem.W.mg_of X G a2, F2.kp, F2.binds fun _ _ _ _ _ _ us hl => match us, hl with | [_, _], _ => rfl⟩
  have C__steps_over : Cal l.prog w K mg base "_steps_over" 1 ["low", "high", "step"] (sp__steps_over K) := ⟨_, _, ok__steps_over F3 T, PySem.W.mg_of X G a3, F3.kp, F3.binds fun _ _ _ _ _ _ us hl => match us, hl with | [_, _, _], _ => rfl⟩
  have C_in_bits : Cal l.prog w K mg base "in_bits" 4 ["low", "high"] (sp_in_bits K) := ⟨_, _, ok_in_bits F4 T C_look_at_bounds C__steps_over, PySem.W.mg_of X G a4, F4.kp, F4.binds fun _ _ _ _ _ _ us hl => match us, hl with | [_, _], _ => rfl⟩
  have C_least_bounds : Cal l.prog w K mg base "least_bounds" 5 ["low", "high"] (sp_least_bounds K) := ⟨_, _, ok_least_bounds F5 T C_in_bits, PySem.W.mg_of X G a5, F5.kp, F5.binds fun _ _ _ _ _ _ us hl => match us, hl with | [_, _], _ => rfl⟩
  have C_is_exact : Cal l.prog w K mg base "is_exact" 6 ["low", "high"] (sp_is_exact K) := ⟨_, _, ok_is_exact F6 T C_least_bounds, PySem.W.mg_of X G a6, F6.kp, F6.binds fun _ _ _ _ _ _ us hl => match us, hl with | [_, _], _ => rfl⟩
  have C__has_some : Cal l.prog w K mg base "_has_some" 1 ["rights", "group"] (sp__has_some K) := ⟨_, _, ok__has_some F7 T, PySem.W.mg_of X G a7, F7.kp, F7.binds fun _ _ _ _ _ _ us hl => match us, hl with | [_, _], _ => rfl⟩
  have C__lead_one_way : Cal l.prog w K mg base "_lead_one_way" 2 ["rights"] (sp__lead_one_way K) := ⟨_, _, ok__lead_one_way F8 T C__has_some, PySem.W.mg_of X G a8, F8.kp, F8.binds fun _ _ _ _ _ _ us hl => match us, hl with | [_], _ => rfl⟩
  have C_bits_of_rights : Cal l.prog w K mg base "bits_of_rights" 1 ["rights"] (sp_bits_of_rights K) := ⟨_, _, ok_bits_of_rights F9 T, PySem.W.mg_of X G a9, F9.kp, F9.binds fun _ _ _ _ _ _ us hl => match us, hl with | [_], _ => rfl⟩
  have C_field : Cal l.prog w K mg base "field" 1 ["bits", "place"] (sp_field K) := ⟨_, _, ok_field F10 T, PySem.W.mg_of X G a10, F10.kp, F10.binds fun _ _ _ _ _ _ us hl => match us, hl with | [_, _], _ => rfl⟩
  have C_rights_in : Cal l.prog w K mg base "rights_in" 2 ["bits"] (sp_rights_in K) := ⟨_, _, ok_rights_in F11 T C_field, PySem.W.mg_of X G a11, F11.kp, F11.binds fun _ _ _ _ _ _ us hl => match us, hl with | [_], _ => rfl⟩
  have C__tell : Cal l.prog w K mg base "_tell" 2 ["bits"] (sp__tell K) := ⟨_, _, ok__tell F12 T C_field, PySem.W.mg_of X G a12, F12.kp, F12.binds fun _ _ _ _ _ _ us hl => match us, hl with | [_], _ => rfl⟩
  have C_bounds_in : Cal l.prog w K mg base "bounds_in" 2 ["bits"] (sp_bounds_in K) := ⟨_, _, ok_bounds_in F13 T C_field, PySem.W.mg_of X G a13, F13.kp, F13.binds fun _ _ _ _ _ _ us hl => match us, hl with | [_], _ => rfl⟩
  have C_fields_of_n_word : CalN CX0 l.prog w K mg base "fields_of" 3 ["word"] ["word"] id (sp_fields_of K) := ⟨_, _, fun us ws => id ws, ok_fields_of F14 T C_field C_rights_in C__tell C_bounds_in, PySem.W.mg_of X G a14, F14.kp, ⟨fun s us ws X l1 l2 => match us, l1, ws, l2 with | [], _, [_], _ => .of_eq rfl, fun _ r => r⟩⟩
  have C_fields_of : Cal l.prog w K mg base "fields_of" 3 ["word"] (sp_fields_of K) := ⟨_, _, ok_fields_of F14 T C_field C_rights_in C__tell C_bounds_in, PySem.W.mg_of X G a14, F14.kp, F14.binds fun _ _ _ _ _ _ us hl => match us, hl with | [_], _ => rfl⟩
  have C_is_rights : Cal l.prog w K mg base "is_rights" 1 ["thing"] (sp_is_rights K) := ⟨_, _, ok_is_rights F15 T, PySem.W.mg_of X G a15, F15.kp, F15.binds fun _ _ _ _ _ _ us hl => match us, hl with | [_], _ => rfl⟩
  have C__are_fields : Cal l.prog w K mg base "_are_fields" 7 ["thing"] (sp__are_fields K) := ⟨_, _, ok__are_fields F16 T C_is_whole C_are_bounds C_is_exact C__lead_one_way C_is_rights, PySem.W.mg_of X G a16, F16.kp, F16.binds fun _ _ _ _ _ _ us hl => match us, hl with | [_], _ => rfl⟩
  have FD17 : FunD K "word_of" "word_of" (defArgs s_word_of) (defBody s_word_of) (defScope s_word_of) [] [("marked", V.bl true)] f17 _ := ⟨⟨_, _, _, _, _, _, _, _, _, _, rfl, l17, c17, .inl ⟨rfl, rfl⟩, .inr ⟨D17, rfl, fun q hq => by simp at hq; subst hq; exact ⟨_, d17_marked, rfl⟩⟩⟩, k17⟩
  obtain ⟨ds17, hd17, hb17⟩ := FD17.binds0 1 (ps := ["fields", "marked"]) (by simp) rfl (fun D doc pm an cdv ct us ks h1 h2 => match us, h1, ks, h2 with | [_], _, [_], _ => ⟨_, _, _, _, _, _, rfl, rfl, rfl⟩)
  have C_word_of : CalXD l.prog w K mg base "word_of" 8 ["fields", "marked"] [.bl true] (sp_word_of K) := ⟨_, _, ds17, ok_word_of F17 T C_in_bits C_bits_of_rights C__are_fields R_NoFields, PySem.W.mg_of X G a17, F17.kp, hd17, hb17⟩
  obtain ⟨mv17, hk17⟩ := FD17.kbinds0 1 (ps := ["fields", "marked"]) ["marked"] [] (fun vs mz zs => vs ++ zs) (by simp) (by simp) (fun r1 _ r3 => Vals.append r1 r3) (fun D doc pm an cdv ct us mv ws h1 h2 h3 => match us, h1, mv, h2, ws, h3 with | [_], _, [], _, [_], _ => rfl)
  have C_word_of_k : CalXK l.prog w K mg base "word_of" 8 ["fields", "marked"] 1 ["marked"] (sp_word_of K) := ⟨_, _, _, ok_word_of F17 T C_in_bits C_bits_of_rights C__are_fields R_NoFields, PySem.W.mg_of X G a17, F17.kp, hk17⟩
  obtain ⟨mvn17, hkn17⟩ := FD17.kbinds0 0 (ps := ["fields", "marked"]) ["marked", "fields"] [] (fun vs mz zs => swap2 zs) (by simp) (by simp) (fun _ _ r3 => swap2_rel r3) (fun D doc pm an cdv ct us mv ws h1 h2 h3 => match us, h1, mv, h2, ws, h3 with | [], _, [], _, [_, _], _ => rfl)
  have C_word_of_n_marked_fields : CalN (L2.CX l.prog w) l.prog w K mg base "word_of" 8 ["fields", "marked"] ["marked", "fields"] swap2 (sp_word_of K) := ⟨_, _, _, ok_word_of F17 T C_in_bits C_bits_of_rights C__are_fields R_NoFields, PySem.W.mg_of X G a17, F17.kp, hkn17⟩
  have C_plain_n_number : CalN CX0 l.prog w K mg base "plain" 1 ["number"] ["number"] id (sp_plain K) := ⟨_, _, fun us ws => id ws, ok_plain F18 T, PySem.W.mg_of X G a18, F18.kp, ⟨fun s us ws X l1 l2 => match us, l1, ws, l2 with | [], _, [_], _ => .of_eq rfl, fun _ r => r⟩⟩
  have C_plain : Cal l.prog w K mg base "plain" 1 ["number"] (sp_plain K) := ⟨_, _, ok_plain F18 T, PySem.W.mg_of X G a18, F18.kp, F18.binds fun _ _ _ _ _ _ us hl => match us, hl with | [_], _ => rfl⟩
  have C__law_take : Cal l.prog w K mg base "_law_take" 1 ["_law_pool_here", "_law_many"] (sp__law_take K) := ⟨_, _, ok__law_take F19 T, PySem.W.mg_of X G a19, F19.kp, F19.binds fun _ _ _ _ _ _ us hl => match us, hl with | [_, _], _ => rfl⟩
  have C__law_pool : Cal l.prog w K mg base "_law_pool" 1 ["_law_script", "_law_k"] (sp__law_pool K) := ⟨_, _, ok__law_pool F20 T, PySem.W.mg_of X G a20, F20.kp, F20.binds fun _ _ _ _ _ _ us hl => match us, hl with | [_, _], _ => rfl⟩
  have C__law_bits : Cal l.prog w K mg base "_law_bits" 1 ["_law_at", "_law_first", "_law_count", "_law_step", "_law_rights", "_law_kind"] (sp__law_bits K) := ⟨_, _, ok__law_bits F21 T, PySem.W.mg_of X G a21, F21.kp, F21.binds fun _ _ _ _ _ _ us hl => match us, hl with | [_, _, _, _, _, _], _ => rfl⟩
  have C__law_mask : Cal l.prog w K mg base "_law_mask" 2 ["_law_pool_here"] (sp__law_mask K) := ⟨_, _, ok__law_mask F22 T C__law_take, PySem.W.mg_of X G a22, F22.kp, F22.binds fun _ _ _ _ _ _ us hl => match us, hl with | [_], _ => rfl⟩
  have C__law_drawn : Cal l.prog w K mg base "_law_drawn" 3 ["_law_pool_here"] (sp__law_drawn K) := ⟨_, _, ok__law_drawn F23 T C__law_take C__law_bits C__law_mask, PySem.W.mg_of X G a23, F23.kp, F23.binds fun _ _ _ _ _ _ us hl => match us, hl with | [_], _ => rfl⟩
  have C__law_fields : Cal l.prog w K mg base "_law_fields" 1 ["_law_bits_here"] (sp__law_fields K) := ⟨_, _, ok__law_fields F24 T, PySem.W.mg_of X G a24, F24.kp, F24.binds fun _ _ _ _ _ _ us hl => match us, hl with | [_], _ => rfl⟩
  have C__law_good : Cal l.prog w K mg base "_law_good" 1 ["_law_rights"] (sp__law_good K) := ⟨_, _, ok__law_good F25 T, PySem.W.mg_of X G a25, F25.kp, F25.binds fun _ _ _ _ _ _ us hl => match us, hl with | [_], _ => rfl⟩
  have C__law_told : Cal l.prog w K mg base "_law_told" 9 ["_law_own", "_law_mark"] (sp__law_told K) := ⟨_, _, ok__law_told F26 T C_word_of C_word_of_k, PySem.W.mg_of X G a26, F26.kp, F26.binds fun _ _ _ _ _ _ us hl => match us, hl with | [_, _], _ => rfl⟩
  exact ok_law l27 c27 T C_fields_of C_fields_of_n_word C_word_of C_word_of_n_marked_fields C_plain C_plain_n_number C__law_take C__law_pool C__law_drawn C__law_fields C__law_good C__law_told e0 hS hlen
end My
open PySem PySem.W PyProof.Rows
set_option maxRecDepth 100000 in
set_option maxHeartbeats 0 in
theorem PySem.Challenge.cw_sealedreach_k02_fields_told_of_words_holds : PySem.Challenge.rw_sealedreach_k02_fields_told_of_words.Holds := by
  w_on; o_law; k_head; (case hw => w_witness2)
  k_fill
  refine My.walk_scr (l := PySem.Challenge.rw_sealedreach_k02_fields_told_of_words) (n := 63) rfl (by decide) rfl (fun w h Y => PySem.W.kIn_of Y) ?F
  case F =>
    intro w mg fa h KX G hmg
    refine' My.all_mk KX G hmg ?a0 ?l0 ?c0 ?k0 ?a1 ?l1 ?c1 ?k1 ?a2 ?l2 ?c2 ?k2 ?a3 ?l3 ?c3 ?k3 ?a4 ?l4 ?c4 ?k4 ?a5 ?l5 ?c5 ?k5 ?a6 ?l6 ?c6 ?k6 ?a7 ?l7 ?c7 ?k7 ?a8 ?l8 ?c8 ?k8 ?a9 ?l9 ?c9 ?k9 ?a10 ?l10 ?c10 ?k10 ?a11 ?l11 ?c11 ?k11 ?a12 ?l12 ?c12 ?k12 ?a13 ?l13 ?c13 ?k13 ?a14 ?l14 ?c14 ?k14 ?a15 ?l15 ?c15 ?k15 ?a16 ?l16 ?c16 ?k16 ?a17 ?l17 ?c17 ?k17 ?d17_marked ?a18 ?l18 ?c18 ?k18 ?a19 ?l19 ?c19 ?k19 ?a20 ?l20 ?c20 ?k20 ?a21 ?l21 ?c21 ?k21 ?a22 ?l22 ?c22 ?k22 ?a23 ?l23 ?c23 ?k23 ?a24 ?l24 ?c24 ?k24 ?a25 ?l25 ?c25 ?k25 ?a26 ?l26 ?c26 ?k26 ?a27 ?l27 ?c27 ?k27 ?z_abs ?z_any ?z_bool ?z_enumerate ?z_int ?z_isinstance ?z_len ?z_max ?z_min ?z_range ?z_repr ?z_str ?z_sum ?z_tuple ?z_zip ?v_AT ?w_AT ?v_CELLS ?v_COUNT_LESS_ONE ?w_COUNT_LESS_ONE ?v_FIRST ?w_FIRST ?v_GROUPS ?w_GROUPS ?v_KIND ?w_KIND ?v_LEAST_COUNT ?v_RIGHTS ?v_RIGHTS_BITS ?w_RIGHTS_BITS ?v_STEP ?w_STEP ?v_TOP_COUNT ?v_TOP_KIND ?v_TOP_STEP ?v_WORTHS ?ac_NoFields ?ac_NoText ?ac_ReachError ?xl_NoFields ?sa_NoFields ?eb_NoFields ?ty_NoFields ?kc_NoFields ?no_NoFields ?in_NoFields ?ti_NoFields ?li_NoFields ?ci_NoFields ?ki_NoFields ?xb_NoFields_ReachError ?xh_NoFields_ReachError ?xt_NoFields_ReachError ?xs_NoFields_ReachError ?ecg_NoFields ?eck_NoFields ?ecs_NoFields ?ecd_NoFields ?eca_NoFields ?ecn_NoFields ?ect_NoFields ?ecm_NoFields ?kt_NoFields_NoFields ?kt_NoFields_NoText
    (case a0 => k_is)
    (case l0 => k_is)
    (case c0 => k_is)
    (case k0 => k_is)
    (case a1 => k_is)
    (case l1 => k_is)
    (case c1 => k_is)
    (case k1 => k_is)
    (case a2 => k_is)
    (case l2 => k_is)
    (case c2 => k_is)
    (case k2 => k_is)
    (case a3 => k_is)
    (case l3 => k_is)
    (case c3 => k_is)
    (case k3 => k_is)
    (case a4 => k_is)
    (case l4 => k_is)
    (case c4 => k_is)
    (case k4 => k_is)
    (case a5 => k_is)
    (case l5 => k_is)
    (case c5 => k_is)
    (case k5 => k_is)
    (case a6 => k_is)
    (case l6 => k_is)
    (case c6 => k_is)
    (case k6 => k_is)
    (case a7 => k_is)
    (case l7 => k_is)
    (case c7 => k_is)
    (case k7 => k_is)
    (case a8 => k_is)
    (case l8 => k_is)
    (case c8 => k_is)
    (case k8 => k_is)
    (case a9 => k_is)
    (case l9 => k_is)
    (case c9 => k_is)
    (case k9 => k_is)
    (case a10 => k_is)
    (case l10 => k_is)
    (case c10 => k_is)
    (case k10 => k_is)
    (case a11 => k_is)
    (case l11 => k_is)
    (case c11 => k_is)
    (case k11 => k_is)
    (case a12 => k_is)
    (case l12 => k_is)
    (case c12 => k_is)
    (case k12 => k_is)
    (case a13 => k_is)
    (case l13 => k_is)
    (case c13 => k_is)
    (case k13 => k_is)
    (case a14 => k_is)
    (case l14 => k_is)
    (case c14 => k_is)
    (case k14 => k_is)
    (case a15 => k_is)
    (case l15 => k_is)
    (case c15 => k_is)
    (case k15 => k_is)
    (case a16 => k_is)
    (case l16 => k_is)
    (case c16 => k_is)
    (case k16 => k_is)
    (case a17 => k_is)
    (case l17 => k_is)
    (case c17 => k_is)
    (case k17 => k_is)
    (case d17_marked => k_is)
    (case a18 => k_is)
    (case l18 => k_is)
    (case c18 => k_is)
    (case k18 => k_is)
    (case a19 => k_is)
    (case l19 => k_is)
    (case c19 => k_is)
    (case k19 => k_is)
    (case a20 => k_is)
    (case l20 => k_is)
    (case c20 => k_is)
    (case k20 => k_is)
    (case a21 => k_is)
    (case l21 => k_is)
    (case c21 => k_is)
    (case k21 => k_is)
    (case a22 => k_is)
    (case l22 => k_is)
    (case c22 => k_is)
    (case k22 => k_is)
    (case a23 => k_is)
    (case l23 => k_is)
    (case c23 => k_is)
    (case k23 => k_is)
    (case a24 => k_is)
    (case l24 => k_is)
    (case c24 => k_is)
    (case k24 => k_is)
    (case a25 => k_is)
    (case l25 => k_is)
    (case c25 => k_is)
    (case k25 => k_is)
    (case a26 => k_is)
    (case l26 => k_is)
    (case c26 => k_is)
    (case k26 => k_is)
    (case a27 => k_is)
    (case l27 => k_is)
    (case c27 => k_is)
    (case k27 => k_is)
    (case z_abs => k_is)
    (case z_any => k_is)
    (case z_bool => k_is)
    (case z_enumerate => k_is)
    (case z_int => k_is)
    (case z_isinstance => k_is)
    (case z_len => k_is)
    (case z_max => k_is)
    (case z_min => k_is)
    (case z_range => k_is)
    (case z_repr => k_is)
    (case z_str => k_is)
    (case z_sum => k_is)
    (case z_tuple => k_is)
    (case z_zip => k_is)
    (case v_AT => k_is)
    (case w_AT => k_is)
    (case v_CELLS => k_is)
    (case v_COUNT_LESS_ONE => k_is)
    (case w_COUNT_LESS_ONE => k_is)
    (case v_FIRST => k_is)
    (case w_FIRST => k_is)
    (case v_GROUPS => k_is)
    (case w_GROUPS => k_is)
    (case v_KIND => k_is)
    (case w_KIND => k_is)
    (case v_LEAST_COUNT => k_is)
    (case v_RIGHTS => k_is)
    (case v_RIGHTS_BITS => k_is)
    (case w_RIGHTS_BITS => k_is)
    (case v_STEP => k_is)
    (case w_STEP => k_is)
    (case v_TOP_COUNT => k_is)
    (case v_TOP_KIND => k_is)
    (case v_TOP_STEP => k_is)
    (case v_WORTHS => k_is)
    (case ac_NoFields => k_is)
    (case ac_NoText => k_is)
    (case ac_ReachError => k_is)
    (case xl_NoFields => k_is)
    (case sa_NoFields => k_is)
    (case eb_NoFields => k_is)
    (case ty_NoFields => k_is)
    (case kc_NoFields => k_is)
    (case no_NoFields => k_is)
    (case in_NoFields => k_is)
    (case ti_NoFields => k_is)
    (case li_NoFields => k_is)
    (case ci_NoFields => k_is)
    (case ki_NoFields => k_is)
    (case xb_NoFields_ReachError => k_is)
    (case xh_NoFields_ReachError => k_is)
    (case xt_NoFields_ReachError => k_is)
    (case xs_NoFields_ReachError => k_is)
    (case ecg_NoFields => k_is)
    (case eck_NoFields => k_is)
    (case ecs_NoFields => k_is)
    (case ecd_NoFields => k_is)
    (case eca_NoFields => k_is)
    (case ecn_NoFields => k_is)
    (case ect_NoFields => k_is)
    (case ecm_NoFields => k_is)
    (case kt_NoFields_NoFields => kit_is)
    (case kt_NoFields_NoText => kit_is)
