import PyProof.Rows.All
import Wide.All
import OpenK.AllK
import Wide.FinOn
import HandS.ForMost
import HandS.IsInst
import HandS.Conv
import HandS.TupLe
import HandS.Walk
import HandS.Zip
import HandS.Wide
import HandS.SetFor
import HandS.Defaults
import HandS.MakeKwOnly
import PyProof.ReprLen
import HandS.ReplaceLit
import HandS.ReplaceList
import PySem.Challenge.RW_sealedreach_k12_words_walked_and_narrowe
set_option Elab.async false
set_option linter.all false
set_option maxRecDepth 100000
set_option maxHeartbeats 4000000
namespace My
open PySem PySem.Spec PyProof.Rows L2
/-! ### calls of a def by its name alone -/
structure Cal (P : Program) (w : World) (K : PySem.W.Frag) (mg : Str → Option Value) (base : Heap) (x : Str) (k : Nat) (ps : List Str) (sp : Sp) : Prop where
  ex : ∃ (f : Addr) (fd : FuncData), FnOk P w K mg base CX0 k f fd ps sp ∧ mg x = some (.ref f) ∧ PySem.W.keepIn K (.ref f) = true ∧ Binds K fd ps []
theorem pe_cal {X : Cx} {x : Str} {k : Nat} {ps : List Str} {sp : Sp} {e : Expr} {es : List Expr} {t : TA} {p pos : Pos} (C : Cal X.prog X.w X.K X.mg X.base x k ps sp) (hr : Room k X.A)
    (ha : PA X (e :: es) t) (hg : Gl X x := by rfl) (hdb : (x == ("__debug__" : Str)) = false := by decide) (he : starEach (e :: es) X.env = (false, eval e X.env) :: starEach es X.env := by rfl) (hpl : (backTo pos (starEach es X.env)).any (·.1) = false := by rfl) :
    PE X (.Call (.Name x p) (e :: es) [] pos) (tCall sp [] E0 t) := by
  obtain ⟨f, fd, G, g, kp, b⟩ := C.ex
  exact pe_call G hr hg g kp b .nil pass0 ha hdb he hpl
/-- .. with defaults of its keyword-only names -/
structure CalD (P : Program) (w : World) (K : PySem.W.Frag) (mg : Str → Option Value) (base : Heap) (x : Str) (k : Nat) (ps : List Str) (dvs : List V) (sp : Sp) : Prop where
  ex : ∃ (f : Addr) (fd : FuncData) (ds : List Value), FnOk P w K mg base CX0 k f fd ps sp ∧ mg x = some (.ref f) ∧ PySem.W.keepIn K (.ref f) = true ∧ Vals dvs ds ∧ Binds K fd ps ds
theorem pe_calD {X : Cx} {x : Str} {k : Nat} {ps : List Str} {dvs : List V} {sp : Sp} {e : Expr} {es : List Expr} {t : TA} {p pos : Pos} (C : CalD X.prog X.w X.K X.mg X.base x k ps dvs sp) (hr : Room k X.A)
    (ha : PA X (e :: es) t) (hg : Gl X x := by rfl) (hdb : (x == ("__debug__" : Str)) = false := by decide) (he : starEach (e :: es) X.env = (false, eval e X.env) :: starEach es X.env := by rfl) (hpl : (backTo pos (starEach es X.env)).any (·.1) = false := by rfl) :
    PE X (.Call (.Name x p) (e :: es) [] pos) (tCall sp dvs E0 t) := by
  obtain ⟨f, fd, ds, G, g, kp, hd, b⟩ := C.ex
  exact pe_call G hr hg g kp b hd pass0 ha hdb he hpl
/-- .. called with one place and its keyword-only names -/
structure CalK (P : Program) (w : World) (K : PySem.W.Frag) (mg : Str → Option Value) (base : Heap) (x : Str) (k : Nat) (ps : List Str) (n : Nat) (ks : List Str) (sp : Sp) : Prop where
  ex : ∃ (f : Addr) (fd : FuncData) (g : List Value → List Value → List Value), FnOk P w K mg base CX0 k f fd ps sp ∧ mg x = some (.ref f) ∧ PySem.W.keepIn K (.ref f) = true ∧ KBn K fd ps n ks g (fun vs zs => vs ++ zs)
theorem pe_calK {X : Cx} {x : Str} {k n : Nat} {ps ks : List Str} {sp : Sp} {e : Expr} {es : List Expr} {kws : List Keyword} {t tk : TA} {p pos : Pos} (C : CalK X.prog X.w X.K X.mg X.base x k ps n ks sp) (hr : Room k X.A)
    (ha : PA X (e :: es) t) (hkw : PK X kws tk) (hg : Gl X x := by rfl) (hall : (backToKw pos (keywordEach kws X.env)).all (·.1.isSome) = true := by rfl) (hks : (backToKw pos (keywordEach kws X.env)).filterMap (·.1) = ks := by rfl)
    (hdb : (x == ("__debug__" : Str)) = false := by decide) (he : starEach (e :: es) X.env = (false, eval e X.env) :: starEach es X.env := by rfl)
    (hpl : ((backTo pos (starEach (e :: es) X.env)).any (·.1) || (backToKw pos (keywordEach kws X.env)).any (·.1.isNone)) = false := by rfl) :
    PE X (.Call (.Name x p) (e :: es) kws pos) (tCallN n ks.length sp (fun vs zs => vs ++ zs) E0 t tk) := by
  obtain ⟨f, fd, g, G, gm, kp, b⟩ := C.ex
  exact pe_callN G hr hg gm kp b pass0 ha hkw hall hks hdb he hpl
/-! ### tests -/
theorem ifnd {p : Prop} [Decidable p] {A B : Prop} (h1 : ¬ p → A) (h2 : p → B) : if (!decide p) = true then A else B := by
  by_cases h : p
  · rw [decide_eq_true h]; exact h2 h
  · rw [decide_eq_false h]; exact h1 h
theorem ifnb {c : Bool} {A B : Prop} (h1 : c = false → A) (h2 : c = true → B) : if (!c) = true then A else B := by
  cases c with
  | true => exact h2 rfl
  | false => exact h1 rfl
theorem ifd {p : Prop} [Decidable p] {A B : Prop} (h1 : p → A) (h2 : ¬ p → B) : if decide p = true then A else B := by
  by_cases h : p
  · rw [if_pos (decide_eq_true h)]; exact h1 h
  · rw [decide_eq_false h, if_neg Bool.false_ne_true]; exact h2 h
theorem ifP {p : Prop} [Decidable p] {A B : Prop} (h : p) (h1 : A) : if decide p = true then A else B := by
  rw [if_pos (decide_eq_true h)]; exact h1
theorem ifN {p : Prop} [Decidable p] {A B : Prop} (h : ¬ p) (h1 : B) : if decide p = true then A else B := by
  rw [decide_eq_false h, if_neg Bool.false_ne_true]; exact h1
theorem ifb {c : Bool} {A B : Prop} (h1 : c = true → A) (h2 : c = false → B) : if c = true then A else B := by
  cases c with
  | true => rw [if_pos rfl]; exact h1 rfl
  | false => rw [if_neg Bool.false_ne_true]; exact h2 rfl
theorem ifbT {c : Bool} {A B : Prop} (h : c = true) (h1 : A) : if c = true then A else B := by rw [if_pos h]; exact h1
theorem ifbF {c : Bool} {A B : Prop} (h : c = false) (h1 : B) : if c = true then A else B := by rw [h, if_neg Bool.false_ne_true]; exact h1
/-! ### heaps -/
theorem viaS {H H' : Hp} {b : Addr} {o : HO} (s : Same H H') (h : H b = some o) : H' b = some o := s b o h
theorem same_new {H : Hp} {p : Addr} {o : HO} (h : H p = none) : Same H (upd H p o) := fun b x e => by
  rw [upd_ne (ne_of_none e h)]; exact e
/-- all but what stands at a is as it was -/
def But (a : Addr) (H H' : Hp) : Prop := ∀ b o, b ≠ a → H b = some o → H' b = some o
theorem viaB {H H' : Hp} {a b : Addr} {o : HO} (s : But a H H') (n : b ≠ a) (h : H b = some o) : H' b = some o := s b o n h
theorem But.refl (a : Addr) (H : Hp) : But a H H := fun _ _ _ h => h
theorem But.of {a : Addr} {H H' : Hp} (s : Same H H') : But a H H' := fun b o _ h => s b o h
theorem But.trans {a : Addr} {H H1 H2 : Hp} (s : But a H H1) (t : But a H1 H2) : But a H H2 := fun b o n h => t b o n (s b o n h)
theorem But.upd {a : Addr} {H H' : Hp} {o : HO} (s : But a H H') : But a H (upd H' a o) := fun b x n h => by
  rw [upd_ne n]; exact s b x n h
theorem But.new {a p : Addr} {H H' : Hp} {o : HO} (s : But a H H') (n : H' p = none) : But a H (L2.upd H' p o) := fun b x nb h => by
  have e := s b x nb h
  rw [upd_ne (ne_of_none e n)]; exact e
theorem sameN {p : Addr} {H H' : Hp} {o : HO} (s : Same H H') (n : H' p = none) : Same H (L2.upd H' p o) := fun b x h => by
  have e := s b x h
  rw [upd_ne (ne_of_none e n)]; exact e
theorem updK {H : Hp} {a b : Addr} {o u : HO} (n : b ≠ a) (h : H b = some u) : L2.upd H a o b = some u := by rw [upd_ne n]; exact h
/-- the pool of a law: a list of two numbers, the second small -/
def Pool (H : Hp) (a : Addr) (x y : Int) : Prop := H a = some (.lst [.int x, .int y]) ∧ 0 ≤ x ∧ 0 ≤ y ∧ y < 2147483647

local macro_rules | `(tactic| walk_at "ne") => `(tactic| first | assumption | (apply Ne.symm; assumption) | (refine ne_of_none ?_ (by assumption); walk_at "at") | (apply Ne.symm; refine ne_of_none ?_ (by assumption); walk_at "at"))
local macro_rules | `(tactic| walk_at "at") => `(tactic| first | assumption | exact upd_same | (refine updK ?n ?h; (case n => walk_at "ne"); (case h => walk_at "at")) | (refine viaS (by assumption) ?_; walk_at "at") | (refine viaB (by assumption) ?n ?h; (case n => walk_at "ne"); (case h => walk_at "at")))
local macro_rules | `(tactic| walk_at "side") => `(tactic| first | rfl | omega | decide | (refine ⟨by omega, by omega, ?_⟩; first | decide | omega) | (refine Or.inl ⟨by omega, by omega⟩) | (refine Or.inr ⟨by omega, by omega⟩) | exact ⟨by omega, by omega⟩)
/-- one step of a reading whose answers are plain -/
local macro_rules | `(tactic| walk_at "g1") => `(tactic| first | refine ⟨_, rfl, ?_⟩ | refine ⟨_, _, rfl, rfl, ?_⟩ | refine ⟨by walk_at "side", ?_⟩)
local macro_rules | `(tactic| walk_at "g") => `(tactic| repeat walk_at "g1")
theorem sz {n : Nat} (h : n ≤ 1000) : n ≤ sizeLine := Nat.le_of_lt (small1000 h)
theorem Pool.new {H : Hp} {p q : Addr} {x y : Int} {o : HO} (h : Pool H p x y) (n : H q = none) : Pool (upd H q o) p x y := ⟨by rw [upd_ne (ne_of_none h.1 n)]; exact h.1, h.2⟩
def rep (c L : Int) : Int := if (if c < L then c else L) > 1 then (if c < L then c else L) else 1
theorem rep_le {c L : Int} (h : 1 ≤ c) (h2 : c ≤ 63) : 1 ≤ rep c L ∧ rep c L ≤ c := by
  unfold rep
  by_cases d : c < L
  · simp only [if_pos d]; split <;> omega
  · simp only [if_neg d]; split <;> omega
theorem rep_lo {c L : Int} (h : 1 ≤ c) (h2 : c ≤ 63) : -(2 ^ 62) ≤ rep c L := by have := (rep_le (L := L) h h2).1; omega
theorem rep_hi {c L : Int} (h : 1 ≤ c) (h2 : c ≤ 63) : rep c L < 2 ^ 62 := by have := (rep_le (L := L) h h2).2; omega
theorem rep_i {c L : Int} {i : Nat} (h : 1 ≤ c) (h2 : c ≤ 63) (k : i < (rep c L).toNat) : i ≤ 63 := by have := (rep_le (L := L) h h2).2; omega
/-- a pool's own changes leave what stood ahead of it -/
theorem sameP {H H1 H2 H3 : Hp} {p : Addr} (s : Same H H1) (s1 : Same H1 H2) (n : H1 p = none) (b : But p H2 H3) : Same H H3 := fun c o e =>
  b c o (ne_of_none (s c o e) n) (s1 _ _ (s _ _ e))
theorem pick {xs : List V} {r : Int} (P : V → Prop) (h0 : 0 ≤ r) (h1 : r < (xs.length : Int)) (hP : ∀ v ∈ xs, P v) : ∃ v, atI xs r = some v ∧ P v := by
  obtain ⟨j, rfl⟩ : ∃ j : Nat, r = (j : Int) := ⟨r.toNat, by omega⟩
  have hj : j < xs.length := by omega
  exact ⟨xs[j], atI_nat (List.getElem?_eq_getElem hj), hP _ (List.getElem_mem hj)⟩
theorem cut63 {ns : List Int} (h : ns.length ≤ 63) : cutV (ns.map V.int) none (some 63) = ns.map V.int := by
  unfold cutV
  rw [show HT.sIx (ns.map V.int).length (ns.map V.int).length (some 63) = min 63 (ns.map V.int).length from HT.sIx_nat _ _ 63, HT.sIx_none]
  rw [List.drop_zero, Nat.sub_zero, List.length_map, Nat.min_eq_right h]
  exact List.take_of_length_le (by simp)
theorem qb {Q : VK} {H : Hp} {b b' : Bool} (q : Q (.bl b') H) (e : b = b') : Q (.bl b) H := e ▸ q
theorem qi {Q : VK} {H : Hp} {i j : Int} (q : Q (.int j) H) (e : i = j) : Q (.int i) H := e ▸ q
/-! ### enumerate over a text -/
def Ies (x : Str) : It := ⟨fun i _ => i < x.cps.size, fun i H v H' => ∃ T c, v = .ref T ∧ H T = none ∧ H' = upd H T (.tup [.int (i : Nat), .str ⟨#[c]⟩]) ∧ x.cps[i]? = some c, fun i _ => i = x.cps.size⟩
theorem turn_enumS {P : Program} {w : World} {K : PySem.W.Frag} {elts : List Expr} {kk : Nat} {tpos : Pos} (e it : Addr) (x : Str) (t : Tok) :
    Turn P w K (.Tuple elts kk tpos) (Ies x) [e, it] e (fun i h => (∃ old, IsEnum h e it ((i : Nat) : Int) old) ∧ h.IsStrIter it (strIterType x) x t i ∧ e ≠ it) where
  mem := by simp
  obj := fun i h st b hb => by
    obtain ⟨⟨old, he⟩, ⟨o, ho, hc, hd⟩, _⟩ := st
    have e' : b = e ∨ b = it := by simpa using hb
    rcases e' with z | z
    · rw [z]; exact ⟨_, he, fun v q => nomatch q⟩
    · rw [z]; exact ⟨o, ho, fun v q => by rw [hd] at q; cases q⟩
  keep := fun i h h' st k => let ⟨⟨old, he⟩, ⟨o, ho, r⟩, hne⟩ := st; ⟨⟨old, k e (by simp) _ he⟩, ⟨o, k it (by simp) o ho, r⟩, hne⟩
  item := by
    intro X hP hw hK hc i pins s σ H E I hf st hg
    subst hP hw hK
    obtain ⟨⟨old, he⟩, hit, hne⟩ := st
    have hel : e < s.heap.objs.size := Heap.lt_size he
    have hil : it < s.heap.objs.size := by obtain ⟨_, q, _⟩ := hit; exact Heap.lt_size q
    have hd : X.A.in1.handled = none := I.ok.hd hc
    have D : Draws X.prog X.w X.A.in1 it [it] x.cps.size (fun i v => ∃ c u, x.cps[i]? = some c ∧ v = .str ⟨#[c]⟩ u) (fun i h => h.IsStrIter it (strIterType x) x t i) := by
      unfold strIterType
      split
      · exact Draws.strAscii hd it x t
      · exact Draws.strWide hd it x t
    refine wpAny_pyNext_enum_itemD D he hit hg hne (by simpa using hne) fun v h' tk hv ho hit' hT hsz hk => ?_
    obtain ⟨c, u, hcx, rfl⟩ := hv
    refine ⟨_, rfl, wpAny_letOwnedTupleGo_enum (s := { s with heap := h', toks := tk + 1 }) ho fun h'' he' sb => ?_⟩
    have hT2 : h''.get? s.heap.objs.size = some { cls := .type "tuple", data := .seq #[.int i tk, .str ⟨#[c]⟩ u] } := (sb.2 _ (Nat.ne_of_gt hel)).trans hT
    have new : ObjOk X.prog X.w (upd H s.heap.objs.size (.tup [.int (i : Nat), .str ⟨#[c]⟩])) h'' s.heap.objs.size (.tup [.int (i : Nat), .str ⟨#[c]⟩]) :=
      ⟨by show 2 ≤ sizeLine; decide, [.int i tk, .str ⟨#[c]⟩ u], .cons ⟨_, rfl⟩ (.cons ⟨_, rfl⟩ .nil), ⟨_, hT2, rfl, _, rfl⟩⟩
    have I1 : Inv X pins σ (upd H s.heap.objs.size (.tup [.int (i : Nat), .str ⟨#[c]⟩])) { s with heap := h'', toks := tk + 1 } :=
      I.turnedNew (ch := [e, it]) (fun b ob hb q => (sb.2 b (fun z => hb (by simp [z]))).trans (hk b ob (fun z => hb (by simp [z])) (fun z => hb (by simp [z])) q)) hf (Nat.le_refl _) new
    refine ⟨.ref s.heap.objs.size, _, I1, rfl, ⟨_, c, rfl, I.hok.fresh (Nat.le_refl _), rfl, hcx⟩, ⟨⟨.str ⟨#[c]⟩ u, ?_⟩, ?_, hne⟩, fun b hb => ?_⟩
    · have e1 : ((i + 1 : Nat) : Int) = (i : Int) + 1 := by omega
      rw [e1]; exact he'
    · obtain ⟨o2, q2, r2⟩ := hit'
      exact ⟨o2, (sb.2 it (Ne.symm hne)).trans q2, r2⟩
    · have hb' : b < s.heap.objs.size := by
        have e' : b = e ∨ b = it := by simpa using hb
        rcases e' with z | z
        · rw [z]; exact hel
        · rw [z]; exact hil
      rw [upd_ne (Nat.ne_of_lt hb')]
      exact (hf b hb).1
  done := by
    intro X hP hw hK hc i pins s σ H E I hf st hg
    subst hP hw hK
    obtain ⟨⟨old, he⟩, hit, hne⟩ := st
    have hg' : i = x.cps.size := hg
    subst hg'
    have hd : X.A.in1.handled = none := I.ok.hd hc
    have D : Draws X.prog X.w X.A.in1 it [it] x.cps.size (fun i v => ∃ c u, x.cps[i]? = some c ∧ v = .str ⟨#[c]⟩ u) (fun i h => h.IsStrIter it (strIterType x) x t i) := by
      unfold strIterType
      split
      · exact Draws.strAscii hd it x t
      · exact Draws.strWide hd it x t
    obtain ⟨f0, f1, f2, f3, f4, f5⟩ := hf it (by simp)
    exact wpAny_pyNext_enum_endD D he hit fun h' eb => ⟨rfl, I.turned (t' := s.toks) (fun b o hb q => eb b o hb q) f0 f1 f3 f4 f5⟩
  self := fun A i s Q E st h => let ⟨⟨_, he⟩, _⟩ := st; wpAny_pyIter_enum he h
def iEnumS (ta : TA) : TI := fun σ H R => ta σ H fun vs H1 => ∃ x : Str, vs = [.str x] ∧ R (Ies x) H1
theorem pi_enumS {X : Cx} {e : Expr} {ta : TA} {p pos tpos : Pos} {elts : List Expr} {kk : Nat} (hg : Gl X "enumerate") (hm : X.mg "enumerate" = none) (ha : PA X [e] ta) (hs : starEach [e] X.env = [(false, eval e X.env)] := by rfl) :
    PI X (.Tuple elts kk tpos) (.Call (.Name "enumerate" p) [e] [] pos) (iEnumS ta) := by
  refine ⟨fun pins s σ H R I h => ?_⟩
  refine Call_ (ld_blt I hg hm boot_enumerate (PyProof.Rows.callWith_type1 (thn (ha.run pos pins s σ H _ I h) fun us s1 ⟨vs, H1, I1, r1, q1⟩ => ?_) hs rfl))
  obtain ⟨x, ex, q⟩ := q1
  subst ex
  cases r1 with
  | cons r rr =>
    cases rr
    obtain ⟨t, rfl⟩ := r
    refine call_enumerate_str fun h' he hit hsz hk => wpAny_pyIter_enum he ?_
    have I2 : Inv X pins σ H1 { s1 with heap := h' } := I1.kept (t' := s1.toks) hk
    refine ⟨s1.heap.objs.size + 1, [s1.heap.objs.size + 1, s1.heap.objs.size], _, _, H1, rfl, I2, turn_enumS (s1.heap.objs.size + 1) s1.heap.objs.size x t, ⟨⟨.none, he⟩, hit, Nat.succ_ne_self _⟩, fun b hb => ?_, q⟩
    have e' : b = s1.heap.objs.size + 1 ∨ b = s1.heap.objs.size := by simpa using hb
    have hle : s1.heap.objs.size ≤ b := by
      rcases e' with z | z
      · rw [z]; exact Nat.le_add_right _ _
      · rw [z]; exact Nat.le_refl _
    exact I1.fpOk hle (I1.hok.fresh hle)
theorem walk_enumS {z : Str} : Walk (Ies z) z.cps.size (fun _ => True) (YPair (fun i => some (.int (i : Nat))) (fun i => (z.cps[i]?).map fun c => .str ⟨#[c]⟩)) where
  goes := fun i H hi _ => hi
  stops := fun H _ => rfl
  yields := fun i H x H' hi _ y => by
    obtain ⟨T, c, rfl, hn, rfl, hc⟩ := y
    exact ⟨T, _, _, rfl, hn, rfl, rfl, by simp [hc]⟩
theorem walk_zipT {K : PySem.W.Frag} {a b : Addr} {xs ys : List V} {n : Nat} (hn : n = min xs.length ys.length) : Walk (RZ.ItzT K a b) n (fun H => SqT K H a xs ∧ SqT K H b ys) (YPair (fun i => xs[i]?) (fun i => ys[i]?)) where
  goes := fun i H hi h => by
    have h1 : i < xs.length := by omega
    have h2 : i < ys.length := by omega
    exact ⟨xs, ys, xs[i], ys[i], h.1, h.2, List.getElem?_eq_getElem h1, List.getElem?_eq_getElem h2⟩
  stops := fun H h => ⟨xs, ys, h.1, h.2, by omega⟩
  yields := fun i H x H' hi h y => by
    obtain ⟨T, x1, y1, rfl, hn', rfl, h1, h2⟩ := y
    exact ⟨T, x1, y1, rfl, hn', rfl, h1 xs h.1, h2 ys h.2⟩

theorem b01 (k : Bool) : -(2 ^ 64) < (if k then (1 : Int) else 0) ∧ (if k then (1 : Int) else 0) < 2 ^ 64 := by cases k <;> decide
theorem mixb (z : Int) : -(2 ^ 64) < z % 2147483647 ∧ z % 2147483647 < 2 ^ 64 := by omega
theorem sizeb (c : Int) (k : Bool) : 0 ≤ (if c < 0 then -c else c) * (if k then (1 : Int) else 0) := by
  cases k
  · simp
  · simp; split <;> omega

/-! ### the mathematics of bounds -/
def Dd (lo hi : Int) (t : Nat) : Int := (hi - 1) / 2 ^ t - lo / 2 ^ t
def StepIs (lo hi : Int) (s : Nat) : Prop := s ≤ 8 ∧ Dd lo hi s ≤ 15 ∧ ∀ t, t < s → 15 < Dd lo hi t
def Bd (lo hi : Int) : Prop := 0 ≤ lo ∧ lo < hi ∧ hi ≤ 4096
def Ex (lo hi : Int) (s : Nat) : Prop := StepIs lo hi s ∧ lo / 2 ^ s * 2 ^ s = lo ∧ ((hi - 1) / 2 ^ s + 1) * 2 ^ s = hi
theorem le8 {s : Nat} (h : s ≤ 8) : s = 0 ∨ s = 1 ∨ s = 2 ∨ s = 3 ∨ s = 4 ∨ s = 5 ∨ s = 6 ∨ s = 7 ∨ s = 8 := by omega
theorem StepIs.uniq {lo hi : Int} {s t : Nat} (h : StepIs lo hi s) (k : StepIs lo hi t) : s = t := by
  rcases Nat.lt_trichotomy s t with c | c | c
  · have := k.2.2 s c; have := h.2.1; omega
  · exact c
  · have := h.2.2 t c; have := k.2.1; omega
theorem pow_pos2 (s : Nat) : (0 : Int) < 2 ^ s := Int.pow_pos (by decide)
theorem over_eq (lo hi : Int) (s : Nat) : (hi + 1 * 2 ^ s - 1) / 2 ^ s - lo / 2 ^ s = Dd lo hi s + 1 := by
  have e : hi + 1 * 2 ^ s - 1 = (hi - 1) + 1 * 2 ^ s := by omega
  rw [e, Int.add_mul_ediv_right _ _ (Int.ne_of_gt (pow_pos2 s))]
  unfold Dd
  omega
theorem first_over (lo hi : Int) (s : Nat) : lo / 2 ^ s + (Dd lo hi s + 1) = (hi - 1) / 2 ^ s + 1 := by
  unfold Dd; omega
theorem dd8 {lo hi : Int} (b : Bd lo hi) : Dd lo hi 8 ≤ 15 := by
  obtain ⟨h1, h2, h3⟩ := b
  unfold Dd
  have e : (2 : Int) ^ 8 = 256 := by decide
  rw [e]; omega
/-- going up from nought: below s all are too many -/
theorem lt8 {lo hi : Int} {s : Nat} (b : Bd lo hi) (h : 15 < Dd lo hi s) (u : s ≤ 8) : s < 8 := by
  rcases Nat.lt_or_ge s 8 with c | c
  · exact c
  · have e : s = 8 := by omega
    subst e
    have := dd8 b
    omega
/-- what a shift asks -/
theorem p8 {s : Nat} (h : s ≤ 8) : (2 : Int) ^ s ≤ 256 := by
  rcases le8 h with e | e | e | e | e | e | e | e | e <;> subst e <;> decide
theorem na {x : Int} (h0 : 0 ≤ x) (h1 : x ≤ 100000) : x.natAbs < 2 ^ 64 := by omega
theorem div_le' {x : Int} {s : Nat} (h0 : 0 ≤ x) : 0 ≤ x / 2 ^ s ∧ x / 2 ^ s ≤ x :=
  ⟨Int.ediv_nonneg h0 (Int.le_of_lt (pow_pos2 s)), Int.ediv_le_self _ h0⟩
theorem bc {lo hi : Int} {s : Nat} (b : Bd lo hi) (h : s ≤ 8) : CPow (lo / 2 ^ s) (s : Int) := by
  have := div_le' (s := s) b.1
  have := b.2
  exact ⟨by omega, by omega, na (by omega) (by omega)⟩
theorem bc2 {lo hi : Int} {s : Nat} (b : Bd lo hi) (h : StepIs lo hi s) : CPow (lo / 2 ^ s + (Dd lo hi s + 1)) (s : Int) := by
  have h8 := h.1
  obtain ⟨b1, b2, b3⟩ := b
  have := div_le' (s := s) (x := hi - 1) (by omega)
  rw [first_over]
  exact ⟨by omega, by omega, na (by omega) (by omega)⟩
theorem dd0 (n : Int) (s : Nat) : Dd 0 n s + 1 = (n - 1) / 2 ^ s + 1 := by
  unfold Dd; rw [Int.zero_ediv]; omega
theorem bc3 {n : Int} {s : Nat} (h : StepIs 0 n s) (b : Bd 0 n) : CPow (Dd 0 n s + 1) (s : Int) := by
  have h8 := h.1
  obtain ⟨b1, b2, b3⟩ := b
  have := div_le' (s := s) (x := n - 1) (by omega)
  rw [dd0]
  exact ⟨by omega, by omega, na (by omega) (by omega)⟩
def Can (lo hi : Int) (s : Nat) : Prop := lo % 2 ^ s = 0 ∧ 9 ≤ (hi - lo) / 2 ^ s
def GH (lo hi : Int) (s : Nat) : Prop := s ≤ 8 ∧ (s = 0 ∨ Can lo hi s) ∧ ∀ t, s < t → t ≤ 8 → ¬ Can lo hi t
def mn (lo hi : Int) (s : Nat) : Int := if (hi - lo) / 2 ^ s < 16 then (hi - lo) / 2 ^ s else 16
theorem cmn {lo hi : Int} {s : Nat} (b : Bd lo hi) (h : s ≤ 8) : CPow (mn lo hi s) (s : Int) := by
  obtain ⟨b1, b2, b3⟩ := b
  have := div_le' (s := s) (x := hi - lo) (by omega)
  unfold mn
  refine ⟨by omega, by omega, na ?_ ?_⟩ <;> split <;> omega
theorem bl_int {a b : Int} : decide (V.int a = V.int b) = decide (a = b) := by
  by_cases h : a = b
  · subst h; simp
  · have : ¬ (V.int a = V.int b) := fun e => h (V.int.inj e)
    simp [h, this]
theorem t2_eqv {a b c d : Int} : PyData.eqv (.tuple [.int a, .int b]) (.tuple [.int c, .int d]) = true ↔ a = c ∧ b = d := by
  simp [PyData.eqv, PyData.eqvAll]
theorem t2_no {a b c d : Int} (e : PyData.eqv (.tuple [.int a, .int b]) (.tuple [.int c, .int d]) = false) (h1 : a = c) (h2 : b = d) : False := by
  rw [t2_eqv.mpr ⟨h1, h2⟩] at e; cases e
theorem dp2 {K : PySem.W.Frag} {H : Hp} {p : Addr} {a b : Int} (h : H p = some (.tup [.int a, .int b])) : Dp K H (.ref p) (.tuple [.int a, .int b]) :=
  .tup (.of h) (.cons (.int a) (.cons (.int b) .nil))
theorem t3_eqv {a b x c d y : Int} : PyData.eqv (.tuple [.int a, .int b, .int x]) (.tuple [.int c, .int d, .int y]) = true ↔ a = c ∧ b = d ∧ x = y := by
  simp [PyData.eqv, PyData.eqvAll]
theorem dp3 {K : PySem.W.Frag} {H : Hp} {p : Addr} {a b c : Int} (h : H p = some (.tup [.int a, .int b, .int c])) : Dp K H (.ref p) (.tuple [.int a, .int b, .int c]) :=
  .tup (.of h) (.cons (.int a) (.cons (.int b) (.cons (.int c) .nil)))

/-! ### things of any kind -/
inductive Kd (H : Hp) : V → Prop where
  | non : Kd H .non
  | bl (b : Bool) : Kd H (.bl b)
  | int (i : Int) : Kd H (.int i)
  | str (x : Str) : Kd H (.str x)
  | lst {p : Addr} {xs : List V} (e : H p = some (.lst xs)) : Kd H (.ref p)
  | tup {p : Addr} {xs : List V} (e : H p = some (.tup xs)) : Kd H (.ref p)
  | dk {p : Addr} {kvs : List (Key × V)} (e : H p = some (.dK kvs)) : Kd H (.ref p)
theorem Kd.same {H H' : Hp} {v : V} (k : Kd H v) (s : Same H H') : Kd H' v := by
  cases k with
  | non => exact .non
  | bl b => exact .bl b
  | int i => exact .int i
  | str x => exact .str x
  | lst e => exact .lst (s _ _ e)
  | tup e => exact .tup (s _ _ e)
  | dk e => exact .dk (s _ _ e)
def isI : V → Bool | .int _ => true | .bl _ => true | _ => false
def isB : V → Bool | .bl _ => true | _ => false
def isS : V → Bool | .str _ => true | _ => false
theorem Kd.int? {K : PySem.W.Frag} {H : Hp} {v : V} (k : Kd H v) : ∃ t, TyX K H v t ∧ PySem.W.kitOne K t (.type "int") = some (isI v) := by
  cases k with
  | non => exact ⟨_, .base .non, kit_ty (r := false) (by decide +kernel)⟩
  | bl b => exact ⟨_, .base (.bl b), kit_ty (r := true) (by decide +kernel)⟩
  | int i => exact ⟨_, .base (.int i), kit_ty (r := true) (by decide +kernel)⟩
  | str x => exact ⟨_, .base (.str x), kit_ty (r := false) (by decide +kernel)⟩
  | lst e => exact ⟨_, .base (.lst e), kit_ty (r := false) (by decide +kernel)⟩
  | tup e => exact ⟨_, .base (.tup e), kit_ty (r := false) (by decide +kernel)⟩
  | dk e => exact ⟨_, .base (.dK e), kit_ty (r := false) (by decide +kernel)⟩
theorem Kd.bool? {K : PySem.W.Frag} {H : Hp} {v : V} (k : Kd H v) : ∃ t, TyX K H v t ∧ PySem.W.kitOne K t (.type "bool") = some (isB v) := by
  cases k with
  | non => exact ⟨_, .base .non, kit_ty (r := false) (by decide +kernel)⟩
  | bl b => exact ⟨_, .base (.bl b), kit_ty (r := true) (by decide +kernel)⟩
  | int i => exact ⟨_, .base (.int i), kit_ty (r := false) (by decide +kernel)⟩
  | str x => exact ⟨_, .base (.str x), kit_ty (r := false) (by decide +kernel)⟩
  | lst e => exact ⟨_, .base (.lst e), kit_ty (r := false) (by decide +kernel)⟩
  | tup e => exact ⟨_, .base (.tup e), kit_ty (r := false) (by decide +kernel)⟩
  | dk e => exact ⟨_, .base (.dK e), kit_ty (r := false) (by decide +kernel)⟩
theorem Kd.str? {K : PySem.W.Frag} {H : Hp} {v : V} (k : Kd H v) : ∃ t, TyX K H v t ∧ PySem.W.kitOne K t (.type "str") = some (isS v) := by
  cases k with
  | non => exact ⟨_, .base .non, kit_ty (r := false) (by decide +kernel)⟩
  | bl b => exact ⟨_, .base (.bl b), kit_ty (r := false) (by decide +kernel)⟩
  | int i => exact ⟨_, .base (.int i), kit_ty (r := false) (by decide +kernel)⟩
  | str x => exact ⟨_, .base (.str x), kit_ty (r := true) (by decide +kernel)⟩
  | lst e => exact ⟨_, .base (.lst e), kit_ty (r := false) (by decide +kernel)⟩
  | tup e => exact ⟨_, .base (.tup e), kit_ty (r := false) (by decide +kernel)⟩
  | dk e => exact ⟨_, .base (.dK e), kit_ty (r := false) (by decide +kernel)⟩
/-- it is no tuple -/
inductive NoT (H : Hp) : V → Prop where
  | non : NoT H .non
  | bl (b : Bool) : NoT H (.bl b)
  | int (i : Int) : NoT H (.int i)
  | str (x : Str) : NoT H (.str x)
  | lst {p : Addr} {xs : List V} (e : H p = some (.lst xs)) : NoT H (.ref p)
  | dk {p : Addr} {kvs : List (Key × V)} (e : H p = some (.dK kvs)) : NoT H (.ref p)
theorem NoT.tup? {K : PySem.W.Frag} {H : Hp} {v : V} (k : NoT H v) : ∃ t, TyX K H v t ∧ PySem.W.kitOne K t (.type "tuple") = some false := by
  cases k with
  | non => exact ⟨_, .base .non, kit_ty (by decide +kernel)⟩
  | bl b => exact ⟨_, .base (.bl b), kit_ty (by decide +kernel)⟩
  | int i => exact ⟨_, .base (.int i), kit_ty (by decide +kernel)⟩
  | str x => exact ⟨_, .base (.str x), kit_ty (by decide +kernel)⟩
  | lst e => exact ⟨_, .base (.lst e), kit_ty (by decide +kernel)⟩
  | dk e => exact ⟨_, .base (.dK e), kit_ty (by decide +kernel)⟩
/-! ### texts of rights -/
def RT : Str := Str.ofString "rwlsnfxco"
def code (k : Nat) : Nat := [114, 119, 108, 115, 110, 102, 120, 99, 111].getD k 0
def one (c : Nat) : Str := ⟨#[c]⟩
theorem RT_size : RT.cps.size = 9 := by decide +kernel
theorem RT_get : ∀ k, k < 9 → RT.cps[k]? = some (code k) := by decide +kernel
theorem code_inj : ∀ j, j < 9 → ∀ k, k < 9 → code j = code k → j = k := by decide +kernel
def rcs (p : Nat → Bool) (i : Nat) : List Str := ((List.range i).filter p).map fun k => one (code k)
def rtx (p : Nat → Bool) : Str := Txt.join (Str.ofString "") (rcs p 9)
theorem joinL_nil : ∀ l : List (List Nat), TL.joinL [] l = l.flatten
  | [] => rfl
  | [p] => by simp [TL.joinL]
  | p :: q :: r => by
    show p ++ ([] ++ TL.joinL [] (q :: r)) = _
    rw [joinL_nil (q :: r)]; simp
theorem rtx_codes (p : Nat → Bool) : (rtx p).cps.toList = ((List.range 9).filter p).map code := by
  unfold rtx
  rw [TL.join_eq]
  show TL.tl (Str.join _ _) = _
  rw [TL.tl_join]
  have e : TL.tl (Str.ofString "") = [] := by decide +kernel
  rw [e, joinL_nil]
  unfold rcs
  generalize (List.range 9).filter p = l
  induction l with
  | nil => rfl
  | cons x r ih =>
    simp only [List.map_cons, List.flatten_cons] at *
    rw [ih]; rfl
theorem rtx_mem (p : Nat → Bool) {k : Nat} (hk : k < 9) : code k ∈ (rtx p).cps.toList ↔ p k = true := by
  rw [rtx_codes, List.mem_map]
  constructor
  · rintro ⟨j, hj, e⟩
    obtain ⟨h1, h2⟩ := List.mem_filter.mp hj
    have : j = k := code_inj j (List.mem_range.mp h1) k hk e
    subst this; exact h2
  · intro h
    exact ⟨k, List.mem_filter.mpr ⟨List.mem_range.mpr hk, h⟩, rfl⟩
theorem rcs_succ (p : Nat → Bool) (i : Nat) : rcs p (i + 1) = rcs p i ++ (if p i = true then [one (code i)] else []) := by
  unfold rcs
  rw [List.range_succ, List.filter_append, List.map_append]
  congr 1
  by_cases h : p i = true
  · simp [h]
  · simp [h]
theorem rcs_len (p : Nat → Bool) (i : Nat) : (rcs p i).length ≤ i := by
  unfold rcs
  rw [List.length_map]
  exact Nat.le_trans (List.length_filter_le _ _) (by rw [List.length_range]; exact Nat.le_refl _)
theorem rcs_one (p : Nat → Bool) (i : Nat) : ((rcs p i).map (·.length)).sum = (rcs p i).length := by
  unfold rcs
  generalize (List.range i).filter p = l
  induction l with
  | nil => rfl
  | cons x r ih =>
    simp only [List.map_cons, List.sum_cons, List.length_cons] at *
    rw [ih]
    show 1 + _ = _
    omega
theorem rcs_fit (p : Nat → Bool) : ((rcs p 9).map (·.length)).sum + (rcs p 9).length * (Str.ofString "").length ≤ 16777216 := by
  have e : (Str.ofString "").length = 0 := by decide +kernel
  rw [e, rcs_one]
  have := rcs_len p 9
  omega
theorem szn {n : Nat} (h : n < 1000) : n < sizeLine := small1000 (Nat.le_of_lt h)
/-- the right k is in a text -/
def hasR (r : Str) (k : Nat) : Bool := decide (code k ∈ r.cps.toList)
def hasG (r g : Str) : Bool := g.cps.toList.any fun c => decide (c ∈ r.cps.toList)
def G0 : Str := Str.ofString "rwlsn"
def G1 : Str := Str.ofString "x"
def G2 : Str := Str.ofString "co"
def OneW (r : Str) : Prop := ([G0, G1, G2].filter (hasG r)).length ≤ 1
def mask (p : Nat → Bool) (i : Nat) : List Int := ((List.range i).filter p).map fun k => (2 : Int) ^ k
def maskOf (r : Str) : Int := (mask (hasR r) 9).sum
theorem mask_succ (p : Nat → Bool) (i : Nat) : mask p (i + 1) = mask p i ++ (if p i = true then [(2 : Int) ^ i] else []) := by
  unfold mask
  rw [List.range_succ, List.filter_append, List.map_append]
  congr 1
  by_cases h : p i = true
  · simp [h]
  · simp [h]
theorem mask_len (p : Nat → Bool) (i : Nat) : (mask p i).length ≤ i := by
  unfold mask
  rw [List.length_map]
  exact Nat.le_trans (List.length_filter_le _ _) (by rw [List.length_range]; exact Nat.le_refl _)
theorem i0 (i : Nat) : (0 : Int) + (i : Int) = (i : Int) := by omega
theorem take_any {g r : Str} {i : Nat} (hi : i < g.cps.size) : (g.cps.toList.take (i + 1)).map (fun c => decide (c ∈ r.cps.toList)) = (g.cps.toList.take i).map (fun c => decide (c ∈ r.cps.toList)) ++ [decide (g.cps[i] ∈ r.cps.toList)] := by
  rw [List.take_add_one, List.map_append]
  congr 1
  simp [hi]
theorem wipe_in {σ : L2.St} {i : Nat} : ∀ {vs : List Nat}, i ∈ vs → (wipe σ vs)[i]? = if i < σ.length then some none else none
  | [], h => by cases h
  | a :: vs, h => by
    show ((wipe σ vs).set a none)[i]? = _
    by_cases e : a = i
    · subst e
      rw [List.getElem?_set_self']
      by_cases l : a < σ.length
      · rw [if_pos l, List.getElem?_eq_getElem (by rw [wipe_length]; exact l)]; rfl
      · rw [if_neg l, List.getElem?_eq_none (by rw [wipe_length]; omega)]; rfl
    · rw [List.getElem?_set_ne e]
      exact wipe_in (by rcases List.mem_cons.mp h with q | q; exact absurd q.symm e; exact q)
theorem wipe_set {σ : L2.St} {vs : List Nat} {j : Nat} {v : Option V} (h : j ∈ vs) : wipe (σ.set j v) vs = wipe σ vs := by
  refine List.ext_getElem? fun i => ?_
  by_cases c : i ∈ vs
  · rw [wipe_in c, wipe_in c, List.length_set]
  · have n : j ≠ i := fun e => c (e ▸ h)
    rw [wipe_out c, wipe_out c, List.getElem?_set_ne n]
theorem wipe_wipe {σ : L2.St} {vs : List Nat} : wipe (wipe σ vs) vs = wipe σ vs := by
  refine List.ext_getElem? fun i => ?_
  by_cases c : i ∈ vs
  · rw [wipe_in c, wipe_in c, wipe_length]
  · rw [wipe_out c]
theorem wp1 {σ : L2.St} {vs : List Nat} {j : Nat} {v : Option V} (h : j ∈ vs) : wipe ((wipe σ vs).set j v) vs = wipe σ vs := by rw [wipe_set h, wipe_wipe]
theorem wp2 {σ : L2.St} {vs : List Nat} {j k : Nat} {v u : Option V} (h : j ∈ vs) (h2 : k ∈ vs) : wipe (((wipe σ vs).set j v).set k u) vs = wipe σ vs := by rw [wipe_set h2, wipe_set h, wipe_wipe]
def bitp (m : Int) : Nat → Bool := fun k => decide (m / 2 ^ k % 2 = 1)
/-- what bits tell -/
def fAt (b : Int) : Int := b / 2 ^ 0 % 2 ^ 12
def fFirst (b : Int) : Int := b / 2 ^ 12 % 2 ^ 12
def fCnt (b : Int) : Int := b / 2 ^ 24 % 2 ^ 4 + 1
def fStep (b : Int) : Int := b / 2 ^ 28 % 2 ^ 4
def fRts (b : Int) : Int := b / 2 ^ 32 % 2 ^ 9
def fKind (b : Int) : Int := b / 2 ^ 41 % 2 ^ 4
def Tells (b : Int) : Prop := fStep b ≤ 8 ∧ (fStep b = 0 ∨ 9 ≤ fCnt b) ∧ (fFirst b + fCnt b) * 2 ^ (fStep b).toNat ≤ 4096
theorem fb (b : Int) : 0 ≤ fStep b ∧ fStep b ≤ 15 ∧ 1 ≤ fCnt b ∧ fCnt b ≤ 16 ∧ 0 ≤ fFirst b ∧ fFirst b ≤ 4095 := by
  unfold fStep fCnt fFirst; omega
theorem cpw {z s : Int} (h0 : 0 ≤ z) (h1 : z ≤ 10000000000000) (h2 : 0 ≤ s) (h3 : s ≤ 1000) : CPow z s := ⟨h2, by omega, by omega⟩
/-- the fields of a lawful marked word -/
def F5 (xs : List V) : Prop := ∃ (lo hi at' : Int) (r : Str) (kd : Int), xs = [.int lo, .int hi, .int at', .str r, .int kd] ∧ Bd lo hi ∧ (∃ s, Ex lo hi s) ∧ 0 ≤ at' ∧ at' ≤ 4095 ∧ 0 ≤ kd ∧ kd ≤ 15 ∧ r = rtx (hasR r) ∧ OneW r
def wl (a b c d e f : Int) : List Int := [a * 2 ^ 0, b * 2 ^ 12, c * 2 ^ 24, d * 2 ^ 28, e * 2 ^ 32, f * 2 ^ 41]
def wbits (lo hi at' mr kd : Int) (s : Nat) : Int := (wl at' (lo / 2 ^ s) (Dd lo hi s + 1 - 1) s mr kd).sum
def BW (z : Int) : Prop := 0 ≤ z ∧ z ≤ 10000000000000
theorem six_at {K : PySem.W.Frag} {pA pF pC pS pR pK : Addr} {a b c d e f : Int} {i : Nat} {x1 y1 : V} (hi : i < 6) (hx : [V.ref pA, .ref pF, .ref pC, .ref pS, .ref pR, .ref pK][i]? = some x1) (hy : [V.int a, .int b, .int c, .int d, .int e, .int f][i]? = some y1)
    (sA : ∀ H, SqT K H pA [.int 0, .int 12]) (sF : ∀ H, SqT K H pF [.int 12, .int 12]) (sC : ∀ H, SqT K H pC [.int 24, .int 4]) (sS : ∀ H, SqT K H pS [.int 28, .int 4]) (sR : ∀ H, SqT K H pR [.int 32, .int 9]) (sK : ∀ H, SqT K H pK [.int 41, .int 4])
    (ba : BW a) (bb : BW b) (bc : BW c) (bd : BW d) (be : BW e) (bf : BW f) :
    ∃ (p : Addr) (lo mn : Nat) (z : Int), x1 = .ref p ∧ (∀ H, SqT K H p [.int lo, .int mn]) ∧ lo ≤ 100 ∧ y1 = .int z ∧ BW z ∧ (wl a b c d e f).take (i + 1) = (wl a b c d e f).take i ++ [z * 2 ^ lo] := by
  have six : i = 0 ∨ i = 1 ∨ i = 2 ∨ i = 3 ∨ i = 4 ∨ i = 5 := by omega
  rcases six with h | h | h | h | h | h <;> subst h
  · exact ⟨pA, 0, 12, a, (Option.some.inj hx).symm, sA, by decide, (Option.some.inj hy).symm, ba, rfl⟩
  · exact ⟨pF, 12, 12, b, (Option.some.inj hx).symm, sF, by decide, (Option.some.inj hy).symm, bb, rfl⟩
  · exact ⟨pC, 24, 4, c, (Option.some.inj hx).symm, sC, by decide, (Option.some.inj hy).symm, bc, rfl⟩
  · exact ⟨pS, 28, 4, d, (Option.some.inj hx).symm, sS, by decide, (Option.some.inj hy).symm, bd, rfl⟩
  · exact ⟨pR, 32, 9, e, (Option.some.inj hx).symm, sR, by decide, (Option.some.inj hy).symm, be, rfl⟩
  · exact ⟨pK, 41, 4, f, (Option.some.inj hx).symm, sK, by decide, (Option.some.inj hy).symm, bf, rfl⟩
theorem mask_b (p : Nat → Bool) : ∀ i, i ≤ 9 → 0 ≤ (mask p i).sum ∧ (mask p i).sum < 2 ^ i
  | 0, _ => by unfold mask; simp
  | i + 1, h => by
    have ih := mask_b p i (by omega)
    rw [mask_succ, List.sum_append]
    have e : (2 : Int) ^ (i + 1) = 2 * 2 ^ i := by rw [Int.pow_succ]; omega
    rw [e]
    by_cases c : p i = true
    · simp only [if_pos c, List.sum_cons, List.sum_nil]; omega
    · simp only [if_neg c, List.sum_nil]; omega
theorem maskOf_b (r : Str) : 0 ≤ maskOf r ∧ maskOf r < 512 := by
  have := mask_b (hasR r) 9 (Nat.le_refl _)
  unfold maskOf; omega
instance (b : Int) : Decidable (Tells b) := by unfold Tells; infer_instance

/-! ### bits and fields there and back -/
theorem wb_eq (lo hi at' mr kd : Int) (s : Nat) : wbits lo hi at' mr kd s = at' + lo / 2 ^ s * 4096 + Dd lo hi s * 16777216 + (s : Int) * 268435456 + mr * 4294967296 + kd * 2199023255552 := by
  unfold wbits wl
  simp only [List.sum_cons, List.sum_nil]
  omega
theorem bits6 {a F D s m k : Int} (a0 : 0 ≤ a) (a1 : a ≤ 4095) (F0 : 0 ≤ F) (F1 : F ≤ 4095) (D0 : 0 ≤ D) (D1 : D ≤ 15) (s0 : 0 ≤ s) (s1 : s ≤ 8) (m0 : 0 ≤ m) (m1 : m < 512) (k0 : 0 ≤ k) (k1 : k ≤ 15) :
    fStep (a + F * 4096 + D * 16777216 + s * 268435456 + m * 4294967296 + k * 2199023255552) = s ∧ fFirst (a + F * 4096 + D * 16777216 + s * 268435456 + m * 4294967296 + k * 2199023255552) = F ∧ fCnt (a + F * 4096 + D * 16777216 + s * 268435456 + m * 4294967296 + k * 2199023255552) = D + 1 ∧
    fAt (a + F * 4096 + D * 16777216 + s * 268435456 + m * 4294967296 + k * 2199023255552) = a ∧ fRts (a + F * 4096 + D * 16777216 + s * 268435456 + m * 4294967296 + k * 2199023255552) = m ∧ fKind (a + F * 4096 + D * 16777216 + s * 268435456 + m * 4294967296 + k * 2199023255552) = k := by
  unfold fStep fFirst fCnt fAt fRts fKind
  rw [show (2 : Int) ^ 0 = 1 by decide, show (2 : Int) ^ 4 = 16 by decide, show (2 : Int) ^ 9 = 512 by decide, show (2 : Int) ^ 12 = 4096 by decide, show (2 : Int) ^ 24 = 16777216 by decide, show (2 : Int) ^ 28 = 268435456 by decide, show (2 : Int) ^ 32 = 4294967296 by decide, show (2 : Int) ^ 41 = 2199023255552 by decide]
  generalize hb : a + F * 4096 + D * 16777216 + s * 268435456 + m * 4294967296 + k * 2199023255552 = b
  have q1 : b / 4096 = F + 4096 * (D + 16 * (s + 16 * (m + 512 * k))) := by omega
  have q2 : b / 16777216 = D + 16 * (s + 16 * (m + 512 * k)) := by omega
  have q3 : b / 268435456 = s + 16 * (m + 512 * k) := by omega
  have q4 : b / 4294967296 = m + 512 * k := by omega
  have q5 : b / 2199023255552 = k := by omega
  rw [q1, q2, q3, q4, q5]
  refine ⟨?_, ?_, ?_, ?_, ?_, ?_⟩ <;> omega
theorem wb_dec {lo hi at' mr kd : Int} {s : Nat} (b : Bd lo hi) (e : Ex lo hi s) (a0 : 0 ≤ at') (a1 : at' ≤ 4095) (m0 : 0 ≤ mr) (m1 : mr < 512) (k0 : 0 ≤ kd) (k1 : kd ≤ 15) :
    0 ≤ wbits lo hi at' mr kd s ∧ Tells (wbits lo hi at' mr kd s) ∧ fFirst (wbits lo hi at' mr kd s) * 2 ^ (fStep (wbits lo hi at' mr kd s)).toNat = lo ∧ (fFirst (wbits lo hi at' mr kd s) + fCnt (wbits lo hi at' mr kd s)) * 2 ^ (fStep (wbits lo hi at' mr kd s)).toNat = hi ∧
    fAt (wbits lo hi at' mr kd s) = at' ∧ fRts (wbits lo hi at' mr kd s) = mr ∧ fKind (wbits lo hi at' mr kd s) = kd := by
  obtain ⟨⟨s8, e1, e2⟩, e3, e4⟩ := e
  obtain ⟨b1, b2, b3⟩ := b
  have dl := div_le' (s := s) b1
  have d0 : 0 ≤ Dd lo hi s := by
    unfold Dd
    have := Int.ediv_le_ediv (pow_pos2 s) (show lo ≤ hi - 1 by omega)
    omega
  have fo := first_over lo hi s
  have h9 : s = 0 ∨ 9 ≤ Dd lo hi s + 1 := by
    rcases Nat.eq_zero_or_pos s with c | c
    · exact .inl c
    · right
      have := e2 (s - 1) (by omega)
      clear e2 fo
      unfold Dd at *
      rcases le8 s8 with e | e | e | e | e | e | e | e | e <;> subst e <;> first | omega | (simp at *; omega)
  have ed : Dd lo hi s + 1 = (hi - 1) / 2 ^ s + 1 - lo / 2 ^ s := by omega
  rw [wb_eq]
  have eF : lo / 2 ^ s ≤ 4095 := by omega
  generalize hF : lo / 2 ^ s = F at *
  generalize hD : Dd lo hi s = D at *
  have s0 : (0 : Int) ≤ (s : Int) ∧ (s : Int) ≤ 8 := by omega
  have F0 : 0 ≤ F := dl.1
  obtain ⟨x1, x2, x3, x4, x5, x6⟩ := bits6 (a := at') (F := F) (D := D) (s := (s : Int)) (m := mr) (k := kd) a0 a1 F0 eF d0 e1 s0.1 s0.2 m0 m1 k0 k1
  have e5 : (F + (D + 1)) * 2 ^ s = hi := by rw [fo]; exact e4
  refine ⟨by omega, ⟨?_, ?_, ?_⟩, ?_, ?_, x4, x5, x6⟩
  · rw [x1]; omega
  · rw [x1, x3]; omega
  · rw [x1, x2, x3]
    show (F + (D + 1)) * 2 ^ s ≤ 4096
    rw [e5]; exact b3
  · rw [x1, x2]; exact e3
  · rw [x1, x2, x3]; exact e5
theorem R_ok : Str.ofString "r" = rtx (hasR (Str.ofString "r")) := by decide +kernel
theorem R_one : OneW (Str.ofString "r") := by unfold OneW; decide +kernel
theorem R_rtx : rtx (bitp (maskOf (Str.ofString "r"))) = Str.ofString "r" := by decide +kernel
theorem dp5 {K : PySem.W.Frag} {H : Hp} {p : Addr} {a b c d : Int} {r : Str} (h : H p = some (.tup [.int a, .int b, .int c, .str r, .int d])) : Dp K H (.ref p) (.tuple [.int a, .int b, .int c, .str r, .int d]) :=
  .tup (.of h) (.cons (.int a) (.cons (.int b) (.cons (.int c) (.cons (.str r) (.cons (.int d) .nil)))))
theorem d5_sh (a b c d : Int) (r : Str) (h : PyData.canLay0 (.str r) = true) : SeqAt.shaped (.tuple [.int a, .int b, .int c, .str r, .int d]) = true := by
  have e : PyData.canLay0 (.tuple [.int a, .int b, .int c, .str r, .int d]) = true := by
    simp only [PyData.canLay0, PyData.canLayAll0, Bool.true_and, Bool.and_true] at *
    exact h
  unfold SeqAt.shaped
  rw [e]
  simp [PyData.depth, PyData.depthAll]
theorem d5_refl (a b c d : Int) (r : Str) : PyData.eqv (.tuple [.int a, .int b, .int c, .str r, .int d]) (.tuple [.int a, .int b, .int c, .str r, .int d]) = true := by
  simp [PyData.eqv, PyData.eqvAll]

theorem mt_lcountB {X : Cx} : MtR X "list.count" (fun x xs H Q => ∃ (p : Addr) (bs : List Bool), x = .ref p ∧ xs = [.bl true] ∧ SqL X.K H p (bs.map V.bl) ∧ Q (.int ((bs.filter id).length : Nat)) H) := by
  intro pins s σ H x xs v us Q I rx rxs h
  obtain ⟨p, bs, rfl, rfl, hs, q⟩ := h
  cases rx
  obtain ⟨u, rfl, ru⟩ := rxs.one
  obtain rfl : u = Value.bool true := ru
  obtain ⟨its, rv, ⟨⟨cls, dd, data, sl⟩, n, ho, hc, hdn, hd⟩, hlen⟩ := I.list hs
  simp only at hc hd
  subst hc hd
  have hb := Vals.bls rv
  subst hb
  refine call_meets PySem.F.slot_list_count ⟨_, ho, rfl⟩ PySem.F.entry_list_count (PySem.F.args_list_count_2 _ _)
    (SeqAt.list_countAt p (bs.map Value.bool).toArray n dd sl (.bool true) (eqU (.bl true))) ⟨ho, fun y hy => mem_eqAt (x := .bl true) rfl rfl rv (by simp [flatV]) y (by simpa using hy), ?_⟩
  have ec : (bs.map Value.bool).toArray.toList.countP (eqU (.bl true)) = (bs.filter id).length := by
    show (bs.map Value.bool).countP (eqU (.bl true)) = _
    rw [List.countP_map, List.countP_eq_length_filter]
    congr 1
    refine List.filter_congr fun b _ => ?_
    cases b <;> rfl
  refine ⟨.int ((bs.filter id).length : Nat), H, I.tok _, ⟨s.toks, ?_⟩, q⟩
  show Value.int (((bs.map Value.bool).toArray.toList.countP (eqU (.bl true)) : Nat) : Int) s.toks = _
  rw [ec]
/-- bits that a marked word may have -/
def Law (b : Int) : Prop := Tells b ∧ OneW (rtx (bitp (fRts b)))
def W45 (b : Int) : Prop := 0 ≤ b ∧ b < 35184372088832

theorem bit_lift (b : Int) {i : Nat} (h : i < 9) : b / 2 ^ (32 + i) % 2 = fRts b / 2 ^ i % 2 := by
  unfold fRts
  rw [show (2 : Int) ^ 32 = 4294967296 by decide, show (2 : Int) ^ 9 = 512 by decide]
  rcases le8 (show i ≤ 8 by omega) with e | e | e | e | e | e | e | e | e <;> subst e
  · rw [show (2 : Int) ^ (32 + 0) = 4294967296 by decide, show (2 : Int) ^ 0 = 1 by decide]; omega
  · rw [show (2 : Int) ^ (32 + 1) = 8589934592 by decide, show (2 : Int) ^ 1 = 2 by decide]; omega
  · rw [show (2 : Int) ^ (32 + 2) = 17179869184 by decide, show (2 : Int) ^ 2 = 4 by decide]; omega
  · rw [show (2 : Int) ^ (32 + 3) = 34359738368 by decide, show (2 : Int) ^ 3 = 8 by decide]; omega
  · rw [show (2 : Int) ^ (32 + 4) = 68719476736 by decide, show (2 : Int) ^ 4 = 16 by decide]; omega
  · rw [show (2 : Int) ^ (32 + 5) = 137438953472 by decide, show (2 : Int) ^ 5 = 32 by decide]; omega
  · rw [show (2 : Int) ^ (32 + 6) = 274877906944 by decide, show (2 : Int) ^ 6 = 64 by decide]; omega
  · rw [show (2 : Int) ^ (32 + 7) = 549755813888 by decide, show (2 : Int) ^ 7 = 128 by decide]; omega
  · rw [show (2 : Int) ^ (32 + 8) = 1099511627776 by decide, show (2 : Int) ^ 8 = 256 by decide]; omega

theorem rtx_len (p : Nat → Bool) : (rtx p).cps.size ≤ 9 := by
  have e : (rtx p).cps.size = (rtx p).cps.toList.length := by simp
  rw [e, rtx_codes, List.length_map]
  exact Nat.le_trans (List.length_filter_le _ _) (by decide)
theorem code_ok : ∀ k, k < 9 → PyData.canLay0 (.str (one (code k))) = true := by decide +kernel
theorem rtx_ok (p : Nat → Bool) {c : Nat} (h : c ∈ (rtx p).cps.toList) : PyData.canLay0 (.str (one c)) = true := by
  rw [rtx_codes] at h
  obtain ⟨k, hk, rfl⟩ := List.mem_map.mp h
  exact code_ok k (List.mem_range.mp (List.mem_filter.mp hk).1)
theorem strs_lay : ∀ {l : List Nat}, (∀ c ∈ l, PyData.canLay0 (.str (one c)) = true) → PyData.canLayAll0 (l.map fun c => .str (one c)) = true
  | [], _ => by simp [PyData.canLayAll0]
  | c :: l, h => by
    have ih := strs_lay (l := l) fun x hx => h x (List.mem_cons_of_mem _ hx)
    simp only [List.map_cons, PyData.canLayAll0, ih, h c (List.mem_cons_self ..), Bool.and_self]
theorem strs_depth : ∀ l : List Nat, PyData.depthAll (l.map fun c => .str (one c)) = 0
  | [] => by simp [PyData.depthAll]
  | c :: l => by simp only [List.map_cons, PyData.depthAll, PyData.depth, strs_depth l]; rfl
theorem strs_shape {l : List Nat} (h : ∀ c ∈ l, PyData.canLay0 (.str (one c)) = true) : SeqAt.shaped (.list (l.map fun c => .str (one c))) = true := by
  have e : PyData.canLay0 (.list (l.map fun c => .str (one c))) = true := by
    simp only [PyData.canLay0]; exact strs_lay h
  unfold SeqAt.shaped
  rw [e]
  simp only [PyData.depth, strs_depth]; rfl
theorem dp_strs {K : PySem.W.Frag} {H : Hp} : ∀ l : List Nat, DpAll K H (l.map fun c => V.str (one c)) (l.map fun c => .str (one c))
  | [] => .nil
  | c :: l => .cons (.str (one c)) (dp_strs l)
theorem strs_eqv (l : List Nat) : PyData.eqv (.list (l.map fun c => .str (one c))) (.list []) = l.isEmpty := by
  cases l with
  | nil => rfl
  | cons c l => simp [PyData.eqv, PyData.eqvAll]
theorem hasG_iff (r g : Str) : (!(r.cps.toList.filter fun c => decide (c ∈ g.cps.toList)).isEmpty) = hasG r g := by
  unfold hasG
  rw [Bool.eq_iff_iff, List.any_eq_true]
  constructor
  · intro h
    cases e : r.cps.toList.filter fun c => decide (c ∈ g.cps.toList) with
    | nil => rw [e] at h; cases h
    | cons c l =>
      have m : c ∈ r.cps.toList.filter fun c => decide (c ∈ g.cps.toList) := by rw [e]; exact List.mem_cons_self ..
      obtain ⟨m1, m2⟩ := List.mem_filter.mp m
      exact ⟨c, of_decide_eq_true m2, decide_eq_true m1⟩
  · rintro ⟨c, m1, m2⟩
    have m : c ∈ r.cps.toList.filter fun c => decide (c ∈ g.cps.toList) := List.mem_filter.mpr ⟨of_decide_eq_true m2, decide_eq_true m1⟩
    cases e : r.cps.toList.filter fun c => decide (c ∈ g.cps.toList) with
    | nil => rw [e] at m; cases m
    | cons c l => rfl

/-! ### words and their fields there and back -/
theorem tw_eqv {m n : Bool} {a b : Int} : PyData.eqv (.tuple [.bool m, .int a]) (.tuple [.bool n, .int b]) = true ↔ m = n ∧ a = b := by
  simp [PyData.eqv, PyData.eqvAll]
theorem tw_no {m : Bool} {a b : Int} (e : PyData.eqv (.tuple [.bool m, .int a]) (.tuple [.bool m, .int b]) = false) (h : a = b) : False := by
  rw [tw_eqv.mpr ⟨rfl, h⟩] at e; cases e
theorem dpw {K : PySem.W.Frag} {H : Hp} {p : Addr} {m : Bool} {a : Int} (h : H p = some (.tup [.bl m, .int a])) : Dp K H (.ref p) (.tuple [.bool m, .int a]) :=
  .tup (.of h) (.cons (.bl m) (.cons (.int a) .nil))
theorem d5_eqv {a b c d a' b' c' d' : Int} {r r' : Str} : PyData.eqv (.tuple [.int a, .int b, .int c, .str r, .int d]) (.tuple [.int a', .int b', .int c', .str r', .int d']) = true ↔ a = a' ∧ b = b' ∧ c = c' ∧ r = r' ∧ d = d' := by
  simp [PyData.eqv, PyData.eqvAll]
theorem d5_no {a b c d : Int} {r : Str} (e : PyData.eqv (.tuple [.int a, .int b, .int c, .str r, .int d]) (.tuple [.int a, .int b, .int c, .str r, .int d]) = false) : False := by
  rw [d5_refl] at e; cases e
theorem rtx_congr {p q : Nat → Bool} (h : ∀ k, k < 9 → p k = q k) : rtx p = rtx q := by
  unfold rtx rcs
  rw [List.filter_congr fun k hk => h k (List.mem_range.mp hk)]
theorem hasR_rtx (p : Nat → Bool) {k : Nat} (h : k < 9) : hasR (rtx p) k = p k := by
  unfold hasR
  rw [Bool.eq_iff_iff, decide_eq_true_iff]
  exact rtx_mem p h
theorem rtx_self (p : Nat → Bool) : rtx p = rtx (hasR (rtx p)) := rtx_congr fun k h => (hasR_rtx p h).symm
theorem mask_congr {p q : Nat → Bool} (h : ∀ k, k < 9 → p k = q k) : mask p 9 = mask q 9 := by
  unfold mask
  rw [List.filter_congr fun k hk => h k (List.mem_range.mp hk)]
theorem maskOf_rtx (p : Nat → Bool) : maskOf (rtx p) = (mask p 9).sum := by
  unfold maskOf
  rw [mask_congr fun k h => hasR_rtx p h]
theorem mask512 : ∀ m : Fin 512, (mask (bitp (m.val : Int)) 9).sum = (m.val : Int) := by decide +kernel
theorem mask_bitp {m : Int} (h0 : 0 ≤ m) (h1 : m < 512) : (mask (bitp m) 9).sum = m := by
  have h := mask512 ⟨m.toNat, by omega⟩
  have e : ((m.toNat : Nat) : Int) = m := by omega
  rw [e] at h
  exact h
theorem rtx_can (p : Nat → Bool) : PyData.canLay0 (.str (rtx p)) = true := by
  simp only [PyData.canLay0, PyData.strOk]
  rw [Array.all_eq_true_iff_forall_mem]
  intro c hc
  have h := rtx_ok p (c := c) (by simpa using hc)
  simp only [PyData.canLay0, PyData.strOk] at h
  simpa [one] using h
structure WF (b lo hi at' : Int) (p : Nat → Bool) (kd : Int) (s : Nat) : Prop where
  bd : Bd lo hi
  ex : Ex lo hi s
  a0 : 0 ≤ at'
  a1 : at' ≤ 4095
  k0 : 0 ≤ kd
  k1 : kd ≤ 15
  ow : OneW (rtx p)
  wb : wbits lo hi at' (maskOf (rtx p)) kd s = b
theorem WF.f5 {b lo hi at' kd : Int} {p : Nat → Bool} {s : Nat} (W : WF b lo hi at' p kd s) : F5 [.int lo, .int hi, .int at', .str (rtx p), .int kd] :=
  ⟨lo, hi, at', _, kd, rfl, W.bd, ⟨s, W.ex⟩, W.a0, W.a1, W.k0, W.k1, rtx_self p, W.ow⟩
theorem wf_of {b : Int} (w : W45 b) (L : Law b) : ∃ (lo hi at' : Int) (p : Nat → Bool) (kd : Int) (s : Nat), [V.int (fFirst b * 2 ^ (fStep b).toNat), .int ((fFirst b + fCnt b) * 2 ^ (fStep b).toNat), .int (fAt b), .str (rtx (bitp (fRts b))), .int (fKind b)] = [.int lo, .int hi, .int at', .str (rtx p), .int kd] ∧ WF b lo hi at' p kd s := by
  obtain ⟨⟨t1, t2, t3⟩, ow⟩ := L
  obtain ⟨w0, w1⟩ := w
  have f := fb b
  have r0 : 0 ≤ fRts b := Int.emod_nonneg _ (by decide)
  have r1 : fRts b < 512 := Int.emod_lt_of_pos _ (by decide)
  have a0 : 0 ≤ fAt b := Int.emod_nonneg _ (by decide)
  have a1 : fAt b < 4096 := Int.emod_lt_of_pos _ (by decide)
  have k0 : 0 ≤ fKind b := Int.emod_nonneg _ (by decide)
  have k1 : fKind b < 16 := Int.emod_lt_of_pos _ (by decide)
  have sum : b = fAt b + fFirst b * 4096 + (fCnt b - 1) * 16777216 + fStep b * 268435456 + fRts b * 4294967296 + fKind b * 2199023255552 := by
    clear t1 t2 t3 ow f r0 r1 a0 a1 k0 k1
    unfold fAt fFirst fCnt fStep fRts fKind
    rw [show (2 : Int) ^ 0 = 1 by decide, show (2 : Int) ^ 4 = 16 by decide, show (2 : Int) ^ 9 = 512 by decide, show (2 : Int) ^ 12 = 4096 by decide, show (2 : Int) ^ 24 = 16777216 by decide, show (2 : Int) ^ 28 = 268435456 by decide, show (2 : Int) ^ 32 = 4294967296 by decide, show (2 : Int) ^ 41 = 2199023255552 by decide]
    omega
  obtain ⟨s, es⟩ : ∃ s : Nat, fStep b = (s : Int) := ⟨(fStep b).toNat, by omega⟩
  rw [es] at t1 t2 t3 sum ⊢
  have e1 : ((s : Int)).toNat = s := rfl
  rw [e1] at t3 ⊢
  generalize fFirst b = F at *
  generalize fCnt b = C at *
  have s8 : s ≤ 8 := by omega
  have core : Bd (F * 2 ^ s) ((F + C) * 2 ^ s) ∧ Ex (F * 2 ^ s) ((F + C) * 2 ^ s) s ∧ F * 2 ^ s / 2 ^ s = F ∧ Dd (F * 2 ^ s) ((F + C) * 2 ^ s) s + 1 = C := by
    have c9 : s = 0 ∨ 9 ≤ C := by omega
    clear sum es t2
    unfold Ex StepIs Dd Bd
    refine ⟨?_, ⟨⟨s8, ?_, fun t ht => ?_⟩, ?_, ?_⟩, ?_, ?_⟩
    · rcases le8 s8 with e | e | e | e | e | e | e | e | e <;> subst e <;> omega
    · rcases le8 s8 with e | e | e | e | e | e | e | e | e <;> subst e <;> omega
    · have t8 : t ≤ 8 := by omega
      rcases le8 s8 with e | e | e | e | e | e | e | e | e <;> subst e <;> rcases le8 t8 with e | e | e | e | e | e | e | e | e <;> subst e <;> first | omega | (simp at *; omega)
    all_goals (rcases le8 s8 with e | e | e | e | e | e | e | e | e <;> subst e <;> omega)
  refine ⟨_, _, _, bitp (fRts b), _, s, rfl, ⟨core.1, core.2.1, a0, by omega, k0, by omega, ow, ?_⟩⟩
  rw [wb_eq, core.2.2.1, maskOf_rtx, mask_bitp r0 r1]
  have := core.2.2.2
  omega
/-- one right less -/
def lessp (p : Nat → Bool) (i : Nat) : Nat → Bool := fun k => p k && decide (k ≠ i)
theorem less_mask (p : Nat → Bool) (i : Nat) (hp : p i = true) : ∀ n, (mask p n).sum = (mask (lessp p i) n).sum + (if i < n then (2 : Int) ^ i else 0)
  | 0 => by unfold mask; simp
  | n + 1 => by
    have ih := less_mask p i hp n
    rw [mask_succ, mask_succ, List.sum_append, List.sum_append, ih]
    unfold lessp
    rcases Nat.lt_trichotomy i n with c | c | c
    · have h1 : decide (n ≠ i) = true := decide_eq_true (by omega)
      rw [h1, Bool.and_true, if_pos c, if_pos (show i < n + 1 by omega)]
      omega
    · subst c
      have h1 : decide (i ≠ i) = false := decide_eq_false (by simp)
      rw [h1, Bool.and_false, if_pos hp, if_neg (Nat.lt_irrefl i), if_neg Bool.false_ne_true, if_pos (Nat.lt_succ_self i)]
      simp
    · have h1 : decide (n ≠ i) = true := decide_eq_true (by omega)
      rw [h1, Bool.and_true, if_neg (show ¬ i < n by omega), if_neg (show ¬ i < n + 1 by omega)]
      omega
theorem less_codes (p : Nat → Bool) {i : Nat} (hi : i < 9) : (((rtx p).cps.toList.filter fun c => !decide (V.str (one c) = V.str (one (code i)))).map one) = rcs (lessp p i) 9 := by
  rw [rtx_codes]
  unfold rcs lessp
  rw [List.filter_map, List.map_map, ← List.filter_filter]
  congr 1
  rw [List.filter_filter, List.filter_filter]
  refine List.filter_congr fun k hk => ?_
  have hk9 := List.mem_range.mp hk
  have e : decide (V.str (one (code k)) = V.str (one (code i))) = decide (k = i) := by
    rw [decide_eq_decide]
    constructor
    · intro h
      have h2 := V.str.inj h
      have h3 : code k = code i := by
        have h4 := congrArg (fun x : Str => x.cps.toList) h2
        simpa [one] using h4
      exact code_inj k hk9 i hi h3
    · intro h; rw [h]
  simp only [Function.comp]
  rw [e]
  by_cases c : k = i
  · simp [c]
  · simp [c]
theorem less_one {p : Nat → Bool} {i : Nat} (h : OneW (rtx p)) : OneW (rtx (lessp p i)) := by
  unfold OneW at *
  refine Nat.le_trans ?_ h
  have key : ∀ l : List Str, (l.filter (hasG (rtx (lessp p i)))).length ≤ (l.filter (hasG (rtx p))).length := by
    intro l
    induction l with
    | nil => exact Nat.le_refl _
    | cons g l ih =>
      have mono : hasG (rtx (lessp p i)) g = true → hasG (rtx p) g = true := by
        unfold hasG
        rw [List.any_eq_true, List.any_eq_true]
        rintro ⟨c, c1, c2⟩
        refine ⟨c, c1, decide_eq_true ?_⟩
        have c3 := of_decide_eq_true c2
        rw [rtx_codes] at c3 ⊢
        obtain ⟨k, k1, k2⟩ := List.mem_map.mp c3
        obtain ⟨k3, k4⟩ := List.mem_filter.mp k1
        refine List.mem_map.mpr ⟨k, List.mem_filter.mpr ⟨k3, ?_⟩, k2⟩
        unfold lessp at k4
        exact (Bool.and_eq_true_iff.mp k4).1
      rw [List.filter_cons, List.filter_cons]
      by_cases c : hasG (rtx (lessp p i)) g = true
      · rw [if_pos c, if_pos (mono c)]
        simp only [List.length_cons]
        omega
      · rw [if_neg c]
        split
        · simp only [List.length_cons]; omega
        · exact ih
  exact key _
theorem least_in {lo hi il ih : Int} {t s : Nat} (b : Bd lo hi) (e : Ex lo hi t) (h1 : lo ≤ il) (h2 : il < ih) (h3 : ih ≤ hi) (g : StepIs il ih s) : lo ≤ il / 2 ^ s * 2 ^ s ∧ ((ih - 1) / 2 ^ s + 1) * 2 ^ s ≤ hi := by
  obtain ⟨⟨t8, e1, e2⟩, e3, e4⟩ := e
  obtain ⟨b1, b2, b3⟩ := b
  have st : s ≤ t := by
    rcases Nat.lt_or_ge t s with c | c
    · have := g.2.2 t c
      exfalso
      clear e2 g
      unfold Dd at *
      rcases le8 t8 with e | e | e | e | e | e | e | e | e <;> subst e <;> omega
    · exact c
  have s8 := g.1
  clear e2 g
  unfold Dd at *
  rcases le8 t8 with e | e | e | e | e | e | e | e | e <;> subst e <;> rcases le8 s8 with e | e | e | e | e | e | e | e | e <;> subst e <;> first | omega | (simp at *; omega)
theorem least_ex {il ih : Int} {s : Nat} (b : Bd il ih) (g : StepIs il ih s) : Bd (il / 2 ^ s * 2 ^ s) (((ih - 1) / 2 ^ s + 1) * 2 ^ s) ∧ Ex (il / 2 ^ s * 2 ^ s) (((ih - 1) / 2 ^ s + 1) * 2 ^ s) s ∧ il / 2 ^ s * 2 ^ s ≤ il ∧ ih ≤ ((ih - 1) / 2 ^ s + 1) * 2 ^ s ∧ il / 2 ^ s * 2 ^ s / 2 ^ s = il / 2 ^ s ∧ Dd (il / 2 ^ s * 2 ^ s) (((ih - 1) / 2 ^ s + 1) * 2 ^ s) s = Dd il ih s := by
  obtain ⟨b1, b2, b3⟩ := b
  have s8 := g.1
  have g1 := g.2.1
  have g2 := g.2.2
  refine ⟨?_, ⟨⟨s8, ?_, fun t ht => ?_⟩, ?_, ?_⟩, ?_, ?_, ?_, ?_⟩
  · unfold Bd
    rcases le8 s8 with e | e | e | e | e | e | e | e | e <;> subst e <;> omega
  · unfold Dd at *
    clear g2 g
    rcases le8 s8 with e | e | e | e | e | e | e | e | e <;> subst e <;> omega
  · have g3 := g2 t ht
    have t8 : t ≤ 8 := by omega
    clear g2 g
    unfold Dd at *
    rcases le8 s8 with e | e | e | e | e | e | e | e | e <;> subst e <;> rcases le8 t8 with e | e | e | e | e | e | e | e | e <;> subst e <;> first | omega | (simp at *; omega)
  all_goals (clear g2 g; unfold Dd at *; rcases le8 s8 with e | e | e | e | e | e | e | e | e <;> subst e <;> omega)
theorem bc4 {lo hi : Int} {s : Nat} (b : Bd lo hi) (h : s ≤ 8) : CPow ((hi - 1) / 2 ^ s + 1) (s : Int) := by
  obtain ⟨b1, b2, b3⟩ := b
  have := div_le' (s := s) (x := hi - 1) (by omega)
  exact ⟨by omega, by omega, na (by omega) (by omega)⟩

/-! ### what is drawn: heaps -/
theorem seqT' {K : PySem.W.Frag} {H H' : Hp} {a : Addr} {xs : List V} (e : Same H H') (h : SqT K H a xs) : SqT K H' a xs := by
  rcases h with (h | ⟨o, h⟩) | h
  · exact .inl (.inl (e _ _ h))
  · exact .inl (.inr ⟨o, e _ _ h⟩)
  · exact .inr h
theorem Pool.same {H H' : Hp} {p : Addr} {x y : Int} (h : Pool H p x y) (s : Same H H') : Pool H' p x y := ⟨s _ _ h.1, h.2⟩
theorem But.free {H H' : Hp} {a q : Addr} {x y : Int} (b : But a H H') (P : Pool H' a x y) (n : H' q = none) : H q = none := by
  cases e : H q with
  | none => rfl
  | some o =>
    by_cases c : q = a
    · subst c; rw [P.1] at n; cases n
    · rw [b q o c e] at n; cases n
local macro_rules | `(tactic| walk_at "but") => `(tactic| first | assumption | exact But.refl _ _ | (refine But.trans ?_ (by assumption); walk_at "but") | (refine But.trans ?_ (But.of (by assumption)); walk_at "but") | (refine But.new ?_ (by assumption); walk_at "but") | (refine But.upd ?_; walk_at "but"))
local macro_rules | `(tactic| walk_at "same") => `(tactic| first | assumption | exact Same.refl _ | (refine Same.trans ?_ (by assumption); walk_at "same") | (refine sameN ?_ (by assumption); walk_at "same"))
/-! ### words as they lie in memory -/
def tup5 (b : Int) : List V := [.int (fFirst b * 2 ^ (fStep b).toNat), .int ((fFirst b + fCnt b) * 2 ^ (fStep b).toNat), .int (fAt b), .str (rtx (bitp (fRts b))), .int (fKind b)]
structure Wd (H : Hp) (q : Addr) (m : Bool) (b : Int) : Prop where
  at' : H q = some (.tup [.bl m, .int b])
  w : W45 b
  law : m = true → Law b
theorem Wd.same {H H' : Hp} {q : Addr} {m : Bool} {b : Int} (h : Wd H q m b) (s : Same H H') : Wd H' q m b := ⟨s _ _ h.at', h.w, h.law⟩
theorem Wd.ne {H : Hp} {q a : Addr} {m : Bool} {b x y : Int} (h : Wd H q m b) (P : Pool H a x y) : q ≠ a := by
  intro e; subst e
  have := h.at'
  rw [P.1] at this; cases this
theorem Wd.but {H H' : Hp} {q a : Addr} {m : Bool} {b : Int} (h : Wd H q m b) (s : But a H H') (n : q ≠ a) : Wd H' q m b := ⟨s _ _ n h.at', h.w, h.law⟩
theorem sum_ite (c : Bool) (z : Int) : (if c = true then [z] else []).sum = if c = true then z else 0 := by cases c <;> simp
theorem mask_val (p : Nat → Bool) : (mask p 9).sum = (if p 0 = true then 1 else 0) + (if p 1 = true then 2 else 0) + (if p 2 = true then 4 else 0) + (if p 3 = true then 8 else 0) + (if p 4 = true then 16 else 0) + (if p 5 = true then 32 else 0) + (if p 6 = true then 64 else 0) + (if p 7 = true then 128 else 0) + (if p 8 = true then 256 else 0) := by
  have e0 : (mask p 0).sum = 0 := by unfold mask; simp
  simp only [mask_succ, List.sum_append, sum_ite, e0]
  simp
theorem bit01 (c : Bool) (z : Int) : ∃ x : Int, (0 ≤ x ∧ x ≤ 1) ∧ (if c = true then z else 0) = z * x ∧ c = decide (x = 1) := by
  cases c
  · exact ⟨0, by omega, by simp, by decide⟩
  · exact ⟨1, by omega, by simp, by decide⟩
theorem bitp_mask (p : Nat → Bool) {k : Nat} (h : k < 9) : bitp ((mask p 9).sum) k = p k := by
  unfold bitp
  rw [mask_val]
  obtain ⟨x0, b0, e0, d0⟩ := bit01 (p 0) 1
  obtain ⟨x1, b1, e1, d1⟩ := bit01 (p 1) 2
  obtain ⟨x2, b2, e2, d2⟩ := bit01 (p 2) 4
  obtain ⟨x3, b3, e3, d3⟩ := bit01 (p 3) 8
  obtain ⟨x4, b4, e4, d4⟩ := bit01 (p 4) 16
  obtain ⟨x5, b5, e5, d5⟩ := bit01 (p 5) 32
  obtain ⟨x6, b6, e6, d6⟩ := bit01 (p 6) 64
  obtain ⟨x7, b7, e7, d7⟩ := bit01 (p 7) 128
  obtain ⟨x8, b8, e8, d8⟩ := bit01 (p 8) 256
  rw [e0, e1, e2, e3, e4, e5, e6, e7, e8]
  rcases le8 (show k ≤ 8 by omega) with e | e | e | e | e | e | e | e | e <;> subst e
  · rw [d0, decide_eq_decide]; omega
  · rw [d1, decide_eq_decide]; omega
  · rw [d2, decide_eq_decide]; omega
  · rw [d3, decide_eq_decide]; omega
  · rw [d4, decide_eq_decide]; omega
  · rw [d5, decide_eq_decide]; omega
  · rw [d6, decide_eq_decide]; omega
  · rw [d7, decide_eq_decide]; omega
  · rw [d8, decide_eq_decide]; omega
theorem WF.all {b lo hi at' kd : Int} {p : Nat → Bool} {s : Nat} (W : WF b lo hi at' p kd s) : W45 b ∧ Law b ∧ tup5 b = [.int lo, .int hi, .int at', .str (rtx p), .int kd] ∧ fKind b = kd ∧ fAt b = at' ∧ fRts b = (mask p 9).sum := by
  have mb := maskOf_b (rtx p)
  have D := wb_dec W.bd W.ex W.a0 W.a1 mb.1 mb.2 W.k0 W.k1
  have e := wb_eq lo hi at' (maskOf (rtx p)) kd s
  rw [W.wb] at D e
  obtain ⟨d0, t, e1, e2, e3, e4, e5⟩ := D
  have er : rtx (bitp (fRts b)) = rtx p := by
    rw [e4, maskOf_rtx]
    exact rtx_congr fun k h => bitp_mask p h
  have x := W.ex
  obtain ⟨⟨s8, x1, x2⟩, x3, x4⟩ := x
  obtain ⟨b1, b2, b3⟩ := W.bd
  have dl := div_le' (s := s) b1
  have w := W.a1
  have k := W.k1
  refine ⟨⟨d0, ?_⟩, ⟨t, ?_⟩, ?_, e5, e3, by rw [e4, maskOf_rtx]⟩
  · clear x2 x3 x4 t e1 e2 e3 e4 e5 er
    have : lo / 2 ^ s ≤ 4095 := by omega
    omega
  · rw [er]; exact W.ow
  · unfold tup5
    rw [e1, e2, e3, er, e5]
theorem rtx_inj {p q : Nat → Bool} (h : rtx p = rtx q) {k : Nat} (hk : k < 9) : p k = q k := by
  rw [← hasR_rtx p hk, ← hasR_rtx q hk, h]
theorem ow_sub {p q : Nat → Bool} (h : ∀ k, k < 9 → q k = true → p k = true) (o : OneW (rtx p)) : OneW (rtx q) := by
  unfold OneW at *
  refine Nat.le_trans ?_ o
  have key : ∀ l : List Str, (l.filter (hasG (rtx q))).length ≤ (l.filter (hasG (rtx p))).length := by
    intro l
    induction l with
    | nil => exact Nat.le_refl _
    | cons g l ih =>
      have mono : hasG (rtx q) g = true → hasG (rtx p) g = true := by
        unfold hasG
        rw [List.any_eq_true, List.any_eq_true]
        rintro ⟨c, c1, c2⟩
        refine ⟨c, c1, decide_eq_true ?_⟩
        have c3 := of_decide_eq_true c2
        rw [rtx_codes] at c3 ⊢
        obtain ⟨k, k1, k2⟩ := List.mem_map.mp c3
        obtain ⟨k3, k4⟩ := List.mem_filter.mp k1
        exact List.mem_map.mpr ⟨k, List.mem_filter.mpr ⟨k3, h k (List.mem_range.mp k3) k4⟩, k2⟩
      rw [List.filter_cons, List.filter_cons]
      by_cases c : hasG (rtx q) g = true
      · rw [if_pos c, if_pos (mono c)]
        simp only [List.length_cons]
        omega
      · rw [if_neg c]
        split
        · simp only [List.length_cons]; omega
        · exact ih
  exact key _
/-- the rights to cells and f alone go together -/
theorem ow_low {p : Nat → Bool} (h : ∀ k, k < 9 → 6 ≤ k → p k = false) : OneW (rtx p) := by
  have e : OneW (rtx fun k => decide (k < 6)) := by unfold OneW; decide +kernel
  refine ow_sub (fun k hk hp => ?_) e
  rcases Nat.lt_or_ge k 6 with c | c
  · exact decide_eq_true c
  · rw [h k hk c] at hp; cases hp
/-- a text of rights that is good -/
def RV (v : V) : Prop := ∃ p, v = .str (rtx p) ∧ OneW (rtx p)
theorem rv {s : Str} (h : s = rtx (hasR s)) (o : OneW s) : RV (.str s) := ⟨hasR s, congrArg V.str h, h ▸ o⟩
theorem rvd {s : Str} (h : (decide (s = rtx (hasR s)) && decide (([G0, G1, G2].filter (hasG s)).length ≤ 1)) = true) : RV (.str s) := by
  rw [Bool.and_eq_true] at h
  exact rv (of_decide_eq_true h.1) (of_decide_eq_true (p := ([G0, G1, G2].filter (hasG s)).length ≤ 1) h.2)
/-- one word within another -/
def Within (b c : Int) : Prop := fFirst c * 2 ^ (fStep c).toNat ≤ fFirst b * 2 ^ (fStep b).toNat ∧ (fFirst b + fCnt b) * 2 ^ (fStep b).toNat ≤ (fFirst c + fCnt c) * 2 ^ (fStep c).toNat ∧ (∀ k, k < 9 → bitp (fRts b) k = true → bitp (fRts c) k = true) ∧ (fKind b = fKind c ∨ (fKind c = 0 ∧ fKind b ≠ 2))
theorem Within.refl (b : Int) : Within b b := ⟨Int.le_refl _, Int.le_refl _, fun _ _ h => h, .inl rfl⟩
theorem sub_iff {p q : Nat → Bool} : (∀ c ∈ (rtx p).cps.toList, c ∈ (rtx q).cps.toList) ↔ ∀ k, k < 9 → p k = true → q k = true := by
  constructor
  · intro h k hk hp
    exact (rtx_mem q hk).mp (h _ ((rtx_mem p hk).mpr hp))
  · intro h c hc
    rw [rtx_codes] at hc
    obtain ⟨k, hk, rfl⟩ := List.mem_map.mp hc
    obtain ⟨k1, k2⟩ := List.mem_filter.mp hk
    have k9 := List.mem_range.mp k1
    exact (rtx_mem q k9).mpr (h k k9 k2)
theorem WF.uniq {b lo hi at' kd lo' hi' a' kd' : Int} {p p' : Nat → Bool} {s s' : Nat} (W : WF b lo hi at' p kd s) (W' : WF b lo' hi' a' p' kd' s') : lo = lo' ∧ hi = hi' ∧ at' = a' ∧ rtx p = rtx p' ∧ kd = kd' ∧ s = s' := by
  have e := W.all.2.2.1.symm.trans W'.all.2.2.1
  injection e with g1 e
  injection e with g2 e
  injection e with g3 e
  injection e with g4 e
  injection e with g5 _
  have h1 := V.int.inj g1
  have h2 := V.int.inj g2
  refine ⟨h1, h2, V.int.inj g3, V.str.inj g4, V.int.inj g5, ?_⟩
  have x := W.ex.1
  rw [h1, h2] at x
  exact x.uniq W'.ex.1
theorem WF.within {b c lo hi at' kd lo' hi' a' kd' : Int} {p p' : Nat → Bool} {s s' : Nat} (W : WF b lo hi at' p kd s) (W' : WF c lo' hi' a' p' kd' s') : Within b c ↔ lo' ≤ lo ∧ hi ≤ hi' ∧ (∀ k, k < 9 → p k = true → p' k = true) ∧ (kd = kd' ∨ (kd' = 0 ∧ kd ≠ 2)) := by
  have e := W.all.2.2.1
  have e' := W'.all.2.2.1
  unfold tup5 at e e'
  injection e with g1 e
  injection e with g2 e
  injection e with g3 e
  injection e with g4 e
  injection e with g5 _
  injection e' with h1 e'
  injection e' with h2 e'
  injection e' with h3 e'
  injection e' with h4 e'
  injection e' with h5 _
  unfold Within
  rw [V.int.inj g1, V.int.inj g2, V.int.inj g5, V.int.inj h1, V.int.inj h2, V.int.inj h5]
  have r1 : ∀ k, k < 9 → bitp (fRts b) k = p k := fun k hk => rtx_inj (V.str.inj g4) hk
  have r2 : ∀ k, k < 9 → bitp (fRts c) k = p' k := fun k hk => rtx_inj (V.str.inj h4) hk
  constructor
  · rintro ⟨a1, a2, a3, a4⟩
    exact ⟨a1, a2, fun k hk hp => by rw [← r2 k hk]; exact a3 k hk (by rw [r1 k hk]; exact hp), a4⟩
  · rintro ⟨a1, a2, a3, a4⟩
    exact ⟨a1, a2, fun k hk hp => by rw [r2 k hk]; exact a3 k hk (by rw [← r1 k hk]; exact hp), a4⟩
def andp (p q : Nat → Bool) : Nat → Bool := fun k => p k && q k
theorem bitp_nat (n k : Nat) : bitp (n : Int) k = n.testBit k := by
  unfold bitp
  rw [Nat.testBit_eq_decide_div_mod_eq, decide_eq_decide]
  have e : (n : Int) / 2 ^ k % 2 = ((n / 2 ^ k % 2 : Nat) : Int) := by
    rw [Int.natCast_emod, Int.natCast_ediv, Int.natCast_pow]; rfl
  rw [e]; omega
theorem mask_and (p q : Nat → Bool) : Builtin.bitAnd ((mask p 9).sum) ((mask q 9).sum) = (mask (andp p q) 9).sum := by
  have hp := mask_b p 9 (Nat.le_refl _)
  have hq := mask_b q 9 (Nat.le_refl _)
  rw [PyProof.Rows.bitAnd_pp hp.1 hq.1]
  have ep : (((mask p 9).sum.toNat : Nat) : Int) = (mask p 9).sum := by omega
  have eq : (((mask q 9).sum.toNat : Nat) : Int) = (mask q 9).sum := by omega
  have lt : (mask p 9).sum.toNat &&& (mask q 9).sum.toNat < 512 := Nat.lt_of_le_of_lt Nat.and_le_left (by omega)
  rw [← mask_bitp (m := (((mask p 9).sum.toNat &&& (mask q 9).sum.toNat : Nat) : Int)) (by omega) (by omega)]
  rw [mask_congr fun k hk => ?_]
  rw [bitp_nat, Nat.testBit_and, ← bitp_nat, ← bitp_nat, ep, eq, bitp_mask p hk, bitp_mask q hk]
  rfl
theorem WF.lohi {b lo hi at' kd : Int} {p : Nat → Bool} {s : Nat} (W : WF b lo hi at' p kd s) : fFirst b * 2 ^ (fStep b).toNat = lo ∧ (fFirst b + fCnt b) * 2 ^ (fStep b).toNat = hi := by
  have e := W.all.2.2.1
  unfold tup5 at e
  injection e with g1 e
  injection e with g2 e
  exact ⟨V.int.inj g1, V.int.inj g2⟩
theorem mask_sub (p q : Nat → Bool) : Builtin.bitAnd ((mask p 9).sum) ((mask q 9).sum) = (mask p 9).sum ↔ ∀ k, k < 9 → p k = true → q k = true := by
  rw [mask_and]
  constructor
  · intro h k hk hp
    have e : bitp ((mask (andp p q) 9).sum) k = bitp ((mask p 9).sum) k := by rw [h]
    rw [bitp_mask _ hk, bitp_mask _ hk, hp] at e
    unfold andp at e
    exact (Bool.and_eq_true_iff.mp e).2
  · intro h
    rw [mask_congr fun k hk => ?_]
    unfold andp
    cases e : p k
    · rfl
    · rw [h k hk e]; rfl

theorem made_eq {lo hi : Int} {s : Nat} (x : Ex lo hi s) : (hi - lo) / 2 ^ s - 1 = Dd lo hi s := by
  obtain ⟨h1, h2, h3⟩ := x
  have p := pow_pos2 s
  have e : hi - lo = ((hi - 1) / 2 ^ s + 1 - lo / 2 ^ s) * 2 ^ s := by
    rw [Int.sub_mul, h2, h3]
  rw [e, Int.mul_ediv_cancel _ (Int.ne_of_gt p)]
  unfold Dd; omega
theorem made_step {p : Nat → Bool} {j : Nat} {b z : Int} {c : Bool} (hc : c = p j) (h : b = z + (mask p j).sum * 4294967296) : b + (if c = true then (1 : Int) else 0) * 2 ^ (32 + (j : Int)).toNat = z + (mask p (j + 1)).sum * 4294967296 := by
  have e : (32 + (j : Int)).toNat = 32 + j := by omega
  rw [e, Int.pow_add, show (2 : Int) ^ 32 = 4294967296 by decide, mask_succ, List.sum_append, sum_ite, hc, h, Int.add_mul]
  cases p j with
  | false => simp
  | true =>
    rw [if_pos rfl, if_pos rfl, Int.one_mul]
    omega
theorem with_fin {A P G : Prop} (h : A → P) (k : (A → P) → G) : G := k h

theorem RL_get : ∀ k, k < 6 → (Str.ofString "rwlsnf").cps[k]? = some (code k) := by decide +kernel
theorem RL_size : (Str.ofString "rwlsnf").cps.size = 6 := by decide +kernel
theorem rcs_congr {p q : Nat → Bool} {i : Nat} (h : ∀ k, k < i → p k = q k) : rcs p i = rcs q i := by
  unfold rcs
  rw [List.filter_congr fun k hk => h k (List.mem_range.mp hk)]
def setp (p : Nat → Bool) (i : Nat) (c : Bool) : Nat → Bool := fun k => if k = i then c else p k
theorem rcs_set (p : Nat → Bool) (i : Nat) (c : Bool) : rcs (setp p i c) (i + 1) = rcs p i ++ (if c = true then [one (code i)] else []) := by
  rw [rcs_succ, rcs_congr (p := setp p i c) (q := p) fun k hk => by unfold setp; rw [if_neg (by omega)]]
  unfold setp
  rw [if_pos rfl]
def lowp (p : Nat → Bool) : Nat → Bool := fun k => p k && decide (k < 6)
theorem rcs_low (p : Nat → Bool) : rcs p 6 = rcs (lowp p) 9 := by
  rw [rcs_succ (lowp p) 8, rcs_succ (lowp p) 7, rcs_succ (lowp p) 6]
  have h6 : lowp p 6 = false := by unfold lowp; simp
  have h7 : lowp p 7 = false := by unfold lowp; simp
  have h8 : lowp p 8 = false := by unfold lowp; simp
  rw [h6, h7, h8]
  simp only [Bool.false_eq_true, if_false, List.append_nil]
  refine rcs_congr fun k hk => ?_
  unfold lowp
  rw [decide_eq_true hk, Bool.and_true]
theorem ow_lowp (p : Nat → Bool) : OneW (rtx (lowp p)) := ow_low fun k _ h => by
  unfold lowp
  rw [decide_eq_false (by omega), Bool.and_false]
theorem rcs_fit6 (p : Nat → Bool) : ((rcs p 6).map (·.length)).sum + (rcs p 6).length * (Str.ofString "").length ≤ 16777216 := by
  rw [rcs_low]; exact rcs_fit _
theorem join_low (p : Nat → Bool) : Txt.join (Str.ofString "") (rcs p 6) = rtx (lowp p) := by
  rw [rcs_low]; rfl

theorem with_finW {A P : Int → Int → Hp → Prop} {G : Prop} (h : ∀ lo hi H, A lo hi H → P lo hi H) (k : (∀ lo hi H, A lo hi H → P lo hi H) → G) : G := k h
theorem small_ex {lo hi : Int} (h1 : lo < hi) (h2 : hi - lo ≤ 16) : ∃ s, Ex lo hi s := by
  refine ⟨0, ⟨by omega, ?_, fun t ht => absurd ht (Nat.not_lt_zero t)⟩, ?_, ?_⟩
  · unfold Dd; simp; omega
  · simp
  · simp
theorem W45_of {n : Nat} (h : n < 35184372088832) : W45 (n : Int) := by unfold W45; omega
theorem sub_nodup : ∀ {L l : List Nat}, l.Sublist L → L.Nodup → l = L.filter (fun k => decide (k ∈ l)) := by
  intro L l h
  induction h with
  | slnil => intro _; rfl
  | @cons l L a h ih =>
    intro n
    obtain ⟨n1, n2⟩ := List.nodup_cons.mp n
    have na : a ∉ l := fun z => n1 (h.subset z)
    rw [List.filter_cons, if_neg (by simpa using na)]
    exact ih n2
  | @cons_cons l L a h ih =>
    intro n
    obtain ⟨n1, n2⟩ := List.nodup_cons.mp n
    rw [List.filter_cons, if_pos (by simp)]
    congr 1
    refine (ih n2).trans (List.filter_congr fun k hk => ?_)
    have nk : k ≠ a := fun z => n1 (z ▸ hk)
    rw [decide_eq_decide]
    simp [nk]
theorem sub_rtx {p : Nat → Bool} {l : List Nat} (h : l.Sublist (rtx p).cps.toList) : ∃ q : Nat → Bool, (∀ k, k < 9 → q k = true → p k = true) ∧ l.map one = rcs q 9 := by
  rw [rtx_codes] at h
  obtain ⟨l', h1, rfl⟩ := List.sublist_map_iff.mp h
  have h2 : l'.Sublist (List.range 9) := h1.trans List.filter_sublist
  have e := sub_nodup h2 List.nodup_range
  refine ⟨fun k => decide (k ∈ l'), fun k _ hk => ?_, ?_⟩
  · have m := h1.subset (of_decide_eq_true hk)
    exact (List.mem_filter.mp m).2
  · unfold rcs
    rw [List.map_map, ← e]
    rfl
theorem sub_snoc {l L : List Nat} {i c : Nat} (h : l.Sublist (L.take i)) (e : L[i]? = some c) : (l ++ [c]).Sublist (L.take (i + 1)) := by
  rw [List.take_add_one, e]
  exact h.append (List.Sublist.refl _)
theorem sub_skip {l L : List Nat} {i : Nat} (h : l.Sublist (L.take i)) : l.Sublist (L.take (i + 1)) := by
  rw [List.take_add_one]
  exact h.trans (List.sublist_append_left _ _)
theorem sub_len {l : List Nat} {i : Nat} {p : Nat → Bool} (h : l.Sublist ((rtx p).cps.toList.take i)) : l.length < 1000 := by
  have h1 := h.length_le
  rw [List.length_take] at h1
  have := rtx_len p
  have e : (rtx p).cps.toList.length = (rtx p).cps.size := by simp
  omega

theorem ex1648 : ∃ s, Ex 16 48 s := ⟨1, ⟨by decide, by decide, fun t ht => by
  have : t = 0 := by omega
  subst this; decide⟩, by decide, by decide⟩
theorem take_all {α : Type} {l : List α} {n : Nat} (h : n = l.length) : l.take n = l := by rw [h, List.take_length]
theorem size_len (z : Str) : z.cps.size = z.cps.toList.length := by simp
theorem strs_fit {l : List Nat} (h : l.length < 1000) : (((l.map one)).map (·.length)).sum + (l.map one).length * (Str.ofString "").length ≤ 16777216 := by
  have e : (Str.ofString "").length = 0 := by decide +kernel
  have e2 : ((l.map one).map (·.length)).sum = l.length := by
    clear h e
    induction l with
    | nil => rfl
    | cons x r ih =>
      simp only [List.map_cons, List.sum_cons, List.length_cons] at *
      rw [ih]
      show 1 + _ = _
      omega
  rw [e, e2]
  omega
theorem filt_nil {l : List Nat} {f : Nat → Bool} : (l.filter f).isEmpty = true ↔ ∀ c ∈ l, ¬ f c = true := by
  rw [List.isEmpty_iff, List.filter_eq_nil_iff]
/-! ### the law's own call, where nothing guards: repr of data -/
/-- a def's body, walked for one caller's state A alone -/
theorem body_at {P : Program} {w : World} {K : PySem.W.Frag} {mg : Str → Option Value} {base : Heap} {k : Nat} {f : Addr} {name qual : Str} {params : Arguments} {body : List Stmt} {scope : Scope}
    {dV kV doc pm cdv ct oc : Value} {an od : Option Addr} {osl : Array (Option Value)} {N ps : List Str} {A : Around} {outer : List Env} {s : Shared} {H : Hp} {args : Args} {us : List Value} {vs : List V} {Q : VK}
    (lk : K.lookup f = some ⟨oc, od, .func (PySem.W.fnOf name qual params body scope dV kV doc pm an cdv ct), osl⟩) (hcd : PySem.W.codeIn K cdv qual = true) (S : FnScope N ps scope) (hl : vs.length = ps.length)
    (hr : Room (k + 1) A) (e0 : Env0 P w K mg base A outer s H) (hb : BindsTo s (PySem.W.fnOf name qual params body scope dV kV doc pm an cdv ct) args (ps.zip us)) (rv : Vals vs us)
    (walk : ∃ t, PSs (cxOf CX0 P w K mg base N qual scope f cdv A outer s H (fun _ _ _ => False)) body t ∧ t { nx := fun _ H' => Q .non H', rt := Q } (start N vs) H) :
    codeAny (model P w) A (.call (.ref f) args) (CR CX0 outer P w H s Q fun _ _ _ => False) s := by
  have old : ∀ b o, base.get? b = some o → s.heap.get? b = some o := fun b o z => (e0.bs b o z).1
  have inK : K.In s.heap := e0.mod.kin.keeps old
  have slots : ∀ y ∈ ps.zip us, scope.names.lookup y.1 = some .local ∨ (scope.names.lookup y.1 = some .cell ∧ ((cellsFrom (s.heap.objs.size + 1) scope.names []).lookup y.1).isSome = true) := by
    rintro ⟨n, v⟩ hy
    cases S.par n (List.of_mem_zip hy).1 with
    | inl z => exact Or.inl z
    | inr z => exact Or.inr ⟨z, PySem.W.cellsFrom_some _ _ _ (Or.inl z)⟩
  obtain ⟨t, ht, hq⟩ := walk
  refine codeAny_call_function hr.depth (inK _ _ lk) rfl S.co S.gen rfl (PySem.W.codeRec_of inK hcd) (hb _ _ _ _ ?_)
  refine wpAny_newFunctionEnv_cells S.kind slots fun env eenv s1 ic => ?_
  subst eenv
  refine ⟨(e0.mod.nolimit.keeps old).keeps ic.toInCall.keep, codeAny_func ?_⟩
  have J := inv_start (CX := CX0) (E := fun _ _ _ => False) S hr.hd e0 hl rv ic
  refine wpAny_mono (ht.run [] s1 _ H _ J hq) (fun fl s' got => ?_) fun _ _ z => z
  match fl, got with
  | .ret u, ⟨v, σ', H', J', r', q'⟩ => exact ⟨v, H', J'.os, J'.bare, J'.base, J'.hok, r', q'⟩
  | .next, ⟨σ', H', J', q'⟩ => exact ⟨.non, H', J'.os, J'.bare, J'.base, J'.hok, rfl, q'⟩
  | .brk, ⟨_, _, _, q'⟩ => exact q'.elim
  | .cont, ⟨_, _, _, q'⟩ => exact q'.elim
/-- the script as the only thing that may be tracked -/
structure Scr (P : Program) (w : World) (K : PySem.W.Frag) (h : Heap) (a : Addr) (ns : List Int) (H : Hp) : Prop where
  only : Only H
  seq : SqL K H a (ns.map V.int)
  ok : HOk P w H h
  at' : ∀ b, H b ≠ none → b = a ∧ K.lookup a = none
theorem scr {P : Program} {w : World} {K : PySem.W.Frag} {h : Heap} {a : Addr} {vs : List Value} {ns : List Int} (KX : K.In h)
    (ha : h.get? a = some { cls := .type "list", data := .seq vs.toArray }) (hi : IntsAre vs ns) (hl : ns.length ≤ sizeLine) : ∃ H, Scr P w K h a ns H := by
  have rel := vals_ints hi
  have len : (ns.map V.int).length ≤ sizeLine := by rw [List.length_map]; exact hl
  by_cases inK : K.lookup a = none
  · refine ⟨upd (fun _ => none) a (.frz { cls := .type "list", data := .seq vs.toArray } (.lst (ns.map V.int))), fun b => ?_, .inl (.inr ⟨_, upd_same⟩), fun b o e => ?_, fun b e => ?_⟩
    · rcases Decidable.em (b = a) with z | z
      · subst z; exact .inr ⟨_, _, upd_same⟩
      · exact .inl (upd_ne z)
    · rcases Decidable.em (b = a) with z | z
      · subst z
        rw [upd_same] at e
        cases e
        exact ⟨ha, len, vs, _, rel, ha⟩
      · rw [upd_ne z] at e; cases e
    · rcases Decidable.em (b = a) with z | z
      · exact ⟨z, inK⟩
      · exact absurd (upd_ne z) e
  · obtain ⟨o, ho⟩ : ∃ o, K.lookup a = some o := by
      cases e : K.lookup a with
      | none => exact absurd e inK
      | some o => exact ⟨o, rfl⟩
    have same : o = { cls := .type "list", data := .seq vs.toArray } := Option.some.inj ((KX a o ho).symm.trans ha)
    subst same
    refine ⟨fun _ => none, fun _ => .inl rfl, .inr ⟨_, vs.toArray, 0, ho, rfl, rfl, rfl, ?_, ?_⟩, fun _ _ e => ?_, fun _ e => absurd rfl e⟩
    · have := hi.length
      show vs.toArray.size ≤ sizeLine
      rw [List.size_toArray]; omega
    · show Vals _ vs.toArray.toList
      exact rel
    · exact nomatch e
/-- the law's call from its promise, walked where nothing guards -/
theorem call_scr {P : Program} {w : World} {K : PySem.W.Frag} {mg mb : Str → Option Value} {fa a : Addr} {s₁ : Shared} {vs : List Value} {ns : List Int}
    (KX : K.In s₁.heap) (hns : s₁.heap.Ns mainGlobals mg) (hb : s₁.heap.Ns builtinsNs mb) (hbb : ∀ x : Str, x ≠ "__name__" → mb x = bootBuiltins x) (hlim : s₁.heap.NoLimit) (hg : s₁.gens = #[])
    (ha : s₁.heap.get? a = some { cls := .type "list", data := .seq vs.toArray }) (hi : IntsAre vs ns) (hl : ns.length ≤ sizeLine)
    (B : ∀ base H, K.In base → base.Ns mainGlobals mg → Env0 P w K mg base callerA [] s₁ H → SqL K H a (ns.map V.int) →
      codeAny (model P w) callerA (.call (.ref fa) ⟨[.ref a], []⟩) (CR CX0 [] P w H s₁ (fun v _ => v = .bl true) fun _ _ _ => False) s₁) :
    codeAny (model P w) callerA (.call (.ref fa) ⟨[.ref a], []⟩) (fun r s' => r = .ok (.ret (.bool true)) ∧ OldK s₁.heap s'.heap ∧ s'.os = s₁.os ∧ AllBare s'.gens) s₁ := by
  obtain ⟨H, C⟩ := scr (P := P) (w := w) KX ha hi hl
  -- what holds no list stands in the part that is not tracked
  have free : ∀ b o, s₁.heap.get? b = some o → (∀ n, o.data ≠ .seq vs.toArray n) → H b = none := fun b o e nd => by
    rcases Decidable.em (H b = none) with z | z
    · exact z
    · have q := (C.at' b z).1
      subst q
      rw [ha] at e
      cases e
      exact absurd rfl (nd _)
  have ns_of : ∀ L m, s₁.heap.Ns L m → (hidT s₁.heap H).Ns L m := fun L m n => by
    obtain ⟨o, es, ep, e, d, r⟩ := n
    exact ⟨o, es, ep, hidT_get e (free _ _ e fun k z => by rw [d] at z; cases z), d, r⟩
  have kin : K.In (hidT s₁.heap H) := fun b o e => by
    refine hidT_get (KX b o e) ?_
    rcases Decidable.em (H b = none) with z | z
    · exact z
    · obtain ⟨q, u⟩ := C.at' b z
      subst q
      rw [u] at e; cases e
  obtain ⟨mc, l1, l2⟩ := hlim
  have e0 : Env0 P w K mg (hidT s₁.heap H) callerA [] s₁ H :=
    ⟨rfl, ⟨kin, ns_of _ _ hns, ⟨mb, ns_of _ _ hb, hbb⟩, mc, ns_of _ _ l1, l2⟩, fun b o e => of_hidT e, Nat.le_of_eq (hidT_size _ _), trivial, fun b z => absurd (show b ∈ ([] : List Addr) from z) (by simp), C.ok, AllBare.of_eq hg⟩
  refine codeAny_mono (B _ H kin (ns_of _ _ hns) e0 C.seq) fun r s' got => ?_
  match r, got with
  | .ok (.ret u), ⟨v, H', os, bare, un, hok', rv, q⟩ =>
    cases q
    cases rv
    refine ⟨rfl, OldK.of_keep fun b o e => ?_, os, bare⟩
    rcases C.only b with z | ⟨ob, xs, z⟩
    · exact un.keep b o e z (fun y => nomatch y) (fun y => nomatch y)
    · have o1 := (C.ok b _ z).1
      have o2 := (hok' b _ (un.frzs b ob _ z)).1
      have := Option.some.inj (o1.symm.trans e)
      subst this
      exact o2
  | .ok .next, z => exact False.elim z
  | .ok .brk, z => exact False.elim z
  | .ok .cont, z => exact False.elim z
  | .error e, z => exact False.elim z
/-- the goal that the head leaves: the law's def walked for its caller's own state, in which nothing guards -/
theorem walk_scr {l : PySem.W.OpenLaw} {n : Nat} {q : Program} {loose : List Str} {XP : (Str → Option Value) → Heap → Prop} {YP : World → Heap → Prop} {d : DefRec} {K : Params → PySem.W.Frag}
    (hn : l.most = some n) (hn2 : n ≤ sizeLine) (hdf : d.params.defaults = []) (hY : ∀ (w : World) (h : Heap), YP w h → (K w.params).In h)
    (F : ∀ (w : World) (mg : Str → Option Value) (fa : Addr) (h : Heap), (K w.params).In h → h.Ns mainGlobals mg → mg d.name = some (.ref fa) →
      ∀ (base : Heap) (H : Hp) (s : Shared) (a : Addr) (ns : List Int), (K w.params).In base → base.Ns mainGlobals mg → Env0 l.prog w (K w.params) mg base callerA [] s H → SqL (K w.params) H a (ns.map V.int) → ns.length ≤ n →
        codeAny (model l.prog w) callerA (.call (.ref fa) ⟨[.ref a], []⟩) (CR CX0 [] l.prog w H s (fun v _ => v = .bl true) fun _ _ _ => False) s) :
    PySem.W.WalkO q loose XP YP l.row.toRowW d [] (fun f vs => PySem.call f vs) := by
  refine Att.attach_call hn hdf fun w s₀ s₁ mg mb fa o pm cd doc a vs ns G Y _ _ _ hmg hobj hints hlen hg => ?_
  have KX := hY w _ Y
  exact call_scr KX G.T.g G.T.b G.T.builtins G.T.nolimit hg hobj hints (Nat.le_trans hlen hn2) fun base H kb nb e0 hS => F w mg fa _ KX G.T.g hmg base H s₁ a ns kb nb e0 hS hlen
theorem caller_guards : callerA.guards = some [] := by first | rfl | decide
/-- repr of data, where nothing guards -/
def rRepr (K : PySem.W.Frag) : List V → Hp → VK → Prop := fun xs H Q => ∃ (x : V) (d : PyData), xs = [x] ∧ Dp K H x d ∧ d.showable = true ∧ d.hasDict = false ∧ d.depth ≤ 50 ∧ d.shown.length ≤ sizeLine ∧ Q (.str d.shown) H
theorem call_reprD {X : Cx} (gd : X.A.guards = some []) (hu : X.A.units + 64 < cLine) : CallR X (.builtin "repr") (rRepr X.K) := by
  intro pins s σ H xs us Q I r h
  obtain ⟨x, d, rfl, hd, hs, hnd, hdp, hz, hq⟩ := h
  obtain ⟨u, rfl, ru⟩ := r.one
  obtain ⟨as, rd⟩ := Dp.reads I d x u hd ru
  have byRef : ∀ a, u = .ref a → wpAny (model X.prog X.w) X.A (call (.builtin "repr") [u]) (EP X pins σ Q) X.xe s := fun a e => by
    subst e
    exact repr_of_reads' rd hs (fun z => by rw [hnd] at z; cases z) gd (by omega) (fun _ _ z => z) (fun h' v tk k => ⟨.str d.shown, H, I.kept (t' := tk) k, ⟨_, rfl⟩, hq⟩) hz
  cases hd with
  | non =>
    cases ru
    exact PySem.P.repr_of_none ⟨.str "None", H, I.tok _, ⟨_, rfl⟩, hq⟩
  | bl b =>
    cases ru
    exact PySem.P.repr_of_bool ⟨.str (if b then "True" else "False"), H, I.tok _, ⟨_, rfl⟩, hq⟩
  | int i =>
    obtain ⟨t, rfl⟩ := ru
    exact PySem.P.repr_of_int (of_decide_eq_true hs) ⟨.str (toString i), H, I.tok _, ⟨_, rfl⟩, hq⟩
  | str z =>
    obtain ⟨t, rfl⟩ := ru
    exact PySem.P.repr_of_str ⟨.str (reprText z), H, I.tok _, ⟨_, rfl⟩, hq⟩ hz
  | lst _ _ => exact byRef _ ru
  | tup _ _ => exact byRef _ ru

/-! ### bits field by field -/
structure Dec (b a F D s m k : Int) : Prop where
  e : b = a + F * 4096 + D * 16777216 + s * 268435456 + m * 4294967296 + k * 2199023255552
  a0 : 0 ≤ a
  a1 : a ≤ 4095
  F0 : 0 ≤ F
  F1 : F ≤ 4095
  D0 : 0 ≤ D
  D1 : D ≤ 15
  s0 : 0 ≤ s
  s1 : s ≤ 15
  m0 : 0 ≤ m
  m1 : m < 512
  k0 : 0 ≤ k
  k1 : k ≤ 15
theorem Dec.f {b a F D s m k : Int} (d : Dec b a F D s m k) : fStep b = s ∧ fFirst b = F ∧ fCnt b = D + 1 ∧ fAt b = a ∧ fRts b = m ∧ fKind b = k := by
  obtain ⟨e, a0, a1, F0, F1, D0, D1, s0, s1, m0, m1, k0, k1⟩ := d
  unfold fStep fFirst fCnt fAt fRts fKind
  rw [show (2 : Int) ^ 0 = 1 by decide, show (2 : Int) ^ 4 = 16 by decide, show (2 : Int) ^ 9 = 512 by decide, show (2 : Int) ^ 12 = 4096 by decide, show (2 : Int) ^ 24 = 16777216 by decide, show (2 : Int) ^ 28 = 268435456 by decide, show (2 : Int) ^ 32 = 4294967296 by decide, show (2 : Int) ^ 41 = 2199023255552 by decide]
  have q1 : b / 4096 = F + 4096 * (D + 16 * (s + 16 * (m + 512 * k))) := by omega
  have q2 : b / 16777216 = D + 16 * (s + 16 * (m + 512 * k)) := by omega
  have q3 : b / 268435456 = s + 16 * (m + 512 * k) := by omega
  have q4 : b / 4294967296 = m + 512 * k := by omega
  have q5 : b / 2199023255552 = k := by omega
  rw [q1, q2, q3, q4, q5]
  refine ⟨?_, ?_, ?_, ?_, ?_, ?_⟩ <;> omega
theorem Dec.w45 {b a F D s m k : Int} (d : Dec b a F D s m k) : W45 b := by
  obtain ⟨e, a0, a1, F0, F1, D0, D1, s0, s1, m0, m1, k0, k1⟩ := d
  unfold W45; omega
theorem Dec.of {b : Int} (w : W45 b) : Dec b (fAt b) (fFirst b) (fCnt b - 1) (fStep b) (fRts b) (fKind b) := by
  obtain ⟨w0, w1⟩ := w
  have f := fb b
  have r0 : 0 ≤ fRts b := Int.emod_nonneg _ (by decide)
  have r1 : fRts b < 512 := Int.emod_lt_of_pos _ (by decide)
  have a0 : 0 ≤ fAt b := Int.emod_nonneg _ (by decide)
  have a1 : fAt b < 4096 := Int.emod_lt_of_pos _ (by decide)
  have k0 : 0 ≤ fKind b := Int.emod_nonneg _ (by decide)
  have k1 : fKind b < 16 := Int.emod_lt_of_pos _ (by decide)
  refine ⟨?_, a0, by omega, by omega, by omega, by omega, by omega, by omega, by omega, r0, r1, k0, by omega⟩
  clear f r0 r1 a0 a1 k0 k1
  unfold fAt fFirst fCnt fStep fRts fKind
  rw [show (2 : Int) ^ 0 = 1 by decide, show (2 : Int) ^ 4 = 16 by decide, show (2 : Int) ^ 9 = 512 by decide, show (2 : Int) ^ 12 = 4096 by decide, show (2 : Int) ^ 24 = 16777216 by decide, show (2 : Int) ^ 28 = 268435456 by decide, show (2 : Int) ^ 32 = 4294967296 by decide, show (2 : Int) ^ 41 = 2199023255552 by decide]
  omega
theorem Dec.setAt {b a F D s m k z : Int} (d : Dec b a F D s m k) (h0 : 0 ≤ z) (h1 : z ≤ 4095) : Dec (b + (z - fAt b) * 2 ^ 0) z F D s m k := by
  have e := d.e; have f := d.f.2.2.2.1
  refine { d with e := ?_, a0 := h0, a1 := h1 }
  rw [f, show (2 : Int) ^ 0 = 1 by decide]; omega
theorem Dec.setFirst {b a F D s m k z : Int} (d : Dec b a F D s m k) (h0 : 0 ≤ z) (h1 : z ≤ 4095) : Dec (b + (z - fFirst b) * 2 ^ 12) a z D s m k := by
  have e := d.e; have f := d.f.2.1
  refine { d with e := ?_, F0 := h0, F1 := h1 }
  rw [f, show (2 : Int) ^ 12 = 4096 by decide]; omega
theorem Dec.setCnt {b a F D s m k z : Int} (d : Dec b a F D s m k) (h0 : 0 ≤ z) (h1 : z ≤ 15) : Dec (b + (z - (fCnt b - 1)) * 2 ^ 24) a F z s m k := by
  have e := d.e; have f := d.f.2.2.1
  refine { d with e := ?_, D0 := h0, D1 := h1 }
  rw [f, show (2 : Int) ^ 24 = 16777216 by decide]; omega
theorem Dec.setStep {b a F D s m k z : Int} (d : Dec b a F D s m k) (h0 : 0 ≤ z) (h1 : z ≤ 15) : Dec (b + (z - fStep b) * 2 ^ 28) a F D z m k := by
  have e := d.e; have f := d.f.1
  refine { d with e := ?_, s0 := h0, s1 := h1 }
  rw [f, show (2 : Int) ^ 28 = 268435456 by decide]; omega
theorem Dec.setRts {b a F D s m k z : Int} (d : Dec b a F D s m k) (h0 : 0 ≤ z) (h1 : z < 512) : Dec (b + (z - fRts b) * 2 ^ 32) a F D s z k := by
  have e := d.e; have f := d.f.2.2.2.2.1
  refine { d with e := ?_, m0 := h0, m1 := h1 }
  rw [f, show (2 : Int) ^ 32 = 4294967296 by decide]; omega
theorem Dec.setKind {b a F D s m k z : Int} (d : Dec b a F D s m k) (h0 : 0 ≤ z) (h1 : z ≤ 15) : Dec (b + (z - fKind b) * 2 ^ 41) a F D s m z := by
  have e := d.e; have f := d.f.2.2.2.2.2
  refine { d with e := ?_, k0 := h0, k1 := h1 }
  rw [f, show (2 : Int) ^ 41 = 2199023255552 by decide]; omega
theorem Ex.dd {lo hi : Int} {s : Nat} (b : Bd lo hi) (e : Ex lo hi s) : 0 ≤ lo / 2 ^ s ∧ lo / 2 ^ s ≤ 4095 ∧ 0 ≤ Dd lo hi s ∧ Dd lo hi s ≤ 15 ∧ s ≤ 8 := by
  obtain ⟨b1, b2, b3⟩ := b
  have dl := div_le' (s := s) b1
  refine ⟨dl.1, by omega, ?_, e.1.2.1, e.1.1⟩
  unfold Dd
  have := Int.ediv_le_ediv (pow_pos2 s) (show lo ≤ hi - 1 by omega)
  omega
theorem WF.dec {b lo hi at' kd : Int} {p : Nat → Bool} {s : Nat} (W : WF b lo hi at' p kd s) : Dec b at' (lo / 2 ^ s) (Dd lo hi s) s ((mask p 9).sum) kd := by
  have x := W.ex.dd W.bd
  have mb := maskOf_b (rtx p)
  rw [maskOf_rtx] at mb
  refine ⟨?_, W.a0, W.a1, x.1, x.2.1, x.2.2.1, x.2.2.2.1, by omega, by omega, mb.1, mb.2, W.k0, W.k1⟩
  have := wb_eq lo hi at' (maskOf (rtx p)) kd s
  rw [W.wb, maskOf_rtx] at this
  exact this
theorem Dec.wf {b lo hi at' kd : Int} {p : Nat → Bool} {s : Nat} (d : Dec b at' (lo / 2 ^ s) (Dd lo hi s) s ((mask p 9).sum) kd) (bd : Bd lo hi) (ex : Ex lo hi s) (ow : OneW (rtx p)) : WF b lo hi at' p kd s := by
  refine ⟨bd, ex, d.a0, d.a1, d.k0, d.k1, ow, ?_⟩
  rw [wb_eq, maskOf_rtx, ← d.e]
theorem WF.same {b b' lo hi at' kd : Int} {p p' : Nat → Bool} {s s' : Nat} (W : WF b lo hi at' p kd s) (W' : WF b' lo hi at' p' kd s') (e : rtx p = rtx p') : b = b' := by
  have es := W.ex.1.uniq W'.ex.1
  subst es
  rw [← W.wb, ← W'.wb, e]
theorem wf_at {b lo hi at' kd z : Int} {p : Nat → Bool} {s : Nat} (W : WF b lo hi at' p kd s) (h0 : 0 ≤ z) (h1 : z ≤ 4095) : WF (b + (z - fAt b) * 2 ^ 0) lo hi z p kd s :=
  (W.dec.setAt h0 h1).wf W.bd W.ex W.ow
theorem WF.re {b lo hi at' kd : Int} {p p' : Nat → Bool} {s : Nat} (W : WF b lo hi at' p kd s) (e : rtx p = rtx p') : WF b lo hi at' p' kd s :=
  ⟨W.bd, W.ex, W.a0, W.a1, W.k0, W.k1, by rw [← e]; exact W.ow, by rw [← e]; exact W.wb⟩
theorem int_short {i : Int} (h : i.natAbs < 10 ^ 200) : PyData.leavesShort 600 (.int i) = true := by
  have e := int_text_length_le10 (k := 200) (by decide) h
  clear h
  simp only [PyData.leavesShort, PyData.shown]
  refine decide_eq_true ?_
  rw [PySem.ofString_length]
  omega
theorem int_log {i : Int} (h : i.natAbs < 10 ^ 200) : i.natAbs.log2 < 800 := by
  have h2 : (10 : Nat) ^ 200 ≤ 16 ^ 200 := Nat.pow_le_pow_left (by decide) 200
  have h3 : (16 : Nat) ^ 200 = 2 ^ 800 := by rw [show (16 : Nat) = 2 ^ 4 by decide, ← Nat.pow_mul]
  exact PySem.Flt.log2_lt_of (by decide) (Nat.lt_of_lt_of_le h (h3 ▸ h2))
theorem int_able {i : Int} (h : i.natAbs < 10 ^ 200) : PyData.showable (.int i) = true := by
  have := int_log h
  simp only [PyData.showable]
  exact decide_eq_true (by omega)
theorem w45_log {b : Int} (w : W45 b) : b.natAbs.log2 < 45 := by
  obtain ⟨w0, w1⟩ := w
  refine PySem.Flt.log2_lt_of (by decide) ?_
  have e : (2 : Nat) ^ 45 = 35184372088832 := by decide
  rw [e]; omega
theorem w45_abs {b : Int} (w : W45 b) : b.natAbs < 10 ^ 14 := by
  obtain ⟨w0, w1⟩ := w
  have e : (10 : Nat) ^ 14 = 100000000000000 := by decide
  rw [e]; omega
theorem p10 {n k m : Nat} (h : n < 10 ^ k) (hk : k ≤ m) : n < 10 ^ m := Nat.lt_of_lt_of_le h (Nat.pow_le_pow_right (by decide) hk)
/-- the data of a word -/
def dw (m : Bool) (b : Int) : PyData := .tuple [.bool m, .int b]
theorem dw_small {m : Bool} {b : Int} (w : W45 b) : (dw m b).showable = true ∧ (dw m b).hasDict = false ∧ (dw m b).leavesShort 600 = true ∧ (dw m b).weight ≤ 60 ∧ (dw m b).depth = 1 := by
  have h1 := int_able (p10 (w45_abs w) (by decide : 14 ≤ 200))
  have h2 := int_short (p10 (w45_abs w) (by decide : 14 ≤ 200))
  unfold dw
  refine ⟨?_, ?_, ?_, ?_, ?_⟩
  · simp only [PyData.showable, PyData.showableAll, Bool.true_and, Bool.and_true] at *; exact h1
  · simp [PyData.hasDict, PyData.hasDictAll]
  · simp only [PyData.leavesShort, PyData.leavesShortAll, Bool.true_and, Bool.and_true] at *; exact h2
  · have := w45_log w
    simp [PyData.weight, PyData.weightAll]
    split <;> omega
  · simp [PyData.depth, PyData.depthAll]
theorem shown_fit {d : PyData} (h : d.leavesShort 600 = true) (w : d.weight ≤ 2000) : d.shown.length ≤ sizeLine := by
  have := PyData.shown_le 600 (by decide) d h
  rw [sizeLine_eq]; omega
theorem dl3 {m1 m2 m3 : Bool} {b1 b2 b3 : Int} (w1 : W45 b1) (w2 : W45 b2) (w3 : W45 b3) : (PyData.list [dw m1 b1, dw m2 b2, dw m3 b3]).showable = true ∧ (PyData.list [dw m1 b1, dw m2 b2, dw m3 b3]).hasDict = false ∧ (PyData.list [dw m1 b1, dw m2 b2, dw m3 b3]).depth ≤ 50 ∧ (PyData.list [dw m1 b1, dw m2 b2, dw m3 b3]).shown.length ≤ sizeLine := by
  obtain ⟨a1, a2, a3, a4, a5⟩ := dw_small (m := m1) w1
  obtain ⟨c1, c2, c3, c4, c5⟩ := dw_small (m := m2) w2
  obtain ⟨e1, e2, e3, e4, e5⟩ := dw_small (m := m3) w3
  refine ⟨?_, ?_, ?_, shown_fit ?_ ?_⟩
  · simp only [PyData.showable, PyData.showableAll, a1, c1, e1, Bool.and_self]
  · simp only [PyData.hasDict, PyData.hasDictAll, a2, c2, e2, Bool.or_self]
  · simp only [PyData.depth, PyData.depthAll, a5, c5, e5]; decide
  · simp only [PyData.leavesShort, PyData.leavesShortAll, a3, c3, e3, Bool.and_self]
  · simp only [PyData.weight, PyData.weightAll]; omega
/-! ### walked, narrowed -/
def WalkR (m : Bool) (b n : Int) (m' : Bool) (b' : Int) : Prop := ((m = true ∧ fKind b ≠ 0) ∧ m' = false ∧ b' = b) ∨ (¬ (m = true ∧ fKind b ≠ 0) ∧ m' = m ∧ b' = b + ((fAt b + n) % 4096 - fAt b) * 2 ^ 0)
theorem WalkR.uniq {m : Bool} {b n : Int} {m1 m2 : Bool} {b1 b2 : Int} (h : WalkR m b n m1 b1) (k : WalkR m b n m2 b2) : m1 = m2 ∧ b1 = b2 := by
  rcases h with ⟨h1, h2, h3⟩ | ⟨h1, h2, h3⟩ <;> rcases k with ⟨k1, k2, k3⟩ | ⟨k1, k2, k3⟩
  · rw [h2, k2, h3, k3]; exact ⟨rfl, rfl⟩
  · exact absurd h1 k1
  · exact absurd k1 h1
  · rw [h2, k2, h3, k3]; exact ⟨rfl, rfl⟩
theorem mod4096 (x : Int) : 0 ≤ x % 4096 ∧ x % 4096 ≤ 4095 := by omega
theorem WalkR.w45 {m : Bool} {b n : Int} {m' : Bool} {b' : Int} (w : W45 b) (h : WalkR m b n m' b') : W45 b' := by
  rcases h with ⟨h1, h2, h3⟩ | ⟨h1, h2, h3⟩
  · rw [h3]; exact w
  · rw [h3]; exact ((Dec.of w).setAt (mod4096 _).1 (mod4096 _).2).w45
theorem WalkR.ok {m : Bool} {b n : Int} {m' : Bool} {b' : Int} (w : W45 b) (L : m = true → Law b) (h : WalkR m b n m' b') (hm : m' = true) : m = true ∧ Law b' ∧ Within b' b := by
  rcases h with ⟨h1, h2, h3⟩ | ⟨h1, h2, h3⟩
  · rw [h2] at hm; cases hm
  · have m1 : m = true := h2 ▸ hm
    obtain ⟨lo, hi, at', p, kd, s, _, W⟩ := wf_of w (L m1)
    have W2 := wf_at W (mod4096 (fAt b + n)).1 (mod4096 (fAt b + n)).2
    rw [← h3] at W2
    exact ⟨m1, W2.all.2.1, (W2.within W).mpr ⟨Int.le_refl _, Int.le_refl _, fun _ _ h => h, .inl rfl⟩⟩
def NarC (n : Int) (ex : Bool) (lo hi at' kd : Int) (s : Nat) : Prop := kd = 0 ∧ Bd at' (at' + n) ∧ (ex = true → ∃ t, Ex at' (at' + n) t) ∧ StepIs at' (at' + n) s ∧ lo ≤ at' / 2 ^ s * 2 ^ s ∧ ((at' + n - 1) / 2 ^ s + 1) * 2 ^ s ≤ hi
def NarR (m : Bool) (b n : Int) (ex : Bool) (m' : Bool) (b' : Int) : Prop :=
  (m = false ∧ m' = false ∧ b' = b) ∨ (m = true ∧ ∀ lo hi at' p kd s0, WF b lo hi at' p kd s0 → ((m' = false ∧ b' = b ∧ ¬ ∃ s, NarC n ex lo hi at' kd s) ∨ (m' = true ∧ ∃ s, NarC n ex lo hi at' kd s ∧ WF b' (at' / 2 ^ s * 2 ^ s) (((at' + n - 1) / 2 ^ s + 1) * 2 ^ s) at' p 0 s)))
theorem NarR.uniq {m : Bool} {b n : Int} {ex : Bool} {m1 m2 : Bool} {b1 b2 : Int} (w : W45 b) (L : m = true → Law b) (h : NarR m b n ex m1 b1) (k : NarR m b n ex m2 b2) : m1 = m2 ∧ b1 = b2 := by
  rcases h with ⟨h1, h2, h3⟩ | ⟨h1, h2⟩ <;> rcases k with ⟨k1, k2, k3⟩ | ⟨k1, k2⟩
  · rw [h2, k2, h3, k3]; exact ⟨rfl, rfl⟩
  · rw [h1] at k1; cases k1
  · rw [h1] at k1; cases k1
  · obtain ⟨lo, hi, at', p, kd, s, _, W⟩ := wf_of w (L h1)
    rcases h2 _ _ _ _ _ _ W with ⟨a1, a2, a3⟩ | ⟨a1, t, a2, a3⟩ <;> rcases k2 _ _ _ _ _ _ W with ⟨c1, c2, c3⟩ | ⟨c1, u, c2, c3⟩
    · rw [a1, c1, a2, c2]; exact ⟨rfl, rfl⟩
    · exact absurd ⟨u, c2⟩ a3
    · exact absurd ⟨t, a2⟩ c3
    · have e : t = u := a2.2.2.2.1.uniq c2.2.2.2.1
      subst e
      exact ⟨by rw [a1, c1], a3.same c3 rfl⟩
theorem NarR.ok {m : Bool} {b n : Int} {ex : Bool} {m' : Bool} {b' : Int} (w : W45 b) (L : m = true → Law b) (h : NarR m b n ex m' b') : W45 b' ∧ (m' = true → m = true ∧ Law b' ∧ Within b' b) := by
  rcases h with ⟨h1, h2, h3⟩ | ⟨h1, h2⟩
  · rw [h3]; exact ⟨w, fun z => by rw [h2] at z; cases z⟩
  · obtain ⟨lo, hi, at', p, kd, s, _, W⟩ := wf_of w (L h1)
    rcases h2 _ _ _ _ _ _ W with ⟨a1, a2, a3⟩ | ⟨a1, t, a2, a3⟩
    · rw [a2]; exact ⟨w, fun z => by rw [a1] at z; cases z⟩
    · refine ⟨a3.all.1, fun _ => ⟨h1, a3.all.2.1, (a3.within W).mpr ⟨a2.2.2.2.2.1, a2.2.2.2.2.2, fun _ _ h => h, .inl a2.1.symm⟩⟩⟩
theorem with_finH {A P : Hp → Prop} {G : Prop} (h : ∀ H, A H → P H) (k : (∀ H, A H → P H) → G) : G := k h
/-- a word that tells b in H -/
def WT (H : Hp) (q : Addr) (m : Bool) (b : Int) : Prop := H q = some (.tup [.bl m, .int b])

/-! ### lessened, sealed, opened, entry -/
def OutR (m : Bool) (b : Int) (C : Str → Int → Option (Str × Int)) (m' : Bool) (b' : Int) : Prop :=
  (m = false ∧ m' = false ∧ b' = b) ∨ (m = true ∧ ∀ lo hi at' p kd s, WF b lo hi at' p kd s → (C (rtx p) kd = none ∧ m' = false ∧ b' = b) ∨ (∃ q k, C (rtx p) kd = some (rtx q, k) ∧ m' = true ∧ WF b' lo hi at' q k s))
theorem OutR.uniq {m : Bool} {b : Int} {C : Str → Int → Option (Str × Int)} {m1 m2 : Bool} {b1 b2 : Int} (w : W45 b) (L : m = true → Law b) (h : OutR m b C m1 b1) (k : OutR m b C m2 b2) : m1 = m2 ∧ b1 = b2 := by
  rcases h with ⟨h1, h2, h3⟩ | ⟨h1, h2⟩ <;> rcases k with ⟨k1, k2, k3⟩ | ⟨k1, k2⟩
  · rw [h2, k2, h3, k3]; exact ⟨rfl, rfl⟩
  · rw [h1] at k1; cases k1
  · rw [h1] at k1; cases k1
  · obtain ⟨lo, hi, at', p, kd, s, _, W⟩ := wf_of w (L h1)
    rcases h2 _ _ _ _ _ _ W with ⟨a1, a2, a3⟩ | ⟨q, k, a1, a2, a3⟩ <;> rcases k2 _ _ _ _ _ _ W with ⟨c1, c2, c3⟩ | ⟨u, v, c1, c2, c3⟩
    · rw [a2, c2, a3, c3]; exact ⟨rfl, rfl⟩
    · rw [a1] at c1; cases c1
    · rw [a1] at c1; cases c1
    · rw [a1] at c1
      have e := Option.some.inj c1
      have e1 : rtx q = rtx u := congrArg Prod.fst e
      have e2 : k = v := congrArg Prod.snd e
      subst e2
      exact ⟨by rw [a2, c2], a3.same c3 e1⟩
theorem OutR.ok {m : Bool} {b : Int} {C : Str → Int → Option (Str × Int)} {m' : Bool} {b' : Int} (w : W45 b) (L : m = true → Law b) (h : OutR m b C m' b') : W45 b' ∧ (m' = true → m = true ∧ Law b') := by
  rcases h with ⟨h1, h2, h3⟩ | ⟨h1, h2⟩
  · rw [h3]; exact ⟨w, fun z => by rw [h2] at z; cases z⟩
  · obtain ⟨lo, hi, at', p, kd, s, _, W⟩ := wf_of w (L h1)
    rcases h2 _ _ _ _ _ _ W with ⟨a1, a2, a3⟩ | ⟨q, k, a1, a2, a3⟩
    · rw [a3]; exact ⟨w, fun z => by rw [a2] at z; cases z⟩
    · exact ⟨a3.all.1, fun _ => ⟨h1, a3.all.2.1⟩⟩
/-- .. from one form of the fields -/
theorem OutR.bare {b lo hi at' kd : Int} {p : Nat → Bool} {s : Nat} {C : Str → Int → Option (Str × Int)} (W : WF b lo hi at' p kd s) (h : C (rtx p) kd = none) : OutR true b C false b :=
  .inr ⟨rfl, fun lo' hi' a' p' k' s' W' => by
    have u := W.uniq W'
    rw [← u.2.2.2.1, ← u.2.2.2.2.1]
    exact .inl ⟨h, rfl, rfl⟩⟩
theorem OutR.made {b b' lo hi at' kd k : Int} {p q : Nat → Bool} {s s2 : Nat} {C : Str → Int → Option (Str × Int)} (W : WF b lo hi at' p kd s) (h : C (rtx p) kd = some (rtx q, k)) (W2 : WF b' lo hi at' q k s2) : OutR true b C true b' :=
  .inr ⟨rfl, fun lo' hi' a' p' k' s' W' => by
    have u := W.uniq W'
    have e := W.ex.1.uniq W2.ex.1
    rw [← u.1, ← u.2.1, ← u.2.2.1, ← u.2.2.2.1, ← u.2.2.2.2.1, ← u.2.2.2.2.2, e]
    exact .inr ⟨q, k, h, rfl, W2⟩⟩
def less (r0 r : Str) : Str := rtx (andp (hasR r0) (hasR r))
def nof : Nat → Bool := fun k => decide (k ≠ 5)
def lessC (r : Str) : Str → Int → Option (Str × Int) := fun r0 kd => if kd = 0 then some (less r0 r, 0) else none
def sealC (g : Bool) (z : Int) : Str → Int → Option (Str × Int) := fun r0 kd => if kd = 0 ∧ g = true then some (r0, z) else none
def openC (g : Bool) (z : Int) (f : Bool) : Str → Int → Option (Str × Int) := fun r0 kd => if g = true ∧ kd = z then some (if f = true then r0 else rtx (andp (hasR r0) nof), 0) else none
def bareC (f : Bool) : Str → Int → Option (Str × Int) := fun r0 _ => some (if f = true then r0 else rtx (andp (hasR r0) nof), 0)
def entC : Str → Int → Option (Str × Int) := fun r0 kd => if kd = 0 ∧ hasR r0 6 = true then some (r0, 1) else none
theorem less_rtx (p : Nat → Bool) (r : Str) : less (rtx p) r = rtx (andp p (hasR r)) := by
  unfold less andp
  exact rtx_congr fun k hk => by rw [hasR_rtx p hk]
theorem nof_rtx (p : Nat → Bool) : rtx (andp (hasR (rtx p)) nof) = rtx (andp p nof) := by
  unfold andp
  exact rtx_congr fun k hk => by rw [hasR_rtx p hk]
theorem andp_ow {p q : Nat → Bool} (o : OneW (rtx p)) : OneW (rtx (andp p q)) := ow_sub (fun k _ h => by unfold andp at h; exact (Bool.and_eq_true_iff.mp h).1) o
def Gives (m : Bool) (b : Int) (k : Nat) : Prop := m = true ∧ fKind b = 0 ∧ bitp (fRts b) k = true ∧ fFirst b * 2 ^ (fStep b).toNat ≤ fAt b ∧ fAt b < (fFirst b + fCnt b) * 2 ^ (fStep b).toNat ∧ 3 ≤ fAt b ∧ fAt b ≤ 15
instance (m : Bool) (b : Int) (k : Nat) : Decidable (Gives m b k) := by unfold Gives; infer_instance
theorem maskOf_sum (r : Str) : maskOf r = (mask (hasR r) 9).sum := rfl
/-- a text of rights, some of its signs -/
theorem filt_rtx (p : Nat → Bool) (f : Nat → Bool) : ((rtx p).cps.toList.filter f).map one = rcs (andp p fun k => f (code k)) 9 := by
  rw [rtx_codes]
  unfold rcs andp
  rw [List.filter_map, List.map_map, List.filter_filter]
  congr 1
  refine List.filter_congr fun k _ => ?_
  show (f (code k) && p k) = _
  rw [Bool.and_comm]
theorem replL1 (c : Nat) : ∀ l : List Nat, StrLaws.replL [c] [] l = l.filter fun d => decide (d ≠ c)
  | [] => StrLaws.replL_nil
  | d :: l => by
    by_cases h : d = c
    · subst h
      rw [StrLaws.replL_hit (by simp) (by simp)]
      simp only [List.nil_append, List.length_cons, List.length_nil, List.drop_succ_cons, List.drop_zero]
      rw [replL1 d l, List.filter_cons, if_neg (by simp)]
    · rw [StrLaws.replL_miss (by simpa using h), replL1 c l, List.filter_cons, if_pos (by simpa using h)]
theorem str_ext {x y : Str} (h : x.cps.toList = y.cps.toList) : x = y := by
  cases x; cases y
  simp only at h
  rw [Array.toList_inj.mp h]
theorem repl_rtx (p : Nat → Bool) : Txt.replace (rtx p) (Str.ofString "f") (Str.ofString "") = rtx (andp p nof) := by
  refine str_ext ?_
  rw [StrLaws.replace_list (by decide +kernel), show (Str.ofString "f").cps.toList = [102] by decide +kernel, show (Str.ofString "").cps.toList = [] by decide +kernel, replL1, rtx_codes, rtx_codes]
  unfold andp
  rw [List.filter_map, List.filter_filter]
  congr 1
  refine List.filter_congr fun k hk => ?_
  have k9 := List.mem_range.mp hk
  have e : decide (code k ≠ 102) = nof k := by
    unfold nof
    rw [decide_eq_decide]
    have h5 : code 5 = 102 := by decide
    constructor
    · intro h z; subst z; exact h h5
    · intro h z; exact h (code_inj k k9 5 (by decide) (z.trans h5.symm))
  show (decide (code k ≠ 102) && p k) = _
  rw [e, Bool.and_comm]
theorem sel2 (x y : V) (c : Bool) : atI [x, y] (if c = true then (1 : Int) else 0) = some (if c = true then y else x) := by cases c <;> rfl
theorem wf_rts {b lo hi at' kd : Int} {p q : Nat → Bool} {s : Nat} (W : WF b lo hi at' p kd s) (o : OneW (rtx q)) : WF (b + ((mask q 9).sum - fRts b) * 2 ^ 32) lo hi at' q kd s := by
  have mb := mask_b q 9 (Nat.le_refl _)
  exact (W.dec.setRts mb.1 (by omega)).wf W.bd W.ex o
theorem wf_kind {b lo hi at' kd z : Int} {p : Nat → Bool} {s : Nat} (W : WF b lo hi at' p kd s) (h0 : 0 ≤ z) (h1 : z ≤ 15) : WF (b + (z - fKind b) * 2 ^ 41) lo hi at' p z s :=
  (W.dec.setKind h0 h1).wf W.bd W.ex W.ow
theorem rts_b (b : Int) : 0 ≤ fRts b ∧ fRts b < 512 := ⟨Int.emod_nonneg _ (by decide), Int.emod_lt_of_pos _ (by decide)⟩
theorem kind_b (b : Int) : 0 ≤ fKind b ∧ fKind b ≤ 15 := by
  have h1 : 0 ≤ fKind b := Int.emod_nonneg _ (by decide)
  have h2 : fKind b < 16 := Int.emod_lt_of_pos _ (by decide)
  omega
theorem at_b (b : Int) : 0 ≤ fAt b ∧ fAt b ≤ 4095 := by
  have h1 : 0 ≤ fAt b := Int.emod_nonneg _ (by decide)
  have h2 : fAt b < 4096 := Int.emod_lt_of_pos _ (by decide)
  omega

theorem code_f {k : Nat} (hk : k < 9) : decide (code k ≠ 102) = nof k := by
  unfold nof
  rw [decide_eq_decide]
  have h5 : code 5 = 102 := by decide
  constructor
  · intro h z; subst z; exact h h5
  · intro h z; exact h (code_inj k hk 5 (by decide) (z.trans h5.symm))
theorem g_rtx (p : Nat → Bool) (f : Bool) : rtx (andp p fun k => decide (code k ≠ 102) || f) = if f = true then rtx p else rtx (andp (hasR (rtx p)) nof) := by
  cases f with
  | true =>
    rw [if_pos rfl]
    exact rtx_congr fun k hk => by unfold andp; simp
  | false =>
    rw [if_neg Bool.false_ne_true, nof_rtx]
    exact rtx_congr fun k hk => by
      show (p k && (decide (code k ≠ 102) || false)) = (p k && nof k)
      rw [code_f hk, Bool.or_false]
theorem one_ne {c d : Nat} : decide (V.str (one c) = V.str (one d)) = decide (c = d) := by
  rw [decide_eq_decide]
  constructor
  · intro h
    have h4 := congrArg (fun x : Str => x.cps.toList) (V.str.inj h)
    simpa [one] using h4
  · intro h; rw [h]
theorem dw_fit {m : Bool} {b : Int} (w : W45 b) : (dw m b).showable = true ∧ (dw m b).hasDict = false ∧ (dw m b).depth ≤ 50 ∧ (dw m b).shown.length ≤ sizeLine := by
  obtain ⟨a1, a2, a3, a4, a5⟩ := dw_small (m := m) w
  exact ⟨a1, a2, by rw [a5]; decide, shown_fit a3 (by omega)⟩
theorem dl2 {m1 m2 : Bool} {b1 b2 : Int} (w1 : W45 b1) (w2 : W45 b2) : (PyData.list [dw m1 b1, dw m2 b2]).showable = true ∧ (PyData.list [dw m1 b1, dw m2 b2]).hasDict = false ∧ (PyData.list [dw m1 b1, dw m2 b2]).depth ≤ 50 ∧ (PyData.list [dw m1 b1, dw m2 b2]).shown.length ≤ sizeLine := by
  obtain ⟨a1, a2, a3, a4, a5⟩ := dw_small (m := m1) w1
  obtain ⟨c1, c2, c3, c4, c5⟩ := dw_small (m := m2) w2
  refine ⟨?_, ?_, ?_, shown_fit ?_ ?_⟩
  · simp only [PyData.showable, PyData.showableAll, a1, c1, Bool.and_self]
  · simp only [PyData.hasDict, PyData.hasDictAll, a2, c2, Bool.or_self]
  · simp only [PyData.depth, PyData.depthAll, a5, c5]; decide
  · simp only [PyData.leavesShort, PyData.leavesShortAll, a3, c3, Bool.and_self]
  · simp only [PyData.weight, PyData.weightAll]; omega
/-- all of a list are words -/
def AllW (H : Hp) (vs : List V) : Prop := ∀ v ∈ vs, ∃ q m b, v = .ref q ∧ Wd H q m b
theorem AllW.same {H H' : Hp} {vs : List V} (h : AllW H vs) (s : Same H H') : AllW H' vs := fun v hv => by
  obtain ⟨q, m, b, e, w⟩ := h v hv
  exact ⟨q, m, b, e, w.same s⟩
theorem AllW.but {H H' : Hp} {a : Addr} {x y : Int} {vs : List V} (h : AllW H vs) (P : Pool H a x y) (s : But a H H') : AllW H' vs := fun v hv => by
  obtain ⟨q, m, b, e, w⟩ := h v hv
  exact ⟨q, m, b, e, w.but s (w.ne P)⟩
theorem Wd.upd {H : Hp} {q D : Addr} {m : Bool} {b : Int} {xs : List V} {o : HO} (h : Wd H q m b) (hD : H D = some (.lst xs)) : Wd (upd H D o) q m b := ⟨by
  have n : q ≠ D := by
    intro e; subst e
    have := h.at'
    rw [hD] at this; cases this
  rw [upd_ne n]; exact h.at', h.w, h.law⟩
theorem AllW.upd {H : Hp} {D : Addr} {vs xs : List V} {o : HO} (h : AllW H vs) (hD : H D = some (.lst xs)) : AllW (L2.upd H D o) vs := fun v hv => by
  obtain ⟨q, m, b, e, w⟩ := h v hv
  exact ⟨q, m, b, e, w.upd hD⟩

def topS (i : Nat) : Stmt := PySem.Challenge.pw_sealedreach_k12_words_walked_and_narrowe.main.body.getD i (.Pass ⟨0, 0, 0, 0⟩)
abbrev s_is_whole : Stmt := topS 4
abbrev s_are_bounds : Stmt := topS 8
abbrev s_look_at_bounds : Stmt := topS 9
abbrev s__steps_over : Stmt := topS 13
abbrev s_in_bits : Stmt := topS 12
abbrev s_least_bounds : Stmt := topS 11
abbrev s_is_exact : Stmt := topS 10
abbrev s_field : Stmt := topS 23
abbrev s_with_field : Stmt := topS 24
abbrev s_bounds_in : Stmt := topS 25
abbrev s__has_bounds : Stmt := topS 34
abbrev s_lies_within : Stmt := topS 27
abbrev s_is_sealed : Stmt := topS 30
abbrev s_without_mark : Stmt := topS 31
abbrev s_walked : Stmt := topS 28
abbrev s_narrow_bounds : Stmt := topS 32
abbrev s_with_bounds : Stmt := topS 33
abbrev s_narrowed : Stmt := topS 29
abbrev s__law_take : Stmt := topS 37
abbrev s__law_pool : Stmt := topS 36
abbrev s__law_least : Stmt := topS 38
abbrev s__law_fields : Stmt := topS 39
abbrev s__law_made : Stmt := topS 40
abbrev s__law_bounds : Stmt := topS 41
abbrev s__law_rights : Stmt := topS 42
abbrev s__law_word : Stmt := topS 43
abbrev s__law_is_open : Stmt := topS 44
abbrev s__law_bare : Stmt := topS 45
abbrev s__law_walked : Stmt := topS 46
abbrev s__law_narrowed : Stmt := topS 47
abbrev s__law_numbers : Stmt := topS 48
abbrev s_law : Stmt := topS 49
theorem sc_is_whole : FnScope ["thing", "least", "most"] ["thing", "least", "most"] (defScope s_is_whole) := ⟨rfl, rfl, rfl, by decide +kernel, rfl, by decide +kernel, by decide +kernel⟩
theorem sc_are_bounds : FnScope ["low", "high"] ["low", "high"] (defScope s_are_bounds) := ⟨rfl, rfl, rfl, by decide +kernel, rfl, by decide +kernel, by decide +kernel⟩
theorem sc_look_at_bounds : FnScope ["low", "high"] ["low", "high"] (defScope s_look_at_bounds) := ⟨rfl, rfl, rfl, by decide +kernel, rfl, by decide +kernel, by decide +kernel⟩
theorem sc__steps_over : FnScope ["low", "high", "step", "first", "behind"] ["low", "high", "step"] (defScope s__steps_over) := ⟨rfl, rfl, rfl, by decide +kernel, rfl, by decide +kernel, by decide +kernel⟩
theorem sc_in_bits : FnScope ["low", "high", "step"] ["low", "high"] (defScope s_in_bits) := ⟨rfl, rfl, rfl, by decide +kernel, rfl, by decide +kernel, by decide +kernel⟩
theorem sc_least_bounds : FnScope ["low", "high", "step", "first", "count"] ["low", "high"] (defScope s_least_bounds) := ⟨rfl, rfl, rfl, by decide +kernel, rfl, by decide +kernel, by decide +kernel⟩
theorem sc_is_exact : FnScope ["low", "high"] ["low", "high"] (defScope s_is_exact) := ⟨rfl, rfl, rfl, by decide +kernel, rfl, by decide +kernel, by decide +kernel⟩
theorem sc_field : FnScope ["bits", "place", "lowest", "many"] ["bits", "place"] (defScope s_field) := ⟨rfl, rfl, rfl, by decide +kernel, rfl, by decide +kernel, by decide +kernel⟩
theorem sc_with_field : FnScope ["bits", "place", "worth", "lowest", "_"] ["bits", "place", "worth"] (defScope s_with_field) := ⟨rfl, rfl, rfl, by decide +kernel, rfl, by decide +kernel, by decide +kernel⟩
theorem sc_bounds_in : FnScope ["bits", "step", "first"] ["bits"] (defScope s_bounds_in) := ⟨rfl, rfl, rfl, by decide +kernel, rfl, by decide +kernel, by decide +kernel⟩
theorem sc__has_bounds : FnScope ["word", "bounds", "low", "high"] ["word", "bounds"] (defScope s__has_bounds) := ⟨rfl, rfl, rfl, by decide +kernel, rfl, by decide +kernel, by decide +kernel⟩
theorem sc_lies_within : FnScope ["one", "other", "rights", "kind", "other_kind"] ["one", "other"] (defScope s_lies_within) := ⟨rfl, rfl, rfl, by decide +kernel, rfl, by decide +kernel, by decide +kernel⟩
theorem sc_is_sealed : FnScope ["bits"] ["bits"] (defScope s_is_sealed) := ⟨rfl, rfl, rfl, by decide +kernel, rfl, by decide +kernel, by decide +kernel⟩
theorem sc_without_mark : FnScope ["word"] ["word"] (defScope s_without_mark) := ⟨rfl, rfl, rfl, by decide +kernel, rfl, by decide +kernel, by decide +kernel⟩
theorem sc_walked : FnScope ["word", "number", "marked", "bits"] ["word", "number"] (defScope s_walked) := ⟨rfl, rfl, rfl, by decide +kernel, rfl, by decide +kernel, by decide +kernel⟩
theorem sc_narrow_bounds : FnScope ["at", "many", "exact", "low", "high"] ["at", "many", "exact"] (defScope s_narrow_bounds) := ⟨rfl, rfl, rfl, by decide +kernel, rfl, by decide +kernel, by decide +kernel⟩
theorem sc_with_bounds : FnScope ["bits", "bounds", "step", "first", "count"] ["bits", "bounds"] (defScope s_with_bounds) := ⟨rfl, rfl, rfl, by decide +kernel, rfl, by decide +kernel, by decide +kernel⟩
theorem sc_narrowed : FnScope ["word", "many", "exact", "marked", "bits", "bounds"] ["word", "many", "exact"] (defScope s_narrowed) := ⟨rfl, rfl, rfl, by decide +kernel, rfl, by decide +kernel, by decide +kernel⟩
theorem sc__law_take : FnScope ["_law_pool_here", "_law_many", "_law_found"] ["_law_pool_here", "_law_many"] (defScope s__law_take) := ⟨rfl, rfl, rfl, by decide +kernel, rfl, by decide +kernel, by decide +kernel⟩
theorem sc__law_pool : FnScope ["_law_script", "_law_k", "_law_cell", "_law_size", "_law_mixed"] ["_law_script", "_law_k"] (defScope s__law_pool) := ⟨rfl, rfl, rfl, by decide +kernel, rfl, by decide +kernel, by decide +kernel⟩
theorem sc__law_least : FnScope ["_law_low", "_law_high", "_law_step"] ["_law_low", "_law_high"] (defScope s__law_least) := ⟨rfl, rfl, rfl, by decide +kernel, rfl, by decide +kernel, by decide +kernel⟩
theorem sc__law_fields : FnScope ["_law_word_here", "_law_bits", "_law_first", "_law_count", "_law_step", "_law_signs", "_law_k", "_law_rights_here"] ["_law_word_here"] (defScope s__law_fields) := ⟨rfl, rfl, rfl, by decide +kernel, rfl, by decide +kernel, by decide +kernel⟩
theorem sc__law_made : FnScope ["_law_low", "_law_high", "_law_at", "_law_rights_here", "_law_kind", "_law_step", "_law_bits", "_law_place", "_law_sign"] ["_law_low", "_law_high", "_law_at", "_law_rights_here", "_law_kind"] (defScope s__law_made) := ⟨rfl, rfl, rfl, by decide +kernel, rfl, by decide +kernel, by decide +kernel⟩
theorem sc__law_bounds : FnScope ["_law_pool_here", "_law_low", "_law_many", "_law_own_low", "_law_own_high", "_law_step"] ["_law_pool_here"] (defScope s__law_bounds) := ⟨rfl, rfl, rfl, by decide +kernel, rfl, by decide +kernel, by decide +kernel⟩
theorem sc__law_rights : FnScope ["_law_pool_here", "_law_way", "_law_sign"] ["_law_pool_here"] (defScope s__law_rights) := ⟨rfl, rfl, rfl, by decide +kernel, rfl, by decide +kernel, by decide +kernel⟩
theorem sc__law_word : FnScope ["_law_pool_here", "_law_low", "_law_high", "_law_rights_here", "_law_at", "_law_kind", "_law_word_here"] ["_law_pool_here"] (defScope s__law_word) := ⟨rfl, rfl, rfl, by decide +kernel, rfl, by decide +kernel, by decide +kernel⟩
theorem sc__law_is_open : FnScope ["_law_word_here"] ["_law_word_here"] (defScope s__law_is_open) := ⟨rfl, rfl, rfl, by decide +kernel, rfl, by decide +kernel, by decide +kernel⟩
theorem sc__law_bare : FnScope ["_law_word_here"] ["_law_word_here"] (defScope s__law_bare) := ⟨rfl, rfl, rfl, by decide +kernel, rfl, by decide +kernel, by decide +kernel⟩
theorem sc__law_walked : FnScope ["_law_word_here", "_law_number", "_law_bits"] ["_law_word_here", "_law_number"] (defScope s__law_walked) := ⟨rfl, rfl, rfl, by decide +kernel, rfl, by decide +kernel, by decide +kernel⟩
theorem sc__law_narrowed : FnScope ["_law_word_here", "_law_many", "_law_just", "_law_low", "_law_high", "_law_at", "_law_rights_here", "_law_kind", "_law_own_low", "_law_own_high", "_law_step"] ["_law_word_here", "_law_many", "_law_just"] (defScope s__law_narrowed) := ⟨rfl, rfl, rfl, by decide +kernel, rfl, by decide +kernel, by decide +kernel⟩
theorem sc__law_numbers : FnScope ["_law_pool_here", "_law_word_here", "_law_found", "_law_fields_here", "_law_low", "_law_high", "_law_at", "_law_rights_here", "_law_kind"] ["_law_pool_here", "_law_word_here"] (defScope s__law_numbers) := ⟨rfl, rfl, rfl, by decide +kernel, rfl, by decide +kernel, by decide +kernel⟩
theorem sc_law : FnScope ["_law_script", "_law_k", "_law_pool_here", "_law_word_here", "_law_number", "_law_due", "_law_found", "_law_one"] ["_law_script"] (defScope s_law) := ⟨rfl, rfl, rfl, by decide +kernel, rfl, by decide +kernel, by decide +kernel⟩
structure Txt (K : PySem.W.Frag) (mg : Str → Option Value) : Prop where
  z_abs : mg "abs" = none
  z_bool : mg "bool" = none
  z_enumerate : mg "enumerate" = none
  z_int : mg "int" = none
  z_isinstance : mg "isinstance" = none
  z_len : mg "len" = none
  z_max : mg "max" = none
  z_min : mg "min" = none
  z_range : mg "range" = none
  z_repr : mg "repr" = none
  z_sum : mg "sum" = none
  c_AT : ∃ p, mg "AT" = some (.ref p) ∧ ∀ H, SqT K H p [.int 0, .int 12]
  c_CELLS : ∃ t, mg "CELLS" = some (.int 4096 t)
  c_COUNT_LESS_ONE : ∃ p, mg "COUNT_LESS_ONE" = some (.ref p) ∧ ∀ H, SqT K H p [.int 24, .int 4]
  c_FIRST : ∃ p, mg "FIRST" = some (.ref p) ∧ ∀ H, SqT K H p [.int 12, .int 12]
  c_GATE : ∃ t, mg "GATE" = some (.int 2 t)
  c_KIND : ∃ p, mg "KIND" = some (.ref p) ∧ ∀ H, SqT K H p [.int 41, .int 4]
  c_NOT_SEALED : ∃ t, mg "NOT_SEALED" = some (.int 0 t)
  c_RIGHTS_BITS : ∃ p, mg "RIGHTS_BITS" = some (.ref p) ∧ ∀ H, SqT K H p [.int 32, .int 9]
  c_STEP : ∃ p, mg "STEP" = some (.ref p) ∧ ∀ H, SqT K H p [.int 28, .int 4]
  c_TOP_COUNT : ∃ t, mg "TOP_COUNT" = some (.int 16 t)
section
variable {P : Program} {w : World} {K : PySem.W.Frag} {mg : Str → Option Value} {base : Heap}

def sp_is_whole (K : PySem.W.Frag) : Sp := fun vs H Q _ => ∃ v l m, vs = [v, .int l, .int m] ∧ Kd H v ∧ ∀ b, (b = true ↔ ∃ n, v = .int n ∧ l ≤ n ∧ n ≤ m) → Q (.bl b) H
theorem ok_is_whole {f : Addr} {fd : FuncData} (F : Fun K "is_whole" "is_whole" s_is_whole f fd) (T : Txt K mg) : FnOk P w K mg base CX0 1 f fd ["thing", "least", "most"] (sp_is_whole K) := by
  refine F.ok sc_is_whole (fun vs H Q E h => ?_) (fun cdv A outer s H vs Q E hr h => ?_)
  · obtain ⟨v, l, m, rfl, hv, q⟩ := h; rfl
  · obtain ⟨v, l, m, rfl, hv, q⟩ := h
    refine ⟨_, (pss_one (ps_ret (pe_and (pe_callB call_isi (by rfl) T.z_isinstance (by decide +kernel) (pa_cons (pv 0) (pa_cons (pe_bltn (v := .ty "int") (by rfl) T.z_int (by decide +kernel) rfl) pa_nil))) (pe_and (pe_not (pe_callB call_isi (by rfl) T.z_isinstance (by decide +kernel) (pa_cons (pv 0) (pa_cons (pe_bltn (v := .ty "bool") (by rfl) T.z_bool (by decide +kernel) rfl) pa_nil)))) (pe_one (pe_chain op_le op_le (pv 1) (pv 0) (pv 2))))))), ?_⟩
    obtain ⟨t, ty, kt⟩ := hv.int? (K := K)
    refine ⟨_, rfl, _, _, t, _, isI v, rfl, .ty "int", ty, kt, isI v, rfl, ifb (fun e1 => ?_) (fun e1 => ?_)⟩
    · obtain ⟨t2, ty2, kt2⟩ := hv.bool? (K := K)
      refine ⟨_, rfl, _, _, t2, _, isB v, rfl, .ty "bool", ty2, kt2, isB v, rfl, !isB v, rfl, ifnb (fun e2 => ?_) (fun e2 => ?_)⟩
      · obtain ⟨n, rfl⟩ : ∃ n, v = .int n := by
          cases hv with
          | int i => exact ⟨i, rfl⟩
          | bl b => cases e2
          | _ => cases e1
        refine ⟨_, rfl, _, rfl, _, _, rfl, rfl, _, rfl, ifd (fun h1 => ?_) (fun h1 => ?_)⟩
        · refine ⟨_, rfl, _, _, rfl, rfl, q _ ?_⟩
          rw [decide_eq_true_iff]
          exact ⟨fun h => ⟨n, rfl, h1, h⟩, fun ⟨n', e, h3, h4⟩ => by cases e; exact h4⟩
        · refine q _ ⟨fun h => Bool.noConfusion h, fun ⟨n', e, h3, h4⟩ => by cases e; exact absurd h3 h1⟩
      · refine q _ ⟨fun h => Bool.noConfusion h, fun ⟨n', e, h3, h4⟩ => by cases e; cases e2⟩
    · refine q _ ⟨fun h => Bool.noConfusion h, fun ⟨n', e, h3, h4⟩ => by cases e; cases e1⟩

def sp_are_bounds (K : PySem.W.Frag) : Sp := fun vs H Q _ => ∃ v u, vs = [v, u] ∧ Kd H v ∧ Kd H u ∧ ∀ b, (b = true ↔ ∃ lo hi, v = .int lo ∧ u = .int hi ∧ Bd lo hi) → Q (.bl b) H
theorem ok_are_bounds {f : Addr} {fd : FuncData} (F : Fun K "are_bounds" "are_bounds" s_are_bounds f fd) (T : Txt K mg) (C_is_whole : Cal P w K mg base "is_whole" 1 ["thing", "least", "most"] (sp_is_whole K)) : FnOk P w K mg base CX0 2 f fd ["low", "high"] (sp_are_bounds K) := by
  obtain ⟨t_CELLS, hc_CELLS⟩ := T.c_CELLS
  refine F.ok sc_are_bounds (fun vs H Q E h => ?_) (fun cdv A outer s H vs Q E hr h => ?_)
  · obtain ⟨v, u, rfl, hv, hu, q⟩ := h; rfl
  · obtain ⟨v, u, rfl, hv, hu, q⟩ := h
    refine ⟨_, (pss_one (ps_ret (pe_and (pe_cal C_is_whole (hr.mono (by decide)) (pa_cons (pv 0) (pa_cons pe_int (pa_cons (pe_glob (v := .int 4096) (by rfl) hc_CELLS ⟨_, rfl⟩) pa_nil)))) (pe_and (pe_cal C_is_whole (hr.mono (by decide)) (pa_cons (pv 1) (pa_cons pe_int (pa_cons (pe_glob (v := .int 4096) (by rfl) hc_CELLS ⟨_, rfl⟩) pa_nil)))) (pe_one (pe_cmpR op_lt (pv 0) (pv 1) (nomark _))))))), ?_⟩
    refine ⟨_, rfl, _, _, _, rfl, hv, fun b hb => ⟨_, rfl, ifb (fun e => ?_) (fun e => ?_)⟩⟩
    · refine ⟨_, rfl, _, _, _, rfl, hu, fun c hc => ⟨_, rfl, ifb (fun e2 => ?_) (fun e2 => ?_)⟩⟩
      · obtain ⟨lo, rfl, l1, l2⟩ := hb.mp e
        obtain ⟨hi, rfl, l3, l4⟩ := hc.mp e2
        refine ⟨_, rfl, _, rfl, _, _, rfl, rfl, q _ ?_⟩
        rw [decide_eq_true_iff]
        exact ⟨fun h => ⟨lo, hi, rfl, rfl, l1, h, l4⟩, fun ⟨a, c, e3, e4, h⟩ => by cases e3; cases e4; exact h.2.1⟩
      · refine q _ ⟨fun h => Bool.noConfusion h, fun ⟨a, c, e3, e4, h⟩ => ?_⟩
        obtain ⟨h1, h2, h3⟩ := h
        rw [hc.mpr ⟨c, e4, by omega, h3⟩] at e2; cases e2
    · refine q _ ⟨fun h => Bool.noConfusion h, fun ⟨a, c, e3, e4, h⟩ => ?_⟩
      obtain ⟨h1, h2, h3⟩ := h
      rw [hb.mpr ⟨a, e3, h1, by omega⟩] at e; cases e

def sp_look_at_bounds (K : PySem.W.Frag) : Sp := fun vs H Q _ => ∃ lo hi, vs = [.int lo, .int hi] ∧ Bd lo hi ∧ Q .non H
theorem ok_look_at_bounds {f : Addr} {fd : FuncData} (F : Fun K "look_at_bounds" "look_at_bounds" s_look_at_bounds f fd) (T : Txt K mg) (C_are_bounds : Cal P w K mg base "are_bounds" 2 ["low", "high"] (sp_are_bounds K)) : FnOk P w K mg base CX0 3 f fd ["low", "high"] (sp_look_at_bounds K) := by
  refine F.ok sc_look_at_bounds (fun vs H Q E h => ?_) (fun cdv A outer s H vs Q E hr h => ?_)
  · obtain ⟨lo, hi, rfl, hb, q⟩ := h; rfl
  · obtain ⟨lo, hi, rfl, hb, q⟩ := h
    refine ⟨_, (pss_one (ps_if (pt_not (pt_val (pe_cal C_are_bounds (hr.mono (by decide)) (pa_cons (pv 0) (pa_cons (pv 1) pa_nil))))) (pss_one ps_never) pss_nil)), ?_⟩
    refine ⟨_, rfl, _, rfl, .int lo, .int hi, rfl, .int _, .int _, fun b hb2 => ⟨_, rfl, ?_⟩⟩
    have e : b = true := hb2.mpr ⟨lo, hi, rfl, rfl, hb⟩
    subst e
    exact q

def sp__steps_over (K : PySem.W.Frag) : Sp := fun vs H Q _ => ∃ (lo hi : Int) (s : Nat), vs = [.int lo, .int hi, .int s] ∧ s ≤ 1000 ∧ Q (.int (Dd lo hi s + 1)) H
theorem ok__steps_over {f : Addr} {fd : FuncData} (F : Fun K "_steps_over" "_steps_over" s__steps_over f fd) (T : Txt K mg) : FnOk P w K mg base CX0 1 f fd ["low", "high", "step"] (sp__steps_over K) := by
  refine F.ok sc__steps_over (fun vs H Q E h => ?_) (fun cdv A outer s H vs Q E hr h => ?_)
  · obtain ⟨lo, hi, s, rfl, hs, q⟩ := h; rfl
  · obtain ⟨lo, hi, s, rfl, hs, q⟩ := h
    refine ⟨_, (pss_cons (ps_set (i := 3) sc__steps_over.nd rfl (.inl rfl) (pe_op op_shr (pv 0) (pv 2)))
      (pss_cons (ps_set (i := 4) sc__steps_over.nd rfl (.inl rfl) (pe_op op_shr (pe_op op_sub (pe_op op_add (pv 1) (pe_op op_shl pe_int (pv 2))) pe_int) (pv 2)))
      (pss_one (ps_ret (pe_op op_sub (pv 4) (pv 3)))))), ?_⟩
    walk_at "g"
    rw [← over_eq] at q
    exact q

def sp_in_bits (K : PySem.W.Frag) : Sp := fun vs H Q _ => ∃ lo hi, vs = [.int lo, .int hi] ∧ Bd lo hi ∧ ∀ (s : Nat) p, StepIs lo hi s → H p = none → Q (.ref p) (upd H p (.tup [.int s, .int (lo / 2 ^ s), .int (Dd lo hi s + 1)]))
theorem ok_in_bits {f : Addr} {fd : FuncData} (F : Fun K "in_bits" "in_bits" s_in_bits f fd) (T : Txt K mg) (C_look_at_bounds : Cal P w K mg base "look_at_bounds" 3 ["low", "high"] (sp_look_at_bounds K)) (C__steps_over : Cal P w K mg base "_steps_over" 1 ["low", "high", "step"] (sp__steps_over K)) : FnOk P w K mg base CX0 4 f fd ["low", "high"] (sp_in_bits K) := by
  obtain ⟨t_TOP_COUNT, hc_TOP_COUNT⟩ := T.c_TOP_COUNT
  refine F.ok sc_in_bits (fun vs H Q E h => ?_) (fun cdv A outer s H vs Q E hr h => ?_)
  · obtain ⟨lo, hi, rfl, hb, q⟩ := h; rfl
  · obtain ⟨lo, hi, rfl, hb, q⟩ := h
    refine ⟨_, (pss_cons (ps_expr (pe_cal C_look_at_bounds (hr.mono (by decide)) (pa_cons (pv 0) (pa_cons (pv 1) pa_nil))))
      (pss_cons (ps_set (i := 2) sc_in_bits.nd rfl (.inl rfl) pe_int)
      (pss_cons (ps_while PassesOwn.never (pt_cmpR op_gt (pe_cal C__steps_over (hr.mono (by decide)) (pa_cons (pv 0) (pa_cons (pv 1) (pa_cons (pv 2) pa_nil)))) (pe_glob (v := .int 16) (by rfl) hc_TOP_COUNT ⟨_, rfl⟩) (nomark _)) (pss_one (ps_aug (i := 2) sc_in_bits.nd rfl (.inl rfl) pe_int ip_add)))
      (pss_one (ps_ret (pe_tup (pa_cons (pv 2) (pa_cons (pe_op op_shr (pv 0) (pv 2)) (pa_cons (pe_cal C__steps_over (hr.mono (by decide)) (pa_cons (pv 0) (pa_cons (pv 1) (pa_cons (pv 2) pa_nil)))) pa_nil))))))))), ?_⟩
    refine ⟨_, rfl, _, rfl, lo, hi, rfl, hb, ?_⟩
    refine ⟨fun m σ H' => ∃ s : Nat, σ = [some (.int lo), some (.int hi), some (.int s)] ∧ H' = H ∧ s ≤ 8 ∧ m = 8 - s ∧ ∀ t, t < s → 15 < Dd lo hi t, ⟨8, 0, rfl, rfl, by omega, rfl, fun t ht => by omega⟩, ?_⟩
    rintro m σ H' ⟨s, rfl, rfl, h8, em, hbl⟩
    refine ⟨_, rfl, _, rfl, _, rfl, lo, hi, s, rfl, by omega, ?_⟩
    refine ⟨_, _, rfl, rfl, _, rfl, ifd (fun c => ?_) (fun c => ?_)⟩
    · have l8 := lt8 hb (by omega) h8
      refine ⟨_, fun _ _ h => h, ?_⟩
      refine ⟨_, rfl, _, _, rfl, rfl, 8 - (s + 1), by omega, s + 1, rfl, rfl, by omega, rfl, fun t ht => ?_⟩
      rcases Nat.lt_or_ge t s with d | d
      · exact hbl t d
      · have : t = s := by omega
        subst this; omega
    · refine ⟨_, rfl, _, rfl, _, rfl, _, _, rfl, rfl, by omega, ?_⟩
      refine ⟨_, rfl, _, rfl, _, rfl, lo, hi, s, rfl, by omega, ?_⟩
      refine ⟨sz (by simp), fun p hp => ?_⟩
      exact q s p ⟨h8, by omega, hbl⟩ hp

def sp_least_bounds (K : PySem.W.Frag) : Sp := fun vs H Q _ => ∃ lo hi, vs = [.int lo, .int hi] ∧ Bd lo hi ∧ ∀ (s : Nat) p H', StepIs lo hi s → Same H H' → H p = none → H' p = some (.tup [.int (lo / 2 ^ s * 2 ^ s), .int (((hi - 1) / 2 ^ s + 1) * 2 ^ s)]) → Q (.ref p) H'
theorem ok_least_bounds {f : Addr} {fd : FuncData} (F : Fun K "least_bounds" "least_bounds" s_least_bounds f fd) (T : Txt K mg) (C_in_bits : Cal P w K mg base "in_bits" 4 ["low", "high"] (sp_in_bits K)) : FnOk P w K mg base CX0 5 f fd ["low", "high"] (sp_least_bounds K) := by
  refine F.ok sc_least_bounds (fun vs H Q E h => ?_) (fun cdv A outer s H vs Q E hr h => ?_)
  · obtain ⟨lo, hi, rfl, hb, q⟩ := h; rfl
  · obtain ⟨lo, hi, rfl, hb, q⟩ := h
    refine ⟨_, (pss_cons (ps_asg (pe_cal C_in_bits (hr.mono (by decide)) (pa_cons (pv 0) (pa_cons (pv 1) pa_nil))) (pg_tup rfl (pgs_cons (pg_name (i := 2) sc_least_bounds.nd rfl (.inl rfl)) (pgs_cons (pg_name (i := 3) sc_least_bounds.nd rfl (.inl rfl)) (pgs_cons (pg_name (i := 4) sc_least_bounds.nd rfl (.inl rfl)) pgs_nil)))))
      (pss_one (ps_ret (pe_tup (pa_cons (pe_op op_shl (pv 3) (pv 2)) (pa_cons (pe_op op_shl (pe_op op_add (pv 3) (pv 4)) (pv 2)) pa_nil)))))), ?_⟩
    refine ⟨_, rfl, _, rfl, lo, hi, rfl, hb, fun s p hs hp => ?_⟩
    refine ⟨p, _, rfl, .of upd_same, rfl, _, _, rfl, _, _, rfl, _, _, rfl, rfl, ?_⟩
    have h8 := hs.1
    refine ⟨_, rfl, _, rfl, _, _, rfl, rfl, bc hb h8, ?_⟩
    refine ⟨_, rfl, _, rfl, _, _, rfl, rfl, _, rfl, _, _, rfl, rfl, bc2 hb hs, sz (by simp), fun p2 hp2 => ?_⟩
    have n : p ≠ p2 := ne_of_none upd_same hp2
    refine q s p2 _ hs (sameN (same_new hp) hp2) ?_ ?_
    · exact Same.free (same_new hp) hp2
    · rw [upd_same, first_over]; rfl

def sp_is_exact (K : PySem.W.Frag) : Sp := fun vs H Q _ => ∃ lo hi, vs = [.int lo, .int hi] ∧ Bd lo hi ∧ ∀ b H', Same H H' → (b = true ↔ ∃ s, Ex lo hi s) → Q (.bl b) H'
theorem ok_is_exact {f : Addr} {fd : FuncData} (F : Fun K "is_exact" "is_exact" s_is_exact f fd) (T : Txt K mg) (C_least_bounds : Cal P w K mg base "least_bounds" 5 ["low", "high"] (sp_least_bounds K)) : FnOk P w K mg base CX0 6 f fd ["low", "high"] (sp_is_exact K) := by
  refine F.ok sc_is_exact (fun vs H Q E h => ?_) (fun cdv A outer s H vs Q E hr h => ?_)
  · obtain ⟨lo, hi, rfl, hb, q⟩ := h; rfl
  · obtain ⟨lo, hi, rfl, hb, q⟩ := h
    refine ⟨_, (pss_one (ps_ret (pe_cmpR (r := rEqD K) (op_eqD hr.units) (pe_cal C_least_bounds (hr.mono (by decide)) (pa_cons (pv 0) (pa_cons (pv 1) pa_nil))) (pe_tup (pa_cons (pv 0) (pa_cons (pv 1) pa_nil))) (nomark _)))), ?_⟩
    refine ⟨_, rfl, _, rfl, lo, hi, rfl, hb, fun s p H1 hs sm hp hp1 => ?_⟩
    refine ⟨_, rfl, _, rfl, sz (by simp), fun p2 hp2 => ?_⟩
    have n : p ≠ p2 := ne_of_none hp1 hp2
    refine ⟨_, _, dp2 (by walk_at "at"), dp2 upd_same, rfl, rfl, ?_⟩
    refine q _ _ (sameN sm hp2) ?_
    rw [t2_eqv]
    constructor
    · intro e; exact ⟨s, hs, e.1, e.2⟩
    · rintro ⟨t, ht, e1, e2⟩
      have : t = s := ht.uniq hs
      subst this
      exact ⟨e1, e2⟩

def sp_field (K : PySem.W.Frag) : Sp := fun vs H Q _ => ∃ (b : Int) (p : Addr) (lo mn : Nat), vs = [.int b, .ref p] ∧ SqT K H p [.int lo, .int mn] ∧ 0 ≤ b ∧ lo ≤ 100 ∧ mn ≤ 100 ∧ Q (.int (b / 2 ^ lo % 2 ^ mn)) H
theorem ok_field {f : Addr} {fd : FuncData} (F : Fun K "field" "field" s_field f fd) (T : Txt K mg) : FnOk P w K mg base CX0 1 f fd ["bits", "place"] (sp_field K) := by
  refine F.ok sc_field (fun vs H Q E h => ?_) (fun cdv A outer s H vs Q E hr h => ?_)
  · obtain ⟨b, p, lo, mn, rfl, hp, hb, hlo, hmn, q⟩ := h; rfl
  · obtain ⟨b, p, lo, mn, rfl, hp, hb, hlo, hmn, q⟩ := h
    refine ⟨_, (pss_cons (ps_asg (pv 1) (pg_tup rfl (pgs_cons (pg_name (i := 2) sc_field.nd rfl (.inl rfl)) (pgs_cons (pg_name (i := 3) sc_field.nd rfl (.inl rfl)) pgs_nil))))
      (pss_one (ps_ret (pe_op op_and (pe_op op_shr (pv 0) (pv 2)) (pe_op op_sub (pe_op op_shl pe_int (pv 3)) pe_int))))), ?_⟩
    refine ⟨_, rfl, p, _, rfl, hp, rfl, _, _, rfl, _, _, rfl, rfl, ?_⟩
    refine ⟨_, rfl, _, rfl, _, _, rfl, rfl, by omega, _, rfl, _, _, rfl, rfl, ⟨by omega, by omega, by decide⟩, _, _, rfl, rfl, _, _, rfl, rfl, ?_⟩
    have e : Builtin.bitAnd (b / 2 ^ lo) (1 * 2 ^ mn - 1) = b / 2 ^ lo % 2 ^ mn := by
      rw [Int.one_mul, Bits.bitAnd_mask mn (Int.ediv_nonneg hb (Int.le_of_lt (pow_pos2 lo)))]
    exact qi q e

def sp_with_field (K : PySem.W.Frag) : Sp := fun vs H Q _ => ∃ (b : Int) (p : Addr) (lo mn : Nat) (z : Int), vs = [.int b, .ref p, .int z] ∧ SqT K H p [.int lo, .int mn] ∧ 0 ≤ b ∧ lo ≤ 100 ∧ mn ≤ 100 ∧ (z - b / 2 ^ lo % 2 ^ mn).natAbs < 2 ^ 64 ∧ Q (.int (b + (z - b / 2 ^ lo % 2 ^ mn) * 2 ^ lo)) H
theorem ok_with_field {f : Addr} {fd : FuncData} (F : Fun K "with_field" "with_field" s_with_field f fd) (T : Txt K mg) (C_field : Cal P w K mg base "field" 1 ["bits", "place"] (sp_field K)) : FnOk P w K mg base CX0 2 f fd ["bits", "place", "worth"] (sp_with_field K) := by
  refine F.ok sc_with_field (fun vs H Q E h => ?_) (fun cdv A outer s H vs Q E hr h => ?_)
  · obtain ⟨b, p, lo, mn, z, rfl, hp, hb, hlo, hmn, hz, q⟩ := h; rfl
  · obtain ⟨b, p, lo, mn, z, rfl, hp, hb, hlo, hmn, hz, q⟩ := h
    refine ⟨_, (pss_cons (ps_asg (pv 1) (pg_tup rfl (pgs_cons (pg_name (i := 3) sc_with_field.nd rfl (.inl rfl)) (pgs_cons (pg_name (i := 4) sc_with_field.nd rfl (.inl rfl)) pgs_nil))))
      (pss_one (ps_ret (pe_op op_add (pv 0) (pe_op op_shl (pe_op op_sub (pv 2) (pe_cal C_field (hr.mono (by decide)) (pa_cons (pv 0) (pa_cons (pv 1) pa_nil)))) (pv 3)))))), ?_⟩
    refine ⟨_, rfl, p, _, rfl, hp, rfl, _, _, rfl, _, _, rfl, rfl, ?_⟩
    refine ⟨_, rfl, _, rfl, _, rfl, _, rfl, b, p, lo, mn, rfl, hp, hb, hlo, hmn, _, _, rfl, rfl, _, rfl, _, _, rfl, rfl, ⟨by omega, by omega, hz⟩, _, _, rfl, rfl, ?_⟩
    exact q

def sp_bounds_in (K : PySem.W.Frag) : Sp := fun vs H Q _ => ∃ b : Int, vs = [.int b] ∧ 0 ≤ b ∧ ∀ p H', Same H H' → H p = none → H' p = some (.tup [.int (fFirst b * 2 ^ (fStep b).toNat), .int ((fFirst b + fCnt b) * 2 ^ (fStep b).toNat)]) → Q (.ref p) H'
theorem ok_bounds_in {f : Addr} {fd : FuncData} (F : Fun K "bounds_in" "bounds_in" s_bounds_in f fd) (T : Txt K mg) (C_field : Cal P w K mg base "field" 1 ["bits", "place"] (sp_field K)) : FnOk P w K mg base CX0 2 f fd ["bits"] (sp_bounds_in K) := by
  obtain ⟨p_COUNT_LESS_ONE, hc_COUNT_LESS_ONE, hs_COUNT_LESS_ONE⟩ := T.c_COUNT_LESS_ONE
  obtain ⟨p_FIRST, hc_FIRST, hs_FIRST⟩ := T.c_FIRST
  obtain ⟨p_STEP, hc_STEP, hs_STEP⟩ := T.c_STEP
  refine F.ok sc_bounds_in (fun vs H Q E h => ?_) (fun cdv A outer s H vs Q E hr h => ?_)
  · obtain ⟨b, rfl, hb, q⟩ := h; rfl
  · obtain ⟨b, rfl, hb, q⟩ := h
    refine ⟨_, (pss_cons (ps_set (i := 1) sc_bounds_in.nd rfl (.inl rfl) (pe_cal C_field (hr.mono (by decide)) (pa_cons (pv 0) (pa_cons (pe_glob (v := .ref p_STEP) (by rfl) hc_STEP rfl) pa_nil))))
      (pss_cons (ps_set (i := 2) sc_bounds_in.nd rfl (.inl rfl) (pe_cal C_field (hr.mono (by decide)) (pa_cons (pv 0) (pa_cons (pe_glob (v := .ref p_FIRST) (by rfl) hc_FIRST rfl) pa_nil))))
      (pss_one (ps_ret (pe_tup (pa_cons (pe_op op_shl (pv 2) (pv 1)) (pa_cons (pe_op op_shl (pe_op op_add (pe_op op_add (pv 2) (pe_cal C_field (hr.mono (by decide)) (pa_cons (pv 0) (pa_cons (pe_glob (v := .ref p_COUNT_LESS_ONE) (by rfl) hc_COUNT_LESS_ONE rfl) pa_nil)))) pe_int) (pv 1)) pa_nil))))))), ?_⟩
    have f := fb b
    refine ⟨_, rfl, b, p_STEP, 28, 4, rfl, hs_STEP _, hb, by decide, by decide, ?_⟩
    refine ⟨_, rfl, b, p_FIRST, 12, 12, rfl, hs_FIRST _, hb, by decide, by decide, ?_⟩
    refine ⟨_, rfl, _, rfl, _, _, rfl, rfl, cpw (z := fFirst b) (s := fStep b) (by omega) (by omega) (by omega) (by omega), ?_⟩
    refine ⟨_, rfl, _, rfl, b, p_COUNT_LESS_ONE, 24, 4, rfl, hs_COUNT_LESS_ONE _, hb, by decide, by decide, _, _, rfl, rfl, _, _, rfl, rfl, _, rfl, _, _, rfl, rfl, cpw (z := fFirst b + (b / 2 ^ 24 % 2 ^ 4) + 1) (s := fStep b) (by unfold fCnt at f; omega) (by unfold fCnt at f; omega) (by omega) (by omega), sz (by simp), fun p hp => ?_⟩
    refine q p _ (same_new hp) hp ?_
    rw [upd_same]
    have e2 : fFirst b + (b / 2 ^ 24 % 2 ^ 4) + 1 = fFirst b + fCnt b := by unfold fCnt; omega
    rw [← e2]
    rfl

def sp__has_bounds (K : PySem.W.Frag) : Sp := fun vs H Q _ => ∃ p q lo hi at' kd l h s b pr, vs = [.ref p, .ref q] ∧ Wd H p true b ∧ WF b lo hi at' pr kd s ∧ SqT K H q [.int l, .int h] ∧ ∀ r H', Same H H' → (r = true ↔ lo ≤ l ∧ h ≤ hi) → Q (.bl r) H'
theorem ok__has_bounds {f : Addr} {fd : FuncData} (F : Fun K "_has_bounds" "_has_bounds" s__has_bounds f fd) (T : Txt K mg) (C_bounds_in : Cal P w K mg base "bounds_in" 2 ["bits"] (sp_bounds_in K)) : FnOk P w K mg base CX0 3 f fd ["word", "bounds"] (sp__has_bounds K) := by
  refine F.ok sc__has_bounds (fun vs H Q E h => ?_) (fun cdv A outer s H vs Q E hr h => ?_)
  · obtain ⟨p, q1, lo, hi, at', kd, l, h, s1, b, pr, rfl, hw, W, hq, q⟩ := h; rfl
  · obtain ⟨p, q1, lo, hi, at', kd, l, h, s1, b, pr, rfl, hw, W, hq, q⟩ := h
    refine ⟨_, (pss_cons (ps_asg (pe_cal C_bounds_in (hr.mono (by decide)) (pa_cons (pe_ix (r := rIxT K) ix_tup (pv 0) pe_int (fun _ _ => rfl)) pa_nil)) (pg_tup rfl (pgs_cons (pg_name (i := 2) sc__has_bounds.nd rfl (.inl rfl)) (pgs_cons (pg_name (i := 3) sc__has_bounds.nd rfl (.inl rfl)) pgs_nil))))
      (pss_one (ps_ret (pe_and (pe_cmpR op_le (pv 2) (pe_ix (r := rIxT K) ix_tup (pv 1) pe_int (fun _ _ => rfl)) (nomark _)) (pe_one (pe_cmpR op_le (pe_ix (r := rIxT K) ix_tup (pv 1) pe_int (fun _ _ => rfl)) (pv 3) (nomark _))))))), ?_⟩
    refine ⟨_, rfl, p, _, 1, _, rfl, rfl, .of hw.at', atI_nat (j := 1) rfl, b, rfl, hw.w.1, fun f1 H1 s1 hf1 hf12 => ?_⟩
    rw [W.lohi.1, W.lohi.2] at hf12
    refine ⟨f1, _, rfl, .of hf12, rfl, _, _, rfl, _, _, rfl, rfl, ?_⟩
    refine ⟨_, rfl, _, rfl, q1, _, 0, _, rfl, rfl, (seqT' s1 hq), atI_nat (j := 0) rfl, _, _, rfl, rfl, _, rfl, ifd (fun c => ?_) (fun c => ?_)⟩
    · refine ⟨_, rfl, q1, _, 1, _, rfl, rfl, (seqT' s1 hq), atI_nat (j := 1) rfl, _, rfl, _, _, rfl, rfl, q _ _ s1 ?_⟩
      rw [decide_eq_true_iff]
      exact ⟨fun h => ⟨c, h⟩, fun h => h.2⟩
    · exact q _ _ s1 ⟨fun h => Bool.noConfusion h, fun h => absurd h.1 c⟩

def sp_lies_within (K : PySem.W.Frag) : Sp := fun vs H Q _ => ∃ p q m n b c, vs = [.ref p, .ref q] ∧ Wd H p m b ∧ Wd H q n c ∧ ∀ r H', Same H H' → (r = true ↔ m = true ∧ n = true ∧ Within b c) → Q (.bl r) H'
theorem ok_lies_within {f : Addr} {fd : FuncData} (F : Fun K "lies_within" "lies_within" s_lies_within f fd) (T : Txt K mg) (C_field : Cal P w K mg base "field" 1 ["bits", "place"] (sp_field K)) (C_bounds_in : Cal P w K mg base "bounds_in" 2 ["bits"] (sp_bounds_in K)) (C__has_bounds : Cal P w K mg base "_has_bounds" 3 ["word", "bounds"] (sp__has_bounds K)) : FnOk P w K mg base CX0 4 f fd ["one", "other"] (sp_lies_within K) := by
  obtain ⟨t_GATE, hc_GATE⟩ := T.c_GATE
  obtain ⟨p_KIND, hc_KIND, hs_KIND⟩ := T.c_KIND
  obtain ⟨t_NOT_SEALED, hc_NOT_SEALED⟩ := T.c_NOT_SEALED
  obtain ⟨p_RIGHTS_BITS, hc_RIGHTS_BITS, hs_RIGHTS_BITS⟩ := T.c_RIGHTS_BITS
  refine F.ok sc_lies_within (fun vs H Q E h => ?_) (fun cdv A outer s H vs Q E hr h => ?_)
  · obtain ⟨p, q1, m, n, b, c, rfl, hp, hq, q⟩ := h; rfl
  · obtain ⟨p, q1, m, n, b, c, rfl, hp, hq, q⟩ := h
    refine ⟨_, (pss_cons (ps_if (PW.pt (pw_or (pt_not (pt_val (pe_ix (r := rIxT K) ix_tup (pv 0) pe_int (fun _ _ => rfl)))) (pw_or1 (pt_not (pt_val (pe_ix (r := rIxT K) ix_tup (pv 1) pe_int (fun _ _ => rfl))))))) (pss_one (ps_ret pe_bl)) pss_nil)
      (pss_cons (ps_if (pt_not (pt_val (pe_cal C__has_bounds (hr.mono (by decide)) (pa_cons (pv 1) (pa_cons (pe_cal C_bounds_in (hr.mono (by decide)) (pa_cons (pe_ix (r := rIxT K) ix_tup (pv 0) pe_int (fun _ _ => rfl)) pa_nil)) pa_nil))))) (pss_one (ps_ret pe_bl)) pss_nil)
      (pss_cons (ps_set (i := 2) sc_lies_within.nd rfl (.inl rfl) (pe_cal C_field (hr.mono (by decide)) (pa_cons (pe_ix (r := rIxT K) ix_tup (pv 0) pe_int (fun _ _ => rfl)) (pa_cons (pe_glob (v := .ref p_RIGHTS_BITS) (by rfl) hc_RIGHTS_BITS rfl) pa_nil))))
      (pss_cons (ps_if (pt_cmpR op_ne (pe_op op_and (pv 2) (pe_cal C_field (hr.mono (by decide)) (pa_cons (pe_ix (r := rIxT K) ix_tup (pv 1) pe_int (fun _ _ => rfl)) (pa_cons (pe_glob (v := .ref p_RIGHTS_BITS) (by rfl) hc_RIGHTS_BITS rfl) pa_nil)))) (pv 2) (nomark _)) (pss_one (ps_ret pe_bl)) pss_nil)
      (pss_cons (ps_par (i := 3) (j := 4) rfl sc_lies_within.nd rfl rfl (by decide) rfl rfl (pa_cons (pe_cal C_field (hr.mono (by decide)) (pa_cons (pe_ix (r := rIxT K) ix_tup (pv 0) pe_int (fun _ _ => rfl)) (pa_cons (pe_glob (v := .ref p_KIND) (by rfl) hc_KIND rfl) pa_nil))) (pa_cons (pe_cal C_field (hr.mono (by decide)) (pa_cons (pe_ix (r := rIxT K) ix_tup (pv 1) pe_int (fun _ _ => rfl)) (pa_cons (pe_glob (v := .ref p_KIND) (by rfl) hc_KIND rfl) pa_nil))) pa_nil)) (by rfl))
      (pss_one (ps_ret (pe_or (pe_cmpR op_eq (pv 3) (pv 4) (nomark _)) (pe_one (pe_and (pe_cmpR op_eq (pv 4) (pe_glob (v := .int 0) (by rfl) hc_NOT_SEALED ⟨_, rfl⟩) (nomark _)) (pe_one (pe_cmpR op_ne (pv 3) (pe_glob (v := .int 2) (by rfl) hc_GATE ⟨_, rfl⟩) (nomark _))))))))))))), ?_⟩
    have no : ∀ H', Same H H' → ¬ (m = true ∧ n = true ∧ Within b c) → Q (.bl false) H' := fun H' s z => q _ _ s ⟨fun h => Bool.noConfusion h, fun h => absurd h z⟩
    refine ⟨_, rfl, p, _, 0, _, rfl, rfl, .of hp.at', atI_nat (j := 0) rfl, m, rfl, ifnb (fun e => ?_) (fun e1 => ?_)⟩
    · show Q (.bl false) H
      exact no _ (Same.refl _) (fun z => by rw [z.1] at e; cases e)
    refine ⟨_, rfl, q1, _, 0, _, rfl, rfl, .of hq.at', atI_nat (j := 0) rfl, n, rfl, ifnb (fun e => ?_) (fun e2 => ?_)⟩
    · show Q (.bl false) H
      exact no _ (Same.refl _) (fun z => by rw [z.2.1] at e; cases e)
    subst e1 e2
    obtain ⟨lo, hi, at', pr, kd, s0, _, W⟩ := wf_of hp.w (hp.law rfl)
    obtain ⟨lo2, hi2, at2, pr2, kd2, s02, _, W2⟩ := wf_of hq.w (hq.law rfl)
    have wi := W.within W2
    have ek : fKind b = kd := W.all.2.2.2.1
    have ek2 : fKind c = kd2 := W2.all.2.2.2.1
    refine ⟨_, rfl, _, rfl, p, _, 1, _, rfl, rfl, .of hp.at', atI_nat (j := 1) rfl, b, rfl, hp.w.1, fun f1 H1 s1 hf1 hf12 => ?_⟩
    rw [W.lohi.1, W.lohi.2] at hf12
    refine ⟨q1, f1, lo2, hi2, at2, kd2, lo, hi, s02, c, pr2, rfl, hq.same s1, W2, .of hf12, fun r H2 s2 hr => ⟨_, rfl, ifnb (fun e => ?_) (fun e => ?_)⟩⟩
    · show Q (.bl false) H2
      exact no _ (s1.trans s2) (fun z => by have t := wi.mp z.2.2; rw [hr.mpr ⟨t.1, t.2.1⟩] at e; cases e)
    have c1 := hr.mp e
    have S2 := s1.trans s2
    have hp2 := (hp.same S2).at'
    have hq2 := (hq.same S2).at'
    refine ⟨_, rfl, p, _, 1, _, rfl, rfl, .of hp2, atI_nat (j := 1) rfl, b, p_RIGHTS_BITS, 32, 9, rfl, hs_RIGHTS_BITS _, hp.w.1, by decide, by decide, ?_⟩
    have er : b / 2 ^ 32 % 2 ^ 9 = (mask pr 9).sum := W.all.2.2.2.2.2
    have er2 : c / 2 ^ 32 % 2 ^ 9 = (mask pr2 9).sum := W2.all.2.2.2.2.2
    have ms := mask_sub pr pr2
    rw [← er, ← er2] at ms
    refine ⟨_, rfl, _, rfl, q1, _, 1, _, rfl, rfl, .of hq2, atI_nat (j := 1) rfl, c, p_RIGHTS_BITS, 32, 9, rfl, hs_RIGHTS_BITS _, hq.w.1, by decide, by decide, _, _, rfl, rfl, _, rfl, rfl, _, rfl, ifnd (fun c2 => ?_) (fun c2 => ?_)⟩
    · show Q (.bl false) H2
      exact no _ S2 (fun z => c2 (congrArg V.int (ms.mpr (wi.mp z.2.2).2.2.1)))
    have c3 := ms.mp (V.int.inj c2)
    clear ms er er2
    refine ⟨_, rfl, p, _, 1, _, rfl, rfl, .of hp2, atI_nat (j := 1) rfl, b, p_KIND, 41, 4, rfl, hs_KIND _, hp.w.1, by decide, by decide, _, rfl, q1, _, 1, _, rfl, rfl, .of hq2, atI_nat (j := 1) rfl, c, p_KIND, 41, 4, rfl, hs_KIND _, hq.w.1, by decide, by decide, _, _, rfl, ?_⟩
    have fin : ∀ r, (r = true ↔ (fKind b = fKind c ∨ (fKind c = 0 ∧ fKind b ≠ 2))) → Q (.bl r) H2 := fun r hr => q r _ S2 (by
      rw [hr, wi, ek, ek2]
      exact ⟨fun h => ⟨rfl, rfl, c1.1, c1.2, c3, h⟩, fun h => h.2.2.2.2.2⟩)
    refine ⟨_, rfl, _, rfl, rfl, _, rfl, ifd (fun k1 => ?_) (fun k1 => ?_)⟩
    · exact fin _ ⟨fun _ => .inl (V.int.inj k1), fun _ => rfl⟩
    have k1' : fKind b ≠ fKind c := fun z => k1 (congrArg V.int z)
    refine ⟨_, rfl, rfl, _, rfl, ifd (fun k2 => ?_) (fun k2 => ?_)⟩
    · refine ⟨_, rfl, rfl, fin _ ?_⟩
      have k2' := V.int.inj k2
      rw [Bool.not_eq_true', decide_eq_false_iff_not]
      exact ⟨fun h => .inr ⟨k2', fun z => h (congrArg V.int z)⟩, fun h z => by
        rcases h with h | h
        · exact k1' h
        · exact h.2 (V.int.inj z)⟩
    · refine fin _ ⟨fun h => Bool.noConfusion h, fun h => ?_⟩
      rcases h with h | h
      · exact absurd h k1'
      · exact absurd (congrArg V.int h.1) k2

def sp_is_sealed (K : PySem.W.Frag) : Sp := fun vs H Q _ => ∃ b : Int, vs = [.int b] ∧ 0 ≤ b ∧ ∀ r, (r = true ↔ fKind b ≠ 0) → Q (.bl r) H
theorem ok_is_sealed {f : Addr} {fd : FuncData} (F : Fun K "is_sealed" "is_sealed" s_is_sealed f fd) (T : Txt K mg) (C_field : Cal P w K mg base "field" 1 ["bits", "place"] (sp_field K)) : FnOk P w K mg base CX0 2 f fd ["bits"] (sp_is_sealed K) := by
  obtain ⟨p_KIND, hc_KIND, hs_KIND⟩ := T.c_KIND
  obtain ⟨t_NOT_SEALED, hc_NOT_SEALED⟩ := T.c_NOT_SEALED
  refine F.ok sc_is_sealed (fun vs H Q E h => ?_) (fun cdv A outer s H vs Q E hr h => ?_)
  · obtain ⟨b, rfl, hb, q⟩ := h; rfl
  · obtain ⟨b, rfl, hb, q⟩ := h
    refine ⟨_, (pss_one (ps_ret (pe_cmpR op_ne (pe_cal C_field (hr.mono (by decide)) (pa_cons (pv 0) (pa_cons (pe_glob (v := .ref p_KIND) (by rfl) hc_KIND rfl) pa_nil))) (pe_glob (v := .int 0) (by rfl) hc_NOT_SEALED ⟨_, rfl⟩) (nomark _)))), ?_⟩
    refine ⟨_, rfl, b, p_KIND, 41, 4, rfl, hs_KIND _, hb, by decide, by decide, rfl, q _ ?_⟩
    rw [Bool.not_eq_true', decide_eq_false_iff_not]
    exact ⟨fun h z => h (congrArg V.int z), fun h z => h (V.int.inj z)⟩

def sp_without_mark (K : PySem.W.Frag) : Sp := fun vs H Q _ => ∃ (p : Addr) (v : V) (b : Int), vs = [.ref p] ∧ H p = some (.tup [v, .int b]) ∧ ∀ q, H q = none → Q (.ref q) (upd H q (.tup [.bl false, .int b]))
theorem ok_without_mark {f : Addr} {fd : FuncData} (F : Fun K "without_mark" "without_mark" s_without_mark f fd) (T : Txt K mg) : FnOk P w K mg base CX0 1 f fd ["word"] (sp_without_mark K) := by
  refine F.ok sc_without_mark (fun vs H Q E h => ?_) (fun cdv A outer s H vs Q E hr h => ?_)
  · obtain ⟨p, v, b, rfl, hp, q⟩ := h; rfl
  · obtain ⟨p, v, b, rfl, hp, q⟩ := h
    refine ⟨_, (pss_one (ps_ret (pe_tup (pa_cons pe_bl (pa_cons (pe_ix (r := rIxT K) ix_tup (pv 0) pe_int (fun _ _ => rfl)) pa_nil))))), ?_⟩
    refine ⟨_, rfl, p, _, 1, _, rfl, rfl, .of hp, atI_nat (j := 1) rfl, sz (by simp), fun q2 hq2 => q q2 hq2⟩

def sp_walked (K : PySem.W.Frag) : Sp := fun vs H Q _ => ∃ p m b n, vs = [.ref p, .int n] ∧ Wd H p m b ∧ ∀ q m' b' H', Same H H' → H' q = some (.tup [.bl m', .int b']) → WalkR m b n m' b' → Q (.ref q) H'
theorem ok_walked {f : Addr} {fd : FuncData} (F : Fun K "walked" "walked" s_walked f fd) (T : Txt K mg) (C_field : Cal P w K mg base "field" 1 ["bits", "place"] (sp_field K)) (C_with_field : Cal P w K mg base "with_field" 2 ["bits", "place", "worth"] (sp_with_field K)) (C_is_sealed : Cal P w K mg base "is_sealed" 2 ["bits"] (sp_is_sealed K)) (C_without_mark : Cal P w K mg base "without_mark" 1 ["word"] (sp_without_mark K)) : FnOk P w K mg base CX0 3 f fd ["word", "number"] (sp_walked K) := by
  obtain ⟨p_AT, hc_AT, hs_AT⟩ := T.c_AT
  obtain ⟨t_CELLS, hc_CELLS⟩ := T.c_CELLS
  refine F.ok sc_walked (fun vs H Q E h => ?_) (fun cdv A outer s H vs Q E hr h => ?_)
  · obtain ⟨p, m, b, n, rfl, hw, q⟩ := h; rfl
  · obtain ⟨p, m, b, n, rfl, hw, q⟩ := h
    refine ⟨_, (pss_cons (ps_asg (pv 0) (pg_tup rfl (pgs_cons (pg_name (i := 2) sc_walked.nd rfl (.inl rfl)) (pgs_cons (pg_name (i := 3) sc_walked.nd rfl (.inl rfl)) pgs_nil))))
      (pss_cons (ps_if (PW.pt (pw_and (pt_val (pv 2)) (pw_and1 (pt_val (pe_cal C_is_sealed (hr.mono (by decide)) (pa_cons (pv 3) pa_nil)))))) (pss_one (ps_ret (pe_cal C_without_mark (hr.mono (by decide)) (pa_cons (pv 0) pa_nil)))) pss_nil)
      (pss_one (ps_ret (pe_tup (pa_cons (pv 2) (pa_cons (pe_cal C_with_field (hr.mono (by decide)) (pa_cons (pv 3) (pa_cons (pe_glob (v := .ref p_AT) (by rfl) hc_AT rfl) (pa_cons (pe_op op_mod (pe_op op_add (pe_cal C_field (hr.mono (by decide)) (pa_cons (pv 3) (pa_cons (pe_glob (v := .ref p_AT) (by rfl) hc_AT rfl) pa_nil))) (pv 1)) (pe_glob (v := .int 4096) (by rfl) hc_CELLS ⟨_, rfl⟩)) pa_nil)))) pa_nil))))))), ?_⟩
    have h0 := hw.w.1
    refine ⟨_, rfl, p, _, rfl, .of hw.at', rfl, _, _, rfl, _, _, rfl, rfl, ?_⟩
    refine' with_fin (A := ¬ (m = true ∧ fKind b ≠ 0)) ?h ?k
    case k =>
      intro fin
      refine ⟨_, rfl, _, rfl, ifb (fun e => ?_) (fun e => fin (fun z => by rw [z.1] at e; cases e))⟩
      refine ⟨_, rfl, b, rfl, h0, fun r hr => ⟨_, rfl, ifb (fun e2 => ?_) (fun e2 => fin (fun z => by rw [hr.mpr z.2] at e2; cases e2))⟩⟩
      refine ⟨_, rfl, p, _, b, rfl, hw.at', fun q2 hq2 => ?_⟩
      exact q q2 false b _ (same_new hq2) upd_same (.inl ⟨⟨e, hr.mp e2⟩, rfl, rfl⟩)
    intro nk
    have mm := mod4096 (fAt b + n)
    have am := mod4096 b
    have ea : fAt b = b % 4096 := by
      unfold fAt
      rw [show (2 : Int) ^ 0 = 1 by decide, Int.ediv_one]; rfl
    refine ⟨_, rfl, _, rfl, _, rfl, b, p_AT, 0, 12, rfl, hs_AT _, h0, by decide, by decide, _, rfl, _, _, rfl, rfl, _, _, rfl, rfl, (by show (0 : Int) < _; decide), b, p_AT, 0, 12, (b / 2 ^ 0 % 2 ^ 12 + n) % 4096, rfl, hs_AT _, h0, by decide, by decide, ?_, sz (by simp), fun q2 hq2 => ?_⟩
    · show ((fAt b + n) % 4096 - fAt b).natAbs < 2 ^ 64
      rw [ea] at mm ⊢; omega
    · exact q q2 m _ _ (same_new hq2) upd_same (.inr ⟨nk, rfl, rfl⟩)

def sp_narrow_bounds (K : PySem.W.Frag) : Sp := fun vs H Q _ => ∃ (at' n : Int) (ex : Bool), vs = [.int at', .int n, .bl ex] ∧ (¬ (Bd at' (at' + n) ∧ (ex = true → ∃ t, Ex at' (at' + n) t)) → ∀ H', Same H H' → Q .non H') ∧ (Bd at' (at' + n) ∧ (ex = true → ∃ t, Ex at' (at' + n) t) → ∀ (s : Nat) q H', StepIs at' (at' + n) s → Same H H' → H q = none → H' q = some (.tup [.int (at' / 2 ^ s * 2 ^ s), .int (((at' + n - 1) / 2 ^ s + 1) * 2 ^ s)]) → Q (.ref q) H')
theorem ok_narrow_bounds {f : Addr} {fd : FuncData} (F : Fun K "narrow_bounds" "narrow_bounds" s_narrow_bounds f fd) (T : Txt K mg) (C_are_bounds : Cal P w K mg base "are_bounds" 2 ["low", "high"] (sp_are_bounds K)) (C_least_bounds : Cal P w K mg base "least_bounds" 5 ["low", "high"] (sp_least_bounds K)) (C_is_exact : Cal P w K mg base "is_exact" 6 ["low", "high"] (sp_is_exact K)) : FnOk P w K mg base CX0 7 f fd ["at", "many", "exact"] (sp_narrow_bounds K) := by
  refine F.ok sc_narrow_bounds (fun vs H Q E h => ?_) (fun cdv A outer s H vs Q E hr h => ?_)
  · obtain ⟨at', n, ex, rfl, q1, q2⟩ := h; rfl
  · obtain ⟨at', n, ex, rfl, q1, q2⟩ := h
    refine ⟨_, (pss_cons (ps_par (i := 3) (j := 4) rfl sc_narrow_bounds.nd rfl rfl (by decide) rfl rfl (pa_cons (pv 0) (pa_cons (pe_op op_add (pv 0) (pv 1)) pa_nil)) (by rfl))
      (pss_cons (ps_if (PW.pt (pw_or (pt_not (pt_val (pe_cal C_are_bounds (hr.mono (by decide)) (pa_cons (pv 3) (pa_cons (pv 4) pa_nil))))) (pw_or1 (PW.pt (pw_and (pt_val (pv 2)) (pw_and1 (pt_not (pt_val (pe_cal C_is_exact (hr.mono (by decide)) (pa_cons (pv 3) (pa_cons (pv 4) pa_nil))))))))))) (pss_one (ps_ret pe_non)) pss_nil)
      (pss_one (ps_ret (pe_cal C_least_bounds (hr.mono (by decide)) (pa_cons (pv 3) (pa_cons (pv 4) pa_nil))))))), ?_⟩
    refine ⟨_, rfl, _, rfl, _, rfl, _, _, rfl, rfl, _, _, rfl, ?_⟩
    refine' with_finH (A := fun H' => Same H H' ∧ Bd at' (at' + n) ∧ (ex = true → ∃ t, Ex at' (at' + n) t)) ?h ?k
    case k =>
      intro fin
      refine ⟨_, rfl, _, rfl, .int at', .int (at' + n), rfl, .int _, .int _, fun b hb => ⟨_, rfl, ifnb (fun e => ?_) (fun e => ?_)⟩⟩
      · show Q .non H
        exact q1 (fun z => by rw [hb.mpr ⟨_, _, rfl, rfl, z.1⟩] at e; cases e) H (Same.refl _)
      have bd : Bd at' (at' + n) := by
        obtain ⟨l, h, e1, e2, bd⟩ := hb.mp e
        cases e1; cases e2; exact bd
      refine ⟨_, rfl, ex, rfl, ifb (fun e2 => ?_) (fun e2 => ?_)⟩
      · refine ⟨_, rfl, _, rfl, _, _, rfl, bd, fun b2 H1 s1 hb2 => ⟨_, rfl, ifnb (fun e3 => ?_) (fun e3 => ?_)⟩⟩
        · show Q .non H1
          exact q1 (fun z => by rw [hb2.mpr (z.2 e2)] at e3; cases e3) H1 s1
        · exact fin H1 ⟨s1, bd, fun _ => hb2.mp e3⟩
      · exact fin H ⟨Same.refl _, bd, fun z => by rw [z] at e2; cases e2⟩
    rintro H1 ⟨s1, bd, hx⟩
    refine ⟨_, rfl, _, rfl, _, _, rfl, bd, fun s p H2 hs s2 hp hp2 => ?_⟩
    exact q2 ⟨bd, hx⟩ s p H2 hs (s1.trans s2) (Same.free s1 hp) hp2

def sp_with_bounds (K : PySem.W.Frag) : Sp := fun vs H Q _ => ∃ q lo hi at' kd l h s t b pr, vs = [.int b, .ref q] ∧ WF b lo hi at' pr kd s ∧ SqT K H q [.int l, .int h] ∧ Bd l h ∧ Ex l h t ∧ ∀ b' H', Same H H' → WF b' l h at' pr kd t → Q (.int b') H'
theorem ok_with_bounds {f : Addr} {fd : FuncData} (F : Fun K "with_bounds" "with_bounds" s_with_bounds f fd) (T : Txt K mg) (C_in_bits : Cal P w K mg base "in_bits" 4 ["low", "high"] (sp_in_bits K)) (C_with_field : Cal P w K mg base "with_field" 2 ["bits", "place", "worth"] (sp_with_field K)) : FnOk P w K mg base CX0 5 f fd ["bits", "bounds"] (sp_with_bounds K) := by
  obtain ⟨p_COUNT_LESS_ONE, hc_COUNT_LESS_ONE, hs_COUNT_LESS_ONE⟩ := T.c_COUNT_LESS_ONE
  obtain ⟨p_FIRST, hc_FIRST, hs_FIRST⟩ := T.c_FIRST
  obtain ⟨p_STEP, hc_STEP, hs_STEP⟩ := T.c_STEP
  refine F.ok sc_with_bounds (fun vs H Q E h => ?_) (fun cdv A outer s H vs Q E hr h => ?_)
  · obtain ⟨q1, lo, hi, at', kd, l, h, s1, t, b, pr, rfl, W, hq, bd, ex, q⟩ := h; rfl
  · obtain ⟨q1, lo, hi, at', kd, l, h, s1, t, b, pr, rfl, W, hq, bd, ex, q⟩ := h
    refine ⟨_, (pss_cons (ps_asg (pe_cal C_in_bits (hr.mono (by decide)) (pa_cons (pe_ix (r := rIxT K) ix_tup (pv 1) pe_int (fun _ _ => rfl)) (pa_cons (pe_ix (r := rIxT K) ix_tup (pv 1) pe_int (fun _ _ => rfl)) pa_nil))) (pg_tup rfl (pgs_cons (pg_name (i := 2) sc_with_bounds.nd rfl (.inl rfl)) (pgs_cons (pg_name (i := 3) sc_with_bounds.nd rfl (.inl rfl)) (pgs_cons (pg_name (i := 4) sc_with_bounds.nd rfl (.inl rfl)) pgs_nil)))))
      (pss_cons (ps_set (i := 0) sc_with_bounds.nd rfl (.inl rfl) (pe_cal C_with_field (hr.mono (by decide)) (pa_cons (pv 0) (pa_cons (pe_glob (v := .ref p_STEP) (by rfl) hc_STEP rfl) (pa_cons (pv 2) pa_nil)))))
      (pss_cons (ps_set (i := 0) sc_with_bounds.nd rfl (.inl rfl) (pe_cal C_with_field (hr.mono (by decide)) (pa_cons (pv 0) (pa_cons (pe_glob (v := .ref p_FIRST) (by rfl) hc_FIRST rfl) (pa_cons (pv 3) pa_nil)))))
      (pss_one (ps_ret (pe_cal C_with_field (hr.mono (by decide)) (pa_cons (pv 0) (pa_cons (pe_glob (v := .ref p_COUNT_LESS_ONE) (by rfl) hc_COUNT_LESS_ONE rfl) (pa_cons (pe_op op_sub (pv 4) pe_int) pa_nil))))))))), ?_⟩
    have D := W.dec
    have xd := ex.dd bd
    refine ⟨_, rfl, q1, _, 0, _, rfl, rfl, hq, atI_nat (j := 0) rfl, _, rfl, q1, _, 1, _, rfl, rfl, hq, atI_nat (j := 1) rfl, l, h, rfl, bd, fun s p1 hs hp1 => ?_⟩
    have es := ex.1.uniq hs
    subst es
    refine ⟨p1, _, rfl, .of upd_same, rfl, _, _, rfl, _, _, rfl, _, _, rfl, rfl, ?_⟩
    have S1 := same_new (o := .tup [.int (t : Int), .int (l / 2 ^ t), .int (Dd l h t + 1)]) hp1
    generalize upd H p1 _ = H1 at S1 ⊢
    have D1 := D.setStep (z := (t : Int)) (by omega) (by omega)
    have f := D.f
    refine ⟨_, rfl, _, rfl, b, p_STEP, 28, 4, (t : Int), rfl, hs_STEP _, D.w45.1, by decide, by decide, ?_, ?_⟩
    · show ((t : Int) - fStep b).natAbs < 2 ^ 64
      have := D.s0; have := D.s1; rw [f.1]; omega
    have e1 : b + ((t : Int) - b / 2 ^ 28 % 2 ^ 4) * 2 ^ 28 = b + ((t : Int) - fStep b) * 2 ^ 28 := rfl
    rw [e1]
    generalize b + ((t : Int) - fStep b) * 2 ^ 28 = b1 at D1 ⊢
    have D2 := D1.setFirst xd.1 xd.2.1
    have f1 := D1.f
    refine ⟨_, rfl, _, rfl, b1, p_FIRST, 12, 12, l / 2 ^ t, rfl, hs_FIRST _, D1.w45.1, by decide, by decide, ?_, ?_⟩
    · show (l / 2 ^ t - fFirst b1).natAbs < 2 ^ 64
      have := D1.F0; have := D1.F1; rw [f1.2.1]; omega
    have e2 : b1 + (l / 2 ^ t - b1 / 2 ^ 12 % 2 ^ 12) * 2 ^ 12 = b1 + (l / 2 ^ t - fFirst b1) * 2 ^ 12 := rfl
    rw [e2]
    generalize b1 + (l / 2 ^ t - fFirst b1) * 2 ^ 12 = b2 at D2 ⊢
    have D3 := D2.setCnt xd.2.2.1 xd.2.2.2.1
    have f2 := D2.f
    have e3 : b2 / 2 ^ 24 % 2 ^ 4 = fCnt b2 - 1 := by unfold fCnt; omega
    refine ⟨_, rfl, _, rfl, _, _, rfl, rfl, b2, p_COUNT_LESS_ONE, 24, 4, Dd l h t + 1 - 1, rfl, hs_COUNT_LESS_ONE _, D2.w45.1, by decide, by decide, ?_, ?_⟩
    · rw [e3, f2.2.2.1]
      have := D2.D0; have := D2.D1; omega
    have e4 : b2 + (Dd l h t + 1 - 1 - b2 / 2 ^ 24 % 2 ^ 4) * 2 ^ 24 = b2 + (Dd l h t - (fCnt b2 - 1)) * 2 ^ 24 := by rw [e3, Int.add_sub_cancel]
    rw [e4]
    exact q _ H1 S1 (D3.wf bd ex W.ow)

def sp_narrowed (K : PySem.W.Frag) : Sp := fun vs H Q _ => ∃ p m b n ex, vs = [.ref p, .int n, .bl ex] ∧ Wd H p m b ∧ ∀ q m' b' H', Same H H' → H' q = some (.tup [.bl m', .int b']) → NarR m b n ex m' b' → Q (.ref q) H'
theorem ok_narrowed {f : Addr} {fd : FuncData} (F : Fun K "narrowed" "narrowed" s_narrowed f fd) (T : Txt K mg) (C_field : Cal P w K mg base "field" 1 ["bits", "place"] (sp_field K)) (C__has_bounds : Cal P w K mg base "_has_bounds" 3 ["word", "bounds"] (sp__has_bounds K)) (C_is_sealed : Cal P w K mg base "is_sealed" 2 ["bits"] (sp_is_sealed K)) (C_without_mark : Cal P w K mg base "without_mark" 1 ["word"] (sp_without_mark K)) (C_narrow_bounds : Cal P w K mg base "narrow_bounds" 7 ["at", "many", "exact"] (sp_narrow_bounds K)) (C_with_bounds : Cal P w K mg base "with_bounds" 5 ["bits", "bounds"] (sp_with_bounds K)) : FnOk P w K mg base CX0 8 f fd ["word", "many", "exact"] (sp_narrowed K) := by
  obtain ⟨p_AT, hc_AT, hs_AT⟩ := T.c_AT
  refine F.ok sc_narrowed (fun vs H Q E h => ?_) (fun cdv A outer s H vs Q E hr h => ?_)
  · obtain ⟨p, m, b, n, ex, rfl, hw, q⟩ := h; rfl
  · obtain ⟨p, m, b, n, ex, rfl, hw, q⟩ := h
    refine ⟨_, (pss_cons (ps_asg (pv 0) (pg_tup rfl (pgs_cons (pg_name (i := 3) sc_narrowed.nd rfl (.inl rfl)) (pgs_cons (pg_name (i := 4) sc_narrowed.nd rfl (.inl rfl)) pgs_nil))))
      (pss_cons (ps_if (pt_not (pt_val (pv 3))) (pss_one (ps_ret (pv 0))) pss_nil)
      (pss_cons (ps_set (i := 5) sc_narrowed.nd rfl (.inl rfl) (pe_cal C_narrow_bounds (hr.mono (by decide)) (pa_cons (pe_cal C_field (hr.mono (by decide)) (pa_cons (pv 4) (pa_cons (pe_glob (v := .ref p_AT) (by rfl) hc_AT rfl) pa_nil))) (pa_cons (pv 1) (pa_cons (pv 2) pa_nil)))))
      (pss_cons (ps_if (PW.pt (pw_or (pt_val (pe_cal C_is_sealed (hr.mono (by decide)) (pa_cons (pv 4) pa_nil))) (pw_or (pt_cmpR op_isN (pv 5) pe_non (nomark _)) (pw_or1 (pt_not (pt_val (pe_cal C__has_bounds (hr.mono (by decide)) (pa_cons (pv 0) (pa_cons (pv 5) pa_nil))))))))) (pss_one (ps_ret (pe_cal C_without_mark (hr.mono (by decide)) (pa_cons (pv 0) pa_nil)))) pss_nil)
      (pss_one (ps_ret (pe_tup (pa_cons pe_bl (pa_cons (pe_cal C_with_bounds (hr.mono (by decide)) (pa_cons (pv 4) (pa_cons (pv 5) pa_nil))) pa_nil))))))))), ?_⟩
    have h0 := hw.w.1
    refine ⟨_, rfl, p, _, rfl, .of hw.at', rfl, _, _, rfl, _, _, rfl, rfl, ?_⟩
    refine ⟨_, rfl, m, rfl, ifnb (fun e => ?_) (fun e => ?_)⟩
    · refine ⟨_, rfl, ?_⟩
      subst e
      exact q p false b H (Same.refl _) hw.at' (.inl ⟨rfl, rfl, rfl⟩)
    subst e
    obtain ⟨lo, hi, at', pr, kd, s0, _, W⟩ := wf_of hw.w (hw.law rfl)
    have ea : fAt b = at' := W.all.2.2.2.2.1
    have ek : fKind b = kd := W.all.2.2.2.1
    have bare : ∀ H', Same H H' → (¬ ∃ s, NarC n ex lo hi at' kd s) → ∀ q2, H' q2 = none → Q (.ref q2) (upd H' q2 (.tup [.bl false, .int b])) := fun H' s nc q2 hq2 => q q2 false b _ (sameN s hq2) upd_same (.inr ⟨rfl, fun lo' hi' a' p' k' s' W' => by
      have u := W.uniq W'
      rw [← u.1, ← u.2.1, ← u.2.2.1, ← u.2.2.2.2.1]
      exact .inl ⟨rfl, rfl, nc⟩⟩)
    refine ⟨_, rfl, b, p_AT, 0, 12, rfl, hs_AT _, h0, by decide, by decide, _, rfl, _, rfl, at', n, ex, ?_, fun nb H1 s1 => ?_, fun nb s q1 H1 hs s1 hq1 hq12 => ?_⟩
    · show [V.int (fAt b), .int n, .bl ex] = _
      rw [ea]
    · have nc : ¬ ∃ s, NarC n ex lo hi at' kd s := fun ⟨s, c⟩ => nb ⟨c.2.1, c.2.2.1⟩
      have hw1 := hw.same s1
      refine ⟨_, rfl, b, rfl, h0, fun r hr => ⟨_, rfl, ifb (fun e => ?_) (fun e => ?_)⟩⟩
      · refine ⟨_, rfl, p, _, b, rfl, hw1.at', fun q2 hq2 => bare H1 s1 nc q2 hq2⟩
      · refine ⟨_, rfl, rfl, _, rfl, ?_⟩
        refine ⟨_, rfl, p, _, b, rfl, hw1.at', fun q2 hq2 => bare H1 s1 nc q2 hq2⟩
    have fr := least_ex nb.1 hs
    have hw1 := hw.same s1
    refine ⟨_, rfl, b, rfl, h0, fun r hr => ⟨_, rfl, ifb (fun e => ?_) (fun e => ?_)⟩⟩
    · have nc : ¬ ∃ s, NarC n ex lo hi at' kd s := fun ⟨s, c⟩ => hr.mp e (by rw [ek]; exact c.1)
      refine ⟨_, rfl, p, _, b, rfl, hw1.at', fun q2 hq2 => bare H1 s1 nc q2 hq2⟩
    have k0 : kd = 0 := by
      rcases Decidable.em (kd = 0) with c | c
      · exact c
      · rw [hr.mpr (by rw [ek]; exact c)] at e; cases e
    refine ⟨_, rfl, rfl, _, rfl, ?_⟩
    refine ⟨_, rfl, _, rfl, p, q1, lo, hi, at', kd, _, _, s0, b, pr, rfl, hw1, W, .of hq12, fun r2 H2 s2 hr2 => ⟨_, rfl, ifnb (fun e2 => ?_) (fun e2 => ?_)⟩⟩
    · have nc : ¬ ∃ s, NarC n ex lo hi at' kd s := fun ⟨s', c⟩ => by
        have es := hs.uniq c.2.2.2.1
        subst es
        rw [hr2.mpr c.2.2.2.2] at e2; cases e2
      refine ⟨_, rfl, p, _, b, rfl, (hw1.same s2).at', fun q2 hq2 => bare H2 (s1.trans s2) nc q2 hq2⟩
    have c2 := hr2.mp e2
    refine ⟨_, rfl, _, rfl, q1, lo, hi, at', kd, _, _, s0, s, b, pr, rfl, W, .of (s2 _ _ hq12), fr.1, fr.2.1, fun b' H3 s3 W3 => ⟨sz (by simp), fun q2 hq2 => ?_⟩⟩
    refine q q2 true b' _ (sameN ((s1.trans s2).trans s3) hq2) upd_same (.inr ⟨rfl, fun lo' hi' a' p' k' s' W' => ?_⟩)
    have u := W.uniq W'
    refine .inr ⟨rfl, s, ?_, ?_⟩
    · rw [← u.1, ← u.2.1, ← u.2.2.1, ← u.2.2.2.2.1]
      exact ⟨k0, nb.1, nb.2, hs, c2.1, c2.2⟩
    · rw [← u.2.2.1, ← k0]
      have W4 := W3.wb
      refine ⟨W3.bd, W3.ex, W3.a0, W3.a1, W3.k0, W3.k1, by rw [← u.2.2.2.1]; exact W3.ow, by rw [← u.2.2.2.1]; exact W4⟩

def sp__law_take (K : PySem.W.Frag) : Sp := fun vs H Q _ => ∃ (a : Addr) (x y m : Int), vs = [.ref a, .int m] ∧ Pool H a x y ∧ 0 < m ∧ m < 4611686018427387904 ∧ ∀ r x1 y1 H', 0 ≤ r → r < m → But a H H' → Pool H' a x1 y1 → Q (.int r) H'
theorem ok__law_take {f : Addr} {fd : FuncData} (F : Fun K "_law_take" "_law_take" s__law_take f fd) (T : Txt K mg) : FnOk P w K mg base CX0 1 f fd ["_law_pool_here", "_law_many"] (sp__law_take K) := by
  refine F.ok sc__law_take (fun vs H Q E h => ?_) (fun cdv A outer s H vs Q E hr h => ?_)
  · obtain ⟨a, x, y, m, rfl, hp, hm, hm2, q⟩ := h; rfl
  · obtain ⟨a, x, y, m, rfl, hp, hm, hm2, q⟩ := h
    refine ⟨_, (pss_cons (ps_if (pt_cmpR op_gt (pe_ix (r := rIxL K) ix_list (pv 0) pe_int (fun _ _ => rfl)) pe_int (nomark _)) (pss_cons (ps_set (i := 2) sc__law_take.nd rfl (.inl rfl) (pe_op op_mod (pe_ix (r := rIxL K) ix_list (pv 0) pe_int (fun _ _ => rfl)) (pv 1)))
      (pss_cons (ps_asg (pe_op op_fdivW (pe_ix (r := rIxL K) ix_list (pv 0) pe_int (fun _ _ => rfl)) (pv 1)) (pg_sub (pv 0) pe_int set_list))
      (pss_one (ps_ret (pv 2))))) pss_nil)
      (pss_cons (ps_asg (pe_op op_mod (pe_op op_add (pe_op op_mul (pe_ix (r := rIxL K) ix_list (pv 0) pe_int (fun _ _ => rfl)) pe_int) pe_int) pe_int) (pg_sub (pv 0) pe_int set_list))
      (pss_one (ps_ret (pe_op op_mod (pe_op op_fdivW (pe_op op_mod (pe_op op_mul (pe_ix (r := rIxL K) ix_list (pv 0) pe_int (fun _ _ => rfl)) (pe_ix (r := rIxL K) ix_list (pv 0) pe_int (fun _ _ => rfl))) pe_int) pe_int) (pv 1)))))), ?_⟩
    obtain ⟨hp, x0, y0, y1⟩ := hp
    refine ⟨_, rfl, a, _, 0, _, rfl, rfl, .of hp, atI_nat (j := 0) rfl, _, _, rfl, rfl, _, rfl, ifd (fun c => ?_) (fun c => ?_)⟩
    · refine ⟨_, rfl, a, _, 0, _, rfl, rfl, .of hp, atI_nat (j := 0) rfl, _, rfl, _, _, rfl, rfl, hm, ?_⟩
      refine ⟨_, rfl, a, _, 0, _, rfl, rfl, .of hp, atI_nat (j := 0) rfl, _, rfl, _, _, rfl, rfl, wide_div hm (b := 62) (by omega) (by decide) (by decide), ?_⟩
      refine ⟨_, rfl, a, _, 0, 0, rfl, rfl, hp, rfl, ?_⟩
      refine ⟨_, rfl, q (x % m) (x / m) y _ (Int.emod_nonneg _ (by omega)) (Int.emod_lt_of_pos _ hm) (But.upd (But.refl _ _)) ⟨upd_same, Int.ediv_nonneg x0 (by omega), y0, y1⟩⟩
    · refine ⟨_, rfl, a, _, 1, _, rfl, rfl, .of hp, atI_nat (j := 1) rfl, _, _, rfl, rfl, .inr ⟨by decide, by decide⟩, _, _, rfl, rfl, _, _, rfl, rfl, (by show (0 : Int) < _; decide), ?_⟩
      refine ⟨_, rfl, a, _, 1, 1, rfl, rfl, hp, rfl, ?_⟩
      have u1 : 0 ≤ (y * 48271 + 11) % 2147483647 := Int.emod_nonneg _ (by decide)
      have u2 : (y * 48271 + 11) % 2147483647 < 2147483647 := Int.emod_lt_of_pos _ (by decide)
      refine ⟨_, rfl, a, _, 1, _, rfl, rfl, .of upd_same, atI_nat (j := 1) rfl, _, rfl, a, _, 1, _, rfl, rfl, .of upd_same, atI_nat (j := 1) rfl, _, _, rfl, rfl, .inl ⟨by omega, by omega⟩, _, _, rfl, rfl, (by show (0 : Int) < _; decide), _, _, rfl, rfl, wide_div (by decide) (b := 62) (by decide) (by decide) (by decide), _, rfl, _, _, rfl, rfl, hm, ?_⟩
      exact q _ x ((y * 48271 + 11) % 2147483647) _ (Int.emod_nonneg _ (by omega)) (Int.emod_lt_of_pos _ hm) (But.upd (But.refl _ _)) ⟨upd_same, x0, u1, u2⟩

def sp__law_pool (K : PySem.W.Frag) : Sp := fun vs H Q _ => ∃ (a : Addr) (ns : List Int) (k : Nat), vs = [.ref a, .int k] ∧ SqL K H a (ns.map V.int) ∧ ns.length ≤ 63 ∧ k ≤ 63 ∧ ∀ x y p H', Same H H' → H p = none → Pool H' p x y → Q (.ref p) H'
theorem ok__law_pool {f : Addr} {fd : FuncData} (F : Fun K "_law_pool" "_law_pool" s__law_pool f fd) (T : Txt K mg) : FnOk P w K mg base CX0 1 f fd ["_law_script", "_law_k"] (sp__law_pool K) := by
  refine F.ok sc__law_pool (fun vs H Q E h => ?_) (fun cdv A outer s H vs Q E hr h => ?_)
  · obtain ⟨a, ns, k, rfl, hS, hlen, hk, q⟩ := h; rfl
  · obtain ⟨a, ns, k, rfl, hS, hlen, hk, q⟩ := h
    refine ⟨_, (pss_cons (ps_set (i := 2) sc__law_pool.nd rfl (.inl rfl) (pe_op op_add (pe_op op_mul pe_int (pe_callB (cr_sum rfl) (by rfl) T.z_sum (by decide +kernel) (pa_cons (pe_slice sl_list (pv 0) po_none (po_some pe_int)) pa_nil))) (pv 1)))
      (pss_cons (ps_if (pt_cmpR op_lt (pv 1) (pe_callB call_len_seq (by rfl) T.z_len (by decide +kernel) (pa_cons (pv 0) pa_nil)) (nomark _)) (pss_one (ps_set (i := 2) sc__law_pool.nd rfl (.inl rfl) (pe_ix (r := rIxL K) ix_list (pv 0) (pv 1) (fun _ _ => rfl)))) pss_nil)
      (pss_cons (ps_set (i := 3) sc__law_pool.nd rfl (.inl rfl) (pe_callB call_abs (by rfl) T.z_abs (by decide +kernel) (pa_cons (pv 2) pa_nil)))
      (pss_cons (ps_set (i := 4) sc__law_pool.nd rfl (.inl rfl) (pe_op op_mod (pe_op op_mul (pe_op op_add (pe_op op_add (pe_op op_add (pe_op op_mod (pv 3) pe_int) (pe_op op_mul (pe_op op_mul pe_int (pv 1)) (pv 1))) (pe_op op_mul pe_int (pv 1))) pe_int) pe_int) pe_int))
      (pss_one (ps_ret (pe_lst (pa_cons (pe_op op_mul (pv 3) (pe_callTy call_int1 (by rfl) T.z_int (by decide +kernel) (pa_cons (pe_cmpR op_ge (pv 3) (pe_op op_pow pe_int pe_int) (nomark _)) pa_nil))) (pa_cons (pe_op op_mod (pe_op op_mul (pv 4) (pv 4)) pe_int) pa_nil))))))))), ?_⟩
    refine ⟨_, rfl, _, rfl, a, _, rfl, hS, fun p hp => ?_⟩
    have s1 : Same H (upd H p (.lst (cutV (ns.map V.int) none (some 63)))) := same_new hp
    have hS1 : SqL K (upd H p (.lst (cutV (ns.map V.int) none (some 63)))) a (ns.map V.int) := s1.seq hS
    refine ⟨p, ns, rfl, .of (by rw [upd_same, cut63 hlen]), _, _, rfl, rfl, .inl ⟨by decide, by decide⟩, _, rfl, _, _, rfl, rfl, ?_⟩
    refine ⟨_, rfl, _, rfl, a, _, rfl, .inl hS1, _, _, rfl, rfl, _, rfl, ifd (fun c => ?_) (fun c => ?_)⟩
    · rw [List.length_map] at c
      have hk2 : k < ns.length := by omega
      refine ⟨_, rfl, _, rfl, a, _, (k : Int), .int ns[k], rfl, rfl, hS1, atI_nat (by rw [List.getElem?_map, List.getElem?_eq_getElem hk2]; rfl), ?_⟩
      refine ⟨_, rfl, _, rfl, ?_⟩
      refine ⟨_, rfl, _, _, rfl, rfl, (by show (0 : Int) < _; decide), _, rfl, _, _, rfl, rfl, .inl ⟨by decide, by decide⟩, _, rfl, _, _, rfl, rfl, .inr ⟨by omega, by omega⟩, _, _, rfl, rfl, _, rfl, _, _, rfl, rfl, .inl ⟨by decide, by decide⟩, _, _, rfl, rfl, _, _, rfl, rfl, _, _, rfl, rfl, .inr ⟨by decide, by decide⟩, _, _, rfl, rfl, (by show (0 : Int) < _; decide), ?_⟩
      refine ⟨_, rfl, _, rfl, _, _, rfl, rfl, ⟨by decide, by decide, by decide⟩, _, _, rfl, rfl, .inr ⟨_, rfl, _, _, rfl, rfl, .inr (b01 _), ?_⟩⟩
      refine ⟨_, rfl, _, rfl, _, _, rfl, rfl, .inl (mixb _), _, _, rfl, rfl, (by show (0 : Int) < _; decide), sz (by simp), fun p2 hp2 => ?_⟩
      exact q _ _ p2 _ (sameN s1 hp2) (Same.free s1 hp2) ⟨upd_same, sizeb _ _, Int.emod_nonneg _ (by decide), Int.lt_trans (Int.emod_lt_of_pos _ (by decide)) (by decide)⟩
    · refine ⟨_, rfl, _, rfl, ?_⟩
      refine ⟨_, rfl, _, _, rfl, rfl, (by show (0 : Int) < _; decide), _, rfl, _, _, rfl, rfl, .inl ⟨by decide, by decide⟩, _, rfl, _, _, rfl, rfl, .inr ⟨by omega, by omega⟩, _, _, rfl, rfl, _, rfl, _, _, rfl, rfl, .inl ⟨by decide, by decide⟩, _, _, rfl, rfl, _, _, rfl, rfl, _, _, rfl, rfl, .inr ⟨by decide, by decide⟩, _, _, rfl, rfl, (by show (0 : Int) < _; decide), ?_⟩
      refine ⟨_, rfl, _, rfl, _, _, rfl, rfl, ⟨by decide, by decide, by decide⟩, _, _, rfl, rfl, .inr ⟨_, rfl, _, _, rfl, rfl, .inr (b01 _), ?_⟩⟩
      refine ⟨_, rfl, _, rfl, _, _, rfl, rfl, .inl (mixb _), _, _, rfl, rfl, (by show (0 : Int) < _; decide), sz (by simp), fun p2 hp2 => ?_⟩
      exact q _ _ p2 _ (sameN s1 hp2) (Same.free s1 hp2) ⟨upd_same, sizeb _ _, Int.emod_nonneg _ (by decide), Int.lt_trans (Int.emod_lt_of_pos _ (by decide)) (by decide)⟩

def sp__law_least (K : PySem.W.Frag) : Sp := fun vs H Q _ => ∃ lo hi, vs = [.int lo, .int hi] ∧ Bd lo hi ∧ ∀ (s : Nat) p, StepIs lo hi s → H p = none → Q (.ref p) (upd H p (.tup [.int (lo / 2 ^ s * 2 ^ s), .int (((hi - 1) / 2 ^ s + 1) * 2 ^ s), .int s]))
theorem ok__law_least {f : Addr} {fd : FuncData} (F : Fun K "_law_least" "_law_least" s__law_least f fd) (T : Txt K mg) : FnOk P w K mg base CX0 1 f fd ["_law_low", "_law_high"] (sp__law_least K) := by
  refine F.ok sc__law_least (fun vs H Q E h => ?_) (fun cdv A outer s H vs Q E hr h => ?_)
  · obtain ⟨lo, hi, rfl, hb, q⟩ := h; rfl
  · obtain ⟨lo, hi, rfl, hb, q⟩ := h
    refine ⟨_, (pss_cons (ps_set (i := 2) sc__law_least.nd rfl (.inl rfl) pe_int)
      (pss_cons (ps_while PassesOwn.never (pt_cmpR op_gt (pe_op op_sub (pe_op op_shr (pe_op op_sub (pv 1) pe_int) (pv 2)) (pe_op op_shr (pv 0) (pv 2))) pe_int (nomark _)) (pss_one (ps_set (i := 2) sc__law_least.nd rfl (.inl rfl) (pe_op op_add (pv 2) pe_int))))
      (pss_one (ps_ret (pe_tup (pa_cons (pe_op op_shl (pe_op op_shr (pv 0) (pv 2)) (pv 2)) (pa_cons (pe_op op_shl (pe_op op_add (pe_op op_shr (pe_op op_sub (pv 1) pe_int) (pv 2)) pe_int) (pv 2)) (pa_cons (pv 2) pa_nil)))))))), ?_⟩
    refine ⟨fun m σ H' => ∃ s : Nat, σ = [some (.int lo), some (.int hi), some (.int s)] ∧ H' = H ∧ s ≤ 8 ∧ m = 8 - s ∧ ∀ t, t < s → 15 < Dd lo hi t, ⟨8, 0, rfl, rfl, by omega, rfl, fun t ht => by omega⟩, ?_⟩
    rintro m σ H' ⟨s, rfl, rfl, h8, em, hbl⟩
    refine ⟨_, rfl, _, _, rfl, rfl, _, rfl, _, _, rfl, rfl, by omega, _, rfl, _, rfl, _, _, rfl, rfl, by omega, _, _, rfl, rfl, _, _, rfl, rfl, _, rfl, ifd (fun c => ?_) (fun c => ?_)⟩
    · have c2 : 15 < Dd lo hi s := c
      have l8 := lt8 hb c2 h8
      refine ⟨_, fun _ _ h => h, ?_⟩
      refine ⟨_, rfl, _, _, rfl, rfl, 8 - (s + 1), by omega, s + 1, rfl, rfl, by omega, rfl, fun t ht => ?_⟩
      rcases Nat.lt_or_ge t s with d | d
      · exact hbl t d
      · have : t = s := by omega
        subst this; exact c2
    · have c2 : ¬ 15 < Dd lo hi s := c
      refine ⟨_, rfl, _, rfl, _, _, rfl, rfl, by omega, _, rfl, _, _, rfl, rfl, bc hb h8, _, rfl, _, _, rfl, rfl, _, rfl, _, _, rfl, rfl, by omega, _, _, rfl, rfl, _, rfl, _, _, rfl, rfl, bc4 hb h8, _, rfl, sz (by simp), fun p hp => ?_⟩
      exact q s p ⟨h8, by omega, hbl⟩ hp

def sp__law_fields (K : PySem.W.Frag) : Sp := fun vs H Q _ => ∃ (p : Addr) (v : V) (b : Int), vs = [.ref p] ∧ H p = some (.tup [v, .int b]) ∧ W45 b ∧ (¬ Tells b → ∀ H', Same H H' → Q .non H') ∧ (Tells b → ∀ q H', Same H H' → H q = none → H' q = some (.tup (tup5 b)) → Q (.ref q) H')
theorem ok__law_fields {f : Addr} {fd : FuncData} (F : Fun K "_law_fields" "_law_fields" s__law_fields f fd) (T : Txt K mg) : FnOk P w K mg base CX0 1 f fd ["_law_word_here"] (sp__law_fields K) := by
  refine F.ok sc__law_fields (fun vs H Q E h => ?_) (fun cdv A outer s H vs Q E hr h => ?_)
  · obtain ⟨p, v, b, rfl, hp, hw, q1, q2⟩ := h; rfl
  · obtain ⟨p, v, b, rfl, hp, hw, q1, q2⟩ := h
    refine ⟨_, (pss_cons (ps_set (i := 1) sc__law_fields.nd rfl (.inr rfl) (pe_ix (r := rIxT K) ix_tup (pv 0) pe_int (fun _ _ => rfl)))
      (pss_cons (ps_par (i := 2) (j := 3) rfl sc__law_fields.nd rfl rfl (by decide) rfl rfl (pa_cons (pe_op op_and (pe_op op_shr (pv 1) pe_int) pe_int) (pa_cons (pe_op op_add (pe_op op_and (pe_op op_shr (pv 1) pe_int) pe_int) pe_int) pa_nil)) (by rfl))
      (pss_cons (ps_set (i := 4) sc__law_fields.nd rfl (.inl rfl) (pe_op op_and (pe_op op_shr (pv 1) pe_int) pe_int))
      (pss_cons (ps_if (PW.pt (pw_or (pt_cmpR op_gt (pv 4) pe_int (nomark _)) (pw_or (PW.pt (pw_and (pt_cmpR op_gt (pv 4) pe_int (nomark _)) (pw_and1 (pt_cmpR op_lt (pv 3) pe_int (nomark _))))) (pw_or1 (pt_cmpR op_gt (pe_op op_shl (pe_op op_add (pv 2) (pv 3)) (pv 4)) pe_int (nomark _)))))) (pss_one (ps_ret pe_non)) pss_nil)
      (pss_cons (ps_set (i := 5) sc__law_fields.nd rfl (.inr rfl) pe_str)
      (pss_cons (ps_set (i := 7) sc__law_fields.nd rfl (.inl rfl) (pe_join pe_str (pe_lc (own := [("_law_k", 6)]) rfl sc__law_fields.nd (pi_range1 (by rfl) T.z_range (pa_cons pe_int pa_nil)) (blkOk_by (own := [("_law_k", 6)]) (N := ["_law_word_here", "_law_bits", "_law_first", "_law_count", "_law_step", "_law_signs", "_law_k", "_law_rights_here"]) (sc := defScope s__law_fields) (by decide +kernel)) (fun _ _ _ _ _ => (pg_name (i := 6) sc__law_fields.nd rfl (.inl rfl))) (fun _ _ _ _ _ => (pts_one (pt_cmpR op_eq (pe_op op_and (pe_op op_shr (pv 1) (pe_op op_add pe_int (pv 6))) pe_int) pe_int (nomark _)))) (fun _ _ _ _ _ => (pe_ix (r := rIxS) ix_str (pv 5) (pv 6) (fun _ _ => rfl))))))
      (pss_one (ps_ret (pe_tup (pa_cons (pe_op op_shl (pv 2) (pv 4)) (pa_cons (pe_op op_shl (pe_op op_add (pv 2) (pv 3)) (pv 4)) (pa_cons (pe_op op_mod (pv 1) pe_int) (pa_cons (pv 7) (pa_cons (pe_op op_shr (pv 1) pe_int) pa_nil)))))))))))))), ?_⟩
    obtain ⟨h0, h45⟩ := hw
    have f := fb b
    have a12 : Builtin.bitAnd (b / 2 ^ 12) 4095 = fFirst b := Bits.bitAnd_mask 12 (by omega)
    have a24 : Builtin.bitAnd (b / 2 ^ 24) 15 + 1 = fCnt b := congrArg (· + 1) (Bits.bitAnd_mask 4 (by omega))
    have a28 : Builtin.bitAnd (b / 2 ^ 28) 15 = fStep b := Bits.bitAnd_mask 4 (by omega)
    have a0 : b % 4096 = fAt b := by
      unfold fAt
      rw [show (2 : Int) ^ 0 = 1 by decide, Int.ediv_one]
      rfl
    have a41 : b / 2 ^ 41 = fKind b := by
      unfold fKind
      rw [show (2 : Int) ^ 41 = 2199023255552 by decide, show (2 : Int) ^ 4 = 16 by decide]
      omega
    have cp3 : CPow (Builtin.bitAnd (b / 2 ^ 12) 4095 + (Builtin.bitAnd (b / 2 ^ 24) 15 + 1)) (Builtin.bitAnd (b / 2 ^ 28) 15) := by rw [a12, a24, a28]; exact cpw (by omega) (by omega) (by omega) (by omega)
    have cp1 : CPow (Builtin.bitAnd (b / 2 ^ 12) 4095) (Builtin.bitAnd (b / 2 ^ 28) 15) := by rw [a12, a28]; exact cpw (by omega) (by omega) (by omega) (by omega)
    refine ⟨_, rfl, p, _, 1, _, rfl, rfl, .of hp, atI_nat (j := 1) rfl, ?_⟩
    refine ⟨_, rfl, _, _, rfl, rfl, (by show (0 : Int) ≤ _; decide), _, _, rfl, rfl, _, rfl, _, _, rfl, rfl, (by show (0 : Int) ≤ _; decide), _, _, rfl, rfl, _, _, rfl, rfl, _, _, rfl, ?_⟩
    refine ⟨_, rfl, _, _, rfl, rfl, (by show (0 : Int) ≤ _; decide), _, _, rfl, rfl, ?_⟩
    refine' with_fin (A := Tells b) ?h ?k
    case k =>
      intro fin
      have no : ¬ Tells b → Q .non H := fun z => q1 z H (Same.refl _)
      have l3 : decide (4096 < (Builtin.bitAnd (b / 2 ^ 12) 4095 + (Builtin.bitAnd (b / 2 ^ 24) 15 + 1)) * 2 ^ (Builtin.bitAnd (b / 2 ^ 28) 15).toNat) = true ↔ ¬ (fFirst b + fCnt b) * 2 ^ (fStep b).toNat ≤ 4096 := by
        rw [a12, a24, a28, decide_eq_true_iff]; omega
      refine ⟨_, rfl, _, _, rfl, rfl, _, rfl, ifd (fun c => ?_) (fun c => ?_)⟩
      · have c2 : 8 < fStep b := by rw [← a28]; exact c
        exact no fun z => absurd z.1 (by omega)
      have c2 : ¬ 8 < fStep b := by rw [← a28]; exact c
      have last : (fStep b = 0 ∨ 9 ≤ fCnt b) → ∀ c : Bool, (c = true ↔ ¬ (fFirst b + fCnt b) * 2 ^ (fStep b).toNat ≤ 4096) → (c = true → ¬ Tells b) ∧ (c = false → Tells b) := fun z c hc =>
        ⟨fun e t => hc.mp e t.2.2, fun e => ⟨by omega, z, by
          rcases Decidable.em ((fFirst b + fCnt b) * 2 ^ (fStep b).toNat ≤ 4096) with h | h
          · exact h
          · rw [hc.mpr h] at e; cases e⟩⟩
      refine ⟨_, rfl, _, _, rfl, rfl, _, rfl, ifd (fun c3 => ?_) (fun c3 => ?_)⟩
      · have c4 : 0 < fStep b := by rw [← a28]; exact c3
        refine ⟨_, rfl, _, _, rfl, rfl, _, rfl, ifd (fun c5 => ?_) (fun c5 => ?_)⟩
        · have c6 : fCnt b < 9 := by rw [← a24]; exact c5
          exact no fun z => by have := z.2.1; omega
        · have c6 : ¬ fCnt b < 9 := by rw [← a24]; exact c5
          refine ⟨_, rfl, _, rfl, _, _, rfl, rfl, _, rfl, _, _, rfl, rfl, cp3, _, _, rfl, rfl, _, rfl, ifb (fun e => ?_) (fun e => ?_)⟩
          · exact no ((last (.inr (by omega)) _ l3).1 e)
          · exact fin ((last (.inr (by omega)) _ l3).2 e)
      · have c4 : ¬ 0 < fStep b := by rw [← a28]; exact c3
        refine ⟨_, rfl, _, rfl, _, _, rfl, rfl, _, rfl, _, _, rfl, rfl, cp3, _, _, rfl, rfl, _, rfl, ifb (fun e => ?_) (fun e => ?_)⟩
        · exact no ((last (.inl (by omega)) _ l3).1 e)
        · exact fin ((last (.inl (by omega)) _ l3).2 e)
    intro tl
    have hr0 : 0 ≤ fRts b := Int.emod_nonneg _ (by decide)
    refine ⟨⟨_, rfl⟩, 9, rfl, by decide, by decide, fun D hD => ?_⟩
    refine lc_range (lo := 0) (n := 9) (fun i H' => Same H H' ∧ H' D = some (.lst ((rcs (bitp (fRts b)) i).map V.str))) ⟨same_new hD, upd_same⟩ ?_ ?_
    · rintro i H1 hi ⟨sm, hl⟩
      rw [i0]
      refine ⟨rfl, ?_⟩
      have eb : Builtin.bitAnd (b / 2 ^ (32 + i)) 1 = b / 2 ^ (32 + i) % 2 := Bits.bitAnd_mask 1 (Int.ediv_nonneg h0 (Int.le_of_lt (pow_pos2 _)))
      have el := bit_lift b hi
      refine ⟨_, rfl, _, rfl, _, _, rfl, rfl, _, _, rfl, rfl, by omega, _, _, rfl, rfl, rfl, _, rfl, ifd (fun e => ?_) (fun e => ?_)⟩
      · have e3 : bitp (fRts b) i = true := by
          unfold bitp
          rw [← el, ← eb]
          exact decide_eq_true (V.int.inj e)
        refine ⟨_, rfl, _, rfl, RT, _, code i, rfl, rfl, by decide +kernel, atI_nat (j := i) (by rw [Array.getElem?_toList]; exact RT_get i hi), _, hl, ?_, ?_, ?_⟩
        · rw [List.length_map]
          have := rcs_len (bitp (fRts b)) i
          exact szn (by omega)
        · exact fun b o e => by
            have n : b ≠ D := ne_of_none e hD
            rw [upd_ne n]; exact sm b o e
        · rw [upd_same, rcs_succ, List.map_append, if_pos e3]; rfl
      · refine ⟨sm, ?_⟩
        have e3 : ¬ bitp (fRts b) i = true := by
          unfold bitp
          rw [← el, ← eb]
          intro z
          exact e (congrArg V.int (of_decide_eq_true z))
        rw [rcs_succ, if_neg e3, List.append_nil]
        exact hl
    · rintro H1 ⟨sm, hl⟩
      refine ⟨_, D, _, rfl, rfl, .inl (.of hl), rcs_fit _, ?_⟩
      refine ⟨_, rfl, _, rfl, _, _, rfl, rfl, cp1, _, rfl, _, rfl, _, _, rfl, rfl, _, rfl, _, _, rfl, rfl, cp3, _, rfl, _, _, rfl, rfl, (by show (0 : Int) < _; decide), _, rfl, _, rfl, _, _, rfl, rfl, (by show (0 : Int) ≤ _; decide), sz (by simp), fun q hq => ?_⟩
      refine q2 tl q _ (sameN sm hq) (Same.free sm hq) ?_
      rw [upd_same]
      show some (HO.tup [.int (Builtin.bitAnd (b / 2 ^ 12) 4095 * 2 ^ (Builtin.bitAnd (b / 2 ^ 28) 15).toNat), .int ((Builtin.bitAnd (b / 2 ^ 12) 4095 + (Builtin.bitAnd (b / 2 ^ 24) 15 + 1)) * 2 ^ (Builtin.bitAnd (b / 2 ^ 28) 15).toNat), .int (b % 4096), .str (rtx (bitp (fRts b))), .int (b / 2 ^ 41)]) = _
      rw [a12, a24, a28, a0, a41]
      rfl

def sp__law_made (K : PySem.W.Frag) : Sp := fun vs H Q _ => ∃ (lo hi at' kd : Int) (p : Nat → Bool), vs = [.int lo, .int hi, .int at', .str (rtx p), .int kd] ∧ Bd lo hi ∧ (∃ s, Ex lo hi s) ∧ 0 ≤ at' ∧ at' ≤ 4095 ∧ 0 ≤ kd ∧ kd ≤ 15 ∧ OneW (rtx p) ∧ ∀ s b q H', WF b lo hi at' p kd s → Same H H' → H q = none → Wd H' q true b → Q (.ref q) H'
theorem ok__law_made {f : Addr} {fd : FuncData} (F : Fun K "_law_made" "_law_made" s__law_made f fd) (T : Txt K mg) (C__law_least : Cal P w K mg base "_law_least" 1 ["_law_low", "_law_high"] (sp__law_least K)) : FnOk P w K mg base CX0 2 f fd ["_law_low", "_law_high", "_law_at", "_law_rights_here", "_law_kind"] (sp__law_made K) := by
  refine F.ok sc__law_made (fun vs H Q E h => ?_) (fun cdv A outer s H vs Q E hr h => ?_)
  · obtain ⟨lo, hi, at', kd, p, rfl, bd, ex, a0, a1, k0, k1, ow, q⟩ := h; rfl
  · obtain ⟨lo, hi, at', kd, p, rfl, bd, ex, a0, a1, k0, k1, ow, q⟩ := h
    refine ⟨_, (pss_cons (ps_set (i := 5) sc__law_made.nd rfl (.inl rfl) (pe_ix (r := rIxT K) ix_tup (pe_cal C__law_least (hr.mono (by decide)) (pa_cons (pv 0) (pa_cons (pv 1) pa_nil))) pe_int (fun _ _ => rfl)))
      (pss_cons (ps_set (i := 6) sc__law_made.nd rfl (.inl rfl) (pe_op op_add (pe_op op_add (pe_op op_add (pv 2) (pe_op op_shl (pe_op op_shr (pv 0) (pv 5)) pe_int)) (pe_op op_shl (pe_op op_sub (pe_op op_shr (pe_op op_sub (pv 1) (pv 0)) (pv 5)) pe_int) pe_int)) (pe_op op_shl (pv 5) pe_int)))
      (pss_cons (ps_for PassesOwn.never rfl (pi_enumS (by rfl) T.z_enumerate (pa_cons pe_str pa_nil)) (pg_tup rfl (pgs_cons (pg_name (i := 7) sc__law_made.nd rfl (.inl rfl)) (pgs_cons (pg_name (i := 8) sc__law_made.nd rfl (.inl rfl)) pgs_nil))) (pss_one (ps_set (i := 6) sc__law_made.nd rfl (.inl rfl) (pe_op op_add (pv 6) (pe_op op_shl (pe_callTy call_int1 (by rfl) T.z_int (by decide +kernel) (pa_cons (pe_cmpR op_in_sign (pv 8) (pv 3) (by rfl)) pa_nil)) (pe_op op_add pe_int (pv 7)))))))
      (pss_one (ps_ret (pe_tup (pa_cons pe_bl (pa_cons (pe_op op_add (pv 6) (pe_op op_shl (pv 4) pe_int)) pa_nil)))))))), ?_⟩
    obtain ⟨s0, ex0⟩ := ex
    refine ⟨_, rfl, _, rfl, lo, hi, rfl, bd, fun s p1 hs hp1 => ?_⟩
    have es : s0 = s := ex0.1.uniq hs
    subst es
    refine ⟨p1, _, 2, _, rfl, rfl, .of upd_same, atI_nat (j := 2) rfl, ?_⟩
    have h8 := hs.1
    obtain ⟨b1, b2, b3⟩ := bd
    have d1 := div_le' (s := s0) b1
    have d2 := div_le' (s := s0) (x := hi - lo) (by omega)
    have me := made_eq ex0
    have dd := hs.2.1
    have dn : 0 ≤ Dd lo hi s0 := by
      unfold Dd
      have := Int.ediv_le_ediv (pow_pos2 s0) (show lo ≤ hi - 1 by omega)
      omega
    refine ⟨_, rfl, _, rfl, _, rfl, _, _, rfl, rfl, by omega, _, _, rfl, rfl, cpw (z := lo / 2 ^ s0) d1.1 (by omega) (by omega) (by omega), _, _, rfl, rfl, _, rfl, _, rfl, _, _, rfl, rfl, _, rfl, _, _, rfl, rfl, by omega, _, _, rfl, rfl, _, _, rfl, rfl, cpw (z := (hi - lo) / 2 ^ s0 - 1) (by omega) (by omega) (by omega) (by omega), _, _, rfl, rfl, _, rfl, _, _, rfl, rfl, cpw (z := (s0 : Int)) (by omega) (by omega) (by omega) (by omega), _, _, rfl, rfl, ?_⟩
    have S1 := same_new (o := .tup [.int (lo / 2 ^ s0 * 2 ^ s0), .int (((hi - 1) / 2 ^ s0 + 1) * 2 ^ s0), .int s0]) hp1
    generalize upd H p1 _ = H1 at S1 ⊢
    obtain ⟨z, ez2⟩ : ∃ z : Int, z = at' + lo / 2 ^ s0 * 4096 + Dd lo hi s0 * 16777216 + (s0 : Int) * 268435456 := ⟨_, rfl⟩
    refine ⟨RT, rfl, for_it (walk_enumS (z := RT)) (fun j σ H' => ∃ (w : Int) (v7 v8 : Option V), σ = [some (.int lo), some (.int hi), some (.int at'), some (.str (rtx p)), some (.int kd), some (.int s0), some (.int w), v7, v8] ∧ w = z + (mask p j).sum * 4294967296 ∧ Same H1 H') ⟨_, _, _, rfl, (by
      show at' + lo / 2 ^ s0 * 2 ^ 12 + ((hi - lo) / 2 ^ s0 - 1) * 2 ^ 24 + (s0 : Int) * 2 ^ 28 = _
      rw [me, ez2, show (2 : Int) ^ 12 = 4096 by decide, show (2 : Int) ^ 24 = 16777216 by decide, show (2 : Int) ^ 28 = 268435456 by decide]
      unfold mask; simp), Same.refl _⟩ (fun _ _ _ _ _ => trivial) ?_ ?_⟩
    · rintro j x σ H2 H3 hj ⟨w, v7, v8, rfl, hw, S2⟩ ⟨Tp, x1', y1', rfl, hn, rfl, hx1, hy1⟩
      rw [RT_size] at hj
      have hy1 : (RT.cps[j]?).map (fun c => V.str ⟨#[c]⟩) = some y1' := hy1
      rw [RT_get j hj] at hy1
      have e1 : x1' = .int (j : Int) := (Option.some.inj hx1).symm
      have e2 : y1' = .str (one (code j)) := (Option.some.inj hy1).symm
      subst e1 e2
      refine ⟨Tp, _, rfl, .of upd_same, rfl, _, _, rfl, _, _, rfl, rfl, ?_⟩
      have S3 := sameN (o := .tup [.int (j : Int), .str (one (code j))]) S2 hn
      generalize upd H2 Tp _ = H3 at S3 ⊢
      refine ⟨_, rfl, _, rfl, _, rfl, code j, rtx p, rfl, rfl, .inr ⟨_, rfl, _, rfl, _, _, rfl, rfl, _, _, rfl, rfl, cpw (by split <;> decide) (by split <;> decide) (by omega) (by omega), _, _, rfl, rfl, ?_⟩⟩
      refine ⟨_, _, _, rfl, made_step (p := p) ?_ hw, S3⟩
      rw [Bool.eq_iff_iff, decide_eq_true_iff]
      exact rtx_mem p hj
    rintro σ H2 ⟨w, v7, v8, rfl, hw, S2⟩
    rw [RT_size] at hw
    refine ⟨_, rfl, _, rfl, _, _, rfl, rfl, cpw k0 (by omega) (by decide) (by decide), _, _, rfl, rfl, sz (by simp), fun q2 hq2 => ?_⟩
    have W : WF (w + kd * 2 ^ (41 : Int).toNat) lo hi at' p kd s0 := ⟨⟨b1, b2, b3⟩, ex0, a0, a1, k0, k1, ow, by
      rw [wb_eq, hw, ez2, maskOf_rtx]
      show _ = _ + kd * 2 ^ 41
      omega⟩
    have A := W.all
    exact q s0 _ q2 _ W (sameN (S1.trans S2) hq2) (Same.free (S1.trans S2) hq2) ⟨upd_same, A.1, fun _ => A.2.1⟩

def sp__law_bounds (K : PySem.W.Frag) : Sp := fun vs H Q _ => ∃ (a : Addr) (x y : Int), vs = [.ref a] ∧ Pool H a x y ∧ ∀ (lo hi : Int) q x1 y1 H', Bd lo hi → (∃ s, Ex lo hi s) → But a H H' → Pool H' a x1 y1 → H q = none → H' q = some (.tup [.int lo, .int hi]) → Q (.ref q) H'
theorem ok__law_bounds {f : Addr} {fd : FuncData} (F : Fun K "_law_bounds" "_law_bounds" s__law_bounds f fd) (T : Txt K mg) (C__law_take : Cal P w K mg base "_law_take" 1 ["_law_pool_here", "_law_many"] (sp__law_take K)) (C__law_least : Cal P w K mg base "_law_least" 1 ["_law_low", "_law_high"] (sp__law_least K)) : FnOk P w K mg base CX0 2 f fd ["_law_pool_here"] (sp__law_bounds K) := by
  refine F.ok sc__law_bounds (fun vs H Q E h => ?_) (fun cdv A outer s H vs Q E hr h => ?_)
  · obtain ⟨a, x, y, rfl, hP, q⟩ := h; rfl
  · obtain ⟨a, x, y, rfl, hP, q⟩ := h
    refine ⟨_, (pss_cons (ps_set (i := 1) sc__law_bounds.nd rfl (.inl rfl) (pe_ix (r := rIxL K) ix_list (pe_lst (pa_cons pe_int (pa_cons pe_int (pa_cons pe_int (pa_cons pe_int (pa_cons pe_int (pa_cons (pe_cal C__law_take (hr.mono (by decide)) (pa_cons (pv 0) (pa_cons pe_int pa_nil))) (pa_cons (pe_cal C__law_take (hr.mono (by decide)) (pa_cons (pv 0) (pa_cons pe_int pa_nil))) pa_nil)))))))) (pe_cal C__law_take (hr.mono (by decide)) (pa_cons (pv 0) (pa_cons pe_int pa_nil))) (fun _ _ => rfl)))
      (pss_cons (ps_set (i := 2) sc__law_bounds.nd rfl (.inl rfl) (pe_ix (r := rIxL K) ix_list (pe_lst (pa_cons pe_int (pa_cons pe_int (pa_cons pe_int (pa_cons pe_int (pa_cons pe_int (pa_cons pe_int (pa_cons (pe_op op_add pe_int (pe_cal C__law_take (hr.mono (by decide)) (pa_cons (pv 0) (pa_cons pe_int pa_nil)))) (pa_cons (pe_op op_add pe_int (pe_cal C__law_take (hr.mono (by decide)) (pa_cons (pv 0) (pa_cons pe_int pa_nil)))) pa_nil))))))))) (pe_cal C__law_take (hr.mono (by decide)) (pa_cons (pv 0) (pa_cons pe_int pa_nil))) (fun _ _ => rfl)))
      (pss_cons (ps_asg (pe_cal C__law_least (hr.mono (by decide)) (pa_cons (pv 1) (pa_cons (pe_callB (call_min2 rfl) (by rfl) T.z_min (by decide +kernel) (pa_cons pe_int (pa_cons (pe_op op_add (pv 1) (pv 2)) pa_nil))) pa_nil))) (pg_tup rfl (pgs_cons (pg_name (i := 3) sc__law_bounds.nd rfl (.inl rfl)) (pgs_cons (pg_name (i := 4) sc__law_bounds.nd rfl (.inl rfl)) (pgs_cons (pg_name (i := 5) sc__law_bounds.nd rfl (.inl rfl)) pgs_nil)))))
      (pss_one (ps_ret (pe_tup (pa_cons (pv 3) (pa_cons (pv 4) pa_nil)))))))), ?_⟩
    refine ⟨_, rfl, a, x, y, _, rfl, hP, by decide, by decide, fun r1 x1 y1 H1 r10 r11 B1 P1 => ⟨_, rfl, a, x1, y1, _, rfl, P1, by decide, by decide, fun r2 x2 y2 H2 r20 r21 B2 P2 => ⟨sz (by simp), fun q1 hq1 => ?_⟩⟩⟩
    refine ⟨_, rfl, a, x2, y2, _, rfl, P2.new hq1, by decide, by decide, fun r3 x3 y3 H3 r30 r31 B3 P3 => ?_⟩
    have n1 : q1 ≠ a := (ne_of_none P2.1 hq1).symm
    obtain ⟨lv, hv, lo, rfl, l0, l1⟩ := pick (xs := [.int 0, .int 1, .int 16, .int 2048, .int 4095, .int r1, .int r2]) (fun v => ∃ z, v = .int z ∧ 0 ≤ z ∧ z ≤ 4095) r30 r31 (by
      intro v hv
      simp at hv
      rcases hv with h | h | h | h | h | h | h <;> exact ⟨_, h, by omega, by omega⟩)
    refine ⟨q1, _, _, _, rfl, rfl, .of (B3 _ _ n1 upd_same), hv, ?_⟩
    clear hv
    refine ⟨_, rfl, a, x3, y3, _, rfl, P3, by decide, by decide, fun r4 x4 y4 H4 r40 r41 B4 P4 => ⟨_, _, rfl, rfl, _, rfl, a, x4, y4, _, rfl, P4, by decide, by decide, fun r5 x5 y5 H5 r50 r51 B5 P5 => ⟨_, _, rfl, rfl, sz (by simp), fun q2 hq2 => ?_⟩⟩⟩
    refine ⟨_, rfl, a, x5, y5, _, rfl, P5.new hq2, by decide, by decide, fun r6 x6 y6 H6 r60 r61 B6 P6 => ?_⟩
    have n2 : q2 ≠ a := (ne_of_none P5.1 hq2).symm
    obtain ⟨mv, hmv, mn, rfl, m0⟩ := pick (xs := [.int 1, .int 2, .int 16, .int 17, .int 32, .int 33, .int (1 + r4), .int (1 + r5)]) (fun v => ∃ z, v = .int z ∧ 1 ≤ z) r60 r61 (by
      intro v hv
      simp at hv
      rcases hv with h | h | h | h | h | h | h | h <;> exact ⟨_, h, by omega⟩)
    refine ⟨q2, _, _, _, rfl, rfl, .of (B6 _ _ n2 upd_same), hmv, ?_⟩
    clear hmv
    have B : But a H H6 := by walk_at "but"
    obtain ⟨h0, eh, h01, h02⟩ : ∃ h0 : Int, h0 = (if lo + mn < 4096 then lo + mn else 4096) ∧ lo < h0 ∧ h0 ≤ 4096 := ⟨_, rfl, by split <;> omega, by split <;> omega⟩
    refine ⟨_, rfl, _, rfl, _, rfl, _, _, rfl, rfl, _, _, rfl, ?_⟩
    rw [← eh]
    refine ⟨lo, h0, rfl, ⟨l0, h01, h02⟩, fun s p1 hs hp1 => ?_⟩
    refine ⟨p1, _, rfl, .of upd_same, rfl, _, _, rfl, _, _, rfl, _, _, rfl, rfl, ?_⟩
    refine ⟨_, rfl, _, rfl, sz (by simp), fun p2 hp2 => ?_⟩
    have fr := least_ex ⟨l0, h01, h02⟩ hs
    refine q _ _ p2 x6 y6 _ fr.1 ⟨s, fr.2.1⟩ (by walk_at "but") ((P6.new hp1).new hp2) (But.free (But.new B hp1) (P6.new hp1) hp2) upd_same

def sp__law_rights (K : PySem.W.Frag) : Sp := fun vs H Q _ => ∃ (a : Addr) (x y : Int), vs = [.ref a] ∧ Pool H a x y ∧ ∀ p x1 y1 H', OneW (rtx p) → But a H H' → Pool H' a x1 y1 → Q (.str (rtx p)) H'
theorem ok__law_rights {f : Addr} {fd : FuncData} (F : Fun K "_law_rights" "_law_rights" s__law_rights f fd) (T : Txt K mg) (C__law_take : Cal P w K mg base "_law_take" 1 ["_law_pool_here", "_law_many"] (sp__law_take K)) : FnOk P w K mg base CX0 2 f fd ["_law_pool_here"] (sp__law_rights K) := by
  refine F.ok sc__law_rights (fun vs H Q E h => ?_) (fun cdv A outer s H vs Q E hr h => ?_)
  · obtain ⟨a, x, y, rfl, hP, q⟩ := h; rfl
  · obtain ⟨a, x, y, rfl, hP, q⟩ := h
    refine ⟨_, (pss_cons (ps_set (i := 1) sc__law_rights.nd rfl (.inl rfl) (pe_cal C__law_take (hr.mono (by decide)) (pa_cons (pv 0) (pa_cons pe_int pa_nil))))
      (pss_cons (ps_if (pt_cmpR op_eq (pv 1) pe_int (nomark _)) (pss_one (ps_ret (pe_ix (r := rIxL K) ix_list (pe_lst (pa_cons pe_str (pa_cons pe_str pa_nil))) (pe_cal C__law_take (hr.mono (by decide)) (pa_cons (pv 0) (pa_cons pe_int pa_nil))) (fun _ _ => rfl)))) pss_nil)
      (pss_cons (ps_if (pt_cmpR op_eq (pv 1) pe_int (nomark _)) (pss_one (ps_ret (pe_ix (r := rIxL K) ix_list (pe_lst (pa_cons pe_str (pa_cons pe_str (pa_cons pe_str (pa_cons pe_str (pa_cons pe_str (pa_cons pe_str pa_nil))))))) (pe_cal C__law_take (hr.mono (by decide)) (pa_cons (pv 0) (pa_cons pe_int pa_nil))) (fun _ _ => rfl)))) pss_nil)
      (pss_cons (ps_if (pt_cmpR op_eq (pv 1) pe_int (nomark _)) (pss_one (ps_ret (pe_ix (r := rIxL K) ix_list (pe_lst (pa_cons pe_str (pa_cons pe_str pa_nil))) (pe_cal C__law_take (hr.mono (by decide)) (pa_cons (pv 0) (pa_cons pe_int pa_nil))) (fun _ _ => rfl)))) pss_nil)
      (pss_cons (ps_if (pt_cmpR op_lt (pv 1) pe_int (nomark _)) (pss_one (ps_ret (pe_ix (r := rIxL K) ix_list (pe_lst (pa_cons pe_str (pa_cons pe_str (pa_cons pe_str pa_nil)))) (pe_cal C__law_take (hr.mono (by decide)) (pa_cons (pv 0) (pa_cons pe_int pa_nil))) (fun _ _ => rfl)))) pss_nil)
      (pss_one (ps_ret (pe_join pe_str (pe_lc (own := [("_law_sign", 2)]) rfl sc__law_rights.nd (pi_str pe_str) (blkOk_by (own := [("_law_sign", 2)]) (N := ["_law_pool_here", "_law_way", "_law_sign"]) (sc := defScope s__law_rights) (by decide +kernel)) (fun _ _ _ _ _ => (pg_name (i := 2) sc__law_rights.nd rfl (.inl rfl))) (fun _ _ _ _ _ => (pts_one (pt_cmpR op_gt (pe_cal C__law_take (hr.mono (by decide)) (pa_cons (pv 0) (pa_cons pe_int pa_nil))) pe_int (nomark _)))) (fun _ _ _ _ _ => (pv 2))))))))))), ?_⟩
    refine ⟨_, rfl, a, x, y, _, rfl, hP, by decide, by decide, fun r1 x1 y1 H1 r10 r11 B1 P1 => ?_⟩
    refine ⟨_, rfl, rfl, _, rfl, ifd (fun c => ?_) (fun c1 => ?_)⟩
    · refine ⟨sz (by simp), fun q1 hq1 => ?_⟩
      refine ⟨_, rfl, a, x1, y1, _, rfl, P1.new hq1, by decide, by decide, fun r2 x2 y2 H2 r20 r21 B2 P2 => ?_⟩
      have n1 : q1 ≠ a := (ne_of_none P1.1 hq1).symm
      obtain ⟨lv, hv, pp, rfl, ow⟩ := pick (xs := [.str (Str.ofString "x"), .str (Str.ofString "fx")]) RV r20 r21 (by
        intro v hv
        simp only [List.mem_cons, List.not_mem_nil, or_false] at hv
        rcases hv with h | h <;> (subst h; exact rvd (by decide +kernel)))
      refine ⟨q1, _, _, _, rfl, rfl, .of (B2 _ _ n1 upd_same), hv, ?_⟩
      exact q pp x2 y2 _ ow (by walk_at "but") P2
    refine ⟨_, rfl, rfl, _, rfl, ifd (fun c => ?_) (fun c2 => ?_)⟩
    · refine ⟨sz (by simp), fun q1 hq1 => ?_⟩
      refine ⟨_, rfl, a, x1, y1, _, rfl, P1.new hq1, by decide, by decide, fun r2 x2 y2 H2 r20 r21 B2 P2 => ?_⟩
      have n1 : q1 ≠ a := (ne_of_none P1.1 hq1).symm
      obtain ⟨lv, hv, pp, rfl, ow⟩ := pick (xs := [.str (Str.ofString "c"), .str (Str.ofString "o"), .str (Str.ofString "fco"), .str (Str.ofString "co"), .str (Str.ofString "fo"), .str (Str.ofString "fc")]) RV r20 r21 (by
        intro v hv
        simp only [List.mem_cons, List.not_mem_nil, or_false] at hv
        rcases hv with h | h | h | h | h | h <;> (subst h; exact rvd (by decide +kernel)))
      refine ⟨q1, _, _, _, rfl, rfl, .of (B2 _ _ n1 upd_same), hv, ?_⟩
      exact q pp x2 y2 _ ow (by walk_at "but") P2
    refine ⟨_, rfl, rfl, _, rfl, ifd (fun c => ?_) (fun c3 => ?_)⟩
    · refine ⟨sz (by simp), fun q1 hq1 => ?_⟩
      refine ⟨_, rfl, a, x1, y1, _, rfl, P1.new hq1, by decide, by decide, fun r2 x2 y2 H2 r20 r21 B2 P2 => ?_⟩
      have n1 : q1 ≠ a := (ne_of_none P1.1 hq1).symm
      obtain ⟨lv, hv, pp, rfl, ow⟩ := pick (xs := [.str (Str.ofString ""), .str (Str.ofString "f")]) RV r20 r21 (by
        intro v hv
        simp only [List.mem_cons, List.not_mem_nil, or_false] at hv
        rcases hv with h | h <;> (subst h; exact rvd (by decide +kernel)))
      refine ⟨q1, _, _, _, rfl, rfl, .of (B2 _ _ n1 upd_same), hv, ?_⟩
      exact q pp x2 y2 _ ow (by walk_at "but") P2
    refine ⟨_, rfl, _, _, rfl, rfl, _, rfl, ifd (fun c => ?_) (fun c4 => ?_)⟩
    · refine ⟨sz (by simp), fun q1 hq1 => ?_⟩
      refine ⟨_, rfl, a, x1, y1, _, rfl, P1.new hq1, by decide, by decide, fun r2 x2 y2 H2 r20 r21 B2 P2 => ?_⟩
      have n1 : q1 ≠ a := (ne_of_none P1.1 hq1).symm
      obtain ⟨lv, hv, pp, rfl, ow⟩ := pick (xs := [.str (Str.ofString "rwlsf"), .str (Str.ofString "rwlsn"), .str (Str.ofString "rwlsnf")]) RV r20 r21 (by
        intro v hv
        simp only [List.mem_cons, List.not_mem_nil, or_false] at hv
        rcases hv with h | h | h <;> (subst h; exact rvd (by decide +kernel)))
      refine ⟨q1, _, _, _, rfl, rfl, .of (B2 _ _ n1 upd_same), hv, ?_⟩
      exact q pp x2 y2 _ ow (by walk_at "but") P2
    refine ⟨⟨_, rfl⟩, Str.ofString "rwlsnf", rfl, fun D hD => ?_⟩
    have n0 : D ≠ a := (ne_of_none P1.1 hD).symm
    refine lc_it (walk_str (z := Str.ofString "rwlsnf")) (fun i H' => ∃ p x2 y2, But a H1 H' ∧ Pool H' a x2 y2 ∧ H' D = some (.lst ((rcs p i).map V.str))) ⟨fun _ => false, x1, y1, But.new (But.refl _ _) hD, P1.new hD, upd_same⟩ (fun _ _ _ _ => trivial) ?_ ?_
    · rintro i xx H2 H3 hi ⟨p, x2, y2, B2, P2, hl⟩ ⟨rfl, c', hc', rfl⟩
      rw [RL_size] at hi
      rw [RL_get i hi] at hc'
      have ec : c' = code i := (Option.some.inj hc').symm
      subst ec
      refine ⟨rfl, ?_⟩
      refine ⟨_, rfl, a, x2, y2, _, rfl, P2, by decide, by decide, fun r3 x3 y3 H3 r30 r31 B3 P3 => ⟨_, _, rfl, rfl, _, rfl, ifb (fun e => ?_) (fun e => ?_)⟩⟩
      · refine ⟨_, rfl, _, B3 _ _ n0 hl, ?_, setp p i true, x3, y3, ?_, ?_, ?_⟩
        · rw [List.length_map]
          have := rcs_len p i
          exact szn (by omega)
        · exact fun b o nb e => by
            have n : b ≠ D := ne_of_none e hD
            rw [upd_ne n]; exact B3 _ _ nb (B2 b o nb e)
        · exact ⟨by rw [upd_ne n0.symm]; exact P3.1, P3.2⟩
        · rw [upd_same, rcs_set, List.map_append]; rfl
      · refine ⟨setp p i false, x3, y3, B2.trans B3, P3, ?_⟩
        rw [rcs_set]
        simp only [Bool.false_eq_true, if_false, List.append_nil]
        exact B3 _ _ n0 hl
    · rintro H2 ⟨p, x2, y2, B2, P2, hl⟩
      rw [RL_size] at hl
      refine ⟨_, D, _, rfl, rfl, .inl (.of hl), rcs_fit6 _, ?_⟩
      rw [join_low]
      exact q _ x2 y2 _ (ow_lowp p) (B1.trans B2) P2

def sp__law_word (K : PySem.W.Frag) : Sp := fun vs H Q _ => ∃ (a : Addr) (x y : Int), vs = [.ref a] ∧ Pool H a x y ∧ ∀ q m b x1 y1 H', But a H H' → Pool H' a x1 y1 → H q = none → Wd H' q m b → Q (.ref q) H'
theorem ok__law_word {f : Addr} {fd : FuncData} (F : Fun K "_law_word" "_law_word" s__law_word f fd) (T : Txt K mg) (C__law_take : Cal P w K mg base "_law_take" 1 ["_law_pool_here", "_law_many"] (sp__law_take K)) (C__law_made : Cal P w K mg base "_law_made" 2 ["_law_low", "_law_high", "_law_at", "_law_rights_here", "_law_kind"] (sp__law_made K)) (C__law_bounds : Cal P w K mg base "_law_bounds" 2 ["_law_pool_here"] (sp__law_bounds K)) (C__law_rights : Cal P w K mg base "_law_rights" 2 ["_law_pool_here"] (sp__law_rights K)) : FnOk P w K mg base CX0 3 f fd ["_law_pool_here"] (sp__law_word K) := by
  refine F.ok sc__law_word (fun vs H Q E h => ?_) (fun cdv A outer s H vs Q E hr h => ?_)
  · obtain ⟨a, x, y, rfl, hP, q⟩ := h; rfl
  · obtain ⟨a, x, y, rfl, hP, q⟩ := h
    refine ⟨_, (pss_cons (ps_if (pt_cmpR op_eq (pe_cal C__law_take (hr.mono (by decide)) (pa_cons (pv 0) (pa_cons pe_int pa_nil))) pe_int (nomark _)) (pss_one (ps_ret (pe_tup (pa_cons pe_bl (pa_cons (pe_ix (r := rIxL K) ix_list (pe_lst (pa_cons pe_int (pa_cons pe_int (pa_cons pe_int (pa_cons (pe_op op_sub (pe_op op_pow pe_int pe_int) pe_int) (pa_cons (pe_cal C__law_take (hr.mono (by decide)) (pa_cons (pv 0) (pa_cons (pe_op op_pow pe_int pe_int) pa_nil))) pa_nil)))))) (pe_cal C__law_take (hr.mono (by decide)) (pa_cons (pv 0) (pa_cons pe_int pa_nil))) (fun _ _ => rfl)) pa_nil))))) pss_nil)
      (pss_cons (ps_asg (pe_cal C__law_bounds (hr.mono (by decide)) (pa_cons (pv 0) pa_nil)) (pg_tup rfl (pgs_cons (pg_name (i := 1) sc__law_word.nd rfl (.inl rfl)) (pgs_cons (pg_name (i := 2) sc__law_word.nd rfl (.inl rfl)) pgs_nil))))
      (pss_cons (ps_set (i := 3) sc__law_word.nd rfl (.inl rfl) (pe_cal C__law_rights (hr.mono (by decide)) (pa_cons (pv 0) pa_nil)))
      (pss_cons (ps_if (PW.pt (pw_and (PW.pt (pw_or (pt_cmpR op_in_sign pe_str (pv 3) (by rfl)) (pw_or1 (pt_cmpR op_in_sign pe_str (pv 3) (by rfl))))) (pw_and1 (pt_cmpR op_gt (pe_cal C__law_take (hr.mono (by decide)) (pa_cons (pv 0) (pa_cons pe_int pa_nil))) pe_int (nomark _))))) (pss_one (ps_asg (pe_ix (r := rIxL K) ix_list (pe_lst (pa_cons (pe_tup (pa_cons pe_int (pa_cons pe_int pa_nil))) (pa_cons (pe_tup (pa_cons pe_int (pa_cons pe_int pa_nil))) (pa_cons (pe_tup (pa_cons pe_int (pa_cons pe_int pa_nil))) (pa_cons (pe_tup (pa_cons pe_int (pa_cons pe_int pa_nil))) (pa_cons (pe_tup (pa_cons pe_int (pa_cons pe_int pa_nil))) pa_nil)))))) (pe_cal C__law_take (hr.mono (by decide)) (pa_cons (pv 0) (pa_cons pe_int pa_nil))) (fun _ _ => rfl)) (pg_tup rfl (pgs_cons (pg_name (i := 1) sc__law_word.nd rfl (.inl rfl)) (pgs_cons (pg_name (i := 2) sc__law_word.nd rfl (.inl rfl)) pgs_nil))))) pss_nil)
      (pss_cons (ps_set (i := 4) sc__law_word.nd rfl (.inl rfl) (pe_ix (r := rIxL K) ix_list (pe_lst (pa_cons (pv 1) (pa_cons (pe_op op_sub (pv 2) pe_int) (pa_cons (pe_op op_mod (pv 2) pe_int) (pa_cons (pe_op op_add (pv 1) (pe_cal C__law_take (hr.mono (by decide)) (pa_cons (pv 0) (pa_cons (pe_op op_sub (pv 2) (pv 1)) pa_nil)))) (pa_cons (pe_cal C__law_take (hr.mono (by decide)) (pa_cons (pv 0) (pa_cons pe_int pa_nil))) pa_nil)))))) (pe_cal C__law_take (hr.mono (by decide)) (pa_cons (pv 0) (pa_cons pe_int pa_nil))) (fun _ _ => rfl)))
      (pss_cons (ps_set (i := 5) sc__law_word.nd rfl (.inl rfl) (pe_ix (r := rIxL K) ix_list (pe_lst (pa_cons pe_int (pa_cons pe_int (pa_cons pe_int (pa_cons pe_int (pa_cons pe_int (pa_cons pe_int (pa_cons pe_int (pa_cons pe_int (pa_cons (pe_cal C__law_take (hr.mono (by decide)) (pa_cons (pv 0) (pa_cons pe_int pa_nil))) pa_nil)))))))))) (pe_cal C__law_take (hr.mono (by decide)) (pa_cons (pv 0) (pa_cons pe_int pa_nil))) (fun _ _ => rfl)))
      (pss_cons (ps_set (i := 6) sc__law_word.nd rfl (.inl rfl) (pe_cal C__law_made (hr.mono (by decide)) (pa_cons (pv 1) (pa_cons (pv 2) (pa_cons (pv 4) (pa_cons (pv 3) (pa_cons (pv 5) pa_nil)))))))
      (pss_one (ps_ret (pe_ix (r := rIxL K) ix_list (pe_lst (pa_cons (pv 6) (pa_cons (pv 6) (pa_cons (pv 6) (pa_cons (pv 6) (pa_cons (pe_tup (pa_cons pe_bl (pa_cons (pe_ix (r := rIxT K) ix_tup (pv 6) pe_int (fun _ _ => rfl)) pa_nil))) pa_nil)))))) (pe_cal C__law_take (hr.mono (by decide)) (pa_cons (pv 0) (pa_cons pe_int pa_nil))) (fun _ _ => rfl))))))))))), ?_⟩
    have pw : (2 : Int) ^ (45 : Int).toNat = 35184372088832 := by decide
    refine ⟨_, rfl, a, x, y, _, rfl, hP, by decide, by decide, fun r1 x1 y1 H1 r10 r11 B1 P1 => ⟨rfl, _, rfl, ifd (fun c => ?_) (fun c1 => ?_)⟩⟩
    · refine ⟨_, _, rfl, rfl, ⟨by decide, by decide, by decide⟩, _, _, rfl, rfl, _, rfl, _, _, rfl, rfl, ⟨by decide, by decide, by decide⟩, a, x1, y1, _, rfl, P1, by rw [pw]; decide, by rw [pw]; decide, fun r2 x2 y2 H2 r20 r21 B2 P2 => ⟨sz (by simp), fun q1 hq1 => ?_⟩⟩
      refine ⟨_, rfl, a, x2, y2, _, rfl, P2.new hq1, by decide, by decide, fun r3 x3 y3 H3 r30 r31 B3 P3 => ?_⟩
      have n1 : q1 ≠ a := (ne_of_none P2.1 hq1).symm
      rw [pw] at r21
      obtain ⟨lv, hv, z, rfl, hz⟩ := pick (xs := [.int 0, .int 1, .int 4095, .int (2 ^ (45 : Int).toNat - 1), .int r2]) (fun v => ∃ z, v = .int z ∧ W45 z) r30 r31 (by
        intro v hv
        simp only [List.mem_cons, List.not_mem_nil, or_false] at hv
        rcases hv with h | h | h | h | h <;> refine ⟨_, h, ?_⟩
        · exact W45_of (n := 0) (by decide)
        · exact W45_of (n := 1) (by decide)
        · exact W45_of (n := 4095) (by decide)
        · rw [pw]; exact W45_of (n := 35184372088831) (by decide)
        · exact ⟨r20, r21⟩)
      refine ⟨q1, _, _, _, rfl, rfl, .of (B3 _ _ n1 upd_same), hv, sz (by simp), fun q2 hq2 => ?_⟩
      have B : But a H H3 := by walk_at "but"
      exact q q2 false z x3 y3 _ (B.new hq2) (P3.new hq2) (B.free P3 hq2) ⟨upd_same, hz, fun h => Bool.noConfusion h⟩
    refine ⟨_, rfl, a, x1, y1, rfl, P1, fun lo hi qb x2 y2 H2 bd ex B2 P2 hqb hqb2 => ⟨qb, _, rfl, .of hqb2, rfl, _, _, rfl, _, _, rfl, rfl, ?_⟩⟩
    refine ⟨_, rfl, a, x2, y2, rfl, P2, fun p x3 y3 H3 ow B3 P3 => ?_⟩
    have B03 : But a H H3 := by walk_at "but"
    refine' with_finW (A := fun lo hi H' => Bd lo hi ∧ (∃ s, Ex lo hi s) ∧ But a H H' ∧ ∃ x y, Pool H' a x y) ?h ?k
    case k =>
      intro fin
      refine ⟨_, rfl, 99, rtx p, rfl, rfl, _, rfl, ifb (fun c2 => ?_) (fun c2 => ?_)⟩
      · refine ⟨_, rfl, a, x3, y3, _, rfl, P3, by decide, by decide, fun r4 x4 y4 G0 r40 r41 B4 P4 => ⟨_, _, rfl, rfl, _, rfl, ifd (fun c3 => ?_) (fun _ => ?_)⟩⟩
        · refine ⟨sz (by simp), fun t1 h1 => ?_⟩
          have f1 : (upd G0 t1 (.tup [.int 3, .int 16])) t1 = some (.tup [.int 3, .int 16]) := upd_same
          have s1 := same_new (o := .tup [.int 3, .int 16]) h1
          generalize upd G0 t1 (.tup [.int 3, .int 16]) = G1 at f1 s1 ⊢
          refine ⟨sz (by simp), fun t2 h2 => ?_⟩
          have f2 : (upd G1 t2 (.tup [.int 3, .int 4])) t2 = some (.tup [.int 3, .int 4]) := upd_same
          have s2 := same_new (o := .tup [.int 3, .int 4]) h2
          generalize upd G1 t2 (.tup [.int 3, .int 4]) = G2 at f2 s2 ⊢
          refine ⟨sz (by simp), fun t3 h3 => ?_⟩
          have f3 : (upd G2 t3 (.tup [.int 5, .int 9])) t3 = some (.tup [.int 5, .int 9]) := upd_same
          have s3 := same_new (o := .tup [.int 5, .int 9]) h3
          generalize upd G2 t3 (.tup [.int 5, .int 9]) = G3 at f3 s3 ⊢
          refine ⟨sz (by simp), fun t4 h4 => ?_⟩
          have f4 : (upd G3 t4 (.tup [.int 0, .int 16])) t4 = some (.tup [.int 0, .int 16]) := upd_same
          have s4 := same_new (o := .tup [.int 0, .int 16]) h4
          generalize upd G3 t4 (.tup [.int 0, .int 16]) = G4 at f4 s4 ⊢
          refine ⟨sz (by simp), fun t5 h5 => ?_⟩
          have f5 : (upd G4 t5 (.tup [.int 2, .int 5])) t5 = some (.tup [.int 2, .int 5]) := upd_same
          have s5 := same_new (o := .tup [.int 2, .int 5]) h5
          generalize upd G4 t5 (.tup [.int 2, .int 5]) = G5 at f5 s5 ⊢
          refine ⟨sz (by simp), fun q1 hq1 => ?_⟩
          have fq1 : (upd G5 q1 (.lst [.ref t1, .ref t2, .ref t3, .ref t4, .ref t5])) q1 = some (.lst [.ref t1, .ref t2, .ref t3, .ref t4, .ref t5]) := upd_same
          have s6 := same_new (o := .lst [.ref t1, .ref t2, .ref t3, .ref t4, .ref t5]) hq1
          generalize upd G5 q1 (.lst [.ref t1, .ref t2, .ref t3, .ref t4, .ref t5]) = G6 at fq1 s6 ⊢
          have g1 : G6 t1 = some (.tup [.int 3, .int 16]) := by walk_at "at"
          have g2 : G6 t2 = some (.tup [.int 3, .int 4]) := by walk_at "at"
          have g3 : G6 t3 = some (.tup [.int 5, .int 9]) := by walk_at "at"
          have g4 : G6 t4 = some (.tup [.int 0, .int 16]) := by walk_at "at"
          have g5 : G6 t5 = some (.tup [.int 2, .int 5]) := by walk_at "at"
          have S6 : Same G0 G6 := by walk_at "same"
          refine ⟨_, rfl, a, x4, y4, _, rfl, P4.same S6, by decide, by decide, fun r5 x5 y5 G7 r50 r51 B7 P7 => ?_⟩
          have nq : q1 ≠ a := by intro e; subst e; have := (P4.same S6).1; rw [fq1] at this; cases this
          have nt : ∀ t l h, G6 t = some (.tup [.int l, .int h]) → G7 t = some (.tup [.int l, .int h]) := fun t l h e => B7 _ _ (by intro z; subst z; have := (P4.same S6).1; rw [e] at this; cases this) e
          obtain ⟨lv, hv, t, l', h', rfl, ht, l0, l1, l2, l3⟩ := pick (xs := [.ref t1, .ref t2, .ref t3, .ref t4, .ref t5]) (fun v => ∃ t l h, v = .ref t ∧ G7 t = some (.tup [.int l, .int h]) ∧ 0 ≤ l ∧ l < h ∧ h ≤ 4096 ∧ h - l ≤ 16) r50 r51 (by
            intro v hv
            simp only [List.mem_cons, List.not_mem_nil, or_false] at hv
            rcases hv with h | h | h | h | h
            · exact ⟨t1, 3, 16, h, nt _ _ _ g1, by decide, by decide, by decide, by decide⟩
            · exact ⟨t2, 3, 4, h, nt _ _ _ g2, by decide, by decide, by decide, by decide⟩
            · exact ⟨t3, 5, 9, h, nt _ _ _ g3, by decide, by decide, by decide, by decide⟩
            · exact ⟨t4, 0, 16, h, nt _ _ _ g4, by decide, by decide, by decide, by decide⟩
            · exact ⟨t5, 2, 5, h, nt _ _ _ g5, by decide, by decide, by decide, by decide⟩)
          refine ⟨q1, _, _, _, rfl, rfl, .of (B7 _ _ nq fq1), hv, ?_⟩
          refine ⟨t, _, rfl, .of ht, rfl, _, _, rfl, _, _, rfl, rfl, ?_⟩
          exact fin l' h' G7 ⟨⟨l0, l1, l2⟩, small_ex l1 l3, B03.trans (B4.trans ((But.of S6).trans B7)), x5, y5, P7⟩
        · exact fin lo hi G0 ⟨bd, ex, B03.trans B4, x4, y4, P4⟩
      · refine ⟨_, rfl, 111, rtx p, rfl, rfl, _, rfl, ifb (fun c2 => ?_) (fun c2 => ?_)⟩
        · refine ⟨_, rfl, a, x3, y3, _, rfl, P3, by decide, by decide, fun r4 x4 y4 G0 r40 r41 B4 P4 => ⟨_, _, rfl, rfl, _, rfl, ifd (fun c3 => ?_) (fun _ => ?_)⟩⟩
          · refine ⟨sz (by simp), fun t1 h1 => ?_⟩
            have f1 : (upd G0 t1 (.tup [.int 3, .int 16])) t1 = some (.tup [.int 3, .int 16]) := upd_same
            have s1 := same_new (o := .tup [.int 3, .int 16]) h1
            generalize upd G0 t1 (.tup [.int 3, .int 16]) = G1 at f1 s1 ⊢
            refine ⟨sz (by simp), fun t2 h2 => ?_⟩
            have f2 : (upd G1 t2 (.tup [.int 3, .int 4])) t2 = some (.tup [.int 3, .int 4]) := upd_same
            have s2 := same_new (o := .tup [.int 3, .int 4]) h2
            generalize upd G1 t2 (.tup [.int 3, .int 4]) = G2 at f2 s2 ⊢
            refine ⟨sz (by simp), fun t3 h3 => ?_⟩
            have f3 : (upd G2 t3 (.tup [.int 5, .int 9])) t3 = some (.tup [.int 5, .int 9]) := upd_same
            have s3 := same_new (o := .tup [.int 5, .int 9]) h3
            generalize upd G2 t3 (.tup [.int 5, .int 9]) = G3 at f3 s3 ⊢
            refine ⟨sz (by simp), fun t4 h4 => ?_⟩
            have f4 : (upd G3 t4 (.tup [.int 0, .int 16])) t4 = some (.tup [.int 0, .int 16]) := upd_same
            have s4 := same_new (o := .tup [.int 0, .int 16]) h4
            generalize upd G3 t4 (.tup [.int 0, .int 16]) = G4 at f4 s4 ⊢
            refine ⟨sz (by simp), fun t5 h5 => ?_⟩
            have f5 : (upd G4 t5 (.tup [.int 2, .int 5])) t5 = some (.tup [.int 2, .int 5]) := upd_same
            have s5 := same_new (o := .tup [.int 2, .int 5]) h5
            generalize upd G4 t5 (.tup [.int 2, .int 5]) = G5 at f5 s5 ⊢
            refine ⟨sz (by simp), fun q1 hq1 => ?_⟩
            have fq1 : (upd G5 q1 (.lst [.ref t1, .ref t2, .ref t3, .ref t4, .ref t5])) q1 = some (.lst [.ref t1, .ref t2, .ref t3, .ref t4, .ref t5]) := upd_same
            have s6 := same_new (o := .lst [.ref t1, .ref t2, .ref t3, .ref t4, .ref t5]) hq1
            generalize upd G5 q1 (.lst [.ref t1, .ref t2, .ref t3, .ref t4, .ref t5]) = G6 at fq1 s6 ⊢
            have g1 : G6 t1 = some (.tup [.int 3, .int 16]) := by walk_at "at"
            have g2 : G6 t2 = some (.tup [.int 3, .int 4]) := by walk_at "at"
            have g3 : G6 t3 = some (.tup [.int 5, .int 9]) := by walk_at "at"
            have g4 : G6 t4 = some (.tup [.int 0, .int 16]) := by walk_at "at"
            have g5 : G6 t5 = some (.tup [.int 2, .int 5]) := by walk_at "at"
            have S6 : Same G0 G6 := by walk_at "same"
            refine ⟨_, rfl, a, x4, y4, _, rfl, P4.same S6, by decide, by decide, fun r5 x5 y5 G7 r50 r51 B7 P7 => ?_⟩
            have nq : q1 ≠ a := by intro e; subst e; have := (P4.same S6).1; rw [fq1] at this; cases this
            have nt : ∀ t l h, G6 t = some (.tup [.int l, .int h]) → G7 t = some (.tup [.int l, .int h]) := fun t l h e => B7 _ _ (by intro z; subst z; have := (P4.same S6).1; rw [e] at this; cases this) e
            obtain ⟨lv, hv, t, l', h', rfl, ht, l0, l1, l2, l3⟩ := pick (xs := [.ref t1, .ref t2, .ref t3, .ref t4, .ref t5]) (fun v => ∃ t l h, v = .ref t ∧ G7 t = some (.tup [.int l, .int h]) ∧ 0 ≤ l ∧ l < h ∧ h ≤ 4096 ∧ h - l ≤ 16) r50 r51 (by
              intro v hv
              simp only [List.mem_cons, List.not_mem_nil, or_false] at hv
              rcases hv with h | h | h | h | h
              · exact ⟨t1, 3, 16, h, nt _ _ _ g1, by decide, by decide, by decide, by decide⟩
              · exact ⟨t2, 3, 4, h, nt _ _ _ g2, by decide, by decide, by decide, by decide⟩
              · exact ⟨t3, 5, 9, h, nt _ _ _ g3, by decide, by decide, by decide, by decide⟩
              · exact ⟨t4, 0, 16, h, nt _ _ _ g4, by decide, by decide, by decide, by decide⟩
              · exact ⟨t5, 2, 5, h, nt _ _ _ g5, by decide, by decide, by decide, by decide⟩)
            refine ⟨q1, _, _, _, rfl, rfl, .of (B7 _ _ nq fq1), hv, ?_⟩
            refine ⟨t, _, rfl, .of ht, rfl, _, _, rfl, _, _, rfl, rfl, ?_⟩
            exact fin l' h' G7 ⟨⟨l0, l1, l2⟩, small_ex l1 l3, B03.trans (B4.trans ((But.of S6).trans B7)), x5, y5, P7⟩
          · exact fin lo hi G0 ⟨bd, ex, B03.trans B4, x4, y4, P4⟩
        · exact fin lo hi H3 ⟨bd, ex, B03, x3, y3, P3⟩
    clear P1 P2 P3 hqb hqb2 B1 B2 B3 B03
    rintro lo hi H4 ⟨bd, ex, B4, x4, y4, P4⟩
    obtain ⟨b1, b2, b3⟩ := id bd
    refine ⟨_, rfl, _, rfl, _, _, rfl, rfl, _, rfl, _, _, rfl, rfl, (by show (0 : Int) < _; decide), ?_⟩
    refine ⟨_, rfl, _, rfl, _, rfl, _, rfl, _, _, rfl, rfl, a, x4, y4, _, rfl, P4, by omega, by omega, fun r5 x5 y5 H5 r50 r51 B5 P5 => ⟨_, _, rfl, rfl, ?_⟩⟩
    refine ⟨_, rfl, a, x5, y5, _, rfl, P5, by decide, by decide, fun r6 x6 y6 H6 r60 r61 B6 P6 => ⟨sz (by simp), fun q3 hq3 => ?_⟩⟩
    refine ⟨_, rfl, a, x6, y6, _, rfl, P6.new hq3, by decide, by decide, fun r7 x7 y7 H7 r70 r71 B7 P7 => ?_⟩
    have n3 : q3 ≠ a := (ne_of_none P6.1 hq3).symm
    obtain ⟨lv, hv, at', rfl, a0, a1⟩ := pick (xs := [.int lo, .int (hi - 1), .int (hi % 4096), .int (lo + r5), .int r6]) (fun v => ∃ z, v = .int z ∧ 0 ≤ z ∧ z ≤ 4095) r70 r71 (by
      intro v hv
      simp only [List.mem_cons, List.not_mem_nil, or_false] at hv
      rcases hv with h | h | h | h | h <;> exact ⟨_, h, by omega, by omega⟩)
    refine ⟨q3, _, _, _, rfl, rfl, .of (B7 _ _ n3 upd_same), hv, ?_⟩
    clear hv
    have B47 : But a H4 H7 := by walk_at "but"
    clear B5 B6 B7 P5 P6
    refine ⟨_, rfl, a, x7, y7, _, rfl, P7, by decide, by decide, fun r8 x8 y8 H8 r80 r81 B8 P8 => ⟨sz (by simp), fun q4 hq4 => ?_⟩⟩
    refine ⟨_, rfl, a, x8, y8, _, rfl, P8.new hq4, by decide, by decide, fun r9 x9 y9 H9 r90 r91 B9 P9 => ?_⟩
    have n4 : q4 ≠ a := (ne_of_none P8.1 hq4).symm
    obtain ⟨lv, hv, kd, rfl, k0, k1⟩ := pick (xs := [.int 0, .int 0, .int 0, .int 1, .int 2, .int 3, .int 4, .int 15, .int r8]) (fun v => ∃ z, v = .int z ∧ 0 ≤ z ∧ z ≤ 15) r90 r91 (by
      intro v hv
      simp only [List.mem_cons, List.not_mem_nil, or_false] at hv
      rcases hv with h | h | h | h | h | h | h | h | h <;> exact ⟨_, h, by omega, by omega⟩)
    refine ⟨q4, _, _, _, rfl, rfl, .of (B9 _ _ n4 upd_same), hv, ?_⟩
    clear hv
    have B09 : But a H H9 := B4.trans (B47.trans (by walk_at "but"))
    refine ⟨_, rfl, _, rfl, _, rfl, _, rfl, _, rfl, lo, hi, at', kd, p, rfl, bd, ex, a0, a1, k0, k1, ow, fun s b qw H10 W s10 hqw hw => ?_⟩
    have P10 := P9.same s10
    have B010 : But a H H10 := B09.trans (But.of s10)
    refine ⟨_, rfl, _, rfl, _, rfl, _, rfl, _, rfl, qw, _, 1, _, rfl, rfl, .of hw.at', atI_nat (j := 1) rfl, sz (by simp), fun q5 hq5 => ⟨sz (by simp), fun q6 hq6 => ?_⟩⟩
    refine ⟨_, rfl, a, x9, y9, _, rfl, (P10.new hq5).new hq6, by decide, by decide, fun r11 x11 y11 H11 r110 r111 B11 P11 => ?_⟩
    have n6 : q6 ≠ a := (ne_of_none (P10.new hq5).1 hq6).symm
    have n5 : q5 ≠ a := (ne_of_none P10.1 hq5).symm
    have nw : qw ≠ a := hw.ne P10
    have w5 : (upd H10 q5 (.tup [.bl false, .int b])) q5 = some (.tup [.bl false, .int b]) := upd_same
    have n56 : q5 ≠ q6 := ne_of_none w5 hq6
    have B1011 : But a H10 H11 := But.trans (But.new (But.new (But.refl _ _) hq5) hq6) B11
    have hw11 := hw.but B1011 nw
    have f5 : H11 q5 = some (.tup [.bl false, .int b]) := B11 _ _ n5 (by rw [upd_ne n56]; exact w5)
    obtain ⟨lv, hv, qr, m, rfl, fr, hr2⟩ := pick (xs := [.ref qw, .ref qw, .ref qw, .ref qw, .ref q5]) (fun v => ∃ q m, v = .ref q ∧ H q = none ∧ Wd H11 q m b) r110 r111 (by
      intro v hv
      simp only [List.mem_cons, List.not_mem_nil, or_false] at hv
      have g : ∃ q m, V.ref qw = .ref q ∧ H q = none ∧ Wd H11 q m b := ⟨qw, true, rfl, B09.free P9 hqw, hw11⟩
      rcases hv with h | h | h | h | h
      · rw [h]; exact g
      · rw [h]; exact g
      · rw [h]; exact g
      · rw [h]; exact g
      · exact ⟨q5, false, h, B010.free P10 hq5, f5, hw.w, fun z => Bool.noConfusion z⟩)
    refine ⟨q6, _, _, _, rfl, rfl, .of (B11 _ _ n6 upd_same), hv, ?_⟩
    exact q qr m b x11 y11 _ (B010.trans B1011) P11 fr hr2

def sp__law_is_open (K : PySem.W.Frag) : Sp := fun vs H Q _ => ∃ p m b, vs = [.ref p] ∧ Wd H p m b ∧ ∀ r H', Same H H' → (r = true ↔ m = true ∧ fKind b = 0) → Q (.bl r) H'
theorem ok__law_is_open {f : Addr} {fd : FuncData} (F : Fun K "_law_is_open" "_law_is_open" s__law_is_open f fd) (T : Txt K mg) (C__law_fields : Cal P w K mg base "_law_fields" 1 ["_law_word_here"] (sp__law_fields K)) : FnOk P w K mg base CX0 2 f fd ["_law_word_here"] (sp__law_is_open K) := by
  refine F.ok sc__law_is_open (fun vs H Q E h => ?_) (fun cdv A outer s H vs Q E hr h => ?_)
  · obtain ⟨p, m, b, rfl, hw, q⟩ := h; rfl
  · obtain ⟨p, m, b, rfl, hw, q⟩ := h
    refine ⟨_, (pss_one (ps_ret (pe_and (pe_ix (r := rIxT K) ix_tup (pv 0) pe_int (fun _ _ => rfl)) (pe_one (pe_cmpR op_eq (pe_ix (r := rIxT K) ix_tup (pe_cal C__law_fields (hr.mono (by decide)) (pa_cons (pv 0) pa_nil)) pe_int (fun _ _ => rfl)) pe_int (nomark _)))))), ?_⟩
    refine ⟨_, rfl, p, _, 0, _, rfl, rfl, .of hw.at', atI_nat (j := 0) rfl, m, rfl, ifb (fun e => ?_) (fun e => ?_)⟩
    · subst e
      refine ⟨_, rfl, p, _, b, rfl, hw.at', hw.w, fun nt => absurd (hw.law rfl).1 nt, fun _ f1 H1 s1 hf1 hf12 => ?_⟩
      refine ⟨f1, _, 4, _, rfl, rfl, .of hf12, atI_nat (j := 4) rfl, rfl, q _ _ s1 ?_⟩
      rw [decide_eq_true_iff]
      exact ⟨fun h => ⟨rfl, V.int.inj h⟩, fun h => congrArg V.int h.2⟩
    · exact q _ _ (Same.refl _) ⟨fun h => Bool.noConfusion h, fun h => by rw [h.1] at e; cases e⟩

def sp__law_bare (K : PySem.W.Frag) : Sp := fun vs H Q _ => ∃ (p : Addr) (v : V) (b : Int), vs = [.ref p] ∧ H p = some (.tup [v, .int b]) ∧ ∀ q, H q = none → Q (.ref q) (upd H q (.tup [.bl false, .int b]))
theorem ok__law_bare {f : Addr} {fd : FuncData} (F : Fun K "_law_bare" "_law_bare" s__law_bare f fd) (T : Txt K mg) : FnOk P w K mg base CX0 1 f fd ["_law_word_here"] (sp__law_bare K) := by
  refine F.ok sc__law_bare (fun vs H Q E h => ?_) (fun cdv A outer s H vs Q E hr h => ?_)
  · obtain ⟨p, v, b, rfl, hp, q⟩ := h; rfl
  · obtain ⟨p, v, b, rfl, hp, q⟩ := h
    refine ⟨_, (pss_one (ps_ret (pe_tup (pa_cons pe_bl (pa_cons (pe_ix (r := rIxT K) ix_tup (pv 0) pe_int (fun _ _ => rfl)) pa_nil))))), ?_⟩
    refine ⟨_, rfl, p, _, 1, _, rfl, rfl, .of hp, atI_nat (j := 1) rfl, sz (by simp), fun q2 hq2 => q q2 hq2⟩

def sp__law_walked (K : PySem.W.Frag) : Sp := fun vs H Q _ => ∃ p m b n, vs = [.ref p, .int n] ∧ Wd H p m b ∧ ∀ q m' b' H', Same H H' → H' q = some (.tup [.bl m', .int b']) → WalkR m b n m' b' → Q (.ref q) H'
theorem ok__law_walked {f : Addr} {fd : FuncData} (F : Fun K "_law_walked" "_law_walked" s__law_walked f fd) (T : Txt K mg) (C__law_is_open : Cal P w K mg base "_law_is_open" 2 ["_law_word_here"] (sp__law_is_open K)) (C__law_bare : Cal P w K mg base "_law_bare" 1 ["_law_word_here"] (sp__law_bare K)) : FnOk P w K mg base CX0 3 f fd ["_law_word_here", "_law_number"] (sp__law_walked K) := by
  refine F.ok sc__law_walked (fun vs H Q E h => ?_) (fun cdv A outer s H vs Q E hr h => ?_)
  · obtain ⟨p, m, b, n, rfl, hw, q⟩ := h; rfl
  · obtain ⟨p, m, b, n, rfl, hw, q⟩ := h
    refine ⟨_, (pss_cons (ps_set (i := 2) sc__law_walked.nd rfl (.inl rfl) (pe_op op_add (pe_op op_mul (pe_op op_fdiv (pe_ix (r := rIxT K) ix_tup (pv 0) pe_int (fun _ _ => rfl)) pe_int) pe_int) (pe_op op_mod (pe_op op_add (pe_ix (r := rIxT K) ix_tup (pv 0) pe_int (fun _ _ => rfl)) (pv 1)) pe_int)))
      (pss_cons (ps_if (pt_not (pt_val (pe_ix (r := rIxT K) ix_tup (pv 0) pe_int (fun _ _ => rfl)))) (pss_one (ps_ret (pe_tup (pa_cons pe_bl (pa_cons (pv 2) pa_nil))))) pss_nil)
      (pss_one (ps_ret (pe_ix (r := rIxL K) ix_list (pe_lst (pa_cons (pe_cal C__law_bare (hr.mono (by decide)) (pa_cons (pv 0) pa_nil)) (pa_cons (pe_tup (pa_cons pe_bl (pa_cons (pv 2) pa_nil))) pa_nil))) (pe_callTy call_int1 (by rfl) T.z_int (by decide +kernel) (pa_cons (pe_cal C__law_is_open (hr.mono (by decide)) (pa_cons (pv 0) pa_nil)) pa_nil)) (fun _ _ => rfl)))))), ?_⟩
    have mm := mod4096 (b + n)
    have w1 := hw.w.1
    have w2 := hw.w.2
    have ea : fAt b = b % 4096 := by
      unfold fAt
      rw [show (2 : Int) ^ 0 = 1 by decide, Int.ediv_one]; rfl
    have eb : b / 4096 * 4096 + (b + n) % 4096 = b + ((fAt b + n) % 4096 - fAt b) * 2 ^ 0 := by
      rw [ea, show (2 : Int) ^ 0 = 1 by decide]; omega
    refine ⟨_, rfl, p, _, 1, _, rfl, rfl, .of hw.at', atI_nat (j := 1) rfl, _, _, rfl, rfl, ⟨by decide, by decide⟩, _, _, rfl, rfl, .inl ⟨by omega, by omega⟩, _, rfl, p, _, 1, _, rfl, rfl, .of hw.at', atI_nat (j := 1) rfl, _, rfl, _, _, rfl, rfl, _, _, rfl, rfl, (by show (0 : Int) < _; decide), _, _, rfl, rfl, ?_⟩
    refine ⟨_, rfl, p, _, 0, _, rfl, rfl, .of hw.at', atI_nat (j := 0) rfl, m, rfl, ifnb (fun e => ?_) (fun e => ?_)⟩
    · refine ⟨_, rfl, sz (by simp), fun q2 hq2 => ?_⟩
      subst e
      exact q q2 false _ _ (same_new hq2) upd_same (.inr ⟨fun z => Bool.noConfusion z.1, rfl, eb⟩)
    subst e
    refine ⟨_, rfl, p, _, b, rfl, hw.at', fun q1 hq1 => ⟨_, rfl, sz (by simp), fun q2 hq2 => ⟨sz (by simp), fun L hL => ?_⟩⟩⟩
    have f1 : (upd H q1 (.tup [.bl false, .int b])) q1 = some (.tup [.bl false, .int b]) := upd_same
    have S1 := same_new (o := .tup [.bl false, .int b]) hq1
    generalize upd H q1 _ = H1 at f1 S1 hq2 hL ⊢
    have f2 : (upd H1 q2 (.tup [.bl true, .int (b / 4096 * 4096 + (b + n) % 4096)])) q2 = some (.tup [.bl true, .int (b / 4096 * 4096 + (b + n) % 4096)]) := upd_same
    have S2 := same_new (o := .tup [.bl true, .int (b / 4096 * 4096 + (b + n) % 4096)]) hq2
    have f12 := S2 _ _ f1
    generalize hH2 : upd H1 q2 _ = H2
    have f2' : H2 q2 = some (.tup [.bl true, .int (b / 4096 * 4096 + (b + n) % 4096)]) := by rw [← hH2]; exact f2
    have S2' : Same H1 H2 := by rw [← hH2]; exact S2
    have hL' : H2 L = none := by rw [← hH2]; exact hL
    clear hH2 f2 S2 f12 hL
    have S3 := same_new (o := .lst [.ref q1, .ref q2]) hL'
    have fL : (upd H2 L (.lst [.ref q1, .ref q2])) L = some (.lst [.ref q1, .ref q2]) := upd_same
    generalize upd H2 L _ = H3 at S3 fL ⊢
    have S03 : Same H H3 := S1.trans (S2'.trans S3)
    have hw3 := hw.same S03
    refine ⟨_, rfl, p, true, b, rfl, hw3, fun r H4 s4 hr => .inr ⟨_, rfl, ?_⟩⟩
    have S04 := S03.trans s4
    cases r with
    | true =>
      have k := (hr.mp rfl).2
      refine ⟨L, _, 1, _, rfl, rfl, .of (s4 _ _ fL), atI_nat (j := 1) rfl, ?_⟩
      exact q q2 true _ H4 S04 (s4 _ _ (S3 _ _ f2')) (.inr ⟨fun z => z.2 k, rfl, eb⟩)
    | false =>
      have k : fKind b ≠ 0 := fun z => Bool.noConfusion (hr.mpr ⟨rfl, z⟩)
      refine ⟨L, _, 0, _, rfl, rfl, .of (s4 _ _ fL), atI_nat (j := 0) rfl, ?_⟩
      exact q q1 false _ H4 S04 (s4 _ _ (S3 _ _ (S2' _ _ f1))) (.inl ⟨⟨rfl, k⟩, rfl, rfl⟩)

def sp__law_narrowed (K : PySem.W.Frag) : Sp := fun vs H Q _ => ∃ p m b n ex, vs = [.ref p, .int n, .bl ex] ∧ Wd H p m b ∧ ∀ q m' b' H', Same H H' → H' q = some (.tup [.bl m', .int b']) → NarR m b n ex m' b' → Q (.ref q) H'
theorem ok__law_narrowed {f : Addr} {fd : FuncData} (F : Fun K "_law_narrowed" "_law_narrowed" s__law_narrowed f fd) (T : Txt K mg) (C__law_least : Cal P w K mg base "_law_least" 1 ["_law_low", "_law_high"] (sp__law_least K)) (C__law_fields : Cal P w K mg base "_law_fields" 1 ["_law_word_here"] (sp__law_fields K)) (C__law_made : Cal P w K mg base "_law_made" 2 ["_law_low", "_law_high", "_law_at", "_law_rights_here", "_law_kind"] (sp__law_made K)) (C__law_is_open : Cal P w K mg base "_law_is_open" 2 ["_law_word_here"] (sp__law_is_open K)) (C__law_bare : Cal P w K mg base "_law_bare" 1 ["_law_word_here"] (sp__law_bare K)) : FnOk P w K mg base CX0 3 f fd ["_law_word_here", "_law_many", "_law_just"] (sp__law_narrowed K) := by
  refine F.ok sc__law_narrowed (fun vs H Q E h => ?_) (fun cdv A outer s H vs Q E hr h => ?_)
  · obtain ⟨p, m, b, n, ex, rfl, hw, q⟩ := h; rfl
  · obtain ⟨p, m, b, n, ex, rfl, hw, q⟩ := h
    refine ⟨_, (pss_cons (ps_if (pt_not (pt_val (pe_cal C__law_is_open (hr.mono (by decide)) (pa_cons (pv 0) pa_nil)))) (pss_one (ps_ret (pe_cal C__law_bare (hr.mono (by decide)) (pa_cons (pv 0) pa_nil)))) pss_nil)
      (pss_cons (ps_asg (pe_cal C__law_fields (hr.mono (by decide)) (pa_cons (pv 0) pa_nil)) (pg_tup rfl (pgs_cons (pg_name (i := 3) sc__law_narrowed.nd rfl (.inl rfl)) (pgs_cons (pg_name (i := 4) sc__law_narrowed.nd rfl (.inl rfl)) (pgs_cons (pg_name (i := 5) sc__law_narrowed.nd rfl (.inl rfl)) (pgs_cons (pg_name (i := 6) sc__law_narrowed.nd rfl (.inl rfl)) (pgs_cons (pg_name (i := 7) sc__law_narrowed.nd rfl (.inl rfl)) pgs_nil)))))))
      (pss_cons (ps_if (pt_not (pt_chain op_le op_le pe_int (pv 1) (pe_op op_sub pe_int (pv 5)))) (pss_one (ps_ret (pe_cal C__law_bare (hr.mono (by decide)) (pa_cons (pv 0) pa_nil)))) pss_nil)
      (pss_cons (ps_asg (pe_cal C__law_least (hr.mono (by decide)) (pa_cons (pv 5) (pa_cons (pe_op op_add (pv 5) (pv 1)) pa_nil))) (pg_tup rfl (pgs_cons (pg_name (i := 8) sc__law_narrowed.nd rfl (.inl rfl)) (pgs_cons (pg_name (i := 9) sc__law_narrowed.nd rfl (.inl rfl)) (pgs_cons (pg_name (i := 10) sc__law_narrowed.nd rfl (.inl rfl)) pgs_nil)))))
      (pss_cons (ps_if (PW.pt (pw_or (pt_cmpR op_lt (pv 8) (pv 3) (nomark _)) (pw_or (pt_cmpR op_lt (pv 4) (pv 9) (nomark _)) (pw_or1 (PW.pt (pw_and (pt_val (pv 2)) (pw_and1 (pt_cmpR (r := rNeD K) (op_neD hr.units) (pe_tup (pa_cons (pv 8) (pa_cons (pv 9) pa_nil))) (pe_tup (pa_cons (pv 5) (pa_cons (pe_op op_add (pv 5) (pv 1)) pa_nil))) (nomark _))))))))) (pss_one (ps_ret (pe_cal C__law_bare (hr.mono (by decide)) (pa_cons (pv 0) pa_nil)))) pss_nil)
      (pss_one (ps_ret (pe_cal C__law_made (hr.mono (by decide)) (pa_cons (pv 8) (pa_cons (pv 9) (pa_cons (pv 5) (pa_cons (pv 6) (pa_cons pe_int pa_nil))))))))))))), ?_⟩
    refine ⟨_, rfl, p, m, b, rfl, hw, fun r H1 s1 hr => ⟨_, rfl, ifnb (fun e => ?_) (fun e => ?_)⟩⟩
    · have hw1 := hw.same s1
      refine ⟨_, rfl, p, _, b, rfl, hw1.at', fun q2 hq2 => ?_⟩
      refine q q2 false b _ (sameN s1 hq2) upd_same ?_
      cases m with
      | false => exact .inl ⟨rfl, rfl, rfl⟩
      | true => exact .inr ⟨rfl, fun lo hi at' pr kd s0 W => .inl ⟨rfl, rfl, fun ⟨s, c⟩ => by
          rw [hr.mpr ⟨rfl, by rw [W.all.2.2.2.1]; exact c.1⟩] at e; cases e⟩⟩
    obtain ⟨em, ek0⟩ := hr.mp e
    subst em
    obtain ⟨lo, hi, at', pr, kd, s0, _, W⟩ := wf_of hw.w (hw.law rfl)
    have ek : fKind b = kd := W.all.2.2.2.1
    have k0 : kd = 0 := by rw [← ek]; exact ek0
    have bare : ∀ H', Same H H' → (¬ ∃ s, NarC n ex lo hi at' kd s) → ∀ q2, H' q2 = none → Q (.ref q2) (upd H' q2 (.tup [.bl false, .int b])) := fun H' s nc q2 hq2 => q q2 false b _ (sameN s hq2) upd_same (.inr ⟨rfl, fun lo' hi' a' p' k' s' W' => by
      have u := W.uniq W'
      rw [← u.1, ← u.2.1, ← u.2.2.1, ← u.2.2.2.2.1]
      exact .inl ⟨rfl, rfl, nc⟩⟩)
    have hw1 := hw.same s1
    refine ⟨_, rfl, p, _, b, rfl, hw1.at', hw1.w, fun nt => absurd (hw.law rfl).1 nt, fun _ f1 H2 s2 hf1 hf12 => ?_⟩
    rw [W.all.2.2.1] at hf12
    refine ⟨f1, _, rfl, .of hf12, rfl, _, _, rfl, _, _, rfl, _, _, rfl, _, _, rfl, _, _, rfl, rfl, ?_⟩
    have S2 := s1.trans s2
    have hw2 := hw.same S2
    have a0 := W.a0
    have a1 := W.a1
    have blank : (¬ Bd at' (at' + n)) → ¬ ∃ s, NarC n ex lo hi at' kd s := fun h ⟨s, c⟩ => h c.2.1
    refine ⟨_, rfl, _, _, rfl, rfl, _, rfl, ifd (fun c1 => ?_) (fun c1 => ?_)⟩
    case refine_2 =>
      have c2 : ¬ 1 ≤ n := c1
      refine ⟨_, rfl, _, rfl, p, _, b, rfl, hw2.at', fun q2 hq2 => bare H2 S2 (blank fun z => by have := z.2.1; omega) q2 hq2⟩
    have c1' : 1 ≤ n := c1
    refine ⟨_, rfl, _, _, rfl, rfl, _, _, rfl, rfl, _, rfl, ifnd (fun c2 => ?_) (fun c2 => ?_)⟩
    · have c3 : ¬ n ≤ 4096 - at' := c2
      refine ⟨_, rfl, p, _, b, rfl, hw2.at', fun q2 hq2 => bare H2 S2 (blank fun z => by have := z.2.2; omega) q2 hq2⟩
    have c2' : n ≤ 4096 - at' := c2
    have bd : Bd at' (at' + n) := ⟨a0, by omega, by omega⟩
    refine ⟨_, rfl, _, rfl, _, rfl, _, _, rfl, rfl, at', at' + n, rfl, bd, fun s p1 hs hp1 => ?_⟩
    refine ⟨p1, _, rfl, .of upd_same, rfl, _, _, rfl, _, _, rfl, _, _, rfl, rfl, ?_⟩
    have S3 := sameN (o := .tup [.int (at' / 2 ^ s * 2 ^ s), .int (((at' + n - 1) / 2 ^ s + 1) * 2 ^ s), .int s]) S2 hp1
    generalize upd H2 p1 _ = H3 at S3 ⊢
    have fr := least_ex bd hs
    have hw3 := hw.same S3
    refine' with_finH (A := fun H' => Same H H' ∧ lo ≤ at' / 2 ^ s * 2 ^ s ∧ ((at' + n - 1) / 2 ^ s + 1) * 2 ^ s ≤ hi ∧ (ex = true → ∃ t, Ex at' (at' + n) t)) ?h ?k
    case k =>
      intro fin
      refine ⟨_, rfl, _, rfl, _, _, rfl, rfl, _, rfl, ifd (fun c3 => ?_) (fun c3 => ?_)⟩
      · have c4 : at' / 2 ^ s * 2 ^ s < lo := c3
        refine ⟨_, rfl, p, _, b, rfl, hw3.at', fun q2 hq2 => bare H3 S3 (fun ⟨t, c⟩ => ?_) q2 hq2⟩
        have := hs.uniq c.2.2.2.1
        subst this
        have := c.2.2.2.2.1
        omega
      have c4 : ¬ at' / 2 ^ s * 2 ^ s < lo := c3
      refine ⟨_, rfl, _, rfl, _, _, rfl, rfl, _, rfl, ifd (fun c5 => ?_) (fun c5 => ?_)⟩
      · have c6 : hi < ((at' + n - 1) / 2 ^ s + 1) * 2 ^ s := c5
        refine ⟨_, rfl, p, _, b, rfl, hw3.at', fun q2 hq2 => bare H3 S3 (fun ⟨t, c⟩ => ?_) q2 hq2⟩
        have := hs.uniq c.2.2.2.1
        subst this
        have := c.2.2.2.2.2
        omega
      have c6 : ¬ hi < ((at' + n - 1) / 2 ^ s + 1) * 2 ^ s := c5
      have l1 : lo ≤ at' / 2 ^ s * 2 ^ s := by omega
      have l2 : ((at' + n - 1) / 2 ^ s + 1) * 2 ^ s ≤ hi := by omega
      refine ⟨_, rfl, ex, rfl, ifb (fun e2 => ?_) (fun e2 => ?_)⟩
      · refine ⟨_, rfl, _, rfl, sz (by simp), fun t1 h1 => ⟨_, rfl, _, rfl, _, rfl, _, _, rfl, rfl, sz (by simp), fun t2 h2 => ?_⟩⟩
        have n12 : t1 ≠ t2 := ne_of_none upd_same h2
        have S4 := sameN (o := .tup [.int at', .int (at' + n)]) (sameN (o := .tup [.int (at' / 2 ^ s * 2 ^ s), .int (((at' + n - 1) / 2 ^ s + 1) * 2 ^ s)]) S3 h1) h2
        refine ⟨_, _, dp2 (show (upd (upd H3 t1 _) t2 _) t1 = _ by rw [upd_ne n12, upd_same]), dp2 upd_same, rfl, rfl, _, rfl, ifnb (fun c => ?_) (fun c => ?_)⟩
        · refine ⟨_, rfl, p, _, b, rfl, (hw.same S4).at', fun q2 hq2 => bare _ S4 (fun ⟨t, c'⟩ => ?_) q2 hq2⟩
          obtain ⟨u, hu⟩ := c'.2.2.1 e2
          have := hs.uniq hu.1
          subst this
          exact t2_no c hu.2.1 hu.2.2
        · generalize upd (upd H3 t1 _) t2 _ = H4 at S4 ⊢
          have c7 := t2_eqv.mp c
          exact fin H4 ⟨S4, l1, l2, fun _ => ⟨s, hs, c7.1, c7.2⟩⟩
      · exact fin H3 ⟨S3, l1, l2, fun z => by rw [z] at e2; cases e2⟩
    rintro H4 ⟨S4, l1, l2, hx⟩
    refine ⟨_, rfl, _, rfl, _, rfl, _, rfl, _, _, at', 0, pr, rfl, fr.1, ⟨s, fr.2.1⟩, a0, a1, by decide, by decide, W.ow, fun s2 b' q2 H5 W2 s5 hq2 hw5 => ?_⟩
    have es := fr.2.1.1.uniq W2.ex.1
    subst es
    refine q q2 true b' H5 (S4.trans s5) hw5.at' (.inr ⟨rfl, fun lo' hi' a' p' k' s' W' => ?_⟩)
    have u := W.uniq W'
    rw [← u.1, ← u.2.1, ← u.2.2.1, ← u.2.2.2.2.1]
    exact .inr ⟨rfl, s, ⟨k0, bd, hx, hs, l1, l2⟩, W2.re u.2.2.2.1⟩

def sp__law_numbers (K : PySem.W.Frag) : Sp := fun vs H Q _ => ∃ (a : Addr) (x y : Int) (w : Addr) (m : Bool) (b : Int), vs = [.ref a, .ref w] ∧ Pool H a x y ∧ Wd H w m b ∧ ∀ L (ns : List Int) x1 y1 H', But a H H' → Pool H' a x1 y1 → H L = none → H' L = some (.lst (ns.map V.int)) → Q (.ref L) H'
theorem ok__law_numbers {f : Addr} {fd : FuncData} (F : Fun K "_law_numbers" "_law_numbers" s__law_numbers f fd) (T : Txt K mg) (C__law_take : Cal P w K mg base "_law_take" 1 ["_law_pool_here", "_law_many"] (sp__law_take K)) (C__law_fields : Cal P w K mg base "_law_fields" 1 ["_law_word_here"] (sp__law_fields K)) : FnOk P w K mg base CX0 2 f fd ["_law_pool_here", "_law_word_here"] (sp__law_numbers K) := by
  refine F.ok sc__law_numbers (fun vs H Q E h => ?_) (fun cdv A outer s H vs Q E hr h => ?_)
  · obtain ⟨a, x, y, w, m, b, rfl, hP, hw, q⟩ := h; rfl
  · obtain ⟨a, x, y, w, m, b, rfl, hP, hw, q⟩ := h
    refine ⟨_, (pss_cons (ps_set (i := 2) sc__law_numbers.nd rfl (.inl rfl) (pe_lst (pa_cons pe_int (pa_cons pe_int (pa_cons (pe_un un_neg pe_int) (pa_cons pe_int (pa_cons pe_int (pa_cons (pe_un un_neg pe_int) (pa_cons (pe_op op_pow pe_int pe_int) (pa_cons (pe_cal C__law_take (hr.mono (by decide)) (pa_cons (pv 0) (pa_cons pe_int pa_nil))) (pa_cons (pe_op op_sub pe_int (pe_cal C__law_take (hr.mono (by decide)) (pa_cons (pv 0) (pa_cons pe_int pa_nil)))) (pa_cons pe_int pa_nil))))))))))))
      (pss_cons (ps_set (i := 3) sc__law_numbers.nd rfl (.inl rfl) (pe_cal C__law_fields (hr.mono (by decide)) (pa_cons (pv 1) pa_nil)))
      (pss_cons (ps_if (pt_cmpR op_notN (pv 3) pe_non (nomark _)) (pss_cons (ps_asg (pv 3) (pg_tup rfl (pgs_cons (pg_name (i := 4) sc__law_numbers.nd rfl (.inl rfl)) (pgs_cons (pg_name (i := 5) sc__law_numbers.nd rfl (.inl rfl)) (pgs_cons (pg_name (i := 6) sc__law_numbers.nd rfl (.inl rfl)) (pgs_cons (pg_name (i := 7) sc__law_numbers.nd rfl (.inl rfl)) (pgs_cons (pg_name (i := 8) sc__law_numbers.nd rfl (.inl rfl)) pgs_nil)))))))
      (pss_one (ps_set (i := 2) sc__law_numbers.nd rfl (.inl rfl) (pe_op op_cat (pv 2) (pe_lst (pa_cons (pe_op op_sub (pv 5) (pv 4)) (pa_cons (pe_op op_sub (pv 5) (pv 6)) (pa_cons (pe_op op_add (pe_op op_sub (pv 5) (pv 6)) pe_int) (pa_cons (pe_op op_sub (pv 4) (pv 6)) (pa_cons (pe_op op_add pe_int (pe_cal C__law_take (hr.mono (by decide)) (pa_cons (pv 0) (pa_cons (pe_op op_sub (pv 5) (pv 4)) pa_nil)))) pa_nil)))))))))) pss_nil)
      (pss_one (ps_ret (pv 2)))))), ?_⟩
    refine ⟨_, rfl, _, rfl, _, _, rfl, rfl, ⟨by decide, by decide, by decide⟩, _, rfl, a, x, y, _, rfl, hP, by decide, by decide, fun r1 x1 y1 H1 r10 r11 B1 P1 => ⟨_, rfl, a, x1, y1, _, rfl, P1, by decide, by decide, fun r2 x2 y2 H2 r20 r21 B2 P2 => ⟨_, _, rfl, rfl, sz (by simp), fun L hL => ?_⟩⟩⟩
    have nw := hw.ne hP
    have nL : L ≠ a := (ne_of_none P2.1 hL).symm
    have hw2 := (hw.but B1 nw).but B2 nw
    obtain ⟨ns, ens⟩ : ∃ ns : List Int, [V.int 0, .int 1, .int (-1), .int 4095, .int 4096, .int (-4096), .int (10 ^ (20 : Int).toNat), .int r1, .int (0 - r2), .int 5000] = ns.map V.int ∧ ns.length ≤ 10 := ⟨[0, 1, -1, 4095, 4096, -4096, 10 ^ (20 : Int).toNat, r1, 0 - r2, 5000], rfl, by simp⟩
    have f3 : (upd H2 L (.lst [.int 0, .int 1, .int (-1), .int 4095, .int 4096, .int (-4096), .int (10 ^ (20 : Int).toNat), .int r1, .int (0 - r2), .int 5000])) L = some (.lst (ns.map V.int)) := by rw [upd_same, ens.1]
    have S3 := same_new (o := .lst [.int 0, .int 1, .int (-1), .int 4095, .int 4096, .int (-4096), .int (10 ^ (20 : Int).toNat), .int r1, .int (0 - r2), .int 5000]) hL
    generalize hH3 : upd H2 L _ = H3
    have f3' : H3 L = some (.lst (ns.map V.int)) := by rw [← hH3]; exact f3
    have S3' : Same H2 H3 := by rw [← hH3]; exact S3
    clear hH3 f3 S3
    have B03 : But a H H3 := (B1.trans B2).trans (But.of S3')
    have hL0 : H L = none := (B1.trans B2).free P2 hL
    have P3 := P2.same S3'
    have hw3 := hw2.same S3'
    refine ⟨_, rfl, w, _, b, rfl, hw3.at', hw3.w, fun nt H4 s4 => ?_, fun tl f1 H4 s4 hf1 hf12 => ?_⟩
    · refine ⟨_, rfl, rfl, _, rfl, ?_⟩
      refine ⟨_, rfl, ?_⟩
      exact q L ns x2 y2 H4 (B03.trans (But.of s4)) (P3.same s4) hL0 (s4 _ _ f3')
    refine ⟨_, rfl, rfl, _, rfl, ?_⟩
    have f := fb b
    have pp := pow_pos2 (fStep b).toNat
    have t3 := tl.2.2
    have hc : (fFirst b + fCnt b) * 2 ^ (fStep b).toNat = fFirst b * 2 ^ (fStep b).toNat + fCnt b * 2 ^ (fStep b).toNat := Int.add_mul ..
    have hc1 : 0 < fCnt b * 2 ^ (fStep b).toNat := Int.mul_pos (by omega) pp
    have hc2 : 0 ≤ fFirst b * 2 ^ (fStep b).toNat := Int.mul_nonneg (by omega) (Int.le_of_lt pp)
    refine ⟨_, rfl, f1, _, rfl, .of hf12, rfl, _, _, rfl, _, _, rfl, _, _, rfl, _, _, rfl, _, _, rfl, rfl, ?_⟩
    generalize (fFirst b + fCnt b) * 2 ^ (fStep b).toNat = hi at *
    generalize fFirst b * 2 ^ (fStep b).toNat = lo at *
    generalize fAt b = at' at *
    have P4 := P3.same s4
    refine ⟨_, rfl, _, rfl, _, rfl, _, _, rfl, rfl, _, rfl, _, rfl, _, _, rfl, rfl, _, rfl, _, rfl, _, _, rfl, rfl, _, _, rfl, rfl, _, rfl, _, rfl, _, _, rfl, rfl, _, rfl, _, rfl, _, rfl, _, _, rfl, rfl, a, x2, y2, _, rfl, P4, by omega, by omega, fun r3 x3 y3 H5 r30 r31 B5 P5 => ⟨_, _, rfl, rfl, sz (by simp), fun L2 hL2 => ?_⟩⟩
    have fL5 := B5 _ _ nL (s4 _ _ f3')
    have nL2 : L ≠ L2 := ne_of_none fL5 hL2
    refine ⟨L, L2, _, _, rfl, rfl, (by rw [upd_ne nL2]; exact fL5), upd_same, ?_, fun L3 hL3 => ?_⟩
    · rw [List.length_map]
      exact sz (by have := ens.2; simp; omega)
    refine ⟨_, rfl, ?_⟩
    refine q L3 (ns ++ [hi - lo, hi - at', hi - at' + 1, lo - at', 1 + r3]) x3 y3 _ ?_ ((P5.new hL2).new hL3) ?_ ?_
    · exact (((B03.trans (But.of s4)).trans B5).new hL2).new hL3
    · exact (((B03.trans (But.of s4)).trans B5).new hL2).free (P5.new hL2) hL3
    · rw [upd_same, List.map_append]; rfl

theorem ok_law {f : Addr} {oc kV dc pm cdv ct : Value} {od an : Option Addr} {osl : Array (Option Value)} (lk : K.lookup f = some ⟨oc, od, .func (PySem.W.fnOf "law" "law" (defArgs s_law) (defBody s_law) (defScope s_law) .none kV dc pm an cdv ct), osl⟩) (hcd : PySem.W.codeIn K cdv "law" = true) (T : Txt K mg) (C_lies_within : Cal P w K mg base "lies_within" 4 ["one", "other"] (sp_lies_within K)) (C_walked : Cal P w K mg base "walked" 3 ["word", "number"] (sp_walked K)) (C_narrowed : CalD P w K mg base "narrowed" 8 ["word", "many", "exact"] [.bl false] (sp_narrowed K)) (C_narrowed_k : CalK P w K mg base "narrowed" 8 ["word", "many", "exact"] 2 ["exact"] (sp_narrowed K)) (C__law_pool : Cal P w K mg base "_law_pool" 1 ["_law_script", "_law_k"] (sp__law_pool K)) (C__law_word : Cal P w K mg base "_law_word" 3 ["_law_pool_here"] (sp__law_word K)) (C__law_walked : Cal P w K mg base "_law_walked" 3 ["_law_word_here", "_law_number"] (sp__law_walked K)) (C__law_narrowed : Cal P w K mg base "_law_narrowed" 3 ["_law_word_here", "_law_many", "_law_just"] (sp__law_narrowed K)) (C__law_numbers : Cal P w K mg base "_law_numbers" 2 ["_law_pool_here", "_law_word_here"] (sp__law_numbers K)) {s : Shared} {H : Hp} {a : Addr} {ns : List Int} (e0 : Env0 P w K mg base callerA [] s H) (hS : SqL K H a (ns.map V.int)) (hlen : ns.length ≤ 63) :
    codeAny (model P w) callerA (.call (.ref f) ⟨[.ref a], []⟩) (CR CX0 [] P w H s (fun v _ => v = .bl true) fun _ _ _ => False) s := by
  have hr : Room 8 (callerA.deeper (envOfC "law" (defScope s_law) s.heap.objs.size f cdv)) := Room.deeper (k := 8) ⟨rfl, by decide, by decide⟩ _
  have gd : (callerA.deeper (envOfC "law" (defScope s_law) s.heap.objs.size f cdv)).guards = some [] := caller_guards
  generalize hQ : (fun (v : V) (_ : Hp) => v = V.bl true) = Q
  have q : ∀ H', Q (.bl true) H' := fun _ => by rw [← hQ]
  refine body_at (N := ["_law_script", "_law_k", "_law_pool_here", "_law_word_here", "_law_number", "_law_due", "_law_found", "_law_one"]) (ps := ["_law_script"]) (vs := [.ref a]) (us := [.ref a]) lk hcd sc_law rfl (k := 8) ⟨rfl, by decide, by decide⟩ e0 (.of_eq rfl) (.cons rfl .nil) ?_
  refine ⟨_, PSs.nox (pss_cons (ps_for PassesOwn.never rfl (pi_range1 (by rfl) T.z_range (pa_cons (pe_callB (call_max2 rfl) (by rfl) T.z_max (by decide +kernel) (pa_cons pe_int (pa_cons (pe_callB (call_min2 rfl) (by rfl) T.z_min (by decide +kernel) (pa_cons (pe_callB call_len_seq (by rfl) T.z_len (by decide +kernel) (pa_cons (pv 0) pa_nil)) (pa_cons pe_int pa_nil))) pa_nil))) pa_nil)) (pg_name (i := 1) sc_law.nd rfl (.inl rfl)) (pss_cons (ps_set (i := 2) sc_law.nd rfl (.inl rfl) (pe_cal C__law_pool (hr.mono (by decide)) (pa_cons (pv 0) (pa_cons (pv 1) pa_nil))))
      (pss_cons (ps_set (i := 3) sc_law.nd rfl (.inr rfl) (pe_cal C__law_word (hr.mono (by decide)) (pa_cons (pv 2) pa_nil)))
      (pss_one (ps_for PassesOwn.never rfl (pi_list (pe_cal C__law_numbers (hr.mono (by decide)) (pa_cons (pv 2) (pa_cons (pv 3) pa_nil)))) (pg_name (i := 4) sc_law.nd rfl (.inl rfl)) (pss_cons (ps_set (i := 5) sc_law.nd rfl (.inl rfl) (pe_lst (pa_cons (pe_cal C__law_walked (hr.mono (by decide)) (pa_cons (pv 3) (pa_cons (pv 4) pa_nil))) (pa_cons (pe_cal C__law_narrowed (hr.mono (by decide)) (pa_cons (pv 3) (pa_cons (pv 4) (pa_cons pe_bl pa_nil)))) (pa_cons (pe_cal C__law_narrowed (hr.mono (by decide)) (pa_cons (pv 3) (pa_cons (pv 4) (pa_cons pe_bl pa_nil)))) pa_nil)))))
      (pss_cons (ps_set (i := 6) sc_law.nd rfl (.inl rfl) (pe_lst (pa_cons (pe_cal C_walked (hr.mono (by decide)) (pa_cons (pv 3) (pa_cons (pv 4) pa_nil))) (pa_cons (pe_calD C_narrowed (hr.mono (by decide)) (pa_cons (pv 3) (pa_cons (pv 4) pa_nil))) (pa_cons (pe_calK C_narrowed_k (hr.mono (by decide)) (pa_cons (pv 3) (pa_cons (pv 4) pa_nil)) (pk_cons pe_bl pk_nil)) pa_nil)))))
      (pss_cons (ps_if (PW.pt (pw_or (pt_cmpR op_ne (pe_callB (call_reprD gd hr.units) (by rfl) T.z_repr (by decide +kernel) (pa_cons (pv 6) pa_nil)) (pe_callB (call_reprD gd hr.units) (by rfl) T.z_repr (by decide +kernel) (pa_cons (pv 5) pa_nil)) (nomark _)) (pw_or1 (pt_cmpR (r := rNeD K) (op_neD hr.units) (pe_calK C_narrowed_k (hr.mono (by decide)) (pa_cons (pv 3) (pa_cons (pv 4) pa_nil)) (pk_cons pe_bl pk_nil)) (pe_ix (r := rIxL K) ix_list (pv 5) pe_int (fun _ _ => rfl)) (nomark _))))) (pss_one (ps_ret pe_bl)) pss_nil)
      (pss_one (ps_if (pt_cmpR (r := rNeD K) (op_neD hr.units) (pe_lc (own := [("_law_one", 7)]) rfl sc_law.nd (pi_list (pv 6)) (blkOk_by (own := [("_law_one", 7)]) (N := ["_law_script", "_law_k", "_law_pool_here", "_law_word_here", "_law_number", "_law_due", "_law_found", "_law_one"]) (sc := defScope s_law) (by decide +kernel)) (fun _ _ _ _ _ => (pg_name (i := 7) sc_law.nd rfl (.inl rfl))) (fun _ _ _ _ _ => (pts_one (PW.pt (pw_and (pt_val (pe_ix (r := rIxT K) ix_tup (pv 7) pe_int (fun _ _ => rfl))) (pw_and1 (pt_not (pt_val (pe_cal C_lies_within (hr.mono (by decide)) (pa_cons (pv 7) (pa_cons (pv 3) pa_nil)))))))))) (fun _ _ _ _ _ => (pv 7))) (pe_lst pa_nil) (nomark _)) (pss_one (ps_ret pe_bl)) pss_nil))))))))))
      (pss_one (ps_ret pe_bl))), ?_⟩
  refine ⟨_, rfl, a, _, rfl, .inl hS, _, _, rfl, _, _, rfl, _, rfl, rep_lo (c := 10) (by decide) (by decide), rep_hi (c := 10) (by decide) (by decide), for_range (fun i σ H' => ∃ v1 v2 v3 v4 v5 v6 v7, σ = [some (.ref a), v1, v2, v3, v4, v5, v6, v7] ∧ Same H H') ⟨_, _, _, _, _, _, _, rfl, Same.refl _⟩ ?_ ?_⟩
  · rintro i σ H3 hi ⟨v1, v2, v3, v4, v5, v6, v7, rfl, s3⟩
    have hi63 := rep_i (c := 10) (by decide) (by decide) hi
    rw [i0]
    refine ⟨_, rfl, _, rfl, a, ns, i, rfl, s3.seq hS, hlen, hi63, fun x y p H4 sm4 hp0 P4 => ?_⟩
    refine ⟨_, rfl, p, x, y, rfl, P4, fun qw m b x1 y1 H5 B5 P5 hqw hw => ?_⟩
    have nw := hw.ne P5
    refine ⟨_, rfl, _, rfl, p, x1, y1, qw, m, b, rfl, P5, hw, fun L nn x2 y2 H6 B6 P6 hL hL2 => ?_⟩
    have hw6 := hw.but B6 nw
    have B46 := B5.trans B6
    clear B5 B6 P5 hw hL
    refine ⟨L, rfl, ⟨_, .of hL2⟩, for_list (K := K) (a := L) (xs := nn.map V.int) (fun j σ H' => ∃ v4 v5 v6 v7, σ = [some (.ref a), some (.int (i : Int)), some (.ref p), some (.ref qw), v4, v5, v6, v7] ∧ Same H6 H') ⟨_, _, _, _, rfl, Same.refl _⟩ (fun j σ H' _ ⟨_, _, _, _, _, sm⟩ => .of (sm _ _ hL2)) ?_ ?_⟩
    · rintro j xx σ H7 hx ⟨v4, v5, v6, v7, rfl, S7⟩
      obtain ⟨n, -, rfl⟩ := List.mem_map.mp (List.mem_of_getElem? hx)
      have hw7 := hw6.same S7
      clear hx
      -- what is due
      refine ⟨_, rfl, _, rfl, qw, m, b, n, rfl, hw7, fun d1 m1 b1 H8 s8 hd1 r1 => ?_⟩
      have hw8 := hw7.same s8
      refine ⟨_, rfl, _, rfl, qw, m, b, n, false, rfl, hw8, fun d2 m2 b2 H9 s9 hd2 r2 => ?_⟩
      have hw9 := hw8.same s9
      refine ⟨_, rfl, _, rfl, qw, m, b, n, true, rfl, hw9, fun d3 m3 b3 H10 s10 hd3 r3 => ⟨sz (by simp), fun Ld hLd => ?_⟩⟩
      have S11 := same_new (o := .lst [.ref d1, .ref d2, .ref d3]) hLd
      have fLd : (upd H10 Ld (.lst [.ref d1, .ref d2, .ref d3])) Ld = some (.lst [.ref d1, .ref d2, .ref d3]) := upd_same
      have e1 := S11 _ _ (s10 _ _ (s9 _ _ hd1))
      have e2 := S11 _ _ (s10 _ _ hd2)
      have e3 := S11 _ _ hd3
      have hw11 := (hw9.same s10).same S11
      have S711 := ((S7.trans s8).trans s9).trans (s10.trans S11)
      generalize upd H10 Ld (.lst [.ref d1, .ref d2, .ref d3]) = H11 at S11 fLd e1 e2 e3 hw11 S711 ⊢
      clear hd1 hd2 hd3 s8 s9 s10 hLd S11 hw8 hw9 hw7
      -- what is found
      refine ⟨_, rfl, _, rfl, qw, m, b, n, rfl, hw11, fun g1 u1 c1 H12 s12 hg1 t1 => ?_⟩
      have hw12 := hw11.same s12
      refine ⟨_, rfl, _, rfl, qw, m, b, n, false, rfl, hw12, fun g2 u2 c2 H13 s13 hg2 t2 => ?_⟩
      have hw13 := hw12.same s13
      refine ⟨_, rfl, _, rfl, rfl, rfl, qw, m, b, n, true, rfl, hw13, fun g3 u3 c3 H14 s14 hg3 t3 => ⟨sz (by simp), fun Lf hLf => ?_⟩⟩
      obtain ⟨rfl, rfl⟩ := r1.uniq t1
      obtain ⟨rfl, rfl⟩ := r2.uniq hw11.w hw11.law t2
      obtain ⟨rfl, rfl⟩ := r3.uniq hw11.w hw11.law t3
      have S15 := same_new (o := .lst [.ref g1, .ref g2, .ref g3]) hLf
      have fLf : (upd H14 Lf (.lst [.ref g1, .ref g2, .ref g3])) Lf = some (.lst [.ref g1, .ref g2, .ref g3]) := upd_same
      have k1 := S15 _ _ (s14 _ _ (s13 _ _ hg1))
      have k2 := S15 _ _ (s14 _ _ hg2)
      have k3 := S15 _ _ hg3
      have S1115 := (s12.trans s13).trans (s14.trans S15)
      generalize upd H14 Lf (.lst [.ref g1, .ref g2, .ref g3]) = H15 at S15 fLf k1 k2 k3 S1115 ⊢
      clear hg1 hg2 hg3 s12 s13 s14 hLf S15 hw12 hw13
      have hw15 := hw11.same S1115
      have o1 := r1.w45 hw11.w
      have o1' := r1.ok hw11.w hw11.law
      have o2 := r2.ok hw11.w hw11.law
      have o3 := r3.ok hw11.w hw11.law
      have dd := dl3 (m1 := m1) (m2 := m2) (m3 := m3) o1 o2.1 o3.1
      refine ⟨_, rfl, .ref Lf, .list [dw m1 b1, dw m2 b2, dw m3 b3], rfl, .lst (.of fLf) (.cons (dpw k1) (.cons (dpw k2) (.cons (dpw k3) .nil))), dd.1, dd.2.1, dd.2.2.1, dd.2.2.2, ?_⟩
      refine ⟨_, rfl, .ref Ld, .list [dw m1 b1, dw m2 b2, dw m3 b3], rfl, .lst (.of (S1115 _ _ fLd)) (.cons (dpw (S1115 _ _ e1)) (.cons (dpw (S1115 _ _ e2)) (.cons (dpw (S1115 _ _ e3)) .nil))), dd.1, dd.2.1, dd.2.2.1, dd.2.2.2, ?_⟩
      refine ⟨rfl, _, rfl, ifnd (fun c => absurd rfl c) (fun _ => ?_)⟩
      refine ⟨_, rfl, _, rfl, rfl, rfl, qw, m, b, n, false, rfl, hw15, fun g4 u4 c4 H16 s16 hg4 t4 => ?_⟩
      obtain ⟨rfl, rfl⟩ := r2.uniq hw11.w hw11.law t4
      refine ⟨_, rfl, Ld, _, 1, _, rfl, rfl, .of (s16 _ _ (S1115 _ _ fLd)), atI_nat (j := 1) rfl, _, _, dpw hg4, dpw (s16 _ _ (S1115 _ _ e2)), rfl, rfl, _, rfl, ifnb (fun c => (tw_no c rfl).elim) (fun _ => ?_)⟩
      have S16 : Same H6 H16 := (S711.trans S1115).trans s16
      have fLf16 := s16 _ _ fLf
      have j1 := s16 _ _ k1
      have j2 := s16 _ _ k2
      have j3 := s16 _ _ k3
      have hw16 := hw15.same s16
      clear S711 S1115 fLf k1 k2 k3 hw15 hw11 e1 e2 e3 fLd hg4 dd
      have all : ∀ v ∈ [V.ref g1, .ref g2, .ref g3], ∃ q m' b', v = .ref q ∧ Wd H16 q m' b' ∧ (m' = true → m = true ∧ Within b' b) := by
        intro v hv
        simp only [List.mem_cons, List.not_mem_nil, or_false] at hv
        rcases hv with h | h | h
        · exact ⟨g1, m1, b1, h, ⟨j1, o1, fun z => (o1' z).2.1⟩, fun z => ⟨(o1' z).1, (o1' z).2.2⟩⟩
        · exact ⟨g2, m2, b2, h, ⟨j2, o2.1, fun z => (o2.2 z).2.1⟩, fun z => ⟨(o2.2 z).1, (o2.2 z).2.2⟩⟩
        · exact ⟨g3, m3, b3, h, ⟨j3, o3.1, fun z => (o3.2 z).2.1⟩, fun z => ⟨(o3.2 z).1, (o3.2 z).2.2⟩⟩
      -- none lies elsewhere
      refine ⟨_, rfl, Lf, rfl, ⟨_, .of fLf16⟩, fun D hD => ?_⟩
      refine lc_it (walk_list (xs := [.ref g1, .ref g2, .ref g3])) (fun k H' => Same H16 H' ∧ H' D = some (.lst [])) ⟨same_new hD, upd_same⟩ (fun k H' _ h => .of (h.1 _ _ fLf16)) ?_ ?_
      · rintro k xx H17 H18 hk ⟨sm, hl⟩ ⟨rfl, hx⟩
        obtain ⟨q5, m5, b5, rfl, w5, l5⟩ := all xx (List.mem_of_getElem? hx)
        have w5' := w5.same sm
        refine ⟨rfl, ?_⟩
        refine ⟨_, rfl, q5, _, 0, _, rfl, rfl, .of w5'.at', atI_nat (j := 0) rfl, m5, rfl, ifb (fun e => ?_) (fun e => ?_)⟩
        · refine ⟨_, rfl, _, rfl, q5, qw, m5, m, b5, b, rfl, w5', hw16.same sm, fun r H19 s19 hr => ⟨_, rfl, ?_⟩⟩
          have er : r = true := hr.mpr ⟨e, l5 e⟩
          subst er
          exact ⟨sm.trans s19, s19 _ _ hl⟩
        · exact ⟨sm, hl⟩
      · rintro H17 ⟨sm, hl⟩
        refine ⟨sz (by simp), fun D2 hD2 => ?_⟩
        refine ⟨_, _, .lst (.of (show (upd H17 D2 _) D = _ by rw [upd_ne (ne_of_none hl hD2)]; exact hl)) .nil, .lst (.of upd_same) .nil, rfl, rfl, _, rfl, ifnb (fun c => by simp [PyData.eqv, PyData.eqvAll] at c) (fun _ => ?_)⟩
        exact ⟨_, _, _, _, rfl, sameN (S16.trans sm) hD2⟩
    · rintro σ H7 ⟨v4, v5, v6, v7, rfl, S7⟩
      exact ⟨_, _, _, _, _, _, _, rfl, sameP s3 sm4 hp0 (B46.trans (But.of S7))⟩
  · rintro σ H3 ⟨v1, v2, v3, v4, v5, v6, v7, rfl, s3⟩
    exact q _
end
theorem all_mk {l : PySem.W.OpenLaw} {w : World} {K : PySem.W.Frag} {h : Heap} {mg : Str → Option Value} {fa f0 f1 f2 f3 f4 f5 f6 f7 f8 f9 f10 f11 f12 f13 f14 f15 f16 f17 f18 f19 f20 f21 f22 f23 f24 f25 f26 f27 f28 f29 f30 f31 : Addr} (X : K.In h) (G : h.Ns mainGlobals mg) (hfa : mg "law" = some (.ref fa))
    {od0 an0 od1 an1 od2 an2 od3 an3 od4 an4 od5 an5 od6 an6 od7 an7 od8 an8 od9 an9 od10 an10 od11 an11 od12 an12 od13 an13 od14 an14 od15 an15 od16 an16 od17 an17 od18 an18 od19 an19 od20 an20 od21 an21 od22 an22 od23 an23 od24 an24 od25 an25 od26 an26 od27 an27 od28 an28 od29 an29 od30 an30 od31 an31 : Option Addr} {sl0 sl1 sl2 sl3 sl4 sl5 sl6 sl7 sl8 sl9 sl10 sl11 sl12 sl13 sl14 sl15 sl16 sl17 sl18 sl19 sl20 sl21 sl22 sl23 sl24 sl25 sl26 sl27 sl28 sl29 sl30 sl31 : Array (Option Value)} {oc0 kV0 dc0 pm0 cd0 ct0 oc1 kV1 dc1 pm1 cd1 ct1 oc2 kV2 dc2 pm2 cd2 ct2 oc3 kV3 dc3 pm3 cd3 ct3 oc4 kV4 dc4 pm4 cd4 ct4 oc5 kV5 dc5 pm5 cd5 ct5 oc6 kV6 dc6 pm6 cd6 ct6 oc7 kV7 dc7 pm7 cd7 ct7 oc8 kV8 dc8 pm8 cd8 ct8 oc9 kV9 dc9 pm9 cd9 ct9 oc10 kV10 dc10 pm10 cd10 ct10 oc11 kV11 dc11 pm11 cd11 ct11 oc12 kV12 dc12 pm12 cd12 ct12 oc13 kV13 dc13 pm13 cd13 ct13 oc14 kV14 dc14 pm14 cd14 ct14 oc15 kV15 dc15 pm15 cd15 ct15 oc16 kV16 dc16 pm16 cd16 ct16 oc17 dc17 pm17 cd17 ct17 oc18 kV18 dc18 pm18 cd18 ct18 oc19 kV19 dc19 pm19 cd19 ct19 oc20 kV20 dc20 pm20 cd20 ct20 oc21 kV21 dc21 pm21 cd21 ct21 oc22 kV22 dc22 pm22 cd22 ct22 oc23 kV23 dc23 pm23 cd23 ct23 oc24 kV24 dc24 pm24 cd24 ct24 oc25 kV25 dc25 pm25 cd25 ct25 oc26 kV26 dc26 pm26 cd26 ct26 oc27 kV27 dc27 pm27 cd27 ct27 oc28 kV28 dc28 pm28 cd28 ct28 oc29 kV29 dc29 pm29 cd29 ct29 oc30 kV30 dc30 pm30 cd30 ct30 oc31 kV31 dc31 pm31 cd31 ct31 : Value}
    (a0 : PySem.W.nsIn K mainGlobals "is_whole" = some (some (.ref f0))) (l0 : K.lookup f0 = some ⟨oc0, od0, .func (PySem.W.fnOf "is_whole" "is_whole" (defArgs s_is_whole) (defBody s_is_whole) (defScope s_is_whole) .none kV0 dc0 pm0 an0 cd0 ct0), sl0⟩) (c0 : PySem.W.codeIn K cd0 "is_whole" = true) (k0 : PySem.W.keepIn K (.ref f0) = true)
    (a1 : PySem.W.nsIn K mainGlobals "are_bounds" = some (some (.ref f1))) (l1 : K.lookup f1 = some ⟨oc1, od1, .func (PySem.W.fnOf "are_bounds" "are_bounds" (defArgs s_are_bounds) (defBody s_are_bounds) (defScope s_are_bounds) .none kV1 dc1 pm1 an1 cd1 ct1), sl1⟩) (c1 : PySem.W.codeIn K cd1 "are_bounds" = true) (k1 : PySem.W.keepIn K (.ref f1) = true)
    (a2 : PySem.W.nsIn K mainGlobals "look_at_bounds" = some (some (.ref f2))) (l2 : K.lookup f2 = some ⟨oc2, od2, .func (PySem.W.fnOf "look_at_bounds" "look_at_bounds" (defArgs s_look_at_bounds) (defBody s_look_at_bounds) (defScope s_look_at_bounds) .none kV2 dc2 pm2 an2 cd2 ct2), sl2⟩) (c2 : PySem.W.codeIn K cd2 "look_at_bounds" = true) (k2 : PySem.W.keepIn K (.ref f2) = true)
    (a3 : PySem.W.nsIn K mainGlobals "_steps_over" = some (some (.ref f3))) (l3 : K.lookup f3 = some ⟨oc3, od3, .func (PySem.W.fnOf "_steps_over" "_steps_over" (defArgs s__steps_over) (defBody s__steps_over) (defScope s__steps_over) .none kV3 dc3 pm3 an3 cd3 ct3), sl3⟩) (c3 : PySem.W.codeIn K cd3 "_steps_over" = true) (k3 : PySem.W.keepIn K (.ref f3) = true)
    (a4 : PySem.W.nsIn K mainGlobals "in_bits" = some (some (.ref f4))) (l4 : K.lookup f4 = some ⟨oc4, od4, .func (PySem.W.fnOf "in_bits" "in_bits" (defArgs s_in_bits) (defBody s_in_bits) (defScope s_in_bits) .none kV4 dc4 pm4 an4 cd4 ct4), sl4⟩) (c4 : PySem.W.codeIn K cd4 "in_bits" = true) (k4 : PySem.W.keepIn K (.ref f4) = true)
    (a5 : PySem.W.nsIn K mainGlobals "least_bounds" = some (some (.ref f5))) (l5 : K.lookup f5 = some ⟨oc5, od5, .func (PySem.W.fnOf "least_bounds" "least_bounds" (defArgs s_least_bounds) (defBody s_least_bounds) (defScope s_least_bounds) .none kV5 dc5 pm5 an5 cd5 ct5), sl5⟩) (c5 : PySem.W.codeIn K cd5 "least_bounds" = true) (k5 : PySem.W.keepIn K (.ref f5) = true)
    (a6 : PySem.W.nsIn K mainGlobals "is_exact" = some (some (.ref f6))) (l6 : K.lookup f6 = some ⟨oc6, od6, .func (PySem.W.fnOf "is_exact" "is_exact" (defArgs s_is_exact) (defBody s_is_exact) (defScope s_is_exact) .none kV6 dc6 pm6 an6 cd6 ct6), sl6⟩) (c6 : PySem.W.codeIn K cd6 "is_exact" = true) (k6 : PySem.W.keepIn K (.ref f6) = true)
    (a7 : PySem.W.nsIn K mainGlobals "field" = some (some (.ref f7))) (l7 : K.lookup f7 = some ⟨oc7, od7, .func (PySem.W.fnOf "field" "field" (defArgs s_field) (defBody s_field) (defScope s_field) .none kV7 dc7 pm7 an7 cd7 ct7), sl7⟩) (c7 : PySem.W.codeIn K cd7 "field" = true) (k7 : PySem.W.keepIn K (.ref f7) = true)
    (a8 : PySem.W.nsIn K mainGlobals "with_field" = some (some (.ref f8))) (l8 : K.lookup f8 = some ⟨oc8, od8, .func (PySem.W.fnOf "with_field" "with_field" (defArgs s_with_field) (defBody s_with_field) (defScope s_with_field) .none kV8 dc8 pm8 an8 cd8 ct8), sl8⟩) (c8 : PySem.W.codeIn K cd8 "with_field" = true) (k8 : PySem.W.keepIn K (.ref f8) = true)
    (a9 : PySem.W.nsIn K mainGlobals "bounds_in" = some (some (.ref f9))) (l9 : K.lookup f9 = some ⟨oc9, od9, .func (PySem.W.fnOf "bounds_in" "bounds_in" (defArgs s_bounds_in) (defBody s_bounds_in) (defScope s_bounds_in) .none kV9 dc9 pm9 an9 cd9 ct9), sl9⟩) (c9 : PySem.W.codeIn K cd9 "bounds_in" = true) (k9 : PySem.W.keepIn K (.ref f9) = true)
    (a10 : PySem.W.nsIn K mainGlobals "_has_bounds" = some (some (.ref f10))) (l10 : K.lookup f10 = some ⟨oc10, od10, .func (PySem.W.fnOf "_has_bounds" "_has_bounds" (defArgs s__has_bounds) (defBody s__has_bounds) (defScope s__has_bounds) .none kV10 dc10 pm10 an10 cd10 ct10), sl10⟩) (c10 : PySem.W.codeIn K cd10 "_has_bounds" = true) (k10 : PySem.W.keepIn K (.ref f10) = true)
    (a11 : PySem.W.nsIn K mainGlobals "lies_within" = some (some (.ref f11))) (l11 : K.lookup f11 = some ⟨oc11, od11, .func (PySem.W.fnOf "lies_within" "lies_within" (defArgs s_lies_within) (defBody s_lies_within) (defScope s_lies_within) .none kV11 dc11 pm11 an11 cd11 ct11), sl11⟩) (c11 : PySem.W.codeIn K cd11 "lies_within" = true) (k11 : PySem.W.keepIn K (.ref f11) = true)
    (a12 : PySem.W.nsIn K mainGlobals "is_sealed" = some (some (.ref f12))) (l12 : K.lookup f12 = some ⟨oc12, od12, .func (PySem.W.fnOf "is_sealed" "is_sealed" (defArgs s_is_sealed) (defBody s_is_sealed) (defScope s_is_sealed) .none kV12 dc12 pm12 an12 cd12 ct12), sl12⟩) (c12 : PySem.W.codeIn K cd12 "is_sealed" = true) (k12 : PySem.W.keepIn K (.ref f12) = true)
    (a13 : PySem.W.nsIn K mainGlobals "without_mark" = some (some (.ref f13))) (l13 : K.lookup f13 = some ⟨oc13, od13, .func (PySem.W.fnOf "without_mark" "without_mark" (defArgs s_without_mark) (defBody s_without_mark) (defScope s_without_mark) .none kV13 dc13 pm13 an13 cd13 ct13), sl13⟩) (c13 : PySem.W.codeIn K cd13 "without_mark" = true) (k13 : PySem.W.keepIn K (.ref f13) = true)
    (a14 : PySem.W.nsIn K mainGlobals "walked" = some (some (.ref f14))) (l14 : K.lookup f14 = some ⟨oc14, od14, .func (PySem.W.fnOf "walked" "walked" (defArgs s_walked) (defBody s_walked) (defScope s_walked) .none kV14 dc14 pm14 an14 cd14 ct14), sl14⟩) (c14 : PySem.W.codeIn K cd14 "walked" = true) (k14 : PySem.W.keepIn K (.ref f14) = true)
    (a15 : PySem.W.nsIn K mainGlobals "narrow_bounds" = some (some (.ref f15))) (l15 : K.lookup f15 = some ⟨oc15, od15, .func (PySem.W.fnOf "narrow_bounds" "narrow_bounds" (defArgs s_narrow_bounds) (defBody s_narrow_bounds) (defScope s_narrow_bounds) .none kV15 dc15 pm15 an15 cd15 ct15), sl15⟩) (c15 : PySem.W.codeIn K cd15 "narrow_bounds" = true) (k15 : PySem.W.keepIn K (.ref f15) = true)
    (a16 : PySem.W.nsIn K mainGlobals "with_bounds" = some (some (.ref f16))) (l16 : K.lookup f16 = some ⟨oc16, od16, .func (PySem.W.fnOf "with_bounds" "with_bounds" (defArgs s_with_bounds) (defBody s_with_bounds) (defScope s_with_bounds) .none kV16 dc16 pm16 an16 cd16 ct16), sl16⟩) (c16 : PySem.W.codeIn K cd16 "with_bounds" = true) (k16 : PySem.W.keepIn K (.ref f16) = true)
    {D17 : Addr} (a17 : PySem.W.nsIn K mainGlobals "narrowed" = some (some (.ref f17))) (l17 : K.lookup f17 = some ⟨oc17, od17, .func (PySem.W.fnOf "narrowed" "narrowed" (defArgs s_narrowed) (defBody s_narrowed) (defScope s_narrowed) .none (.ref D17) dc17 pm17 an17 cd17 ct17), sl17⟩) (c17 : PySem.W.codeIn K cd17 "narrowed" = true) (k17 : PySem.W.keepIn K (.ref f17) = true)
    (d17_exact : PySem.W.nsIn K D17 "exact" = some (some (.bool false)))
    (a18 : PySem.W.nsIn K mainGlobals "_law_take" = some (some (.ref f18))) (l18 : K.lookup f18 = some ⟨oc18, od18, .func (PySem.W.fnOf "_law_take" "_law_take" (defArgs s__law_take) (defBody s__law_take) (defScope s__law_take) .none kV18 dc18 pm18 an18 cd18 ct18), sl18⟩) (c18 : PySem.W.codeIn K cd18 "_law_take" = true) (k18 : PySem.W.keepIn K (.ref f18) = true)
    (a19 : PySem.W.nsIn K mainGlobals "_law_pool" = some (some (.ref f19))) (l19 : K.lookup f19 = some ⟨oc19, od19, .func (PySem.W.fnOf "_law_pool" "_law_pool" (defArgs s__law_pool) (defBody s__law_pool) (defScope s__law_pool) .none kV19 dc19 pm19 an19 cd19 ct19), sl19⟩) (c19 : PySem.W.codeIn K cd19 "_law_pool" = true) (k19 : PySem.W.keepIn K (.ref f19) = true)
    (a20 : PySem.W.nsIn K mainGlobals "_law_least" = some (some (.ref f20))) (l20 : K.lookup f20 = some ⟨oc20, od20, .func (PySem.W.fnOf "_law_least" "_law_least" (defArgs s__law_least) (defBody s__law_least) (defScope s__law_least) .none kV20 dc20 pm20 an20 cd20 ct20), sl20⟩) (c20 : PySem.W.codeIn K cd20 "_law_least" = true) (k20 : PySem.W.keepIn K (.ref f20) = true)
    (a21 : PySem.W.nsIn K mainGlobals "_law_fields" = some (some (.ref f21))) (l21 : K.lookup f21 = some ⟨oc21, od21, .func (PySem.W.fnOf "_law_fields" "_law_fields" (defArgs s__law_fields) (defBody s__law_fields) (defScope s__law_fields) .none kV21 dc21 pm21 an21 cd21 ct21), sl21⟩) (c21 : PySem.W.codeIn K cd21 "_law_fields" = true) (k21 : PySem.W.keepIn K (.ref f21) = true)
    (a22 : PySem.W.nsIn K mainGlobals "_law_made" = some (some (.ref f22))) (l22 : K.lookup f22 = some ⟨oc22, od22, .func (PySem.W.fnOf "_law_made" "_law_made" (defArgs s__law_made) (defBody s__law_made) (defScope s__law_made) .none kV22 dc22 pm22 an22 cd22 ct22), sl22⟩) (c22 : PySem.W.codeIn K cd22 "_law_made" = true) (k22 : PySem.W.keepIn K (.ref f22) = true)
    (a23 : PySem.W.nsIn K mainGlobals "_law_bounds" = some (some (.ref f23))) (l23 : K.lookup f23 = some ⟨oc23, od23, .func (PySem.W.fnOf "_law_bounds" "_law_bounds" (defArgs s__law_bounds) (defBody s__law_bounds) (defScope s__law_bounds) .none kV23 dc23 pm23 an23 cd23 ct23), sl23⟩) (c23 : PySem.W.codeIn K cd23 "_law_bounds" = true) (k23 : PySem.W.keepIn K (.ref f23) = true)
    (a24 : PySem.W.nsIn K mainGlobals "_law_rights" = some (some (.ref f24))) (l24 : K.lookup f24 = some ⟨oc24, od24, .func (PySem.W.fnOf "_law_rights" "_law_rights" (defArgs s__law_rights) (defBody s__law_rights) (defScope s__law_rights) .none kV24 dc24 pm24 an24 cd24 ct24), sl24⟩) (c24 : PySem.W.codeIn K cd24 "_law_rights" = true) (k24 : PySem.W.keepIn K (.ref f24) = true)
    (a25 : PySem.W.nsIn K mainGlobals "_law_word" = some (some (.ref f25))) (l25 : K.lookup f25 = some ⟨oc25, od25, .func (PySem.W.fnOf "_law_word" "_law_word" (defArgs s__law_word) (defBody s__law_word) (defScope s__law_word) .none kV25 dc25 pm25 an25 cd25 ct25), sl25⟩) (c25 : PySem.W.codeIn K cd25 "_law_word" = true) (k25 : PySem.W.keepIn K (.ref f25) = true)
    (a26 : PySem.W.nsIn K mainGlobals "_law_is_open" = some (some (.ref f26))) (l26 : K.lookup f26 = some ⟨oc26, od26, .func (PySem.W.fnOf "_law_is_open" "_law_is_open" (defArgs s__law_is_open) (defBody s__law_is_open) (defScope s__law_is_open) .none kV26 dc26 pm26 an26 cd26 ct26), sl26⟩) (c26 : PySem.W.codeIn K cd26 "_law_is_open" = true) (k26 : PySem.W.keepIn K (.ref f26) = true)
    (a27 : PySem.W.nsIn K mainGlobals "_law_bare" = some (some (.ref f27))) (l27 : K.lookup f27 = some ⟨oc27, od27, .func (PySem.W.fnOf "_law_bare" "_law_bare" (defArgs s__law_bare) (defBody s__law_bare) (defScope s__law_bare) .none kV27 dc27 pm27 an27 cd27 ct27), sl27⟩) (c27 : PySem.W.codeIn K cd27 "_law_bare" = true) (k27 : PySem.W.keepIn K (.ref f27) = true)
    (a28 : PySem.W.nsIn K mainGlobals "_law_walked" = some (some (.ref f28))) (l28 : K.lookup f28 = some ⟨oc28, od28, .func (PySem.W.fnOf "_law_walked" "_law_walked" (defArgs s__law_walked) (defBody s__law_walked) (defScope s__law_walked) .none kV28 dc28 pm28 an28 cd28 ct28), sl28⟩) (c28 : PySem.W.codeIn K cd28 "_law_walked" = true) (k28 : PySem.W.keepIn K (.ref f28) = true)
    (a29 : PySem.W.nsIn K mainGlobals "_law_narrowed" = some (some (.ref f29))) (l29 : K.lookup f29 = some ⟨oc29, od29, .func (PySem.W.fnOf "_law_narrowed" "_law_narrowed" (defArgs s__law_narrowed) (defBody s__law_narrowed) (defScope s__law_narrowed) .none kV29 dc29 pm29 an29 cd29 ct29), sl29⟩) (c29 : PySem.W.codeIn K cd29 "_law_narrowed" = true) (k29 : PySem.W.keepIn K (.ref f29) = true)
    (a30 : PySem.W.nsIn K mainGlobals "_law_numbers" = some (some (.ref f30))) (l30 : K.lookup f30 = some ⟨oc30, od30, .func (PySem.W.fnOf "_law_numbers" "_law_numbers" (defArgs s__law_numbers) (defBody s__law_numbers) (defScope s__law_numbers) .none kV30 dc30 pm30 an30 cd30 ct30), sl30⟩) (c30 : PySem.W.codeIn K cd30 "_law_numbers" = true) (k30 : PySem.W.keepIn K (.ref f30) = true)
    (a31 : PySem.W.nsIn K mainGlobals "law" = some (some (.ref f31))) (l31 : K.lookup f31 = some ⟨oc31, od31, .func (PySem.W.fnOf "law" "law" (defArgs s_law) (defBody s_law) (defScope s_law) .none kV31 dc31 pm31 an31 cd31 ct31), sl31⟩) (c31 : PySem.W.codeIn K cd31 "law" = true) (k31 : PySem.W.keepIn K (.ref f31) = true)
    (z_abs : PySem.W.nsIn K mainGlobals "abs" = some none)
    (z_bool : PySem.W.nsIn K mainGlobals "bool" = some none)
    (z_enumerate : PySem.W.nsIn K mainGlobals "enumerate" = some none)
    (z_int : PySem.W.nsIn K mainGlobals "int" = some none)
    (z_isinstance : PySem.W.nsIn K mainGlobals "isinstance" = some none)
    (z_len : PySem.W.nsIn K mainGlobals "len" = some none)
    (z_max : PySem.W.nsIn K mainGlobals "max" = some none)
    (z_min : PySem.W.nsIn K mainGlobals "min" = some none)
    (z_range : PySem.W.nsIn K mainGlobals "range" = some none)
    (z_repr : PySem.W.nsIn K mainGlobals "repr" = some none)
    (z_sum : PySem.W.nsIn K mainGlobals "sum" = some none)
    {p_AT : Addr} {dd_AT : Option Addr} {n_AT : Nat} {sl_AT : Array (Option Value)} {t_AT_0 t_AT_1 : Tok} (v_AT : PySem.W.nsIn K mainGlobals "AT" = some (some (.ref p_AT))) (w_AT : K.lookup p_AT = some ⟨.type "tuple", dd_AT, .seq #[(Value.int 0 t_AT_0), (Value.int 12 t_AT_1)] n_AT, sl_AT⟩)
    {t_CELLS : Tok} (v_CELLS : PySem.W.nsIn K mainGlobals "CELLS" = some (some (.int 4096 t_CELLS)))
    {p_COUNT_LESS_ONE : Addr} {dd_COUNT_LESS_ONE : Option Addr} {n_COUNT_LESS_ONE : Nat} {sl_COUNT_LESS_ONE : Array (Option Value)} {t_COUNT_LESS_ONE_0 t_COUNT_LESS_ONE_1 : Tok} (v_COUNT_LESS_ONE : PySem.W.nsIn K mainGlobals "COUNT_LESS_ONE" = some (some (.ref p_COUNT_LESS_ONE))) (w_COUNT_LESS_ONE : K.lookup p_COUNT_LESS_ONE = some ⟨.type "tuple", dd_COUNT_LESS_ONE, .seq #[(Value.int 24 t_COUNT_LESS_ONE_0), (Value.int 4 t_COUNT_LESS_ONE_1)] n_COUNT_LESS_ONE, sl_COUNT_LESS_ONE⟩)
    {p_FIRST : Addr} {dd_FIRST : Option Addr} {n_FIRST : Nat} {sl_FIRST : Array (Option Value)} {t_FIRST_0 t_FIRST_1 : Tok} (v_FIRST : PySem.W.nsIn K mainGlobals "FIRST" = some (some (.ref p_FIRST))) (w_FIRST : K.lookup p_FIRST = some ⟨.type "tuple", dd_FIRST, .seq #[(Value.int 12 t_FIRST_0), (Value.int 12 t_FIRST_1)] n_FIRST, sl_FIRST⟩)
    {t_GATE : Tok} (v_GATE : PySem.W.nsIn K mainGlobals "GATE" = some (some (.int 2 t_GATE)))
    {p_KIND : Addr} {dd_KIND : Option Addr} {n_KIND : Nat} {sl_KIND : Array (Option Value)} {t_KIND_0 t_KIND_1 : Tok} (v_KIND : PySem.W.nsIn K mainGlobals "KIND" = some (some (.ref p_KIND))) (w_KIND : K.lookup p_KIND = some ⟨.type "tuple", dd_KIND, .seq #[(Value.int 41 t_KIND_0), (Value.int 4 t_KIND_1)] n_KIND, sl_KIND⟩)
    {t_NOT_SEALED : Tok} (v_NOT_SEALED : PySem.W.nsIn K mainGlobals "NOT_SEALED" = some (some (.int 0 t_NOT_SEALED)))
    {p_RIGHTS_BITS : Addr} {dd_RIGHTS_BITS : Option Addr} {n_RIGHTS_BITS : Nat} {sl_RIGHTS_BITS : Array (Option Value)} {t_RIGHTS_BITS_0 t_RIGHTS_BITS_1 : Tok} (v_RIGHTS_BITS : PySem.W.nsIn K mainGlobals "RIGHTS_BITS" = some (some (.ref p_RIGHTS_BITS))) (w_RIGHTS_BITS : K.lookup p_RIGHTS_BITS = some ⟨.type "tuple", dd_RIGHTS_BITS, .seq #[(Value.int 32 t_RIGHTS_BITS_0), (Value.int 9 t_RIGHTS_BITS_1)] n_RIGHTS_BITS, sl_RIGHTS_BITS⟩)
    {p_STEP : Addr} {dd_STEP : Option Addr} {n_STEP : Nat} {sl_STEP : Array (Option Value)} {t_STEP_0 t_STEP_1 : Tok} (v_STEP : PySem.W.nsIn K mainGlobals "STEP" = some (some (.ref p_STEP))) (w_STEP : K.lookup p_STEP = some ⟨.type "tuple", dd_STEP, .seq #[(Value.int 28 t_STEP_0), (Value.int 4 t_STEP_1)] n_STEP, sl_STEP⟩)
    {t_TOP_COUNT : Tok} (v_TOP_COUNT : PySem.W.nsIn K mainGlobals "TOP_COUNT" = some (some (.int 16 t_TOP_COUNT)))
    : ∀ (base : Heap) (H : Hp) (s : Shared) (a : Addr) (ns : List Int), K.In base → base.Ns mainGlobals mg → Env0 l.prog w K mg base callerA [] s H → SqL K H a (ns.map V.int) → ns.length ≤ 63 → codeAny (model l.prog w) callerA (.call (.ref fa) ⟨[.ref a], []⟩) (CR CX0 [] l.prog w H s (fun v _ => v = .bl true) fun _ _ _ => False) s := by
  have e := hfa.symm.trans (PySem.W.mg_of X G a31)
  cases e
  have F0 := fun_mk (st := s_is_whole) l0 c0 k0
  have F1 := fun_mk (st := s_are_bounds) l1 c1 k1
  have F2 := fun_mk (st := s_look_at_bounds) l2 c2 k2
  have F3 := fun_mk (st := s__steps_over) l3 c3 k3
  have F4 := fun_mk (st := s_in_bits) l4 c4 k4
  have F5 := fun_mk (st := s_least_bounds) l5 c5 k5
  have F6 := fun_mk (st := s_is_exact) l6 c6 k6
  have F7 := fun_mk (st := s_field) l7 c7 k7
  have F8 := fun_mk (st := s_with_field) l8 c8 k8
  have F9 := fun_mk (st := s_bounds_in) l9 c9 k9
  have F10 := fun_mk (st := s__has_bounds) l10 c10 k10
  have F11 := fun_mk (st := s_lies_within) l11 c11 k11
  have F12 := fun_mk (st := s_is_sealed) l12 c12 k12
  have F13 := fun_mk (st := s_without_mark) l13 c13 k13
  have F14 := fun_mk (st := s_walked) l14 c14 k14
  have F15 := fun_mk (st := s_narrow_bounds) l15 c15 k15
  have F16 := fun_mk (st := s_with_bounds) l16 c16 k16
  have F17 := fun_mk (st := s_narrowed) l17 c17 k17
  have F18 := fun_mk (st := s__law_take) l18 c18 k18
  have F19 := fun_mk (st := s__law_pool) l19 c19 k19
  have F20 := fun_mk (st := s__law_least) l20 c20 k20
  have F21 := fun_mk (st := s__law_fields) l21 c21 k21
  have F22 := fun_mk (st := s__law_made) l22 c22 k22
  have F23 := fun_mk (st := s__law_bounds) l23 c23 k23
  have F24 := fun_mk (st := s__law_rights) l24 c24 k24
  have F25 := fun_mk (st := s__law_word) l25 c25 k25
  have F26 := fun_mk (st := s__law_is_open) l26 c26 k26
  have F27 := fun_mk (st := s__law_bare) l27 c27 k27
  have F28 := fun_mk (st := s__law_walked) l28 c28 k28
  have F29 := fun_mk (st := s__law_narrowed) l29 c29 k29
  have F30 := fun_mk (st := s__law_numbers) l30 c30 k30
  have F31 := fun_mk (st := s_law) l31 c31 k31
  have T : Txt K mg := ⟨PySem.W.mg_none_of X G z_abs, PySem.W.mg_none_of X G z_bool, PySem.W.mg_none_of X G z_enumerate, PySem.W.mg_none_of X G z_int, PySem.W.mg_none_of X G z_isinstance, PySem.W.mg_none_of X G z_len, PySem.W.mg_none_of X G z_max, PySem.W.mg_none_of X G z_min, PySem.W.mg_none_of X G z_range, PySem.W.mg_none_of X G z_repr, PySem.W.mg_none_of X G z_sum, ⟨_, PySem.W.mg_of X G v_AT, fun H => .inr ⟨_, _, _, w_AT, rfl, rfl, by show 2 ≤ sizeLine; decide, .cons ⟨_, rfl⟩ (.cons ⟨_, rfl⟩ (.nil))⟩⟩, ⟨_, PySem.W.mg_of X G v_CELLS⟩, ⟨_, PySem.W.mg_of X G v_COUNT_LESS_ONE, fun H => .inr ⟨_, _, _, w_COUNT_LESS_ONE, rfl, rfl, by show 2 ≤ sizeLine; decide, .cons ⟨_, rfl⟩ (.cons ⟨_, rfl⟩ (.nil))⟩⟩, ⟨_, PySem.W.mg_of X G v_FIRST, fun H => .inr ⟨_, _, _, w_FIRST, rfl, rfl, by show 2 ≤ sizeLine; decide, .cons ⟨_, rfl⟩ (.cons ⟨_, rfl⟩ (.nil))⟩⟩, ⟨_, PySem.W.mg_of X G v_GATE⟩, ⟨_, PySem.W.mg_of X G v_KIND, fun H => .inr ⟨_, _, _, w_KIND, rfl, rfl, by show 2 ≤ sizeLine; decide, .cons ⟨_, rfl⟩ (.cons ⟨_, rfl⟩ (.nil))⟩⟩, ⟨_, PySem.W.mg_of X G v_NOT_SEALED⟩, ⟨_, PySem.W.mg_of X G v_RIGHTS_BITS, fun H => .inr ⟨_, _, _, w_RIGHTS_BITS, rfl, rfl, by show 2 ≤ sizeLine; decide, .cons ⟨_, rfl⟩ (.cons ⟨_, rfl⟩ (.nil))⟩⟩, ⟨_, PySem.W.mg_of X G v_STEP, fun H => .inr ⟨_, _, _, w_STEP, rfl, rfl, by show 2 ≤ sizeLine; decide, .cons ⟨_, rfl⟩ (.cons ⟨_, rfl⟩ (.nil))⟩⟩, ⟨_, PySem.W.mg_of X G v_TOP_COUNT⟩⟩
  intro base H s a ns kb nb e0 hS hlen
  have C_is_whole : Cal l.prog w K mg base "is_whole" 1 ["thing", "least", "most"] (sp_is_whole K) := ⟨_, _, ok_is_whole F0 T, PySem.W.mg_of X G a0, F0.kp, F0.binds fun _ _ _ _ _ _ us hl => match us, hl with | [_, _, _], _ => rfl⟩
  have C_are_bounds : Cal l.prog w K mg base "are_bounds" 2 ["low", "high"] (sp_are_bounds K) := ⟨_, _, ok_are_bounds F1 T C_is_whole, PySem.W.mg_of X G a1, F1.kp, F1.binds fun _ _ _ _ _ _ us hl => match us, hl with | [_, _], _ => rfl⟩
  have C_look_at_bounds : Cal l.prog w K mg base "look_at_bounds" 3 ["low", "high"] (sp_look_at_bounds K) := ⟨_, _, ok_look_at_bounds F2 T C_are_bounds, PySem.W.mg_of X G a2, F2.kp, F2.binds fun _ _ _ _ _ _ us hl => match us, hl with | [_, _], _ => rfl⟩
  have C__steps_over : Cal l.prog w K mg base "_steps_over" 1 ["low", "high", "step"] (sp__steps_over K) := ⟨_, _, ok__steps_over F3 T, PySem.W.mg_of X G a3, F3.kp, F3.binds fun _ _ _ _ _ _ us hl => match us, hl with | [_, _, _], _ => rfl⟩
  have C_in_bits : Cal l.prog w K mg base "in_bits" 4 ["low", "high"] (sp_in_bits K) := ⟨_, _, ok_in_bits F4 T C_look_at_bounds C__steps_over, PySem.W.mg_of X G a4, F4.kp, F4.binds fun _ _ _ _ _ _ us hl => match us, hl with | [_, _], _ => rfl⟩
  have C_least_bounds : Cal l.prog w K mg base "least_bounds" 5 ["low", "high"] (sp_least_bounds K) := ⟨_, _, ok_least_bounds F5 T C_in_bits, PySem.W.mg_of X G a5, F5.kp, F5.binds fun _ _ _ _ _ _ us hl => match us, hl with | [_, _], _ => rfl⟩
  have C_is_exact : Cal l.prog w K mg base "is_exact" 6 ["low", "high"] (sp_is_exact K) := ⟨_, _, ok_is_exact F6 T C_least_bounds, PySem.W.mg_of X G a6, F6.kp, F6.binds fun _ _ _ _ _ _ us hl => match us, hl with | [_, _], _ => rfl⟩
  have C_field : Cal l.prog w K mg base "field" 1 ["bits", "place"] (sp_field K) := ⟨_, _, ok_field F7 T, PySem.W.mg_of X G a7, F7.kp, F7.binds fun _ _ _ _ _ _ us hl => match us, hl with | [_, _], _ => rfl⟩
  have C_with_field : Cal l.prog w K mg base "with_field" 2 ["bits", "place", "worth"] (sp_with_field K) := ⟨_, _, ok_with_field F8 T C_field, PySem.W.mg_of X G a8, F8.kp, F8.binds fun _ _ _ _ _ _ us hl => match us, hl with | [_, _, _], _ => rfl⟩
  have C_bounds_in : Cal l.prog w K mg base "bounds_in" 2 ["bits"] (sp_bounds_in K) := ⟨_, _, ok_bounds_in F9 T C_field, PySem.W.mg_of X G a9, F9.kp, F9.binds fun _ _ _ _ _ _ us hl => match us, hl with | [_], _ => rfl⟩
  have C__has_bounds : Cal l.prog w K mg base "_has_bounds" 3 ["word", "bounds"] (sp__has_bounds K) := ⟨_, _, ok__has_bounds F10 T C_bounds_in, PySem.W.mg_of X G a10, F10.kp, F10.binds fun _ _ _ _ _ _ us hl => match us, hl with | [_, _], _ => rfl⟩
  have C_lies_within : Cal l.prog w K mg base "lies_within" 4 ["one", "other"] (sp_lies_within K) := ⟨_, _, ok_lies_within F11 T C_field C_bounds_in C__has_bounds, PySem.W.mg_of X G a11, F11.kp, F11.binds fun _ _ _ _ _ _ us hl => match us, hl with | [_, _], _ => rfl⟩
  have C_is_sealed : Cal l.prog w K mg base "is_sealed" 2 ["bits"] (sp_is_sealed K) := ⟨_, _, ok_is_sealed F12 T C_field, PySem.W.mg_of X G a12, F12.kp, F12.binds fun _ _ _ _ _ _ us hl => match us, hl with | [_], _ => rfl⟩
  have C_without_mark : Cal l.prog w K mg base "without_mark" 1 ["word"] (sp_without_mark K) := ⟨_, _, ok_without_mark F13 T, PySem.W.mg_of X G a13, F13.kp, F13.binds fun _ _ _ _ _ _ us hl => match us, hl with | [_], _ => rfl⟩
  have C_walked : Cal l.prog w K mg base "walked" 3 ["word", "number"] (sp_walked K) := ⟨_, _, ok_walked F14 T C_field C_with_field C_is_sealed C_without_mark, PySem.W.mg_of X G a14, F14.kp, F14.binds fun _ _ _ _ _ _ us hl => match us, hl with | [_, _], _ => rfl⟩
  have C_narrow_bounds : Cal l.prog w K mg base "narrow_bounds" 7 ["at", "many", "exact"] (sp_narrow_bounds K) := ⟨_, _, ok_narrow_bounds F15 T C_are_bounds C_least_bounds C_is_exact, PySem.W.mg_of X G a15, F15.kp, F15.binds fun _ _ _ _ _ _ us hl => match us, hl with | [_, _, _], _ => rfl⟩
  have C_with_bounds : Cal l.prog w K mg base "with_bounds" 5 ["bits", "bounds"] (sp_with_bounds K) := ⟨_, _, ok_with_bounds F16 T C_in_bits C_with_field, PySem.W.mg_of X G a16, F16.kp, F16.binds fun _ _ _ _ _ _ us hl => match us, hl with | [_, _], _ => rfl⟩
  have FD17 : FunD K "narrowed" "narrowed" (defArgs s_narrowed) (defBody s_narrowed) (defScope s_narrowed) [] [("exact", V.bl false)] f17 _ := ⟨⟨_, _, _, _, _, _, _, _, _, _, rfl, l17, c17, .inl ⟨rfl, rfl⟩, .inr ⟨D17, rfl, fun q hq => by simp at hq; subst hq; exact ⟨_, d17_exact, rfl⟩⟩⟩, k17⟩
  obtain ⟨ds17, hd17, hb17⟩ := FD17.binds0 2 (ps := ["word", "many", "exact"]) (by simp) rfl (fun D doc pm an cdv ct us ks h1 h2 => match us, h1, ks, h2 with | [_, _], _, [_], _ => ⟨_, _, _, _, _, _, rfl, rfl, rfl⟩)
  have C_narrowed : CalD l.prog w K mg base "narrowed" 8 ["word", "many", "exact"] [.bl false] (sp_narrowed K) := ⟨_, _, ds17, ok_narrowed F17 T C_field C__has_bounds C_is_sealed C_without_mark C_narrow_bounds C_with_bounds, PySem.W.mg_of X G a17, F17.kp, hd17, hb17⟩
  obtain ⟨mv17, hk17⟩ := FD17.kbinds0 2 (ps := ["word", "many", "exact"]) ["exact"] [] (fun vs mz zs => vs ++ zs) (by simp) (by simp) (fun r1 _ r3 => Vals.append r1 r3) (fun D doc pm an cdv ct us mv ws h1 h2 h3 => match us, h1, mv, h2, ws, h3 with | [_, _], _, [], _, [_], _ => rfl)
  have C_narrowed_k : CalK l.prog w K mg base "narrowed" 8 ["word", "many", "exact"] 2 ["exact"] (sp_narrowed K) := ⟨_, _, _, ok_narrowed F17 T C_field C__has_bounds C_is_sealed C_without_mark C_narrow_bounds C_with_bounds, PySem.W.mg_of X G a17, F17.kp, hk17⟩
  have C__law_take : Cal l.prog w K mg base "_law_take" 1 ["_law_pool_here", "_law_many"] (sp__law_take K) := ⟨_, _, ok__law_take F18 T, PySem.W.mg_of X G a18, F18.kp, F18.binds fun _ _ _ _ _ _ us hl => match us, hl with | [_, _], _ => rfl⟩
  have C__law_pool : Cal l.prog w K mg base "_law_pool" 1 ["_law_script", "_law_k"] (sp__law_pool K) := ⟨_, _, ok__law_pool F19 T, PySem.W.mg_of X G a19, F19.kp, F19.binds fun _ _ _ _ _ _ us hl => match us, hl with | [_, _], _ => rfl⟩
  have C__law_least : Cal l.prog w K mg base "_law_least" 1 ["_law_low", "_law_high"] (sp__law_least K) := ⟨_, _, ok__law_least F20 T, PySem.W.mg_of X G a20, F20.kp, F20.binds fun _ _ _ _ _ _ us hl => match us, hl with | [_, _], _ => rfl⟩
  have C__law_fields : Cal l.prog w K mg base "_law_fields" 1 ["_law_word_here"] (sp__law_fields K) := ⟨_, _, ok__law_fields F21 T, PySem.W.mg_of X G a21, F21.kp, F21.binds fun _ _ _ _ _ _ us hl => match us, hl with | [_], _ => rfl⟩
  have C__law_made : Cal l.prog w K mg base "_law_made" 2 ["_law_low", "_law_high", "_law_at", "_law_rights_here", "_law_kind"] (sp__law_made K) := ⟨_, _, ok__law_made F22 T C__law_least, PySem.W.mg_of X G a22, F22.kp, F22.binds fun _ _ _ _ _ _ us hl => match us, hl with | [_, _, _, _, _], _ => rfl⟩
  have C__law_bounds : Cal l.prog w K mg base "_law_bounds" 2 ["_law_pool_here"] (sp__law_bounds K) := ⟨_, _, ok__law_bounds F23 T C__law_take C__law_least, PySem.W.mg_of X G a23, F23.kp, F23.binds fun _ _ _ _ _ _ us hl => match us, hl with | [_], _ => rfl⟩
  have C__law_rights : Cal l.prog w K mg base "_law_rights" 2 ["_law_pool_here"] (sp__law_rights K) := ⟨_, _, ok__law_rights F24 T C__law_take, PySem.W.mg_of X G a24, F24.kp, F24.binds fun _ _ _ _ _ _ us hl => match us, hl with | [_], _ => rfl⟩
  have C__law_word : Cal l.prog w K mg base "_law_word" 3 ["_law_pool_here"] (sp__law_word K) := ⟨_, _, ok__law_word F25 T C__law_take C__law_made C__law_bounds C__law_rights, PySem.W.mg_of X G a25, F25.kp, F25.binds fun _ _ _ _ _ _ us hl => match us, hl with | [_], _ => rfl⟩
  have C__law_is_open : Cal l.prog w K mg base "_law_is_open" 2 ["_law_word_here"] (sp__law_is_open K) := ⟨_, _, ok__law_is_open F26 T C__law_fields, PySem.W.mg_of X G a26, F26.kp, F26.binds fun _ _ _ _ _ _ us hl => match us, hl with | [_], _ => rfl⟩
  have C__law_bare : Cal l.prog w K mg base "_law_bare" 1 ["_law_word_here"] (sp__law_bare K) := ⟨_, _, ok__law_bare F27 T, PySem.W.mg_of X G a27, F27.kp, F27.binds fun _ _ _ _ _ _ us hl => match us, hl with | [_], _ => rfl⟩
  have C__law_walked : Cal l.prog w K mg base "_law_walked" 3 ["_law_word_here", "_law_number"] (sp__law_walked K) := ⟨_, _, ok__law_walked F28 T C__law_is_open C__law_bare, PySem.W.mg_of X G a28, F28.kp, F28.binds fun _ _ _ _ _ _ us hl => match us, hl with | [_, _], _ => rfl⟩
  have C__law_narrowed : Cal l.prog w K mg base "_law_narrowed" 3 ["_law_word_here", "_law_many", "_law_just"] (sp__law_narrowed K) := ⟨_, _, ok__law_narrowed F29 T C__law_least C__law_fields C__law_made C__law_is_open C__law_bare, PySem.W.mg_of X G a29, F29.kp, F29.binds fun _ _ _ _ _ _ us hl => match us, hl with | [_, _, _], _ => rfl⟩
  have C__law_numbers : Cal l.prog w K mg base "_law_numbers" 2 ["_law_pool_here", "_law_word_here"] (sp__law_numbers K) := ⟨_, _, ok__law_numbers F30 T C__law_take C__law_fields, PySem.W.mg_of X G a30, F30.kp, F30.binds fun _ _ _ _ _ _ us hl => match us, hl with | [_, _], _ => rfl⟩
  exact ok_law l31 c31 T C_lies_within C_walked C_narrowed C_narrowed_k C__law_pool C__law_word C__law_walked C__law_narrowed C__law_numbers e0 hS hlen
end My
open PySem PySem.W PyProof.Rows
set_option maxRecDepth 100000 in
set_option maxHeartbeats 0 in
theorem PySem.Challenge.cw_sealedreach_k12_words_walked_and_narrowe_holds : PySem.Challenge.rw_sealedreach_k12_words_walked_and_narrowe.Holds := by
  w_on; o_law; k_head; (case hw => w_witness2)
  k_fill
  refine My.walk_scr (l := PySem.Challenge.rw_sealedreach_k12_words_walked_and_narrowe) (n := 63) rfl (by decide) rfl (fun w h Y => PySem.W.kIn_of Y) ?F
  case F =>
    intro w mg fa h KX G hmg
    refine' My.all_mk KX G hmg ?a0 ?l0 ?c0 ?k0 ?a1 ?l1 ?c1 ?k1 ?a2 ?l2 ?c2 ?k2 ?a3 ?l3 ?c3 ?k3 ?a4 ?l4 ?c4 ?k4 ?a5 ?l5 ?c5 ?k5 ?a6 ?l6 ?c6 ?k6 ?a7 ?l7 ?c7 ?k7 ?a8 ?l8 ?c8 ?k8 ?a9 ?l9 ?c9 ?k9 ?a10 ?l10 ?c10 ?k10 ?a11 ?l11 ?c11 ?k11 ?a12 ?l12 ?c12 ?k12 ?a13 ?l13 ?c13 ?k13 ?a14 ?l14 ?c14 ?k14 ?a15 ?l15 ?c15 ?k15 ?a16 ?l16 ?c16 ?k16 ?a17 ?l17 ?c17 ?k17 ?d17_exact ?a18 ?l18 ?c18 ?k18 ?a19 ?l19 ?c19 ?k19 ?a20 ?l20 ?c20 ?k20 ?a21 ?l21 ?c21 ?k21 ?a22 ?l22 ?c22 ?k22 ?a23 ?l23 ?c23 ?k23 ?a24 ?l24 ?c24 ?k24 ?a25 ?l25 ?c25 ?k25 ?a26 ?l26 ?c26 ?k26 ?a27 ?l27 ?c27 ?k27 ?a28 ?l28 ?c28 ?k28 ?a29 ?l29 ?c29 ?k29 ?a30 ?l30 ?c30 ?k30 ?a31 ?l31 ?c31 ?k31 ?z_abs ?z_bool ?z_enumerate ?z_int ?z_isinstance ?z_len ?z_max ?z_min ?z_range ?z_repr ?z_sum ?v_AT ?w_AT ?v_CELLS ?v_COUNT_LESS_ONE ?w_COUNT_LESS_ONE ?v_FIRST ?w_FIRST ?v_GATE ?v_KIND ?w_KIND ?v_NOT_SEALED ?v_RIGHTS_BITS ?w_RIGHTS_BITS ?v_STEP ?w_STEP ?v_TOP_COUNT
    (case a0 => k_is)
    (case l0 => k_is)
    (case c0 => k_is)
    (case k0 => k_is)
    (case a1 => k_is)
    (case l1 => k_is)
    (case c1 => k_is)
    (case k1 => k_is)
    (case a2 => k_is)
    (case l2 => k_is)
    (case c2 => k_is)
    (case k2 => k_is)
    (case a3 => k_is)
    (case l3 => k_is)
    (case c3 => k_is)
    (case k3 => k_is)
    (case a4 => k_is)
    (case l4 => k_is)
    (case c4 => k_is)
    (case k4 => k_is)
    (case a5 => k_is)
    (case l5 => k_is)
    (case c5 => k_is)
    (case k5 => k_is)
    (case a6 => k_is)
    (case l6 => k_is)
    (case c6 => k_is)
    (case k6 => k_is)
    (case a7 => k_is)
    (case l7 => k_is)
    (case c7 => k_is)
    (case k7 => k_is)
    (case a8 => k_is)
    (case l8 => k_is)
    (case c8 => k_is)
    (case k8 => k_is)
    (case a9 => k_is)
    (case l9 => k_is)
    (case c9 => k_is)
    (case k9 => k_is)
    (case a10 => k_is)
    (case l10 => k_is)
    (case c10 => k_is)
    (case k10 => k_is)
    (case a11 => k_is)
    (case l11 => k_is)
    (case c11 => k_is)
    (case k11 => k_is)
    (case a12 => k_is)
    (case l12 => k_is)
    (case c12 => k_is)
    (case k12 => k_is)
    (case a13 => k_is)
    (case l13 => k_is)
    (case c13 => k_is)
    (case k13 => k_is)
    (case a14 => k_is)
    (case l14 => k_is)
    (case c14 => k_is)
    (case k14 => k_is)
    (case a15 => k_is)
    (case l15 => k_is)
    (case c15 => k_is)
    (case k15 => k_is)
    (case a16 => k_is)
    (case l16 => k_is)
    (case c16 => k_is)
    (case k16 => k_is)
    (case a17 => k_is)
    (case l17 => k_is)
    (case c17 => k_is)
    (case k17 => k_is)
    (case d17_exact => k_is)
    (case a18 => k_is)
    (case l18 => k_is)
    (case c18 => k_is)
    (case k18 => k_is)
    (case a19 => k_is)
    (case l19 => k_is)
    (case c19 => k_is)
    (case k19 => k_is)
    (case a20 => k_is)
    (case l20 => k_is)
    (case c20 => k_is)
    (case k20 => k_is)
    (case a21 => k_is)
    (case l21 => k_is)
    (case c21 => k_is)
    (case k21 => k_is)
    (case a22 => k_is)
    (case l22 => k_is)
    (case c22 => k_is)
    (case k22 => k_is)
    (case a23 => k_is)
    (case l23 => k_is)
    (case c23 => k_is)
    (case k23 => k_is)
    (case a24 => k_is)
    (case l24 => k_is)
    (case c24 => k_is)
    (case k24 => k_is)
    (case a25 => k_is)
    (case l25 => k_is)
    (case c25 => k_is)
    (case k25 => k_is)
    (case a26 => k_is)
    (case l26 => k_is)
    (case c26 => k_is)
    (case k26 => k_is)
    (case a27 => k_is)
    (case l27 => k_is)
    (case c27 => k_is)
    (case k27 => k_is)
    (case a28 => k_is)
    (case l28 => k_is)
    (case c28 => k_is)
    (case k28 => k_is)
    (case a29 => k_is)
    (case l29 => k_is)
    (case c29 => k_is)
    (case k29 => k_is)
    (case a30 => k_is)
    (case l30 => k_is)
    (case c30 => k_is)
    (case k30 => k_is)
    (case a31 => k_is)
    (case l31 => k_is)
    (case c31 => k_is)
    (case k31 => k_is)
    (case z_abs => k_is)
    (case z_bool => k_is)
    (case z_enumerate => k_is)
    (case z_int => k_is)
    (case z_isinstance => k_is)
    (case z_len => k_is)
    (case z_max => k_is)
    (case z_min => k_is)
    (case z_range => k_is)
    (case z_repr => k_is)
    (case z_sum => k_is)
    (case v_AT => k_is)
    (case w_AT => k_is)
    (case v_CELLS => k_is)
    (case v_COUNT_LESS_ONE => k_is)
    (case w_COUNT_LESS_ONE => k_is)
    (case v_FIRST => k_is)
    (case w_FIRST => k_is)
    (case v_GATE => k_is)
    (case v_KIND => k_is)
    (case w_KIND => k_is)
    (case v_NOT_SEALED => k_is)
    (case v_RIGHTS_BITS => k_is)
    (case w_RIGHTS_BITS => k_is)
    (case v_STEP => k_is)
    (case w_STEP => k_is)
    (case v_TOP_COUNT => k_is)
