import PyProof.Rows.All
import Wide.All
import OpenK.AllK
import Wide.FinOn
import HandS.ForMost
import HandS.IsInst
import HandS.Conv
import HandS.TupLe
import HandS.Walk
import HandS.Zip
import HandS.Defaults
import HandS.MakeKwOnly
import HandS.SetFor
import HandS.Wide
import HandS.ForExc
import HandS.ExcInit
import KE.KExcIs
import PyProof.ReprLen
import HandS.TupAny
import HandS.Style
import PySem.Challenge.RW_sealedreach_k01_words_rights_lawful_ones
set_option Elab.async false
set_option linter.all false
set_option maxRecDepth 100000
set_option maxHeartbeats 4000000
namespace My
open PySem PySem.Spec PyProof.Rows L2
/-! ### calls of a def by its name alone -/
structure Cal (P : Program) (w : World) (K : PySem.W.Frag) (mg : Str → Option Value) (base : Heap) (x : Str) (k : Nat) (ps : List Str) (sp : Sp) : Prop where
  ex : ∃ (f : Addr) (fd : FuncData), FnOk P w K mg base CX0 k f fd ps sp ∧ mg x = some (.ref f) ∧ PySem.W.keepIn K (.ref f) = true ∧ Binds K fd ps []
theorem pe_cal {X : Cx} {x : Str} {k : Nat} {ps : List Str} {sp : Sp} {e : Expr} {es : List Expr} {t : TA} {p pos : Pos} (C : Cal X.prog X.w X.K X.mg X.base x k ps sp) (hr : Room k X.A)
    (ha : PA X (e :: es) t) (hg : Gl X x := by rfl) (hdb : (x == ("__debug__" : Str)) = false := by decide) (he : starEach (e :: es) X.env = (false, eval e X.env) :: starEach es X.env := by rfl) (hpl : (backTo pos (starEach es X.env)).any (·.1) = false := by rfl) :
    PE X (.Call (.Name x p) (e :: es) [] pos) (tCall sp [] E0 t) := by
  obtain ⟨f, fd, G, g, kp, b⟩ := C.ex
  exact pe_call G hr hg g kp b .nil pass0 ha hdb he hpl
/-- .. with defaults of its keyword-only names -/
structure CalD (P : Program) (w : World) (K : PySem.W.Frag) (mg : Str → Option Value) (base : Heap) (x : Str) (k : Nat) (ps : List Str) (dvs : List V) (sp : Sp) : Prop where
  ex : ∃ (f : Addr) (fd : FuncData) (ds : List Value), FnOk P w K mg base CX0 k f fd ps sp ∧ mg x = some (.ref f) ∧ PySem.W.keepIn K (.ref f) = true ∧ Vals dvs ds ∧ Binds K fd ps ds
theorem pe_calD {X : Cx} {x : Str} {k : Nat} {ps : List Str} {dvs : List V} {sp : Sp} {e : Expr} {es : List Expr} {t : TA} {p pos : Pos} (C : CalD X.prog X.w X.K X.mg X.base x k ps dvs sp) (hr : Room k X.A)
    (ha : PA X (e :: es) t) (hg : Gl X x := by rfl) (hdb : (x == ("__debug__" : Str)) = false := by decide) (he : starEach (e :: es) X.env = (false, eval e X.env) :: starEach es X.env := by rfl) (hpl : (backTo pos (starEach es X.env)).any (·.1) = false := by rfl) :
    PE X (.Call (.Name x p) (e :: es) [] pos) (tCall sp dvs E0 t) := by
  obtain ⟨f, fd, ds, G, g, kp, hd, b⟩ := C.ex
  exact pe_call G hr hg g kp b hd pass0 ha hdb he hpl
/-- .. called with one place and its keyword-only names -/
structure CalK (P : Program) (w : World) (K : PySem.W.Frag) (mg : Str → Option Value) (base : Heap) (x : Str) (k : Nat) (ps : List Str) (n : Nat) (ks : List Str) (sp : Sp) : Prop where
  ex : ∃ (f : Addr) (fd : FuncData) (g : List Value → List Value → List Value), FnOk P w K mg base CX0 k f fd ps sp ∧ mg x = some (.ref f) ∧ PySem.W.keepIn K (.ref f) = true ∧ KBn K fd ps n ks g (fun vs zs => vs ++ zs)
theorem pe_calK {X : Cx} {x : Str} {k n : Nat} {ps ks : List Str} {sp : Sp} {e : Expr} {es : List Expr} {kws : List Keyword} {t tk : TA} {p pos : Pos} (C : CalK X.prog X.w X.K X.mg X.base x k ps n ks sp) (hr : Room k X.A)
    (ha : PA X (e :: es) t) (hkw : PK X kws tk) (hg : Gl X x := by rfl) (hall : (backToKw pos (keywordEach kws X.env)).all (·.1.isSome) = true := by rfl) (hks : (backToKw pos (keywordEach kws X.env)).filterMap (·.1) = ks := by rfl)
    (hdb : (x == ("__debug__" : Str)) = false := by decide) (he : starEach (e :: es) X.env = (false, eval e X.env) :: starEach es X.env := by rfl)
    (hpl : ((backTo pos (starEach (e :: es) X.env)).any (·.1) || (backToKw pos (keywordEach kws X.env)).any (·.1.isNone)) = false := by rfl) :
    PE X (.Call (.Name x p) (e :: es) kws pos) (tCallN n ks.length sp (fun vs zs => vs ++ zs) E0 t tk) := by
  obtain ⟨f, fd, g, G, gm, kp, b⟩ := C.ex
  exact pe_callN G hr hg gm kp b pass0 ha hkw hall hks hdb he hpl
/-! ### tests -/
theorem ifnd {p : Prop} [Decidable p] {A B : Prop} (h1 : ¬ p → A) (h2 : p → B) : if (!decide p) = true then A else B := by
  by_cases h : p
  · rw [decide_eq_true h]; exact h2 h
  · rw [decide_eq_false h]; exact h1 h
theorem ifnb {c : Bool} {A B : Prop} (h1 : c = false → A) (h2 : c = true → B) : if (!c) = true then A else B := by
  cases c with
  | true => exact h2 rfl
  | false => exact h1 rfl
theorem ifd {p : Prop} [Decidable p] {A B : Prop} (h1 : p → A) (h2 : ¬ p → B) : if decide p = true then A else B := by
  by_cases h : p
  · rw [if_pos (decide_eq_true h)]; exact h1 h
  · rw [decide_eq_false h, if_neg Bool.false_ne_true]; exact h2 h
theorem ifP {p : Prop} [Decidable p] {A B : Prop} (h : p) (h1 : A) : if decide p = true then A else B := by
  rw [if_pos (decide_eq_true h)]; exact h1
theorem ifN {p : Prop} [Decidable p] {A B : Prop} (h : ¬ p) (h1 : B) : if decide p = true then A else B := by
  rw [decide_eq_false h, if_neg Bool.false_ne_true]; exact h1
theorem ifb {c : Bool} {A B : Prop} (h1 : c = true → A) (h2 : c = false → B) : if c = true then A else B := by
  cases c with
  | true => rw [if_pos rfl]; exact h1 rfl
  | false => rw [if_neg Bool.false_ne_true]; exact h2 rfl
theorem ifbT {c : Bool} {A B : Prop} (h : c = true) (h1 : A) : if c = true then A else B := by rw [if_pos h]; exact h1
theorem ifbF {c : Bool} {A B : Prop} (h : c = false) (h1 : B) : if c = true then A else B := by rw [h, if_neg Bool.false_ne_true]; exact h1
/-! ### heaps -/
theorem viaS {H H' : Hp} {b : Addr} {o : HO} (s : Same H H') (h : H b = some o) : H' b = some o := s b o h
theorem same_new {H : Hp} {p : Addr} {o : HO} (h : H p = none) : Same H (upd H p o) := fun b x e => by
  rw [upd_ne (ne_of_none e h)]; exact e
/-- all but what stands at a is as it was -/
def But (a : Addr) (H H' : Hp) : Prop := ∀ b o, b ≠ a → H b = some o → H' b = some o
theorem viaB {H H' : Hp} {a b : Addr} {o : HO} (s : But a H H') (n : b ≠ a) (h : H b = some o) : H' b = some o := s b o n h
theorem But.refl (a : Addr) (H : Hp) : But a H H := fun _ _ _ h => h
theorem But.of {a : Addr} {H H' : Hp} (s : Same H H') : But a H H' := fun b o _ h => s b o h
theorem But.trans {a : Addr} {H H1 H2 : Hp} (s : But a H H1) (t : But a H1 H2) : But a H H2 := fun b o n h => t b o n (s b o n h)
theorem But.upd {a : Addr} {H H' : Hp} {o : HO} (s : But a H H') : But a H (upd H' a o) := fun b x n h => by
  rw [upd_ne n]; exact s b x n h
theorem But.new {a p : Addr} {H H' : Hp} {o : HO} (s : But a H H') (n : H' p = none) : But a H (L2.upd H' p o) := fun b x nb h => by
  have e := s b x nb h
  rw [upd_ne (ne_of_none e n)]; exact e
theorem sameN {p : Addr} {H H' : Hp} {o : HO} (s : Same H H') (n : H' p = none) : Same H (L2.upd H' p o) := fun b x h => by
  have e := s b x h
  rw [upd_ne (ne_of_none e n)]; exact e
theorem updK {H : Hp} {a b : Addr} {o u : HO} (n : b ≠ a) (h : H b = some u) : L2.upd H a o b = some u := by rw [upd_ne n]; exact h
/-- the pool of a law: a list of two numbers, the second small -/
def Pool (H : Hp) (a : Addr) (x y : Int) : Prop := H a = some (.lst [.int x, .int y]) ∧ 0 ≤ x ∧ 0 ≤ y ∧ y < 2147483647

local macro_rules | `(tactic| walk_at "ne") => `(tactic| first | assumption | (apply Ne.symm; assumption) | (refine ne_of_none ?_ (by assumption); walk_at "at") | (apply Ne.symm; refine ne_of_none ?_ (by assumption); walk_at "at"))
local macro_rules | `(tactic| walk_at "at") => `(tactic| first | assumption | exact upd_same | (refine updK ?n ?h; (case n => walk_at "ne"); (case h => walk_at "at")) | (refine viaS (by assumption) ?_; walk_at "at") | (refine viaB (by assumption) ?n ?h; (case n => walk_at "ne"); (case h => walk_at "at")))
local macro_rules | `(tactic| walk_at "side") => `(tactic| first | rfl | omega | decide | (refine ⟨by omega, by omega, ?_⟩; first | decide | omega) | (refine Or.inl ⟨by omega, by omega⟩) | (refine Or.inr ⟨by omega, by omega⟩) | exact ⟨by omega, by omega⟩)
/-- one step of a reading whose answers are plain -/
local macro_rules | `(tactic| walk_at "g1") => `(tactic| first | refine ⟨_, rfl, ?_⟩ | refine ⟨_, _, rfl, rfl, ?_⟩ | refine ⟨by walk_at "side", ?_⟩)
local macro_rules | `(tactic| walk_at "g") => `(tactic| repeat walk_at "g1")
theorem sz {n : Nat} (h : n ≤ 1000) : n ≤ sizeLine := Nat.le_of_lt (small1000 h)
theorem Pool.new {H : Hp} {p q : Addr} {x y : Int} {o : HO} (h : Pool H p x y) (n : H q = none) : Pool (upd H q o) p x y := ⟨by rw [upd_ne (ne_of_none h.1 n)]; exact h.1, h.2⟩
def rep (c L : Int) : Int := if (if c < L then c else L) > 1 then (if c < L then c else L) else 1
theorem rep_le {c L : Int} (h : 1 ≤ c) (h2 : c ≤ 63) : 1 ≤ rep c L ∧ rep c L ≤ c := by
  unfold rep
  by_cases d : c < L
  · simp only [if_pos d]; split <;> omega
  · simp only [if_neg d]; split <;> omega
theorem rep_lo {c L : Int} (h : 1 ≤ c) (h2 : c ≤ 63) : -(2 ^ 62) ≤ rep c L := by have := (rep_le (L := L) h h2).1; omega
theorem rep_hi {c L : Int} (h : 1 ≤ c) (h2 : c ≤ 63) : rep c L < 2 ^ 62 := by have := (rep_le (L := L) h h2).2; omega
theorem rep_i {c L : Int} {i : Nat} (h : 1 ≤ c) (h2 : c ≤ 63) (k : i < (rep c L).toNat) : i ≤ 63 := by have := (rep_le (L := L) h h2).2; omega
/-- a pool's own changes leave what stood ahead of it -/
theorem sameP {H H1 H2 H3 : Hp} {p : Addr} (s : Same H H1) (s1 : Same H1 H2) (n : H1 p = none) (b : But p H2 H3) : Same H H3 := fun c o e =>
  b c o (ne_of_none (s c o e) n) (s1 _ _ (s _ _ e))
theorem pick {xs : List V} {r : Int} (P : V → Prop) (h0 : 0 ≤ r) (h1 : r < (xs.length : Int)) (hP : ∀ v ∈ xs, P v) : ∃ v, atI xs r = some v ∧ P v := by
  obtain ⟨j, rfl⟩ : ∃ j : Nat, r = (j : Int) := ⟨r.toNat, by omega⟩
  have hj : j < xs.length := by omega
  exact ⟨xs[j], atI_nat (List.getElem?_eq_getElem hj), hP _ (List.getElem_mem hj)⟩
theorem cut63 {ns : List Int} (h : ns.length ≤ 63) : cutV (ns.map V.int) none (some 63) = ns.map V.int := by
  unfold cutV
  rw [show HT.sIx (ns.map V.int).length (ns.map V.int).length (some 63) = min 63 (ns.map V.int).length from HT.sIx_nat _ _ 63, HT.sIx_none]
  rw [List.drop_zero, Nat.sub_zero, List.length_map, Nat.min_eq_right h]
  exact List.take_of_length_le (by simp)
theorem qb {Q : VK} {H : Hp} {b b' : Bool} (q : Q (.bl b') H) (e : b = b') : Q (.bl b) H := e ▸ q
theorem qi {Q : VK} {H : Hp} {i j : Int} (q : Q (.int j) H) (e : i = j) : Q (.int i) H := e ▸ q
/-! ### enumerate over a text -/
def Ies (x : Str) : It := ⟨fun i _ => i < x.cps.size, fun i H v H' => ∃ T c, v = .ref T ∧ H T = none ∧ H' = upd H T (.tup [.int (i : Nat), .str ⟨#[c]⟩]) ∧ x.cps[i]? = some c, fun i _ => i = x.cps.size⟩
theorem turn_enumS {P : Program} {w : World} {K : PySem.W.Frag} {elts : List Expr} {kk : Nat} {tpos : Pos} (e it : Addr) (x : Str) (t : Tok) :
    Turn P w K (.Tuple elts kk tpos) (Ies x) [e, it] e (fun i h => (∃ old, IsEnum h e it ((i : Nat) : Int) old) ∧ h.IsStrIter it (strIterType x) x t i ∧ e ≠ it) where
  mem := by simp
  obj := fun i h st b hb => by
    obtain ⟨⟨old, he⟩, ⟨o, ho, hc, hd⟩, _⟩ := st
    have e' : b = e ∨ b = it := by simpa using hb
    rcases e' with z | z
    · rw [z]; exact ⟨_, he, fun v q => nomatch q⟩
    · rw [z]; exact ⟨o, ho, fun v q => by rw [hd] at q; cases q⟩
  keep := fun i h h' st k => let ⟨⟨old, he⟩, ⟨o, ho, r⟩, hne⟩ := st; ⟨⟨old, k e (by simp) _ he⟩, ⟨o, k it (by simp) o ho, r⟩, hne⟩
  item := by
    intro X hP hw hK hc i pins s σ H E I hf st hg
    subst hP hw hK
    obtain ⟨⟨old, he⟩, hit, hne⟩ := st
    have hel : e < s.heap.objs.size := Heap.lt_size he
    have hil : it < s.heap.objs.size := by obtain ⟨_, q, _⟩ := hit; exact Heap.lt_size q
    have hd : X.A.in1.handled = none := I.ok.hd hc
    have D : Draws X.prog X.w X.A.in1 it [it] x.cps.size (fun i v => ∃ c u, x.cps[i]? = some c ∧ v = .str ⟨#[c]⟩ u) (fun i h => h.IsStrIter it (strIterType x) x t i) := by
      unfold strIterType
      split
      · exact Draws.strAscii hd it x t
      · exact Draws.strWide hd it x t
    refine wpAny_pyNext_enum_itemD D he hit hg hne (by simpa using hne) fun v h' tk hv ho hit' hT hsz hk => ?_
    obtain ⟨c, u, hcx, rfl⟩ := hv
    refine ⟨_, rfl, wpAny_letOwnedTupleGo_enum (s := { s with heap := h', toks := tk + 1 }) ho fun h'' he' sb => ?_⟩
    have hT2 : h''.get? s.heap.objs.size = some { cls := .type "tuple", data := .seq #[.int i tk, .str ⟨#[c]⟩ u] } := (sb.2 _ (Nat.ne_of_gt hel)).trans hT
    have new : ObjOk X.prog X.w (upd H s.heap.objs.size (.tup [.int (i : Nat), .str ⟨#[c]⟩])) h'' s.heap.objs.size (.tup [.int (i : Nat), .str ⟨#[c]⟩]) :=
      ⟨by show 2 ≤ sizeLine; decide, [.int i tk, .str ⟨#[c]⟩ u], .cons ⟨_, rfl⟩ (.cons ⟨_, rfl⟩ .nil), ⟨_, hT2, rfl, _, rfl⟩⟩
    have I1 : Inv X pins σ (upd H s.heap.objs.size (.tup [.int (i : Nat), .str ⟨#[c]⟩])) { s with heap := h'', toks := tk + 1 } :=
      I.turnedNew (ch := [e, it]) (fun b ob hb q => (sb.2 b (fun z => hb (by simp [z]))).trans (hk b ob (fun z => hb (by simp [z])) (fun z => hb (by simp [z])) q)) hf (Nat.le_refl _) new
    refine ⟨.ref s.heap.objs.size, _, I1, rfl, ⟨_, c, rfl, I.hok.fresh (Nat.le_refl _), rfl, hcx⟩, ⟨⟨.str ⟨#[c]⟩ u, ?_⟩, ?_, hne⟩, fun b hb => ?_⟩
    · have e1 : ((i + 1 : Nat) : Int) = (i : Int) + 1 := by omega
      rw [e1]; exact he'
    · obtain ⟨o2, q2, r2⟩ := hit'
      exact ⟨o2, (sb.2 it (Ne.symm hne)).trans q2, r2⟩
    · have hb' : b < s.heap.objs.size := by
        have e' : b = e ∨ b = it := by simpa using hb
        rcases e' with z | z
        · rw [z]; exact hel
        · rw [z]; exact hil
      rw [upd_ne (Nat.ne_of_lt hb')]
      exact (hf b hb).1
  done := by
    intro X hP hw hK hc i pins s σ H E I hf st hg
    subst hP hw hK
    obtain ⟨⟨old, he⟩, hit, hne⟩ := st
    have hg' : i = x.cps.size := hg
    subst hg'
    have hd : X.A.in1.handled = none := I.ok.hd hc
    have D : Draws X.prog X.w X.A.in1 it [it] x.cps.size (fun i v => ∃ c u, x.cps[i]? = some c ∧ v = .str ⟨#[c]⟩ u) (fun i h => h.IsStrIter it (strIterType x) x t i) := by
      unfold strIterType
      split
      · exact Draws.strAscii hd it x t
      · exact Draws.strWide hd it x t
    obtain ⟨f0, f1, f2, f3, f4, f5⟩ := hf it (by simp)
    exact wpAny_pyNext_enum_endD D he hit fun h' eb => ⟨rfl, I.turned (t' := s.toks) (fun b o hb q => eb b o hb q) f0 f1 f3 f4 f5⟩
  self := fun A i s Q E st h => let ⟨⟨_, he⟩, _⟩ := st; wpAny_pyIter_enum he h
def iEnumS (ta : TA) : TI := fun σ H R => ta σ H fun vs H1 => ∃ x : Str, vs = [.str x] ∧ R (Ies x) H1
theorem pi_enumS {X : Cx} {e : Expr} {ta : TA} {p pos tpos : Pos} {elts : List Expr} {kk : Nat} (hg : Gl X "enumerate") (hm : X.mg "enumerate" = none) (ha : PA X [e] ta) (hs : starEach [e] X.env = [(false, eval e X.env)] := by rfl) :
    PI X (.Tuple elts kk tpos) (.Call (.Name "enumerate" p) [e] [] pos) (iEnumS ta) := by
  refine ⟨fun pins s σ H R I h => ?_⟩
  refine Call_ (ld_blt I hg hm boot_enumerate (PyProof.Rows.callWith_type1 (thn (ha.run pos pins s σ H _ I h) fun us s1 ⟨vs, H1, I1, r1, q1⟩ => ?_) hs rfl))
  obtain ⟨x, ex, q⟩ := q1
  subst ex
  cases r1 with
  | cons r rr =>
    cases rr
    obtain ⟨t, rfl⟩ := r
    refine call_enumerate_str fun h' he hit hsz hk => wpAny_pyIter_enum he ?_
    have I2 : Inv X pins σ H1 { s1 with heap := h' } := I1.kept (t' := s1.toks) hk
    refine ⟨s1.heap.objs.size + 1, [s1.heap.objs.size + 1, s1.heap.objs.size], _, _, H1, rfl, I2, turn_enumS (s1.heap.objs.size + 1) s1.heap.objs.size x t, ⟨⟨.none, he⟩, hit, Nat.succ_ne_self _⟩, fun b hb => ?_, q⟩
    have e' : b = s1.heap.objs.size + 1 ∨ b = s1.heap.objs.size := by simpa using hb
    have hle : s1.heap.objs.size ≤ b := by
      rcases e' with z | z
      · rw [z]; exact Nat.le_add_right _ _
      · rw [z]; exact Nat.le_refl _
    exact I1.fpOk hle (I1.hok.fresh hle)
theorem walk_enumS {z : Str} : Walk (Ies z) z.cps.size (fun _ => True) (YPair (fun i => some (.int (i : Nat))) (fun i => (z.cps[i]?).map fun c => .str ⟨#[c]⟩)) where
  goes := fun i H hi _ => hi
  stops := fun H _ => rfl
  yields := fun i H x H' hi _ y => by
    obtain ⟨T, c, rfl, hn, rfl, hc⟩ := y
    exact ⟨T, _, _, rfl, hn, rfl, rfl, by simp [hc]⟩
theorem walk_zipT {K : PySem.W.Frag} {a b : Addr} {xs ys : List V} {n : Nat} (hn : n = min xs.length ys.length) : Walk (RZ.ItzT K a b) n (fun H => SqT K H a xs ∧ SqT K H b ys) (YPair (fun i => xs[i]?) (fun i => ys[i]?)) where
  goes := fun i H hi h => by
    have h1 : i < xs.length := by omega
    have h2 : i < ys.length := by omega
    exact ⟨xs, ys, xs[i], ys[i], h.1, h.2, List.getElem?_eq_getElem h1, List.getElem?_eq_getElem h2⟩
  stops := fun H h => ⟨xs, ys, h.1, h.2, by omega⟩
  yields := fun i H x H' hi h y => by
    obtain ⟨T, x1, y1, rfl, hn', rfl, h1, h2⟩ := y
    exact ⟨T, x1, y1, rfl, hn', rfl, h1 xs h.1, h2 ys h.2⟩

theorem b01 (k : Bool) : -(2 ^ 64) < (if k then (1 : Int) else 0) ∧ (if k then (1 : Int) else 0) < 2 ^ 64 := by cases k <;> decide
theorem mixb (z : Int) : -(2 ^ 64) < z % 2147483647 ∧ z % 2147483647 < 2 ^ 64 := by omega
theorem sizeb (c : Int) (k : Bool) : 0 ≤ (if c < 0 then -c else c) * (if k then (1 : Int) else 0) := by
  cases k
  · simp
  · simp; split <;> omega

/-! ### the mathematics of bounds -/
def Dd (lo hi : Int) (t : Nat) : Int := (hi - 1) / 2 ^ t - lo / 2 ^ t
def StepIs (lo hi : Int) (s : Nat) : Prop := s ≤ 8 ∧ Dd lo hi s ≤ 15 ∧ ∀ t, t < s → 15 < Dd lo hi t
def Bd (lo hi : Int) : Prop := 0 ≤ lo ∧ lo < hi ∧ hi ≤ 4096
def Ex (lo hi : Int) (s : Nat) : Prop := StepIs lo hi s ∧ lo / 2 ^ s * 2 ^ s = lo ∧ ((hi - 1) / 2 ^ s + 1) * 2 ^ s = hi
theorem le8 {s : Nat} (h : s ≤ 8) : s = 0 ∨ s = 1 ∨ s = 2 ∨ s = 3 ∨ s = 4 ∨ s = 5 ∨ s = 6 ∨ s = 7 ∨ s = 8 := by omega
theorem StepIs.uniq {lo hi : Int} {s t : Nat} (h : StepIs lo hi s) (k : StepIs lo hi t) : s = t := by
  rcases Nat.lt_trichotomy s t with c | c | c
  · have := k.2.2 s c; have := h.2.1; omega
  · exact c
  · have := h.2.2 t c; have := k.2.1; omega
theorem pow_pos2 (s : Nat) : (0 : Int) < 2 ^ s := Int.pow_pos (by decide)
theorem over_eq (lo hi : Int) (s : Nat) : (hi + 1 * 2 ^ s - 1) / 2 ^ s - lo / 2 ^ s = Dd lo hi s + 1 := by
  have e : hi + 1 * 2 ^ s - 1 = (hi - 1) + 1 * 2 ^ s := by omega
  rw [e, Int.add_mul_ediv_right _ _ (Int.ne_of_gt (pow_pos2 s))]
  unfold Dd
  omega
theorem first_over (lo hi : Int) (s : Nat) : lo / 2 ^ s + (Dd lo hi s + 1) = (hi - 1) / 2 ^ s + 1 := by
  unfold Dd; omega
theorem dd8 {lo hi : Int} (b : Bd lo hi) : Dd lo hi 8 ≤ 15 := by
  obtain ⟨h1, h2, h3⟩ := b
  unfold Dd
  have e : (2 : Int) ^ 8 = 256 := by decide
  rw [e]; omega
/-- going up from nought: below s all are too many -/
theorem lt8 {lo hi : Int} {s : Nat} (b : Bd lo hi) (h : 15 < Dd lo hi s) (u : s ≤ 8) : s < 8 := by
  rcases Nat.lt_or_ge s 8 with c | c
  · exact c
  · have e : s = 8 := by omega
    subst e
    have := dd8 b
    omega
/-- what a shift asks -/
theorem p8 {s : Nat} (h : s ≤ 8) : (2 : Int) ^ s ≤ 256 := by
  rcases le8 h with e | e | e | e | e | e | e | e | e <;> subst e <;> decide
theorem na {x : Int} (h0 : 0 ≤ x) (h1 : x ≤ 100000) : x.natAbs < 2 ^ 64 := by omega
theorem div_le' {x : Int} {s : Nat} (h0 : 0 ≤ x) : 0 ≤ x / 2 ^ s ∧ x / 2 ^ s ≤ x :=
  ⟨Int.ediv_nonneg h0 (Int.le_of_lt (pow_pos2 s)), Int.ediv_le_self _ h0⟩
theorem bc {lo hi : Int} {s : Nat} (b : Bd lo hi) (h : s ≤ 8) : CPow (lo / 2 ^ s) (s : Int) := by
  have := div_le' (s := s) b.1
  have := b.2
  exact ⟨by omega, by omega, na (by omega) (by omega)⟩
theorem bc2 {lo hi : Int} {s : Nat} (b : Bd lo hi) (h : StepIs lo hi s) : CPow (lo / 2 ^ s + (Dd lo hi s + 1)) (s : Int) := by
  have h8 := h.1
  obtain ⟨b1, b2, b3⟩ := b
  have := div_le' (s := s) (x := hi - 1) (by omega)
  rw [first_over]
  exact ⟨by omega, by omega, na (by omega) (by omega)⟩
theorem dd0 (n : Int) (s : Nat) : Dd 0 n s + 1 = (n - 1) / 2 ^ s + 1 := by
  unfold Dd; rw [Int.zero_ediv]; omega
theorem bc3 {n : Int} {s : Nat} (h : StepIs 0 n s) (b : Bd 0 n) : CPow (Dd 0 n s + 1) (s : Int) := by
  have h8 := h.1
  obtain ⟨b1, b2, b3⟩ := b
  have := div_le' (s := s) (x := n - 1) (by omega)
  rw [dd0]
  exact ⟨by omega, by omega, na (by omega) (by omega)⟩
def Can (lo hi : Int) (s : Nat) : Prop := lo % 2 ^ s = 0 ∧ 9 ≤ (hi - lo) / 2 ^ s
def GH (lo hi : Int) (s : Nat) : Prop := s ≤ 8 ∧ (s = 0 ∨ Can lo hi s) ∧ ∀ t, s < t → t ≤ 8 → ¬ Can lo hi t
def mn (lo hi : Int) (s : Nat) : Int := if (hi - lo) / 2 ^ s < 16 then (hi - lo) / 2 ^ s else 16
theorem cmn {lo hi : Int} {s : Nat} (b : Bd lo hi) (h : s ≤ 8) : CPow (mn lo hi s) (s : Int) := by
  obtain ⟨b1, b2, b3⟩ := b
  have := div_le' (s := s) (x := hi - lo) (by omega)
  unfold mn
  refine ⟨by omega, by omega, na ?_ ?_⟩ <;> split <;> omega
theorem bl_int {a b : Int} : decide (V.int a = V.int b) = decide (a = b) := by
  by_cases h : a = b
  · subst h; simp
  · have : ¬ (V.int a = V.int b) := fun e => h (V.int.inj e)
    simp [h, this]
theorem t2_eqv {a b c d : Int} : PyData.eqv (.tuple [.int a, .int b]) (.tuple [.int c, .int d]) = true ↔ a = c ∧ b = d := by
  simp [PyData.eqv, PyData.eqvAll]
theorem t2_no {a b c d : Int} (e : PyData.eqv (.tuple [.int a, .int b]) (.tuple [.int c, .int d]) = false) (h1 : a = c) (h2 : b = d) : False := by
  rw [t2_eqv.mpr ⟨h1, h2⟩] at e; cases e
theorem dp2 {K : PySem.W.Frag} {H : Hp} {p : Addr} {a b : Int} (h : H p = some (.tup [.int a, .int b])) : Dp K H (.ref p) (.tuple [.int a, .int b]) :=
  .tup (.of h) (.cons (.int a) (.cons (.int b) .nil))
theorem t3_eqv {a b x c d y : Int} : PyData.eqv (.tuple [.int a, .int b, .int x]) (.tuple [.int c, .int d, .int y]) = true ↔ a = c ∧ b = d ∧ x = y := by
  simp [PyData.eqv, PyData.eqvAll]
theorem dp3 {K : PySem.W.Frag} {H : Hp} {p : Addr} {a b c : Int} (h : H p = some (.tup [.int a, .int b, .int c])) : Dp K H (.ref p) (.tuple [.int a, .int b, .int c]) :=
  .tup (.of h) (.cons (.int a) (.cons (.int b) (.cons (.int c) .nil)))

/-! ### things of any kind -/
inductive Kd (H : Hp) : V → Prop where
  | non : Kd H .non
  | bl (b : Bool) : Kd H (.bl b)
  | int (i : Int) : Kd H (.int i)
  | str (x : Str) : Kd H (.str x)
  | lst {p : Addr} {xs : List V} (e : H p = some (.lst xs)) : Kd H (.ref p)
  | tup {p : Addr} {xs : List V} (e : H p = some (.tup xs)) : Kd H (.ref p)
  | dk {p : Addr} {kvs : List (Key × V)} (e : H p = some (.dK kvs)) : Kd H (.ref p)
theorem Kd.same {H H' : Hp} {v : V} (k : Kd H v) (s : Same H H') : Kd H' v := by
  cases k with
  | non => exact .non
  | bl b => exact .bl b
  | int i => exact .int i
  | str x => exact .str x
  | lst e => exact .lst (s _ _ e)
  | tup e => exact .tup (s _ _ e)
  | dk e => exact .dk (s _ _ e)
def isI : V → Bool | .int _ => true | .bl _ => true | _ => false
def isB : V → Bool | .bl _ => true | _ => false
def isS : V → Bool | .str _ => true | _ => false
theorem Kd.int? {K : PySem.W.Frag} {H : Hp} {v : V} (k : Kd H v) : ∃ t, TyX K H v t ∧ PySem.W.kitOne K t (.type "int") = some (isI v) := by
  cases k with
  | non => exact ⟨_, .base .non, kit_ty (r := false) (by decide +kernel)⟩
  | bl b => exact ⟨_, .base (.bl b), kit_ty (r := true) (by decide +kernel)⟩
  | int i => exact ⟨_, .base (.int i), kit_ty (r := true) (by decide +kernel)⟩
  | str x => exact ⟨_, .base (.str x), kit_ty (r := false) (by decide +kernel)⟩
  | lst e => exact ⟨_, .base (.lst e), kit_ty (r := false) (by decide +kernel)⟩
  | tup e => exact ⟨_, .base (.tup e), kit_ty (r := false) (by decide +kernel)⟩
  | dk e => exact ⟨_, .base (.dK e), kit_ty (r := false) (by decide +kernel)⟩
theorem Kd.bool? {K : PySem.W.Frag} {H : Hp} {v : V} (k : Kd H v) : ∃ t, TyX K H v t ∧ PySem.W.kitOne K t (.type "bool") = some (isB v) := by
  cases k with
  | non => exact ⟨_, .base .non, kit_ty (r := false) (by decide +kernel)⟩
  | bl b => exact ⟨_, .base (.bl b), kit_ty (r := true) (by decide +kernel)⟩
  | int i => exact ⟨_, .base (.int i), kit_ty (r := false) (by decide +kernel)⟩
  | str x => exact ⟨_, .base (.str x), kit_ty (r := false) (by decide +kernel)⟩
  | lst e => exact ⟨_, .base (.lst e), kit_ty (r := false) (by decide +kernel)⟩
  | tup e => exact ⟨_, .base (.tup e), kit_ty (r := false) (by decide +kernel)⟩
  | dk e => exact ⟨_, .base (.dK e), kit_ty (r := false) (by decide +kernel)⟩
theorem Kd.str? {K : PySem.W.Frag} {H : Hp} {v : V} (k : Kd H v) : ∃ t, TyX K H v t ∧ PySem.W.kitOne K t (.type "str") = some (isS v) := by
  cases k with
  | non => exact ⟨_, .base .non, kit_ty (r := false) (by decide +kernel)⟩
  | bl b => exact ⟨_, .base (.bl b), kit_ty (r := false) (by decide +kernel)⟩
  | int i => exact ⟨_, .base (.int i), kit_ty (r := false) (by decide +kernel)⟩
  | str x => exact ⟨_, .base (.str x), kit_ty (r := true) (by decide +kernel)⟩
  | lst e => exact ⟨_, .base (.lst e), kit_ty (r := false) (by decide +kernel)⟩
  | tup e => exact ⟨_, .base (.tup e), kit_ty (r := false) (by decide +kernel)⟩
  | dk e => exact ⟨_, .base (.dK e), kit_ty (r := false) (by decide +kernel)⟩
/-- it is no tuple -/
inductive NoT (H : Hp) : V → Prop where
  | non : NoT H .non
  | bl (b : Bool) : NoT H (.bl b)
  | int (i : Int) : NoT H (.int i)
  | str (x : Str) : NoT H (.str x)
  | lst {p : Addr} {xs : List V} (e : H p = some (.lst xs)) : NoT H (.ref p)
  | dk {p : Addr} {kvs : List (Key × V)} (e : H p = some (.dK kvs)) : NoT H (.ref p)
theorem NoT.tup? {K : PySem.W.Frag} {H : Hp} {v : V} (k : NoT H v) : ∃ t, TyX K H v t ∧ PySem.W.kitOne K t (.type "tuple") = some false := by
  cases k with
  | non => exact ⟨_, .base .non, kit_ty (by decide +kernel)⟩
  | bl b => exact ⟨_, .base (.bl b), kit_ty (by decide +kernel)⟩
  | int i => exact ⟨_, .base (.int i), kit_ty (by decide +kernel)⟩
  | str x => exact ⟨_, .base (.str x), kit_ty (by decide +kernel)⟩
  | lst e => exact ⟨_, .base (.lst e), kit_ty (by decide +kernel)⟩
  | dk e => exact ⟨_, .base (.dK e), kit_ty (by decide +kernel)⟩
/-! ### texts of rights -/
def RT : Str := Str.ofString "rwlsnfxco"
def code (k : Nat) : Nat := [114, 119, 108, 115, 110, 102, 120, 99, 111].getD k 0
def one (c : Nat) : Str := ⟨#[c]⟩
theorem RT_size : RT.cps.size = 9 := by decide +kernel
theorem RT_get : ∀ k, k < 9 → RT.cps[k]? = some (code k) := by decide +kernel
theorem code_inj : ∀ j, j < 9 → ∀ k, k < 9 → code j = code k → j = k := by decide +kernel
def rcs (p : Nat → Bool) (i : Nat) : List Str := ((List.range i).filter p).map fun k => one (code k)
def rtx (p : Nat → Bool) : Str := Txt.join (Str.ofString "") (rcs p 9)
theorem joinL_nil : ∀ l : List (List Nat), TL.joinL [] l = l.flatten
  | [] => rfl
  | [p] => by simp [TL.joinL]
  | p :: q :: r => by
    show p ++ ([] ++ TL.joinL [] (q :: r)) = _
    rw [joinL_nil (q :: r)]; simp
theorem rtx_codes (p : Nat → Bool) : (rtx p).cps.toList = ((List.range 9).filter p).map code := by
  unfold rtx
  rw [TL.join_eq]
  show TL.tl (Str.join _ _) = _
  rw [TL.tl_join]
  have e : TL.tl (Str.ofString "") = [] := by decide +kernel
  rw [e, joinL_nil]
  unfold rcs
  generalize (List.range 9).filter p = l
  induction l with
  | nil => rfl
  | cons x r ih =>
    simp only [List.map_cons, List.flatten_cons] at *
    rw [ih]; rfl
theorem rtx_mem (p : Nat → Bool) {k : Nat} (hk : k < 9) : code k ∈ (rtx p).cps.toList ↔ p k = true := by
  rw [rtx_codes, List.mem_map]
  constructor
  · rintro ⟨j, hj, e⟩
    obtain ⟨h1, h2⟩ := List.mem_filter.mp hj
    have : j = k := code_inj j (List.mem_range.mp h1) k hk e
    subst this; exact h2
  · intro h
    exact ⟨k, List.mem_filter.mpr ⟨List.mem_range.mpr hk, h⟩, rfl⟩
theorem rcs_succ (p : Nat → Bool) (i : Nat) : rcs p (i + 1) = rcs p i ++ (if p i = true then [one (code i)] else []) := by
  unfold rcs
  rw [List.range_succ, List.filter_append, List.map_append]
  congr 1
  by_cases h : p i = true
  · simp [h]
  · simp [h]
theorem rcs_len (p : Nat → Bool) (i : Nat) : (rcs p i).length ≤ i := by
  unfold rcs
  rw [List.length_map]
  exact Nat.le_trans (List.length_filter_le _ _) (by rw [List.length_range]; exact Nat.le_refl _)
theorem rcs_one (p : Nat → Bool) (i : Nat) : ((rcs p i).map (·.length)).sum = (rcs p i).length := by
  unfold rcs
  generalize (List.range i).filter p = l
  induction l with
  | nil => rfl
  | cons x r ih =>
    simp only [List.map_cons, List.sum_cons, List.length_cons] at *
    rw [ih]
    show 1 + _ = _
    omega
theorem rcs_fit (p : Nat → Bool) : ((rcs p 9).map (·.length)).sum + (rcs p 9).length * (Str.ofString "").length ≤ 16777216 := by
  have e : (Str.ofString "").length = 0 := by decide +kernel
  rw [e, rcs_one]
  have := rcs_len p 9
  omega
theorem szn {n : Nat} (h : n < 1000) : n < sizeLine := small1000 (Nat.le_of_lt h)
/-- the right k is in a text -/
def hasR (r : Str) (k : Nat) : Bool := decide (code k ∈ r.cps.toList)
def hasG (r g : Str) : Bool := g.cps.toList.any fun c => decide (c ∈ r.cps.toList)
def G0 : Str := Str.ofString "rwlsn"
def G1 : Str := Str.ofString "x"
def G2 : Str := Str.ofString "co"
def OneW (r : Str) : Prop := ([G0, G1, G2].filter (hasG r)).length ≤ 1
def mask (p : Nat → Bool) (i : Nat) : List Int := ((List.range i).filter p).map fun k => (2 : Int) ^ k
def maskOf (r : Str) : Int := (mask (hasR r) 9).sum
theorem mask_succ (p : Nat → Bool) (i : Nat) : mask p (i + 1) = mask p i ++ (if p i = true then [(2 : Int) ^ i] else []) := by
  unfold mask
  rw [List.range_succ, List.filter_append, List.map_append]
  congr 1
  by_cases h : p i = true
  · simp [h]
  · simp [h]
theorem mask_len (p : Nat → Bool) (i : Nat) : (mask p i).length ≤ i := by
  unfold mask
  rw [List.length_map]
  exact Nat.le_trans (List.length_filter_le _ _) (by rw [List.length_range]; exact Nat.le_refl _)
theorem i0 (i : Nat) : (0 : Int) + (i : Int) = (i : Int) := by omega
theorem take_any {g r : Str} {i : Nat} (hi : i < g.cps.size) : (g.cps.toList.take (i + 1)).map (fun c => decide (c ∈ r.cps.toList)) = (g.cps.toList.take i).map (fun c => decide (c ∈ r.cps.toList)) ++ [decide (g.cps[i] ∈ r.cps.toList)] := by
  rw [List.take_add_one, List.map_append]
  congr 1
  simp [hi]
theorem wipe_in {σ : L2.St} {i : Nat} : ∀ {vs : List Nat}, i ∈ vs → (wipe σ vs)[i]? = if i < σ.length then some none else none
  | [], h => by cases h
  | a :: vs, h => by
    show ((wipe σ vs).set a none)[i]? = _
    by_cases e : a = i
    · subst e
      rw [List.getElem?_set_self']
      by_cases l : a < σ.length
      · rw [if_pos l, List.getElem?_eq_getElem (by rw [wipe_length]; exact l)]; rfl
      · rw [if_neg l, List.getElem?_eq_none (by rw [wipe_length]; omega)]; rfl
    · rw [List.getElem?_set_ne e]
      exact wipe_in (by rcases List.mem_cons.mp h with q | q; exact absurd q.symm e; exact q)
theorem wipe_set {σ : L2.St} {vs : List Nat} {j : Nat} {v : Option V} (h : j ∈ vs) : wipe (σ.set j v) vs = wipe σ vs := by
  refine List.ext_getElem? fun i => ?_
  by_cases c : i ∈ vs
  · rw [wipe_in c, wipe_in c, List.length_set]
  · have n : j ≠ i := fun e => c (e ▸ h)
    rw [wipe_out c, wipe_out c, List.getElem?_set_ne n]
theorem wipe_wipe {σ : L2.St} {vs : List Nat} : wipe (wipe σ vs) vs = wipe σ vs := by
  refine List.ext_getElem? fun i => ?_
  by_cases c : i ∈ vs
  · rw [wipe_in c, wipe_in c, wipe_length]
  · rw [wipe_out c]
theorem wp1 {σ : L2.St} {vs : List Nat} {j : Nat} {v : Option V} (h : j ∈ vs) : wipe ((wipe σ vs).set j v) vs = wipe σ vs := by rw [wipe_set h, wipe_wipe]
theorem wp2 {σ : L2.St} {vs : List Nat} {j k : Nat} {v u : Option V} (h : j ∈ vs) (h2 : k ∈ vs) : wipe (((wipe σ vs).set j v).set k u) vs = wipe σ vs := by rw [wipe_set h2, wipe_set h, wipe_wipe]
def bitp (m : Int) : Nat → Bool := fun k => decide (m / 2 ^ k % 2 = 1)
/-- what bits tell -/
def fAt (b : Int) : Int := b / 2 ^ 0 % 2 ^ 12
def fFirst (b : Int) : Int := b / 2 ^ 12 % 2 ^ 12
def fCnt (b : Int) : Int := b / 2 ^ 24 % 2 ^ 4 + 1
def fStep (b : Int) : Int := b / 2 ^ 28 % 2 ^ 4
def fRts (b : Int) : Int := b / 2 ^ 32 % 2 ^ 9
def fKind (b : Int) : Int := b / 2 ^ 41 % 2 ^ 4
def Tells (b : Int) : Prop := fStep b ≤ 8 ∧ (fStep b = 0 ∨ 9 ≤ fCnt b) ∧ (fFirst b + fCnt b) * 2 ^ (fStep b).toNat ≤ 4096
theorem fb (b : Int) : 0 ≤ fStep b ∧ fStep b ≤ 15 ∧ 1 ≤ fCnt b ∧ fCnt b ≤ 16 ∧ 0 ≤ fFirst b ∧ fFirst b ≤ 4095 := by
  unfold fStep fCnt fFirst; omega
theorem cpw {z s : Int} (h0 : 0 ≤ z) (h1 : z ≤ 10000000000000) (h2 : 0 ≤ s) (h3 : s ≤ 1000) : CPow z s := ⟨h2, by omega, by omega⟩
/-- the fields of a lawful marked word -/
def F5 (xs : List V) : Prop := ∃ (lo hi at' : Int) (r : Str) (kd : Int), xs = [.int lo, .int hi, .int at', .str r, .int kd] ∧ Bd lo hi ∧ (∃ s, Ex lo hi s) ∧ 0 ≤ at' ∧ at' ≤ 4095 ∧ 0 ≤ kd ∧ kd ≤ 15 ∧ r = rtx (hasR r) ∧ OneW r
def wl (a b c d e f : Int) : List Int := [a * 2 ^ 0, b * 2 ^ 12, c * 2 ^ 24, d * 2 ^ 28, e * 2 ^ 32, f * 2 ^ 41]
def wbits (lo hi at' mr kd : Int) (s : Nat) : Int := (wl at' (lo / 2 ^ s) (Dd lo hi s + 1 - 1) s mr kd).sum
def BW (z : Int) : Prop := 0 ≤ z ∧ z ≤ 10000000000000
theorem six_at {K : PySem.W.Frag} {pA pF pC pS pR pK : Addr} {a b c d e f : Int} {i : Nat} {x1 y1 : V} (hi : i < 6) (hx : [V.ref pA, .ref pF, .ref pC, .ref pS, .ref pR, .ref pK][i]? = some x1) (hy : [V.int a, .int b, .int c, .int d, .int e, .int f][i]? = some y1)
    (sA : ∀ H, SqT K H pA [.int 0, .int 12]) (sF : ∀ H, SqT K H pF [.int 12, .int 12]) (sC : ∀ H, SqT K H pC [.int 24, .int 4]) (sS : ∀ H, SqT K H pS [.int 28, .int 4]) (sR : ∀ H, SqT K H pR [.int 32, .int 9]) (sK : ∀ H, SqT K H pK [.int 41, .int 4])
    (ba : BW a) (bb : BW b) (bc : BW c) (bd : BW d) (be : BW e) (bf : BW f) :
    ∃ (p : Addr) (lo mn : Nat) (z : Int), x1 = .ref p ∧ (∀ H, SqT K H p [.int lo, .int mn]) ∧ lo ≤ 100 ∧ y1 = .int z ∧ BW z ∧ (wl a b c d e f).take (i + 1) = (wl a b c d e f).take i ++ [z * 2 ^ lo] := by
  have six : i = 0 ∨ i = 1 ∨ i = 2 ∨ i = 3 ∨ i = 4 ∨ i = 5 := by omega
  rcases six with h | h | h | h | h | h <;> subst h
  · exact ⟨pA, 0, 12, a, (Option.some.inj hx).symm, sA, by decide, (Option.some.inj hy).symm, ba, rfl⟩
  · exact ⟨pF, 12, 12, b, (Option.some.inj hx).symm, sF, by decide, (Option.some.inj hy).symm, bb, rfl⟩
  · exact ⟨pC, 24, 4, c, (Option.some.inj hx).symm, sC, by decide, (Option.some.inj hy).symm, bc, rfl⟩
  · exact ⟨pS, 28, 4, d, (Option.some.inj hx).symm, sS, by decide, (Option.some.inj hy).symm, bd, rfl⟩
  · exact ⟨pR, 32, 9, e, (Option.some.inj hx).symm, sR, by decide, (Option.some.inj hy).symm, be, rfl⟩
  · exact ⟨pK, 41, 4, f, (Option.some.inj hx).symm, sK, by decide, (Option.some.inj hy).symm, bf, rfl⟩
theorem mask_b (p : Nat → Bool) : ∀ i, i ≤ 9 → 0 ≤ (mask p i).sum ∧ (mask p i).sum < 2 ^ i
  | 0, _ => by unfold mask; simp
  | i + 1, h => by
    have ih := mask_b p i (by omega)
    rw [mask_succ, List.sum_append]
    have e : (2 : Int) ^ (i + 1) = 2 * 2 ^ i := by rw [Int.pow_succ]; omega
    rw [e]
    by_cases c : p i = true
    · simp only [if_pos c, List.sum_cons, List.sum_nil]; omega
    · simp only [if_neg c, List.sum_nil]; omega
theorem maskOf_b (r : Str) : 0 ≤ maskOf r ∧ maskOf r < 512 := by
  have := mask_b (hasR r) 9 (Nat.le_refl _)
  unfold maskOf; omega
instance (b : Int) : Decidable (Tells b) := by unfold Tells; infer_instance

/-! ### bits and fields there and back -/
theorem wb_eq (lo hi at' mr kd : Int) (s : Nat) : wbits lo hi at' mr kd s = at' + lo / 2 ^ s * 4096 + Dd lo hi s * 16777216 + (s : Int) * 268435456 + mr * 4294967296 + kd * 2199023255552 := by
  unfold wbits wl
  simp only [List.sum_cons, List.sum_nil]
  omega
theorem bits6 {a F D s m k : Int} (a0 : 0 ≤ a) (a1 : a ≤ 4095) (F0 : 0 ≤ F) (F1 : F ≤ 4095) (D0 : 0 ≤ D) (D1 : D ≤ 15) (s0 : 0 ≤ s) (s1 : s ≤ 8) (m0 : 0 ≤ m) (m1 : m < 512) (k0 : 0 ≤ k) (k1 : k ≤ 15) :
    fStep (a + F * 4096 + D * 16777216 + s * 268435456 + m * 4294967296 + k * 2199023255552) = s ∧ fFirst (a + F * 4096 + D * 16777216 + s * 268435456 + m * 4294967296 + k * 2199023255552) = F ∧ fCnt (a + F * 4096 + D * 16777216 + s * 268435456 + m * 4294967296 + k * 2199023255552) = D + 1 ∧
    fAt (a + F * 4096 + D * 16777216 + s * 268435456 + m * 4294967296 + k * 2199023255552) = a ∧ fRts (a + F * 4096 + D * 16777216 + s * 268435456 + m * 4294967296 + k * 2199023255552) = m ∧ fKind (a + F * 4096 + D * 16777216 + s * 268435456 + m * 4294967296 + k * 2199023255552) = k := by
  unfold fStep fFirst fCnt fAt fRts fKind
  rw [show (2 : Int) ^ 0 = 1 by decide, show (2 : Int) ^ 4 = 16 by decide, show (2 : Int) ^ 9 = 512 by decide, show (2 : Int) ^ 12 = 4096 by decide, show (2 : Int) ^ 24 = 16777216 by decide, show (2 : Int) ^ 28 = 268435456 by decide, show (2 : Int) ^ 32 = 4294967296 by decide, show (2 : Int) ^ 41 = 2199023255552 by decide]
  generalize hb : a + F * 4096 + D * 16777216 + s * 268435456 + m * 4294967296 + k * 2199023255552 = b
  have q1 : b / 4096 = F + 4096 * (D + 16 * (s + 16 * (m + 512 * k))) := by omega
  have q2 : b / 16777216 = D + 16 * (s + 16 * (m + 512 * k)) := by omega
  have q3 : b / 268435456 = s + 16 * (m + 512 * k) := by omega
  have q4 : b / 4294967296 = m + 512 * k := by omega
  have q5 : b / 2199023255552 = k := by omega
  rw [q1, q2, q3, q4, q5]
  refine ⟨?_, ?_, ?_, ?_, ?_, ?_⟩ <;> omega
theorem wb_dec {lo hi at' mr kd : Int} {s : Nat} (b : Bd lo hi) (e : Ex lo hi s) (a0 : 0 ≤ at') (a1 : at' ≤ 4095) (m0 : 0 ≤ mr) (m1 : mr < 512) (k0 : 0 ≤ kd) (k1 : kd ≤ 15) :
    0 ≤ wbits lo hi at' mr kd s ∧ Tells (wbits lo hi at' mr kd s) ∧ fFirst (wbits lo hi at' mr kd s) * 2 ^ (fStep (wbits lo hi at' mr kd s)).toNat = lo ∧ (fFirst (wbits lo hi at' mr kd s) + fCnt (wbits lo hi at' mr kd s)) * 2 ^ (fStep (wbits lo hi at' mr kd s)).toNat = hi ∧
    fAt (wbits lo hi at' mr kd s) = at' ∧ fRts (wbits lo hi at' mr kd s) = mr ∧ fKind (wbits lo hi at' mr kd s) = kd := by
  obtain ⟨⟨s8, e1, e2⟩, e3, e4⟩ := e
  obtain ⟨b1, b2, b3⟩ := b
  have dl := div_le' (s := s) b1
  have d0 : 0 ≤ Dd lo hi s := by
    unfold Dd
    have := Int.ediv_le_ediv (pow_pos2 s) (show lo ≤ hi - 1 by omega)
    omega
  have fo := first_over lo hi s
  have h9 : s = 0 ∨ 9 ≤ Dd lo hi s + 1 := by
    rcases Nat.eq_zero_or_pos s with c | c
    · exact .inl c
    · right
      have := e2 (s - 1) (by omega)
      clear e2 fo
      unfold Dd at *
      rcases le8 s8 with e | e | e | e | e | e | e | e | e <;> subst e <;> first | omega | (simp at *; omega)
  have ed : Dd lo hi s + 1 = (hi - 1) / 2 ^ s + 1 - lo / 2 ^ s := by omega
  rw [wb_eq]
  have eF : lo / 2 ^ s ≤ 4095 := by omega
  generalize hF : lo / 2 ^ s = F at *
  generalize hD : Dd lo hi s = D at *
  have s0 : (0 : Int) ≤ (s : Int) ∧ (s : Int) ≤ 8 := by omega
  have F0 : 0 ≤ F := dl.1
  obtain ⟨x1, x2, x3, x4, x5, x6⟩ := bits6 (a := at') (F := F) (D := D) (s := (s : Int)) (m := mr) (k := kd) a0 a1 F0 eF d0 e1 s0.1 s0.2 m0 m1 k0 k1
  have e5 : (F + (D + 1)) * 2 ^ s = hi := by rw [fo]; exact e4
  refine ⟨by omega, ⟨?_, ?_, ?_⟩, ?_, ?_, x4, x5, x6⟩
  · rw [x1]; omega
  · rw [x1, x3]; omega
  · rw [x1, x2, x3]
    show (F + (D + 1)) * 2 ^ s ≤ 4096
    rw [e5]; exact b3
  · rw [x1, x2]; exact e3
  · rw [x1, x2, x3]; exact e5
theorem R_ok : Str.ofString "r" = rtx (hasR (Str.ofString "r")) := by decide +kernel
theorem R_one : OneW (Str.ofString "r") := by unfold OneW; decide +kernel
theorem R_rtx : rtx (bitp (maskOf (Str.ofString "r"))) = Str.ofString "r" := by decide +kernel
theorem dp5 {K : PySem.W.Frag} {H : Hp} {p : Addr} {a b c d : Int} {r : Str} (h : H p = some (.tup [.int a, .int b, .int c, .str r, .int d])) : Dp K H (.ref p) (.tuple [.int a, .int b, .int c, .str r, .int d]) :=
  .tup (.of h) (.cons (.int a) (.cons (.int b) (.cons (.int c) (.cons (.str r) (.cons (.int d) .nil)))))
theorem d5_sh (a b c d : Int) (r : Str) (h : PyData.canLay0 (.str r) = true) : SeqAt.shaped (.tuple [.int a, .int b, .int c, .str r, .int d]) = true := by
  have e : PyData.canLay0 (.tuple [.int a, .int b, .int c, .str r, .int d]) = true := by
    simp only [PyData.canLay0, PyData.canLayAll0, Bool.true_and, Bool.and_true] at *
    exact h
  unfold SeqAt.shaped
  rw [e]
  simp [PyData.depth, PyData.depthAll]
theorem d5_refl (a b c d : Int) (r : Str) : PyData.eqv (.tuple [.int a, .int b, .int c, .str r, .int d]) (.tuple [.int a, .int b, .int c, .str r, .int d]) = true := by
  simp [PyData.eqv, PyData.eqvAll]

theorem mt_lcountB {X : Cx} : MtR X "list.count" (fun x xs H Q => ∃ (p : Addr) (bs : List Bool), x = .ref p ∧ xs = [.bl true] ∧ SqL X.K H p (bs.map V.bl) ∧ Q (.int ((bs.filter id).length : Nat)) H) := by
  intro pins s σ H x xs v us Q I rx rxs h
  obtain ⟨p, bs, rfl, rfl, hs, q⟩ := h
  cases rx
  obtain ⟨u, rfl, ru⟩ := rxs.one
  obtain rfl : u = Value.bool true := ru
  obtain ⟨its, rv, ⟨⟨cls, dd, data, sl⟩, n, ho, hc, hdn, hd⟩, hlen⟩ := I.list hs
  simp only at hc hd
  subst hc hd
  have hb := Vals.bls rv
  subst hb
  refine call_meets PySem.F.slot_list_count ⟨_, ho, rfl⟩ PySem.F.entry_list_count (PySem.F.args_list_count_2 _ _)
    (SeqAt.list_countAt p (bs.map Value.bool).toArray n dd sl (.bool true) (eqU (.bl true))) ⟨ho, fun y hy => mem_eqAt (x := .bl true) rfl rfl rv (by simp [flatV]) y (by simpa using hy), ?_⟩
  have ec : (bs.map Value.bool).toArray.toList.countP (eqU (.bl true)) = (bs.filter id).length := by
    show (bs.map Value.bool).countP (eqU (.bl true)) = _
    rw [List.countP_map, List.countP_eq_length_filter]
    congr 1
    refine List.filter_congr fun b _ => ?_
    cases b <;> rfl
  refine ⟨.int ((bs.filter id).length : Nat), H, I.tok _, ⟨s.toks, ?_⟩, q⟩
  show Value.int (((bs.map Value.bool).toArray.toList.countP (eqU (.bl true)) : Nat) : Int) s.toks = _
  rw [ec]
/-- bits that a marked word may have -/
def Law (b : Int) : Prop := Tells b ∧ OneW (rtx (bitp (fRts b)))
def W45 (b : Int) : Prop := 0 ≤ b ∧ b < 35184372088832

theorem bit_lift (b : Int) {i : Nat} (h : i < 9) : b / 2 ^ (32 + i) % 2 = fRts b / 2 ^ i % 2 := by
  unfold fRts
  rw [show (2 : Int) ^ 32 = 4294967296 by decide, show (2 : Int) ^ 9 = 512 by decide]
  rcases le8 (show i ≤ 8 by omega) with e | e | e | e | e | e | e | e | e <;> subst e
  · rw [show (2 : Int) ^ (32 + 0) = 4294967296 by decide, show (2 : Int) ^ 0 = 1 by decide]; omega
  · rw [show (2 : Int) ^ (32 + 1) = 8589934592 by decide, show (2 : Int) ^ 1 = 2 by decide]; omega
  · rw [show (2 : Int) ^ (32 + 2) = 17179869184 by decide, show (2 : Int) ^ 2 = 4 by decide]; omega
  · rw [show (2 : Int) ^ (32 + 3) = 34359738368 by decide, show (2 : Int) ^ 3 = 8 by decide]; omega
  · rw [show (2 : Int) ^ (32 + 4) = 68719476736 by decide, show (2 : Int) ^ 4 = 16 by decide]; omega
  · rw [show (2 : Int) ^ (32 + 5) = 137438953472 by decide, show (2 : Int) ^ 5 = 32 by decide]; omega
  · rw [show (2 : Int) ^ (32 + 6) = 274877906944 by decide, show (2 : Int) ^ 6 = 64 by decide]; omega
  · rw [show (2 : Int) ^ (32 + 7) = 549755813888 by decide, show (2 : Int) ^ 7 = 128 by decide]; omega
  · rw [show (2 : Int) ^ (32 + 8) = 1099511627776 by decide, show (2 : Int) ^ 8 = 256 by decide]; omega

theorem rtx_len (p : Nat → Bool) : (rtx p).cps.size ≤ 9 := by
  have e : (rtx p).cps.size = (rtx p).cps.toList.length := by simp
  rw [e, rtx_codes, List.length_map]
  exact Nat.le_trans (List.length_filter_le _ _) (by decide)
theorem code_ok : ∀ k, k < 9 → PyData.canLay0 (.str (one (code k))) = true := by decide +kernel
theorem rtx_ok (p : Nat → Bool) {c : Nat} (h : c ∈ (rtx p).cps.toList) : PyData.canLay0 (.str (one c)) = true := by
  rw [rtx_codes] at h
  obtain ⟨k, hk, rfl⟩ := List.mem_map.mp h
  exact code_ok k (List.mem_range.mp (List.mem_filter.mp hk).1)
theorem strs_lay : ∀ {l : List Nat}, (∀ c ∈ l, PyData.canLay0 (.str (one c)) = true) → PyData.canLayAll0 (l.map fun c => .str (one c)) = true
  | [], _ => by simp [PyData.canLayAll0]
  | c :: l, h => by
    have ih := strs_lay (l := l) fun x hx => h x (List.mem_cons_of_mem _ hx)
    simp only [List.map_cons, PyData.canLayAll0, ih, h c (List.mem_cons_self ..), Bool.and_self]
theorem strs_depth : ∀ l : List Nat, PyData.depthAll (l.map fun c => .str (one c)) = 0
  | [] => by simp [PyData.depthAll]
  | c :: l => by simp only [List.map_cons, PyData.depthAll, PyData.depth, strs_depth l]; rfl
theorem strs_shape {l : List Nat} (h : ∀ c ∈ l, PyData.canLay0 (.str (one c)) = true) : SeqAt.shaped (.list (l.map fun c => .str (one c))) = true := by
  have e : PyData.canLay0 (.list (l.map fun c => .str (one c))) = true := by
    simp only [PyData.canLay0]; exact strs_lay h
  unfold SeqAt.shaped
  rw [e]
  simp only [PyData.depth, strs_depth]; rfl
theorem dp_strs {K : PySem.W.Frag} {H : Hp} : ∀ l : List Nat, DpAll K H (l.map fun c => V.str (one c)) (l.map fun c => .str (one c))
  | [] => .nil
  | c :: l => .cons (.str (one c)) (dp_strs l)
theorem strs_eqv (l : List Nat) : PyData.eqv (.list (l.map fun c => .str (one c))) (.list []) = l.isEmpty := by
  cases l with
  | nil => rfl
  | cons c l => simp [PyData.eqv, PyData.eqvAll]
theorem hasG_iff (r g : Str) : (!(r.cps.toList.filter fun c => decide (c ∈ g.cps.toList)).isEmpty) = hasG r g := by
  unfold hasG
  rw [Bool.eq_iff_iff, List.any_eq_true]
  constructor
  · intro h
    cases e : r.cps.toList.filter fun c => decide (c ∈ g.cps.toList) with
    | nil => rw [e] at h; cases h
    | cons c l =>
      have m : c ∈ r.cps.toList.filter fun c => decide (c ∈ g.cps.toList) := by rw [e]; exact List.mem_cons_self ..
      obtain ⟨m1, m2⟩ := List.mem_filter.mp m
      exact ⟨c, of_decide_eq_true m2, decide_eq_true m1⟩
  · rintro ⟨c, m1, m2⟩
    have m : c ∈ r.cps.toList.filter fun c => decide (c ∈ g.cps.toList) := List.mem_filter.mpr ⟨of_decide_eq_true m2, decide_eq_true m1⟩
    cases e : r.cps.toList.filter fun c => decide (c ∈ g.cps.toList) with
    | nil => rw [e] at m; cases m
    | cons c l => rfl

/-! ### words and their fields there and back -/
theorem tw_eqv {m n : Bool} {a b : Int} : PyData.eqv (.tuple [.bool m, .int a]) (.tuple [.bool n, .int b]) = true ↔ m = n ∧ a = b := by
  simp [PyData.eqv, PyData.eqvAll]
theorem tw_no {m : Bool} {a b : Int} (e : PyData.eqv (.tuple [.bool m, .int a]) (.tuple [.bool m, .int b]) = false) (h : a = b) : False := by
  rw [tw_eqv.mpr ⟨rfl, h⟩] at e; cases e
theorem dpw {K : PySem.W.Frag} {H : Hp} {p : Addr} {m : Bool} {a : Int} (h : H p = some (.tup [.bl m, .int a])) : Dp K H (.ref p) (.tuple [.bool m, .int a]) :=
  .tup (.of h) (.cons (.bl m) (.cons (.int a) .nil))
theorem d5_eqv {a b c d a' b' c' d' : Int} {r r' : Str} : PyData.eqv (.tuple [.int a, .int b, .int c, .str r, .int d]) (.tuple [.int a', .int b', .int c', .str r', .int d']) = true ↔ a = a' ∧ b = b' ∧ c = c' ∧ r = r' ∧ d = d' := by
  simp [PyData.eqv, PyData.eqvAll]
theorem d5_no {a b c d : Int} {r : Str} (e : PyData.eqv (.tuple [.int a, .int b, .int c, .str r, .int d]) (.tuple [.int a, .int b, .int c, .str r, .int d]) = false) : False := by
  rw [d5_refl] at e; cases e
theorem rtx_congr {p q : Nat → Bool} (h : ∀ k, k < 9 → p k = q k) : rtx p = rtx q := by
  unfold rtx rcs
  rw [List.filter_congr fun k hk => h k (List.mem_range.mp hk)]
theorem hasR_rtx (p : Nat → Bool) {k : Nat} (h : k < 9) : hasR (rtx p) k = p k := by
  unfold hasR
  rw [Bool.eq_iff_iff, decide_eq_true_iff]
  exact rtx_mem p h
theorem rtx_self (p : Nat → Bool) : rtx p = rtx (hasR (rtx p)) := rtx_congr fun k h => (hasR_rtx p h).symm
theorem mask_congr {p q : Nat → Bool} (h : ∀ k, k < 9 → p k = q k) : mask p 9 = mask q 9 := by
  unfold mask
  rw [List.filter_congr fun k hk => h k (List.mem_range.mp hk)]
theorem maskOf_rtx (p : Nat → Bool) : maskOf (rtx p) = (mask p 9).sum := by
  unfold maskOf
  rw [mask_congr fun k h => hasR_rtx p h]
theorem mask512 : ∀ m : Fin 512, (mask (bitp (m.val : Int)) 9).sum = (m.val : Int) := by decide +kernel
theorem mask_bitp {m : Int} (h0 : 0 ≤ m) (h1 : m < 512) : (mask (bitp m) 9).sum = m := by
  have h := mask512 ⟨m.toNat, by omega⟩
  have e : ((m.toNat : Nat) : Int) = m := by omega
  rw [e] at h
  exact h
theorem rtx_can (p : Nat → Bool) : PyData.canLay0 (.str (rtx p)) = true := by
  simp only [PyData.canLay0, PyData.strOk]
  rw [Array.all_eq_true_iff_forall_mem]
  intro c hc
  have h := rtx_ok p (c := c) (by simpa using hc)
  simp only [PyData.canLay0, PyData.strOk] at h
  simpa [one] using h
structure WF (b lo hi at' : Int) (p : Nat → Bool) (kd : Int) (s : Nat) : Prop where
  bd : Bd lo hi
  ex : Ex lo hi s
  a0 : 0 ≤ at'
  a1 : at' ≤ 4095
  k0 : 0 ≤ kd
  k1 : kd ≤ 15
  ow : OneW (rtx p)
  wb : wbits lo hi at' (maskOf (rtx p)) kd s = b
theorem WF.f5 {b lo hi at' kd : Int} {p : Nat → Bool} {s : Nat} (W : WF b lo hi at' p kd s) : F5 [.int lo, .int hi, .int at', .str (rtx p), .int kd] :=
  ⟨lo, hi, at', _, kd, rfl, W.bd, ⟨s, W.ex⟩, W.a0, W.a1, W.k0, W.k1, rtx_self p, W.ow⟩
theorem wf_of {b : Int} (w : W45 b) (L : Law b) : ∃ (lo hi at' : Int) (p : Nat → Bool) (kd : Int) (s : Nat), [V.int (fFirst b * 2 ^ (fStep b).toNat), .int ((fFirst b + fCnt b) * 2 ^ (fStep b).toNat), .int (fAt b), .str (rtx (bitp (fRts b))), .int (fKind b)] = [.int lo, .int hi, .int at', .str (rtx p), .int kd] ∧ WF b lo hi at' p kd s := by
  obtain ⟨⟨t1, t2, t3⟩, ow⟩ := L
  obtain ⟨w0, w1⟩ := w
  have f := fb b
  have r0 : 0 ≤ fRts b := Int.emod_nonneg _ (by decide)
  have r1 : fRts b < 512 := Int.emod_lt_of_pos _ (by decide)
  have a0 : 0 ≤ fAt b := Int.emod_nonneg _ (by decide)
  have a1 : fAt b < 4096 := Int.emod_lt_of_pos _ (by decide)
  have k0 : 0 ≤ fKind b := Int.emod_nonneg _ (by decide)
  have k1 : fKind b < 16 := Int.emod_lt_of_pos _ (by decide)
  have sum : b = fAt b + fFirst b * 4096 + (fCnt b - 1) * 16777216 + fStep b * 268435456 + fRts b * 4294967296 + fKind b * 2199023255552 := by
    clear t1 t2 t3 ow f r0 r1 a0 a1 k0 k1
    unfold fAt fFirst fCnt fStep fRts fKind
    rw [show (2 : Int) ^ 0 = 1 by decide, show (2 : Int) ^ 4 = 16 by decide, show (2 : Int) ^ 9 = 512 by decide, show (2 : Int) ^ 12 = 4096 by decide, show (2 : Int) ^ 24 = 16777216 by decide, show (2 : Int) ^ 28 = 268435456 by decide, show (2 : Int) ^ 32 = 4294967296 by decide, show (2 : Int) ^ 41 = 2199023255552 by decide]
    omega
  obtain ⟨s, es⟩ : ∃ s : Nat, fStep b = (s : Int) := ⟨(fStep b).toNat, by omega⟩
  rw [es] at t1 t2 t3 sum ⊢
  have e1 : ((s : Int)).toNat = s := rfl
  rw [e1] at t3 ⊢
  generalize fFirst b = F at *
  generalize fCnt b = C at *
  have s8 : s ≤ 8 := by omega
  have core : Bd (F * 2 ^ s) ((F + C) * 2 ^ s) ∧ Ex (F * 2 ^ s) ((F + C) * 2 ^ s) s ∧ F * 2 ^ s / 2 ^ s = F ∧ Dd (F * 2 ^ s) ((F + C) * 2 ^ s) s + 1 = C := by
    have c9 : s = 0 ∨ 9 ≤ C := by omega
    clear sum es t2
    unfold Ex StepIs Dd Bd
    refine ⟨?_, ⟨⟨s8, ?_, fun t ht => ?_⟩, ?_, ?_⟩, ?_, ?_⟩
    · rcases le8 s8 with e | e | e | e | e | e | e | e | e <;> subst e <;> omega
    · rcases le8 s8 with e | e | e | e | e | e | e | e | e <;> subst e <;> omega
    · have t8 : t ≤ 8 := by omega
      rcases le8 s8 with e | e | e | e | e | e | e | e | e <;> subst e <;> rcases le8 t8 with e | e | e | e | e | e | e | e | e <;> subst e <;> first | omega | (simp at *; omega)
    all_goals (rcases le8 s8 with e | e | e | e | e | e | e | e | e <;> subst e <;> omega)
  refine ⟨_, _, _, bitp (fRts b), _, s, rfl, ⟨core.1, core.2.1, a0, by omega, k0, by omega, ow, ?_⟩⟩
  rw [wb_eq, core.2.2.1, maskOf_rtx, mask_bitp r0 r1]
  have := core.2.2.2
  omega
/-- one right less -/
def lessp (p : Nat → Bool) (i : Nat) : Nat → Bool := fun k => p k && decide (k ≠ i)
theorem less_mask (p : Nat → Bool) (i : Nat) (hp : p i = true) : ∀ n, (mask p n).sum = (mask (lessp p i) n).sum + (if i < n then (2 : Int) ^ i else 0)
  | 0 => by unfold mask; simp
  | n + 1 => by
    have ih := less_mask p i hp n
    rw [mask_succ, mask_succ, List.sum_append, List.sum_append, ih]
    unfold lessp
    rcases Nat.lt_trichotomy i n with c | c | c
    · have h1 : decide (n ≠ i) = true := decide_eq_true (by omega)
      rw [h1, Bool.and_true, if_pos c, if_pos (show i < n + 1 by omega)]
      omega
    · subst c
      have h1 : decide (i ≠ i) = false := decide_eq_false (by simp)
      rw [h1, Bool.and_false, if_pos hp, if_neg (Nat.lt_irrefl i), if_neg Bool.false_ne_true, if_pos (Nat.lt_succ_self i)]
      simp
    · have h1 : decide (n ≠ i) = true := decide_eq_true (by omega)
      rw [h1, Bool.and_true, if_neg (show ¬ i < n by omega), if_neg (show ¬ i < n + 1 by omega)]
      omega
theorem less_codes (p : Nat → Bool) {i : Nat} (hi : i < 9) : (((rtx p).cps.toList.filter fun c => !decide (V.str (one c) = V.str (one (code i)))).map one) = rcs (lessp p i) 9 := by
  rw [rtx_codes]
  unfold rcs lessp
  rw [List.filter_map, List.map_map, ← List.filter_filter]
  congr 1
  rw [List.filter_filter, List.filter_filter]
  refine List.filter_congr fun k hk => ?_
  have hk9 := List.mem_range.mp hk
  have e : decide (V.str (one (code k)) = V.str (one (code i))) = decide (k = i) := by
    rw [decide_eq_decide]
    constructor
    · intro h
      have h2 := V.str.inj h
      have h3 : code k = code i := by
        have h4 := congrArg (fun x : Str => x.cps.toList) h2
        simpa [one] using h4
      exact code_inj k hk9 i hi h3
    · intro h; rw [h]
  simp only [Function.comp]
  rw [e]
  by_cases c : k = i
  · simp [c]
  · simp [c]
theorem less_one {p : Nat → Bool} {i : Nat} (h : OneW (rtx p)) : OneW (rtx (lessp p i)) := by
  unfold OneW at *
  refine Nat.le_trans ?_ h
  have key : ∀ l : List Str, (l.filter (hasG (rtx (lessp p i)))).length ≤ (l.filter (hasG (rtx p))).length := by
    intro l
    induction l with
    | nil => exact Nat.le_refl _
    | cons g l ih =>
      have mono : hasG (rtx (lessp p i)) g = true → hasG (rtx p) g = true := by
        unfold hasG
        rw [List.any_eq_true, List.any_eq_true]
        rintro ⟨c, c1, c2⟩
        refine ⟨c, c1, decide_eq_true ?_⟩
        have c3 := of_decide_eq_true c2
        rw [rtx_codes] at c3 ⊢
        obtain ⟨k, k1, k2⟩ := List.mem_map.mp c3
        obtain ⟨k3, k4⟩ := List.mem_filter.mp k1
        refine List.mem_map.mpr ⟨k, List.mem_filter.mpr ⟨k3, ?_⟩, k2⟩
        unfold lessp at k4
        exact (Bool.and_eq_true_iff.mp k4).1
      rw [List.filter_cons, List.filter_cons]
      by_cases c : hasG (rtx (lessp p i)) g = true
      · rw [if_pos c, if_pos (mono c)]
        simp only [List.length_cons]
        omega
      · rw [if_neg c]
        split
        · simp only [List.length_cons]; omega
        · exact ih
  exact key _
theorem least_in {lo hi il ih : Int} {t s : Nat} (b : Bd lo hi) (e : Ex lo hi t) (h1 : lo ≤ il) (h2 : il < ih) (h3 : ih ≤ hi) (g : StepIs il ih s) : lo ≤ il / 2 ^ s * 2 ^ s ∧ ((ih - 1) / 2 ^ s + 1) * 2 ^ s ≤ hi := by
  obtain ⟨⟨t8, e1, e2⟩, e3, e4⟩ := e
  obtain ⟨b1, b2, b3⟩ := b
  have st : s ≤ t := by
    rcases Nat.lt_or_ge t s with c | c
    · have := g.2.2 t c
      exfalso
      clear e2 g
      unfold Dd at *
      rcases le8 t8 with e | e | e | e | e | e | e | e | e <;> subst e <;> omega
    · exact c
  have s8 := g.1
  clear e2 g
  unfold Dd at *
  rcases le8 t8 with e | e | e | e | e | e | e | e | e <;> subst e <;> rcases le8 s8 with e | e | e | e | e | e | e | e | e <;> subst e <;> first | omega | (simp at *; omega)
theorem least_ex {il ih : Int} {s : Nat} (b : Bd il ih) (g : StepIs il ih s) : Bd (il / 2 ^ s * 2 ^ s) (((ih - 1) / 2 ^ s + 1) * 2 ^ s) ∧ Ex (il / 2 ^ s * 2 ^ s) (((ih - 1) / 2 ^ s + 1) * 2 ^ s) s ∧ il / 2 ^ s * 2 ^ s ≤ il ∧ ih ≤ ((ih - 1) / 2 ^ s + 1) * 2 ^ s ∧ il / 2 ^ s * 2 ^ s / 2 ^ s = il / 2 ^ s ∧ Dd (il / 2 ^ s * 2 ^ s) (((ih - 1) / 2 ^ s + 1) * 2 ^ s) s = Dd il ih s := by
  obtain ⟨b1, b2, b3⟩ := b
  have s8 := g.1
  have g1 := g.2.1
  have g2 := g.2.2
  refine ⟨?_, ⟨⟨s8, ?_, fun t ht => ?_⟩, ?_, ?_⟩, ?_, ?_, ?_, ?_⟩
  · unfold Bd
    rcases le8 s8 with e | e | e | e | e | e | e | e | e <;> subst e <;> omega
  · unfold Dd at *
    clear g2 g
    rcases le8 s8 with e | e | e | e | e | e | e | e | e <;> subst e <;> omega
  · have g3 := g2 t ht
    have t8 : t ≤ 8 := by omega
    clear g2 g
    unfold Dd at *
    rcases le8 s8 with e | e | e | e | e | e | e | e | e <;> subst e <;> rcases le8 t8 with e | e | e | e | e | e | e | e | e <;> subst e <;> first | omega | (simp at *; omega)
  all_goals (clear g2 g; unfold Dd at *; rcases le8 s8 with e | e | e | e | e | e | e | e | e <;> subst e <;> omega)
theorem bc4 {lo hi : Int} {s : Nat} (b : Bd lo hi) (h : s ≤ 8) : CPow ((hi - 1) / 2 ^ s + 1) (s : Int) := by
  obtain ⟨b1, b2, b3⟩ := b
  have := div_le' (s := s) (x := hi - 1) (by omega)
  exact ⟨by omega, by omega, na (by omega) (by omega)⟩

/-! ### what is drawn: heaps -/
theorem seqT' {K : PySem.W.Frag} {H H' : Hp} {a : Addr} {xs : List V} (e : Same H H') (h : SqT K H a xs) : SqT K H' a xs := by
  rcases h with (h | ⟨o, h⟩) | h
  · exact .inl (.inl (e _ _ h))
  · exact .inl (.inr ⟨o, e _ _ h⟩)
  · exact .inr h
theorem Pool.same {H H' : Hp} {p : Addr} {x y : Int} (h : Pool H p x y) (s : Same H H') : Pool H' p x y := ⟨s _ _ h.1, h.2⟩
theorem But.free {H H' : Hp} {a q : Addr} {x y : Int} (b : But a H H') (P : Pool H' a x y) (n : H' q = none) : H q = none := by
  cases e : H q with
  | none => rfl
  | some o =>
    by_cases c : q = a
    · subst c; rw [P.1] at n; cases n
    · rw [b q o c e] at n; cases n
local macro_rules | `(tactic| walk_at "but") => `(tactic| first | assumption | exact But.refl _ _ | (refine But.trans ?_ (by assumption); walk_at "but") | (refine But.trans ?_ (But.of (by assumption)); walk_at "but") | (refine But.new ?_ (by assumption); walk_at "but") | (refine But.upd ?_; walk_at "but"))
local macro_rules | `(tactic| walk_at "same") => `(tactic| first | assumption | exact Same.refl _ | (refine Same.trans ?_ (by assumption); walk_at "same") | (refine sameN ?_ (by assumption); walk_at "same"))
/-! ### words as they lie in memory -/
def tup5 (b : Int) : List V := [.int (fFirst b * 2 ^ (fStep b).toNat), .int ((fFirst b + fCnt b) * 2 ^ (fStep b).toNat), .int (fAt b), .str (rtx (bitp (fRts b))), .int (fKind b)]
structure Wd (H : Hp) (q : Addr) (m : Bool) (b : Int) : Prop where
  at' : H q = some (.tup [.bl m, .int b])
  w : W45 b
  law : m = true → Law b
theorem Wd.same {H H' : Hp} {q : Addr} {m : Bool} {b : Int} (h : Wd H q m b) (s : Same H H') : Wd H' q m b := ⟨s _ _ h.at', h.w, h.law⟩
theorem Wd.ne {H : Hp} {q a : Addr} {m : Bool} {b x y : Int} (h : Wd H q m b) (P : Pool H a x y) : q ≠ a := by
  intro e; subst e
  have := h.at'
  rw [P.1] at this; cases this
theorem Wd.but {H H' : Hp} {q a : Addr} {m : Bool} {b : Int} (h : Wd H q m b) (s : But a H H') (n : q ≠ a) : Wd H' q m b := ⟨s _ _ n h.at', h.w, h.law⟩
theorem sum_ite (c : Bool) (z : Int) : (if c = true then [z] else []).sum = if c = true then z else 0 := by cases c <;> simp
theorem mask_val (p : Nat → Bool) : (mask p 9).sum = (if p 0 = true then 1 else 0) + (if p 1 = true then 2 else 0) + (if p 2 = true then 4 else 0) + (if p 3 = true then 8 else 0) + (if p 4 = true then 16 else 0) + (if p 5 = true then 32 else 0) + (if p 6 = true then 64 else 0) + (if p 7 = true then 128 else 0) + (if p 8 = true then 256 else 0) := by
  have e0 : (mask p 0).sum = 0 := by unfold mask; simp
  simp only [mask_succ, List.sum_append, sum_ite, e0]
  simp
theorem bit01 (c : Bool) (z : Int) : ∃ x : Int, (0 ≤ x ∧ x ≤ 1) ∧ (if c = true then z else 0) = z * x ∧ c = decide (x = 1) := by
  cases c
  · exact ⟨0, by omega, by simp, by decide⟩
  · exact ⟨1, by omega, by simp, by decide⟩
theorem bitp_mask (p : Nat → Bool) {k : Nat} (h : k < 9) : bitp ((mask p 9).sum) k = p k := by
  unfold bitp
  rw [mask_val]
  obtain ⟨x0, b0, e0, d0⟩ := bit01 (p 0) 1
  obtain ⟨x1, b1, e1, d1⟩ := bit01 (p 1) 2
  obtain ⟨x2, b2, e2, d2⟩ := bit01 (p 2) 4
  obtain ⟨x3, b3, e3, d3⟩ := bit01 (p 3) 8
  obtain ⟨x4, b4, e4, d4⟩ := bit01 (p 4) 16
  obtain ⟨x5, b5, e5, d5⟩ := bit01 (p 5) 32
  obtain ⟨x6, b6, e6, d6⟩ := bit01 (p 6) 64
  obtain ⟨x7, b7, e7, d7⟩ := bit01 (p 7) 128
  obtain ⟨x8, b8, e8, d8⟩ := bit01 (p 8) 256
  rw [e0, e1, e2, e3, e4, e5, e6, e7, e8]
  rcases le8 (show k ≤ 8 by omega) with e | e | e | e | e | e | e | e | e <;> subst e
  · rw [d0, decide_eq_decide]; omega
  · rw [d1, decide_eq_decide]; omega
  · rw [d2, decide_eq_decide]; omega
  · rw [d3, decide_eq_decide]; omega
  · rw [d4, decide_eq_decide]; omega
  · rw [d5, decide_eq_decide]; omega
  · rw [d6, decide_eq_decide]; omega
  · rw [d7, decide_eq_decide]; omega
  · rw [d8, decide_eq_decide]; omega
theorem WF.all {b lo hi at' kd : Int} {p : Nat → Bool} {s : Nat} (W : WF b lo hi at' p kd s) : W45 b ∧ Law b ∧ tup5 b = [.int lo, .int hi, .int at', .str (rtx p), .int kd] ∧ fKind b = kd ∧ fAt b = at' ∧ fRts b = (mask p 9).sum := by
  have mb := maskOf_b (rtx p)
  have D := wb_dec W.bd W.ex W.a0 W.a1 mb.1 mb.2 W.k0 W.k1
  have e := wb_eq lo hi at' (maskOf (rtx p)) kd s
  rw [W.wb] at D e
  obtain ⟨d0, t, e1, e2, e3, e4, e5⟩ := D
  have er : rtx (bitp (fRts b)) = rtx p := by
    rw [e4, maskOf_rtx]
    exact rtx_congr fun k h => bitp_mask p h
  have x := W.ex
  obtain ⟨⟨s8, x1, x2⟩, x3, x4⟩ := x
  obtain ⟨b1, b2, b3⟩ := W.bd
  have dl := div_le' (s := s) b1
  have w := W.a1
  have k := W.k1
  refine ⟨⟨d0, ?_⟩, ⟨t, ?_⟩, ?_, e5, e3, by rw [e4, maskOf_rtx]⟩
  · clear x2 x3 x4 t e1 e2 e3 e4 e5 er
    have : lo / 2 ^ s ≤ 4095 := by omega
    omega
  · rw [er]; exact W.ow
  · unfold tup5
    rw [e1, e2, e3, er, e5]
theorem rtx_inj {p q : Nat → Bool} (h : rtx p = rtx q) {k : Nat} (hk : k < 9) : p k = q k := by
  rw [← hasR_rtx p hk, ← hasR_rtx q hk, h]
theorem ow_sub {p q : Nat → Bool} (h : ∀ k, k < 9 → q k = true → p k = true) (o : OneW (rtx p)) : OneW (rtx q) := by
  unfold OneW at *
  refine Nat.le_trans ?_ o
  have key : ∀ l : List Str, (l.filter (hasG (rtx q))).length ≤ (l.filter (hasG (rtx p))).length := by
    intro l
    induction l with
    | nil => exact Nat.le_refl _
    | cons g l ih =>
      have mono : hasG (rtx q) g = true → hasG (rtx p) g = true := by
        unfold hasG
        rw [List.any_eq_true, List.any_eq_true]
        rintro ⟨c, c1, c2⟩
        refine ⟨c, c1, decide_eq_true ?_⟩
        have c3 := of_decide_eq_true c2
        rw [rtx_codes] at c3 ⊢
        obtain ⟨k, k1, k2⟩ := List.mem_map.mp c3
        obtain ⟨k3, k4⟩ := List.mem_filter.mp k1
        exact List.mem_map.mpr ⟨k, List.mem_filter.mpr ⟨k3, h k (List.mem_range.mp k3) k4⟩, k2⟩
      rw [List.filter_cons, List.filter_cons]
      by_cases c : hasG (rtx q) g = true
      · rw [if_pos c, if_pos (mono c)]
        simp only [List.length_cons]
        omega
      · rw [if_neg c]
        split
        · simp only [List.length_cons]; omega
        · exact ih
  exact key _
/-- the rights to cells and f alone go together -/
theorem ow_low {p : Nat → Bool} (h : ∀ k, k < 9 → 6 ≤ k → p k = false) : OneW (rtx p) := by
  have e : OneW (rtx fun k => decide (k < 6)) := by unfold OneW; decide +kernel
  refine ow_sub (fun k hk hp => ?_) e
  rcases Nat.lt_or_ge k 6 with c | c
  · exact decide_eq_true c
  · rw [h k hk c] at hp; cases hp
/-- a text of rights that is good -/
def RV (v : V) : Prop := ∃ p, v = .str (rtx p) ∧ OneW (rtx p)
theorem rv {s : Str} (h : s = rtx (hasR s)) (o : OneW s) : RV (.str s) := ⟨hasR s, congrArg V.str h, h ▸ o⟩
theorem rvd {s : Str} (h : (decide (s = rtx (hasR s)) && decide (([G0, G1, G2].filter (hasG s)).length ≤ 1)) = true) : RV (.str s) := by
  rw [Bool.and_eq_true] at h
  exact rv (of_decide_eq_true h.1) (of_decide_eq_true (p := ([G0, G1, G2].filter (hasG s)).length ≤ 1) h.2)
/-- one word within another -/
def Within (b c : Int) : Prop := fFirst c * 2 ^ (fStep c).toNat ≤ fFirst b * 2 ^ (fStep b).toNat ∧ (fFirst b + fCnt b) * 2 ^ (fStep b).toNat ≤ (fFirst c + fCnt c) * 2 ^ (fStep c).toNat ∧ (∀ k, k < 9 → bitp (fRts b) k = true → bitp (fRts c) k = true) ∧ (fKind b = fKind c ∨ (fKind c = 0 ∧ fKind b ≠ 2))
theorem Within.refl (b : Int) : Within b b := ⟨Int.le_refl _, Int.le_refl _, fun _ _ h => h, .inl rfl⟩
theorem sub_iff {p q : Nat → Bool} : (∀ c ∈ (rtx p).cps.toList, c ∈ (rtx q).cps.toList) ↔ ∀ k, k < 9 → p k = true → q k = true := by
  constructor
  · intro h k hk hp
    exact (rtx_mem q hk).mp (h _ ((rtx_mem p hk).mpr hp))
  · intro h c hc
    rw [rtx_codes] at hc
    obtain ⟨k, hk, rfl⟩ := List.mem_map.mp hc
    obtain ⟨k1, k2⟩ := List.mem_filter.mp hk
    have k9 := List.mem_range.mp k1
    exact (rtx_mem q k9).mpr (h k k9 k2)
theorem WF.uniq {b lo hi at' kd lo' hi' a' kd' : Int} {p p' : Nat → Bool} {s s' : Nat} (W : WF b lo hi at' p kd s) (W' : WF b lo' hi' a' p' kd' s') : lo = lo' ∧ hi = hi' ∧ at' = a' ∧ rtx p = rtx p' ∧ kd = kd' ∧ s = s' := by
  have e := W.all.2.2.1.symm.trans W'.all.2.2.1
  injection e with g1 e
  injection e with g2 e
  injection e with g3 e
  injection e with g4 e
  injection e with g5 _
  have h1 := V.int.inj g1
  have h2 := V.int.inj g2
  refine ⟨h1, h2, V.int.inj g3, V.str.inj g4, V.int.inj g5, ?_⟩
  have x := W.ex.1
  rw [h1, h2] at x
  exact x.uniq W'.ex.1
theorem WF.within {b c lo hi at' kd lo' hi' a' kd' : Int} {p p' : Nat → Bool} {s s' : Nat} (W : WF b lo hi at' p kd s) (W' : WF c lo' hi' a' p' kd' s') : Within b c ↔ lo' ≤ lo ∧ hi ≤ hi' ∧ (∀ k, k < 9 → p k = true → p' k = true) ∧ (kd = kd' ∨ (kd' = 0 ∧ kd ≠ 2)) := by
  have e := W.all.2.2.1
  have e' := W'.all.2.2.1
  unfold tup5 at e e'
  injection e with g1 e
  injection e with g2 e
  injection e with g3 e
  injection e with g4 e
  injection e with g5 _
  injection e' with h1 e'
  injection e' with h2 e'
  injection e' with h3 e'
  injection e' with h4 e'
  injection e' with h5 _
  unfold Within
  rw [V.int.inj g1, V.int.inj g2, V.int.inj g5, V.int.inj h1, V.int.inj h2, V.int.inj h5]
  have r1 : ∀ k, k < 9 → bitp (fRts b) k = p k := fun k hk => rtx_inj (V.str.inj g4) hk
  have r2 : ∀ k, k < 9 → bitp (fRts c) k = p' k := fun k hk => rtx_inj (V.str.inj h4) hk
  constructor
  · rintro ⟨a1, a2, a3, a4⟩
    exact ⟨a1, a2, fun k hk hp => by rw [← r2 k hk]; exact a3 k hk (by rw [r1 k hk]; exact hp), a4⟩
  · rintro ⟨a1, a2, a3, a4⟩
    exact ⟨a1, a2, fun k hk hp => by rw [r2 k hk]; exact a3 k hk (by rw [← r1 k hk]; exact hp), a4⟩
def andp (p q : Nat → Bool) : Nat → Bool := fun k => p k && q k
theorem bitp_nat (n k : Nat) : bitp (n : Int) k = n.testBit k := by
  unfold bitp
  rw [Nat.testBit_eq_decide_div_mod_eq, decide_eq_decide]
  have e : (n : Int) / 2 ^ k % 2 = ((n / 2 ^ k % 2 : Nat) : Int) := by
    rw [Int.natCast_emod, Int.natCast_ediv, Int.natCast_pow]; rfl
  rw [e]; omega
theorem mask_and (p q : Nat → Bool) : Builtin.bitAnd ((mask p 9).sum) ((mask q 9).sum) = (mask (andp p q) 9).sum := by
  have hp := mask_b p 9 (Nat.le_refl _)
  have hq := mask_b q 9 (Nat.le_refl _)
  rw [PyProof.Rows.bitAnd_pp hp.1 hq.1]
  have ep : (((mask p 9).sum.toNat : Nat) : Int) = (mask p 9).sum := by omega
  have eq : (((mask q 9).sum.toNat : Nat) : Int) = (mask q 9).sum := by omega
  have lt : (mask p 9).sum.toNat &&& (mask q 9).sum.toNat < 512 := Nat.lt_of_le_of_lt Nat.and_le_left (by omega)
  rw [← mask_bitp (m := (((mask p 9).sum.toNat &&& (mask q 9).sum.toNat : Nat) : Int)) (by omega) (by omega)]
  rw [mask_congr fun k hk => ?_]
  rw [bitp_nat, Nat.testBit_and, ← bitp_nat, ← bitp_nat, ep, eq, bitp_mask p hk, bitp_mask q hk]
  rfl
theorem WF.lohi {b lo hi at' kd : Int} {p : Nat → Bool} {s : Nat} (W : WF b lo hi at' p kd s) : fFirst b * 2 ^ (fStep b).toNat = lo ∧ (fFirst b + fCnt b) * 2 ^ (fStep b).toNat = hi := by
  have e := W.all.2.2.1
  unfold tup5 at e
  injection e with g1 e
  injection e with g2 e
  exact ⟨V.int.inj g1, V.int.inj g2⟩
theorem mask_sub (p q : Nat → Bool) : Builtin.bitAnd ((mask p 9).sum) ((mask q 9).sum) = (mask p 9).sum ↔ ∀ k, k < 9 → p k = true → q k = true := by
  rw [mask_and]
  constructor
  · intro h k hk hp
    have e : bitp ((mask (andp p q) 9).sum) k = bitp ((mask p 9).sum) k := by rw [h]
    rw [bitp_mask _ hk, bitp_mask _ hk, hp] at e
    unfold andp at e
    exact (Bool.and_eq_true_iff.mp e).2
  · intro h
    rw [mask_congr fun k hk => ?_]
    unfold andp
    cases e : p k
    · rfl
    · rw [h k hk e]; rfl

theorem made_eq {lo hi : Int} {s : Nat} (x : Ex lo hi s) : (hi - lo) / 2 ^ s - 1 = Dd lo hi s := by
  obtain ⟨h1, h2, h3⟩ := x
  have p := pow_pos2 s
  have e : hi - lo = ((hi - 1) / 2 ^ s + 1 - lo / 2 ^ s) * 2 ^ s := by
    rw [Int.sub_mul, h2, h3]
  rw [e, Int.mul_ediv_cancel _ (Int.ne_of_gt p)]
  unfold Dd; omega
theorem made_step {p : Nat → Bool} {j : Nat} {b z : Int} {c : Bool} (hc : c = p j) (h : b = z + (mask p j).sum * 4294967296) : b + (if c = true then (1 : Int) else 0) * 2 ^ (32 + (j : Int)).toNat = z + (mask p (j + 1)).sum * 4294967296 := by
  have e : (32 + (j : Int)).toNat = 32 + j := by omega
  rw [e, Int.pow_add, show (2 : Int) ^ 32 = 4294967296 by decide, mask_succ, List.sum_append, sum_ite, hc, h, Int.add_mul]
  cases p j with
  | false => simp
  | true =>
    rw [if_pos rfl, if_pos rfl, Int.one_mul]
    omega
theorem with_fin {A P G : Prop} (h : A → P) (k : (A → P) → G) : G := k h

theorem RL_get : ∀ k, k < 6 → (Str.ofString "rwlsnf").cps[k]? = some (code k) := by decide +kernel
theorem RL_size : (Str.ofString "rwlsnf").cps.size = 6 := by decide +kernel
theorem rcs_congr {p q : Nat → Bool} {i : Nat} (h : ∀ k, k < i → p k = q k) : rcs p i = rcs q i := by
  unfold rcs
  rw [List.filter_congr fun k hk => h k (List.mem_range.mp hk)]
def setp (p : Nat → Bool) (i : Nat) (c : Bool) : Nat → Bool := fun k => if k = i then c else p k
theorem rcs_set (p : Nat → Bool) (i : Nat) (c : Bool) : rcs (setp p i c) (i + 1) = rcs p i ++ (if c = true then [one (code i)] else []) := by
  rw [rcs_succ, rcs_congr (p := setp p i c) (q := p) fun k hk => by unfold setp; rw [if_neg (by omega)]]
  unfold setp
  rw [if_pos rfl]
def lowp (p : Nat → Bool) : Nat → Bool := fun k => p k && decide (k < 6)
theorem rcs_low (p : Nat → Bool) : rcs p 6 = rcs (lowp p) 9 := by
  rw [rcs_succ (lowp p) 8, rcs_succ (lowp p) 7, rcs_succ (lowp p) 6]
  have h6 : lowp p 6 = false := by unfold lowp; simp
  have h7 : lowp p 7 = false := by unfold lowp; simp
  have h8 : lowp p 8 = false := by unfold lowp; simp
  rw [h6, h7, h8]
  simp only [Bool.false_eq_true, if_false, List.append_nil]
  refine rcs_congr fun k hk => ?_
  unfold lowp
  rw [decide_eq_true hk, Bool.and_true]
theorem ow_lowp (p : Nat → Bool) : OneW (rtx (lowp p)) := ow_low fun k _ h => by
  unfold lowp
  rw [decide_eq_false (by omega), Bool.and_false]
theorem rcs_fit6 (p : Nat → Bool) : ((rcs p 6).map (·.length)).sum + (rcs p 6).length * (Str.ofString "").length ≤ 16777216 := by
  rw [rcs_low]; exact rcs_fit _
theorem join_low (p : Nat → Bool) : Txt.join (Str.ofString "") (rcs p 6) = rtx (lowp p) := by
  rw [rcs_low]; rfl

theorem with_finW {A P : Int → Int → Hp → Prop} {G : Prop} (h : ∀ lo hi H, A lo hi H → P lo hi H) (k : (∀ lo hi H, A lo hi H → P lo hi H) → G) : G := k h
theorem small_ex {lo hi : Int} (h1 : lo < hi) (h2 : hi - lo ≤ 16) : ∃ s, Ex lo hi s := by
  refine ⟨0, ⟨by omega, ?_, fun t ht => absurd ht (Nat.not_lt_zero t)⟩, ?_, ?_⟩
  · unfold Dd; simp; omega
  · simp
  · simp
theorem W45_of {n : Nat} (h : n < 35184372088832) : W45 (n : Int) := by unfold W45; omega
theorem sub_nodup : ∀ {L l : List Nat}, l.Sublist L → L.Nodup → l = L.filter (fun k => decide (k ∈ l)) := by
  intro L l h
  induction h with
  | slnil => intro _; rfl
  | @cons l L a h ih =>
    intro n
    obtain ⟨n1, n2⟩ := List.nodup_cons.mp n
    have na : a ∉ l := fun z => n1 (h.subset z)
    rw [List.filter_cons, if_neg (by simpa using na)]
    exact ih n2
  | @cons_cons l L a h ih =>
    intro n
    obtain ⟨n1, n2⟩ := List.nodup_cons.mp n
    rw [List.filter_cons, if_pos (by simp)]
    congr 1
    refine (ih n2).trans (List.filter_congr fun k hk => ?_)
    have nk : k ≠ a := fun z => n1 (z ▸ hk)
    rw [decide_eq_decide]
    simp [nk]
theorem sub_rtx {p : Nat → Bool} {l : List Nat} (h : l.Sublist (rtx p).cps.toList) : ∃ q : Nat → Bool, (∀ k, k < 9 → q k = true → p k = true) ∧ l.map one = rcs q 9 := by
  rw [rtx_codes] at h
  obtain ⟨l', h1, rfl⟩ := List.sublist_map_iff.mp h
  have h2 : l'.Sublist (List.range 9) := h1.trans List.filter_sublist
  have e := sub_nodup h2 List.nodup_range
  refine ⟨fun k => decide (k ∈ l'), fun k _ hk => ?_, ?_⟩
  · have m := h1.subset (of_decide_eq_true hk)
    exact (List.mem_filter.mp m).2
  · unfold rcs
    rw [List.map_map, ← e]
    rfl
theorem sub_snoc {l L : List Nat} {i c : Nat} (h : l.Sublist (L.take i)) (e : L[i]? = some c) : (l ++ [c]).Sublist (L.take (i + 1)) := by
  rw [List.take_add_one, e]
  exact h.append (List.Sublist.refl _)
theorem sub_skip {l L : List Nat} {i : Nat} (h : l.Sublist (L.take i)) : l.Sublist (L.take (i + 1)) := by
  rw [List.take_add_one]
  exact h.trans (List.sublist_append_left _ _)
theorem sub_len {l : List Nat} {i : Nat} {p : Nat → Bool} (h : l.Sublist ((rtx p).cps.toList.take i)) : l.length < 1000 := by
  have h1 := h.length_le
  rw [List.length_take] at h1
  have := rtx_len p
  have e : (rtx p).cps.toList.length = (rtx p).cps.size := by simp
  omega

theorem ex1648 : ∃ s, Ex 16 48 s := ⟨1, ⟨by decide, by decide, fun t ht => by
  have : t = 0 := by omega
  subst this; decide⟩, by decide, by decide⟩
theorem take_all {α : Type} {l : List α} {n : Nat} (h : n = l.length) : l.take n = l := by rw [h, List.take_length]
theorem size_len (z : Str) : z.cps.size = z.cps.toList.length := by simp
theorem strs_fit {l : List Nat} (h : l.length < 1000) : (((l.map one)).map (·.length)).sum + (l.map one).length * (Str.ofString "").length ≤ 16777216 := by
  have e : (Str.ofString "").length = 0 := by decide +kernel
  have e2 : ((l.map one).map (·.length)).sum = l.length := by
    clear h e
    induction l with
    | nil => rfl
    | cons x r ih =>
      simp only [List.map_cons, List.sum_cons, List.length_cons] at *
      rw [ih]
      show 1 + _ = _
      omega
  rw [e, e2]
  omega
theorem filt_nil {l : List Nat} {f : Nat → Bool} : (l.filter f).isEmpty = true ↔ ∀ c ∈ l, ¬ f c = true := by
  rw [List.isEmpty_iff, List.filter_eq_nil_iff]
/-! ### the law's own call, where nothing guards: repr of data -/
/-- a def's body, walked for one caller's state A alone -/
theorem body_at {P : Program} {w : World} {K : PySem.W.Frag} {mg : Str → Option Value} {base : Heap} {k : Nat} {f : Addr} {name qual : Str} {params : Arguments} {body : List Stmt} {scope : Scope}
    {dV kV doc pm cdv ct oc : Value} {an od : Option Addr} {osl : Array (Option Value)} {N ps : List Str} {A : Around} {outer : List Env} {s : Shared} {H : Hp} {args : Args} {us : List Value} {vs : List V} {Q : VK}
    (lk : K.lookup f = some ⟨oc, od, .func (PySem.W.fnOf name qual params body scope dV kV doc pm an cdv ct), osl⟩) (hcd : PySem.W.codeIn K cdv qual = true) (S : FnScope N ps scope) (hl : vs.length = ps.length)
    (hr : Room (k + 1) A) (e0 : Env0 P w K mg base A outer s H) (hb : BindsTo s (PySem.W.fnOf name qual params body scope dV kV doc pm an cdv ct) args (ps.zip us)) (rv : Vals vs us)
    (walk : ∃ t, PSs (cxOf CX0 P w K mg base N qual scope f cdv A outer s H (fun _ _ _ => False)) body t ∧ t { nx := fun _ H' => Q .non H', rt := Q } (start N vs) H) :
    codeAny (model P w) A (.call (.ref f) args) (CR CX0 outer P w H s Q fun _ _ _ => False) s := by
  have old : ∀ b o, base.get? b = some o → s.heap.get? b = some o := fun b o z => (e0.bs b o z).1
  have inK : K.In s.heap := e0.mod.kin.keeps old
  have slots : ∀ y ∈ ps.zip us, scope.names.lookup y.1 = some .local ∨ (scope.names.lookup y.1 = some .cell ∧ ((cellsFrom (s.heap.objs.size + 1) scope.names []).lookup y.1).isSome = true) := by
    rintro ⟨n, v⟩ hy
    cases S.par n (List.of_mem_zip hy).1 with
    | inl z => exact Or.inl z
    | inr z => exact Or.inr ⟨z, PySem.W.cellsFrom_some _ _ _ (Or.inl z)⟩
  obtain ⟨t, ht, hq⟩ := walk
  refine codeAny_call_function hr.depth (inK _ _ lk) rfl S.co S.gen rfl (PySem.W.codeRec_of inK hcd) (hb _ _ _ _ ?_)
  refine wpAny_newFunctionEnv_cells S.kind slots fun env eenv s1 ic => ?_
  subst eenv
  refine ⟨(e0.mod.nolimit.keeps old).keeps ic.toInCall.keep, codeAny_func ?_⟩
  have J := inv_start (CX := CX0) (E := fun _ _ _ => False) S hr.hd e0 hl rv ic
  refine wpAny_mono (ht.run [] s1 _ H _ J hq) (fun fl s' got => ?_) fun _ _ z => z
  match fl, got with
  | .ret u, ⟨v, σ', H', J', r', q'⟩ => exact ⟨v, H', J'.os, J'.bare, J'.base, J'.hok, r', q'⟩
  | .next, ⟨σ', H', J', q'⟩ => exact ⟨.non, H', J'.os, J'.bare, J'.base, J'.hok, rfl, q'⟩
  | .brk, ⟨_, _, _, q'⟩ => exact q'.elim
  | .cont, ⟨_, _, _, q'⟩ => exact q'.elim
/-- the script as the only thing that may be tracked -/
structure Scr (P : Program) (w : World) (K : PySem.W.Frag) (h : Heap) (a : Addr) (ns : List Int) (H : Hp) : Prop where
  only : Only H
  seq : SqL K H a (ns.map V.int)
  ok : HOk P w H h
  at' : ∀ b, H b ≠ none → b = a ∧ K.lookup a = none
theorem scr {P : Program} {w : World} {K : PySem.W.Frag} {h : Heap} {a : Addr} {vs : List Value} {ns : List Int} (KX : K.In h)
    (ha : h.get? a = some { cls := .type "list", data := .seq vs.toArray }) (hi : IntsAre vs ns) (hl : ns.length ≤ sizeLine) : ∃ H, Scr P w K h a ns H := by
  have rel := vals_ints hi
  have len : (ns.map V.int).length ≤ sizeLine := by rw [List.length_map]; exact hl
  by_cases inK : K.lookup a = none
  · refine ⟨upd (fun _ => none) a (.frz { cls := .type "list", data := .seq vs.toArray } (.lst (ns.map V.int))), fun b => ?_, .inl (.inr ⟨_, upd_same⟩), fun b o e => ?_, fun b e => ?_⟩
    · rcases Decidable.em (b = a) with z | z
      · subst z; exact .inr ⟨_, _, upd_same⟩
      · exact .inl (upd_ne z)
    · rcases Decidable.em (b = a) with z | z
      · subst z
        rw [upd_same] at e
        cases e
        exact ⟨ha, len, vs, _, rel, ha⟩
      · rw [upd_ne z] at e; cases e
    · rcases Decidable.em (b = a) with z | z
      · exact ⟨z, inK⟩
      · exact absurd (upd_ne z) e
  · obtain ⟨o, ho⟩ : ∃ o, K.lookup a = some o := by
      cases e : K.lookup a with
      | none => exact absurd e inK
      | some o => exact ⟨o, rfl⟩
    have same : o = { cls := .type "list", data := .seq vs.toArray } := Option.some.inj ((KX a o ho).symm.trans ha)
    subst same
    refine ⟨fun _ => none, fun _ => .inl rfl, .inr ⟨_, vs.toArray, 0, ho, rfl, rfl, rfl, ?_, ?_⟩, fun _ _ e => ?_, fun _ e => absurd rfl e⟩
    · have := hi.length
      show vs.toArray.size ≤ sizeLine
      rw [List.size_toArray]; omega
    · show Vals _ vs.toArray.toList
      exact rel
    · exact nomatch e
/-- the law's call from its promise, walked where nothing guards -/
theorem call_scr {P : Program} {w : World} {K : PySem.W.Frag} {mg mb : Str → Option Value} {fa a : Addr} {s₁ : Shared} {vs : List Value} {ns : List Int}
    (KX : K.In s₁.heap) (hns : s₁.heap.Ns mainGlobals mg) (hb : s₁.heap.Ns builtinsNs mb) (hbb : ∀ x : Str, x ≠ "__name__" → mb x = bootBuiltins x) (hlim : s₁.heap.NoLimit) (hg : s₁.gens = #[])
    (ha : s₁.heap.get? a = some { cls := .type "list", data := .seq vs.toArray }) (hi : IntsAre vs ns) (hl : ns.length ≤ sizeLine)
    (B : ∀ base H, K.In base → base.Ns mainGlobals mg → Env0 P w K mg base callerA [] s₁ H → SqL K H a (ns.map V.int) →
      codeAny (model P w) callerA (.call (.ref fa) ⟨[.ref a], []⟩) (CR CX0 [] P w H s₁ (fun v _ => v = .bl true) fun _ _ _ => False) s₁) :
    codeAny (model P w) callerA (.call (.ref fa) ⟨[.ref a], []⟩) (fun r s' => r = .ok (.ret (.bool true)) ∧ OldK s₁.heap s'.heap ∧ s'.os = s₁.os ∧ AllBare s'.gens) s₁ := by
  obtain ⟨H, C⟩ := scr (P := P) (w := w) KX ha hi hl
  -- what holds no list stands in the part that is not tracked
  have free : ∀ b o, s₁.heap.get? b = some o → (∀ n, o.data ≠ .seq vs.toArray n) → H b = none := fun b o e nd => by
    rcases Decidable.em (H b = none) with z | z
    · exact z
    · have q := (C.at' b z).1
      subst q
      rw [ha] at e
      cases e
      exact absurd rfl (nd _)
  have ns_of : ∀ L m, s₁.heap.Ns L m → (hidT s₁.heap H).Ns L m := fun L m n => by
    obtain ⟨o, es, ep, e, d, r⟩ := n
    exact ⟨o, es, ep, hidT_get e (free _ _ e fun k z => by rw [d] at z; cases z), d, r⟩
  have kin : K.In (hidT s₁.heap H) := fun b o e => by
    refine hidT_get (KX b o e) ?_
    rcases Decidable.em (H b = none) with z | z
    · exact z
    · obtain ⟨q, u⟩ := C.at' b z
      subst q
      rw [u] at e; cases e
  obtain ⟨mc, l1, l2⟩ := hlim
  have e0 : Env0 P w K mg (hidT s₁.heap H) callerA [] s₁ H :=
    ⟨rfl, ⟨kin, ns_of _ _ hns, ⟨mb, ns_of _ _ hb, hbb⟩, mc, ns_of _ _ l1, l2⟩, fun b o e => of_hidT e, Nat.le_of_eq (hidT_size _ _), trivial, fun b z => absurd (show b ∈ ([] : List Addr) from z) (by simp), C.ok, AllBare.of_eq hg⟩
  refine codeAny_mono (B _ H kin (ns_of _ _ hns) e0 C.seq) fun r s' got => ?_
  match r, got with
  | .ok (.ret u), ⟨v, H', os, bare, un, hok', rv, q⟩ =>
    cases q
    cases rv
    refine ⟨rfl, OldK.of_keep fun b o e => ?_, os, bare⟩
    rcases C.only b with z | ⟨ob, xs, z⟩
    · exact un.keep b o e z (fun y => nomatch y) (fun y => nomatch y)
    · have o1 := (C.ok b _ z).1
      have o2 := (hok' b _ (un.frzs b ob _ z)).1
      have := Option.some.inj (o1.symm.trans e)
      subst this
      exact o2
  | .ok .next, z => exact False.elim z
  | .ok .brk, z => exact False.elim z
  | .ok .cont, z => exact False.elim z
  | .error e, z => exact False.elim z
/-- the goal that the head leaves: the law's def walked for its caller's own state, in which nothing guards -/
theorem walk_scr {l : PySem.W.OpenLaw} {n : Nat} {q : Program} {loose : List Str} {XP : (Str → Option Value) → Heap → Prop} {YP : World → Heap → Prop} {d : DefRec} {K : Params → PySem.W.Frag}
    (hn : l.most = some n) (hn2 : n ≤ sizeLine) (hdf : d.params.defaults = []) (hY : ∀ (w : World) (h : Heap), YP w h → (K w.params).In h)
    (F : ∀ (w : World) (mg : Str → Option Value) (fa : Addr) (h : Heap), (K w.params).In h → h.Ns mainGlobals mg → mg d.name = some (.ref fa) →
      ∀ (base : Heap) (H : Hp) (s : Shared) (a : Addr) (ns : List Int), (K w.params).In base → base.Ns mainGlobals mg → Env0 l.prog w (K w.params) mg base callerA [] s H → SqL (K w.params) H a (ns.map V.int) → ns.length ≤ n →
        codeAny (model l.prog w) callerA (.call (.ref fa) ⟨[.ref a], []⟩) (CR CX0 [] l.prog w H s (fun v _ => v = .bl true) fun _ _ _ => False) s) :
    PySem.W.WalkO q loose XP YP l.row.toRowW d [] (fun f vs => PySem.call f vs) := by
  refine Att.attach_call hn hdf fun w s₀ s₁ mg mb fa o pm cd doc a vs ns G Y _ _ _ hmg hobj hints hlen hg => ?_
  have KX := hY w _ Y
  exact call_scr KX G.T.g G.T.b G.T.builtins G.T.nolimit hg hobj hints (Nat.le_trans hlen hn2) fun base H kb nb e0 hS => F w mg fa _ KX G.T.g hmg base H s₁ a ns kb nb e0 hS hlen
theorem caller_guards : callerA.guards = some [] := by first | rfl | decide
/-- repr of data, where nothing guards -/
def rRepr (K : PySem.W.Frag) : List V → Hp → VK → Prop := fun xs H Q => ∃ (x : V) (d : PyData), xs = [x] ∧ Dp K H x d ∧ d.showable = true ∧ d.hasDict = false ∧ d.depth ≤ 50 ∧ d.shown.length ≤ sizeLine ∧ Q (.str d.shown) H
theorem call_reprD {X : Cx} (gd : X.A.guards = some []) (hu : X.A.units + 64 < cLine) : CallR X (.builtin "repr") (rRepr X.K) := by
  intro pins s σ H xs us Q I r h
  obtain ⟨x, d, rfl, hd, hs, hnd, hdp, hz, hq⟩ := h
  obtain ⟨u, rfl, ru⟩ := r.one
  obtain ⟨as, rd⟩ := Dp.reads I d x u hd ru
  have byRef : ∀ a, u = .ref a → wpAny (model X.prog X.w) X.A (call (.builtin "repr") [u]) (EP X pins σ Q) X.xe s := fun a e => by
    subst e
    exact repr_of_reads' rd hs (fun z => by rw [hnd] at z; cases z) gd (by omega) (fun _ _ z => z) (fun h' v tk k => ⟨.str d.shown, H, I.kept (t' := tk) k, ⟨_, rfl⟩, hq⟩) hz
  cases hd with
  | non =>
    cases ru
    exact PySem.P.repr_of_none ⟨.str "None", H, I.tok _, ⟨_, rfl⟩, hq⟩
  | bl b =>
    cases ru
    exact PySem.P.repr_of_bool ⟨.str (if b then "True" else "False"), H, I.tok _, ⟨_, rfl⟩, hq⟩
  | int i =>
    obtain ⟨t, rfl⟩ := ru
    exact PySem.P.repr_of_int (of_decide_eq_true hs) ⟨.str (toString i), H, I.tok _, ⟨_, rfl⟩, hq⟩
  | str z =>
    obtain ⟨t, rfl⟩ := ru
    exact PySem.P.repr_of_str ⟨.str (reprText z), H, I.tok _, ⟨_, rfl⟩, hq⟩ hz
  | lst _ _ => exact byRef _ ru
  | tup _ _ => exact byRef _ ru
/-! ### list(text), tuple(text): its signs -/
theorem vals_idx : ∀ (xs : List V) (us : List Value), us.length = xs.length → (∀ (j : Nat) (u : Value), us[j]? = some u → ∃ x, xs[j]? = some x ∧ RelV x u) → Vals xs us := by
  intro xs
  induction xs with
  | nil =>
    intro us hl _
    cases us with
    | nil => exact .nil
    | cons _ _ => simp at hl
  | cons x xs ih =>
    intro us hl hk
    cases us with
    | nil => simp at hl
    | cons u us =>
      obtain ⟨y, e, r⟩ := hk 0 u rfl
      have ey : x = y := by simpa using e
      subst ey
      refine .cons r (ih us (by simpa using hl) fun j v hj => ?_)
      simpa using hk (j + 1) v (by simpa using hj)
def signs (z : Str) : List V := z.cps.toList.map fun c => V.str ⟨#[c]⟩
theorem signs_vals {z : Str} {acc : Array Value} (it : ItemsOf (SignAt z) acc z.cps.size) : Vals (signs z) acc.toList := by
  refine vals_idx _ _ (by unfold signs; rw [Array.length_toList, List.length_map, Array.length_toList]; exact it.1) fun j u hj => ?_
  obtain ⟨c, t, hc, rfl⟩ := it.2 j u (by rw [← Array.getElem?_toList]; exact hj)
  refine ⟨V.str ⟨#[c]⟩, ?_, ⟨t, rfl⟩⟩
  unfold signs
  rw [List.getElem?_map, Array.getElem?_toList, hc]; rfl
theorem call_listStr {X : Cx} (hc : X.calm = true) : CallR X (.type "list") (fun xs H Q => ∃ z, xs = [.str z] ∧ z.cps.size ≤ sizeLine ∧ ∀ l, H l = none → Q (.ref l) (upd H l (.lst (signs z)))) := by
  intro pins s σ H xs us Q I r h
  obtain ⟨z, rfl, hz, q⟩ := h
  obtain ⟨u, rfl, rx⟩ := vals1 r
  obtain ⟨t, rfl⟩ := rx
  refine call_list_str (I.ok.hd hc) z t (fun h' tk acc c' kp e it => ?_) hz
  refine ⟨.ref s.heap.objs.size, _, I.laid (t' := tk) kp (Nat.le_refl _) (show ObjOk X.prog X.w _ h' _ (.lst (signs z)) from ⟨?_, acc.toList, c', signs_vals it, by rw [Array.toArray_toList]; exact e⟩), rfl, q _ (I.hok.fresh (Nat.le_refl _))⟩
  unfold signs
  rw [List.length_map, Array.length_toList]; exact hz
theorem call_tupleStr {X : Cx} (hc : X.calm = true) : CallR X (.type "tuple") (fun xs H Q => ∃ z, xs = [.str z] ∧ z.cps.size ≤ sizeLine ∧ ∀ l, H l = none → Q (.ref l) (upd H l (.tup (signs z)))) := by
  intro pins s σ H xs us Q I r h
  obtain ⟨z, rfl, hz, q⟩ := h
  obtain ⟨u, rfl, rx⟩ := vals1 r
  obtain ⟨t, rfl⟩ := rx
  refine call_tuple_str (I.ok.hd hc) z t (fun h' tk acc kp it => ?_) hz
  have I1 : Inv X pins σ H { s with heap := h', toks := tk } := I.kept (t' := tk) kp
  have I2 : Inv X pins σ (upd H h'.objs.size (.tup (signs z))) { s with heap := h'.push { cls := .type "tuple", data := .seq acc }, toks := tk } :=
    I1.laid (t' := tk) (fun b o e => Heap.get?_push_of_some _ e) (Nat.le_refl _) (show ObjOk X.prog X.w _ _ _ (.tup (signs z)) from ⟨?_, acc.toList, signs_vals it, by rw [Array.toArray_toList]; exact IsTup.new _ _⟩)
  · exact ⟨.ref h'.objs.size, _, I2, rfl, q _ (I1.hok.fresh (Nat.le_refl _))⟩
  · unfold signs
    rw [List.length_map, Array.length_toList]; exact hz
/-! ### things of many kinds, as data -/
theorem seqL_same {K : PySem.W.Frag} {H H' : Hp} {a : Addr} {xs : List V} (s : Same H H') (h : SqL K H a xs) : SqL K H' a xs := s.seq h
theorem seqT_same {K : PySem.W.Frag} {H H' : Hp} {a : Addr} {xs : List V} (e : Same H H') (h : SqT K H a xs) : SqT K H' a xs := by
  rcases h with (h | ⟨o, h⟩) | h
  · exact .inl (.inl (e _ _ h))
  · exact .inl (.inr ⟨o, e _ _ h⟩)
  · exact .inr h
mutual
theorem Dp.same {K : PySem.W.Frag} {H H' : Hp} (s : Same H H') : ∀ {v : V} {d : PyData}, Dp K H v d → Dp K H' v d
  | _, _, .non => .non
  | _, _, .bl b => .bl b
  | _, _, .int i => .int i
  | _, _, .str x => .str x
  | _, _, .lst h k => .lst (seqL_same s h) (DpAll.same s k)
  | _, _, .tup h k => .tup (seqT_same s h) (DpAll.same s k)
theorem DpAll.same {K : PySem.W.Frag} {H H' : Hp} (s : Same H H') : ∀ {vs : List V} {ds : List PyData}, DpAll K H vs ds → DpAll K H' vs ds
  | _, _, .nil => .nil
  | _, _, .cons h k => .cons (Dp.same s h) (DpAll.same s k)
end
theorem NoT.same {H H' : Hp} {v : V} (k : NoT H v) (s : Same H H') : NoT H' v := by
  cases k with
  | non => exact .non
  | bl b => exact .bl b
  | int i => exact .int i
  | str x => exact .str x
  | lst e => exact .lst (s _ _ e)
  | dk e => exact .dk (s _ _ e)
/-- the heap but for what stands at a -/
def hide (a : Addr) (H : Hp) : Hp := fun b => if b = a then none else H b
theorem hide_same (a : Addr) (H : Hp) : Same (hide a H) H := fun b o h => by
  unfold hide at h
  by_cases c : b = a
  · rw [if_pos c] at h; cases h
  · rw [if_neg c] at h; exact h
theorem hide_but {a : Addr} {H H' : Hp} (b : But a H H') : Same (hide a H) (hide a H') := fun c o h => by
  unfold hide at h ⊢
  by_cases e : c = a
  · rw [if_pos e] at h; cases h
  · rw [if_neg e] at h ⊢; exact b c o e h
theorem hide_at {a p : Addr} {H : Hp} {o : HO} (h : H p = some o) (n : p ≠ a) : hide a H p = some o := by
  unfold hide; rw [if_neg n]; exact h
def Sok (s : Str) : Prop := PyData.strOk s = true ∧ s.cps.size ≤ 100
def LeafD (d : PyData) : Prop := d.showable = true ∧ d.hasDict = false ∧ d.leavesShort 600 = true ∧ d.weight ≤ 200 ∧ d.depth ≤ 1
def FitD (d : PyData) : Prop := d.showable = true ∧ d.hasDict = false ∧ d.depth ≤ 50 ∧ d.shown.length ≤ sizeLine
/-- a leaf, or little more -/
def Leafy (K : PySem.W.Frag) (H : Hp) (v : V) : Prop := (∃ d, Dp K H v d ∧ LeafD d) ∧ Kd H v ∧ ∀ s, v = .str s → Sok s
theorem Leafy.same {K : PySem.W.Frag} {H H' : Hp} {v : V} (l : Leafy K H v) (s : Same H H') : Leafy K H' v := by
  obtain ⟨⟨d, h, k⟩, kd, so⟩ := l
  exact ⟨⟨d, Dp.same s h, k⟩, kd.same s, so⟩
theorem leafs_all {K : PySem.W.Frag} {H : Hp} : ∀ {xs : List V}, (∀ x ∈ xs, Leafy K H x) → ∃ ds, DpAll K H xs ds ∧ ds.length = xs.length ∧ ∀ d ∈ ds, LeafD d := by
  intro xs
  induction xs with
  | nil => exact fun _ => ⟨[], .nil, rfl, fun d hd => nomatch hd⟩
  | cons x xs ih =>
    intro h
    obtain ⟨⟨d, h1, h2⟩, _⟩ := h x (by simp)
    obtain ⟨ds, k1, k2, k3⟩ := ih fun y hy => h y (by simp [hy])
    refine ⟨d :: ds, .cons h1 k1, by simp [k2], fun e he => ?_⟩
    rcases List.mem_cons.mp he with z | z
    · rw [z]; exact h2
    · exact k3 e z
theorem leafs_fit {ds : List PyData} (h : ∀ d ∈ ds, LeafD d) (n : ds.length ≤ 8) : PyData.showableAll ds = true ∧ PyData.hasDictAll ds = false ∧ PyData.leavesShortAll 600 ds = true ∧ PyData.weightAll ds ≤ 1608 ∧ PyData.depthAll ds ≤ 1 := by
  have key : ∀ ds : List PyData, (∀ d ∈ ds, LeafD d) → PyData.showableAll ds = true ∧ PyData.hasDictAll ds = false ∧ PyData.leavesShortAll 600 ds = true ∧ PyData.weightAll ds ≤ 201 * ds.length ∧ PyData.depthAll ds ≤ 1 := by
    intro ds
    induction ds with
    | nil => intro _; simp [PyData.showableAll, PyData.hasDictAll, PyData.leavesShortAll, PyData.weightAll, PyData.depthAll]
    | cons d ds ih =>
      intro h
      obtain ⟨a1, a2, a3, a4, a5⟩ := h d (by simp)
      obtain ⟨b1, b2, b3, b4, b5⟩ := ih fun e he => h e (by simp [he])
      simp only [PyData.showableAll, PyData.hasDictAll, PyData.leavesShortAll, PyData.weightAll, PyData.depthAll, a1, a2, a3, b1, b2, b3, List.length_cons]
      refine ⟨rfl, rfl, rfl, by omega, by omega⟩
  obtain ⟨a1, a2, a3, a4, a5⟩ := key ds h
  exact ⟨a1, a2, a3, by omega, a5⟩
theorem fit_shown {d : PyData} (h : d.leavesShort 600 = true) (w : d.weight ≤ 2000) : d.shown.length ≤ sizeLine := by
  have := PyData.shown_le 600 (by decide) d h
  rw [sizeLine_eq]; omega
theorem fit_tup {ds : List PyData} (h : ∀ d ∈ ds, LeafD d) (n : ds.length ≤ 8) : FitD (.tuple ds) := by
  obtain ⟨a1, a2, a3, a4, a5⟩ := leafs_fit h n
  refine ⟨by simp only [PyData.showable, a1], by simp only [PyData.hasDict, a2], by simp only [PyData.depth]; omega, fit_shown (by simp only [PyData.leavesShort, a3]) (by simp only [PyData.weight]; omega)⟩
theorem fit_lst {ds : List PyData} (h : ∀ d ∈ ds, LeafD d) (n : ds.length ≤ 8) : FitD (.list ds) := by
  obtain ⟨a1, a2, a3, a4, a5⟩ := leafs_fit h n
  refine ⟨by simp only [PyData.showable, a1], by simp only [PyData.hasDict, a2], by simp only [PyData.depth]; omega, fit_shown (by simp only [PyData.leavesShort, a3]) (by simp only [PyData.weight]; omega)⟩
theorem leaf_str {s : Str} (h : Sok s) : LeafD (.str s) := by
  obtain ⟨h1, h2⟩ := h
  refine ⟨by simp [PyData.showable], by simp [PyData.hasDict], ?_, by simp only [PyData.weight]; omega, by simp [PyData.depth]⟩
  simp only [PyData.leavesShort]
  rw [List.all_eq_true]
  intro c hc
  unfold PyData.strOk at h1
  rw [Array.all_eq_true_iff_forall_mem] at h1
  have := of_decide_eq_true (h1 c (by simpa using hc))
  exact decide_eq_true (Nat.lt_trans this (by decide))
theorem leafy_str {K : PySem.W.Frag} {H : Hp} {s : Str} (h : Sok s) : Leafy K H (.str s) := ⟨⟨_, .str s, leaf_str h⟩, .str s, fun _ e => by cases e; exact h⟩
theorem leafy_none {K : PySem.W.Frag} {H : Hp} : Leafy K H .non := ⟨⟨_, .non, by unfold LeafD; decide⟩, .non, fun _ e => nomatch e⟩
theorem leafy_bl {K : PySem.W.Frag} {H : Hp} (b : Bool) : Leafy K H (.bl b) := ⟨⟨_, .bl b, by cases b <;> (unfold LeafD; decide)⟩, .bl b, fun _ e => nomatch e⟩
theorem leaf_int {i : Int} (h : i.natAbs < 10 ^ 40) : LeafD (.int i) := by
  have e := int_text_length_le10 (k := 40) (by decide) h
  have h2 : (10 : Nat) ^ 40 ≤ 16 ^ 40 := Nat.pow_le_pow_left (by decide) 40
  have h3 : (16 : Nat) ^ 40 = 2 ^ 160 := by rw [show (16 : Nat) = 2 ^ 4 by decide, ← Nat.pow_mul]
  have l : i.natAbs.log2 < 160 := PySem.Flt.log2_lt_of (by decide) (Nat.lt_of_lt_of_le h (h3 ▸ h2))
  clear h h2 h3
  refine ⟨?_, by simp [PyData.hasDict], ?_, ?_, by simp [PyData.depth]⟩
  · simp only [PyData.showable]; exact decide_eq_true (by omega)
  · simp only [PyData.leavesShort, PyData.shown]
    refine decide_eq_true ?_
    rw [PySem.ofString_length]; omega
  · simp only [PyData.weight]; split <;> omega
theorem leafy_int {K : PySem.W.Frag} {H : Hp} {i : Int} (h : i.natAbs < 10 ^ 40) : Leafy K H (.int i) := ⟨⟨_, .int i, leaf_int h⟩, .int i, fun _ e => nomatch e⟩
theorem small40 {i : Int} (h0 : -100000 ≤ i) (h1 : i ≤ 100000) : i.natAbs < 10 ^ 40 := by
  have : (100001 : Nat) ≤ 10 ^ 40 := by decide
  omega
theorem leafy_one {K : PySem.W.Frag} {H : Hp} {p : Addr} {i : Int} (h : H p = some (.tup [.int i])) (b : i.natAbs < 10 ^ 40) : Leafy K H (.ref p) := by
  refine ⟨⟨.tuple [.int i], .tup (.of h) (.cons (.int i) .nil), ?_⟩, .tup h, fun _ e => nomatch e⟩
  obtain ⟨a1, a2, a3, a4, a5⟩ := leaf_int b
  refine ⟨?_, ?_, ?_, ?_, ?_⟩
  · simp only [PyData.showable, PyData.showableAll, Bool.and_true] at *; exact a1
  · simp [PyData.hasDict, PyData.hasDictAll]
  · simp only [PyData.leavesShort, PyData.leavesShortAll, Bool.and_true] at *; exact a3
  · have l : i.natAbs.log2 < 160 := by
      have h2 : (10 : Nat) ^ 40 ≤ 16 ^ 40 := Nat.pow_le_pow_left (by decide) 40
      have h3 : (16 : Nat) ^ 40 = 2 ^ 160 := by rw [show (16 : Nat) = 2 ^ 4 by decide, ← Nat.pow_mul]
      exact PySem.Flt.log2_lt_of (by decide) (Nat.lt_of_lt_of_le b (h3 ▸ h2))
    simp only [PyData.weight, PyData.weightAll]; split <;> omega
  · simp [PyData.depth, PyData.depthAll]
/-- a thing: a tuple of leaves, a list of such, or a leaf that is no tuple -/
def Thing (K : PySem.W.Frag) (H : Hp) (v : V) : Prop := (∃ d, Dp K H v d ∧ FitD d) ∧ ((∃ (p : Addr) (xs : List V), v = .ref p ∧ H p = some (.tup xs) ∧ (∀ x ∈ xs, Kd H x) ∧ ∀ s, V.str s ∈ xs → Sok s) ∨ NoT H v)
theorem Thing.same {K : PySem.W.Frag} {H H' : Hp} {v : V} (t : Thing K H v) (s : Same H H') : Thing K H' v := by
  obtain ⟨⟨d, h, k⟩, t⟩ := t
  refine ⟨⟨d, Dp.same s h, k⟩, ?_⟩
  rcases t with ⟨p, xs, rfl, h1, h2, h3⟩ | t
  · exact .inl ⟨p, xs, rfl, s _ _ h1, fun x hx => (h2 x hx).same s, h3⟩
  · exact .inr (t.same s)
theorem Thing.tup {K : PySem.W.Frag} {H : Hp} {p : Addr} {xs : List V} (h : H p = some (.tup xs)) (l : ∀ x ∈ xs, Leafy K H x) (n : xs.length ≤ 8) : Thing K H (.ref p) := by
  obtain ⟨ds, k1, k2, k3⟩ := leafs_all l
  exact ⟨⟨.tuple ds, .tup (.of h) k1, fit_tup k3 (by omega)⟩, .inl ⟨p, xs, rfl, h, fun x hx => (l x hx).2.1, fun s hs => (l _ hs).2.2 s rfl⟩⟩
theorem Thing.lst {K : PySem.W.Frag} {H : Hp} {p : Addr} {xs : List V} (h : H p = some (.lst xs)) (l : ∀ x ∈ xs, Leafy K H x) (n : xs.length ≤ 8) : Thing K H (.ref p) := by
  obtain ⟨ds, k1, k2, k3⟩ := leafs_all l
  exact ⟨⟨.list ds, .lst (.of h) k1, fit_lst k3 (by omega)⟩, .inr (.lst h)⟩
theorem Thing.non {K : PySem.W.Frag} {H : Hp} : Thing K H .non := ⟨⟨_, .non, by unfold FitD; decide +kernel⟩, .inr .non⟩
theorem with_finVH {A P : Addr → Hp → Prop} {G : Prop} (h : ∀ p H, A p H → P p H) (k : (∀ p H, A p H → P p H) → G) : G := k h
/-! ### text[::-1] -/
def tRevS (te : TE) : TE := fun σ H Q => te σ H fun x H1 => ∃ z, x = .str z ∧ z.length ≤ sizeLine ∧ ∀ r : Str, r.length ≤ z.length → (∀ c ∈ r.cps.toList, c ∈ z.cps.toList) → Q (.str r) H1
theorem pe_revS {X : Cx} {te : TE} {e : Expr} {k : Nat} {p1 p2 p3 pos : Pos} (he : PE X e te) : PE X (.Subscript e (.Slice none none (some (.UnaryOp .USub (.Constant (.int 1) k p1) p2)) p3) pos) (tRevS te) := by
  refine ⟨fun pins s σ H Q I h => ?_⟩
  refine Subscript_ (thn (he.run pins s σ H _ I h) fun v s1 ⟨x, H1, I1, r1, q1⟩ => ?_)
  obtain ⟨z, ex, hz, q⟩ := q1
  subst ex
  obtain ⟨t, rfl⟩ := r1
  have hst : PO X (some (.UnaryOp .USub (.Constant (.int 1) k p1) p2)) (tPart (tUn (rU fun i => .int (-i)) (tC (.int 1)))) := po_some (pe_un un_neg pe_int)
  refine wpAny_Slice (thn (po_none.run pins s1 σ H1 (fun o H2 => o = none ∧ H2 = H1) I1 ⟨rfl, rfl⟩) fun vl s2 ⟨l, H2, I2, pl, el, e2⟩ => ?_)
  subst el e2
  refine thn (po_none.run pins s2 σ H2 (fun o H3 => o = none ∧ H3 = H2) I2 ⟨rfl, rfl⟩) fun vu s3 ⟨u, H3, I3, pu, eu, e3⟩ => ?_
  subst eu e3
  refine thn (hst.run pins s3 σ H3 (fun o H4 => o = some (-1) ∧ H4 = H3) I3 ⟨1, rfl, -1, rfl, rfl, rfl⟩) fun vs s4 ⟨o, H4, I4, ps, eo, e4⟩ => ?_
  subst eo e4
  cases pl
  cases pu
  obtain ⟨u5, rfl⟩ : ∃ u5, vs = .int (-1) u5 := by cases ps; exact ⟨_, rfl⟩
  have I5 : Inv X pins σ H4 { s4 with heap := s4.heap.push { cls := .type "slice", data := .fields #[.none, .none, .int (-1) u5] } } := I4.kept (t' := s4.toks) fun b ob q => Heap.get?_push_of_some _ q
  show wpAny (model X.prog X.w) X.A (subscriptTail e (.Slice none none (some (.UnaryOp .USub (.Constant (.int 1) k p1) p2)) p3) (.str z t) (.ref s4.heap.objs.size)) (EP X pins σ Q) X.xe { s4 with heap := s4.heap.push { cls := .type "slice", data := .fields #[.none, .none, .int (-1) u5] } }
  refine tail_any (ops := [.ref s4.heap.objs.size, .str z t]) (typeIs_str _ _ _) (F.slot_str_getitem.lookup) ?_ (by with_unfolding_all rfl)
  refine wpAny_getItem_str_slice (l := none) (u := none) (st := some (-1, u5)) ⟨_, Heap.get?_push_size _ rfl, rfl, rfl⟩ (show ((-1 : Int) == 0) = false by decide) ?_
  have le := Txt.sliceBy_le z none none (-1, u5) (show (-1 : Int) ≠ 0 by decide)
  refine post_val_or_str ⟨Nat.le_trans le hz, fun t' c => ?_⟩
  refine ⟨.str (Txt.sliceBy z none none (-1, u5)), H4, I5.tok c, ⟨t', rfl⟩, q _ le fun d hd => ?_⟩
  unfold Txt.sliceBy at hd
  split at hd
  · exact hd
  · simp only [List.mem_filterMap] at hd
    obtain ⟨i, _, hi⟩ := hd
    have hi2 : z.cps.toList[i]? = some d := by rw [Array.getElem?_toList]; exact hi
    exact List.mem_of_getElem? hi2
theorem ext_str {x y : Str} (h : x.cps.toList = y.cps.toList) : x = y := by
  cases x; cases y
  simp only at h
  rw [Array.toList_inj.mp h]
theorem rcs_ext {r : Str} (h : (rcs (hasR r) 9).map V.str = signs r) : r = rtx (hasR r) := by
  refine ext_str ?_
  rw [rtx_codes]
  unfold signs rcs at h
  rw [List.map_map] at h
  have e1 : List.map (V.str ∘ fun k => one (code k)) (List.filter (hasR r) (List.range 9)) = ((List.filter (hasR r) (List.range 9)).map code).map fun c => V.str (one c) := by
    rw [List.map_map]; rfl
  rw [e1] at h
  refine ((List.map_inj_right ?_).mp h).symm
  intro a b e
  have e3 : (#[a] : Array Nat) = #[b] := congrArg Str.cps (V.str.inj e)
  simpa using e3
theorem rcs_sig {r : Str} (h : r = rtx (hasR r)) : (rcs (hasR r) 9).map V.str = signs r := by
  have e : signs r = signs (rtx (hasR r)) := by rw [← h]
  rw [e]
  unfold signs rcs
  rw [rtx_codes, List.map_map, List.map_map]; rfl
theorem lay_strs : ∀ l : List Str, (∀ x ∈ l, PyData.strOk x = true) → PyData.canLay0 (.list (l.map .str)) = true := by
  intro l h
  rw [PyData.canLay0]
  induction l with
  | nil => simp [PyData.canLayAll0]
  | cons x l ih =>
    simp only [List.map_cons, PyData.canLayAll0, PyData.canLay0, Bool.and_eq_true]
    exact ⟨h x (by simp), ih fun y hy => h y (by simp [hy])⟩
theorem depth_strs : ∀ l : List Str, PyData.depth (.list (l.map .str)) ≤ 1 := by
  intro l
  rw [PyData.depth]
  have : PyData.depthAll (l.map .str) = 0 := by
    induction l with
    | nil => simp [PyData.depthAll]
    | cons x l ih => simp only [List.map_cons, PyData.depthAll, ih]; simp [PyData.depth]
  omega
theorem shaped_strs {l : List Str} (h : ∀ x ∈ l, PyData.strOk x = true) : SeqAt.shaped (.list (l.map .str)) = true := by
  unfold SeqAt.shaped
  rw [lay_strs l h, Bool.true_and]
  have := depth_strs l
  exact decide_eq_true (by omega)
theorem dp_txts {K : PySem.W.Frag} {H : Hp} {p : Addr} {l : List Str} (h : H p = some (.lst (l.map V.str))) : Dp K H (.ref p) (.list (l.map .str)) := by
  refine .lst (.of h) ?_
  clear h
  induction l with
  | nil => exact .nil
  | cons x l ih => exact .cons (.str x) ih
theorem eqv_strs {l m : List Str} : PyData.eqv (.list (l.map .str)) (.list (m.map .str)) = true ↔ l = m := by
  rw [PyData.eqv]
  induction l generalizing m with
  | nil => cases m <;> simp [PyData.eqvAll]
  | cons x l ih =>
    cases m with
    | nil => simp [PyData.eqvAll]
    | cons y m =>
      simp only [List.map_cons, PyData.eqvAll, Bool.and_eq_true, List.cons.injEq, ih]
      simp [PyData.eqv]
theorem signs_strs (z : Str) : signs z = (z.cps.toList.map one).map V.str := by unfold signs one; rw [List.map_map]; rfl
theorem ok_signs {z : Str} (h : PyData.strOk z = true) : ∀ x ∈ z.cps.toList.map one, PyData.strOk x = true := by
  intro x hx
  obtain ⟨c, hc, rfl⟩ := List.mem_map.mp hx
  unfold PyData.strOk at h ⊢
  rw [Array.all_eq_true_iff_forall_mem] at h
  have := h c (by simpa using hc)
  unfold one
  simpa using this
theorem code_small : ∀ k, k < 9 → code k < 1114112 := by decide
theorem ok_rcs (p : Nat → Bool) : ∀ x ∈ rcs p 9, PyData.strOk x = true := by
  intro x hx
  unfold rcs at hx
  obtain ⟨k, hk, rfl⟩ := List.mem_map.mp hx
  have k9 := List.mem_range.mp (List.mem_filter.mp hk).1
  have := code_small k k9
  unfold PyData.strOk one
  simpa using this

theorem Thing.go {K : PySem.W.Frag} {a : Addr} {H H' : Hp} {v : V} (t : Thing K (hide a H) v) (s : Same H H') : Thing K (hide a H') v := t.same (hide_but (But.of s))
theorem Leafy.go {K : PySem.W.Frag} {a : Addr} {H H' : Hp} {v : V} (t : Leafy K (hide a H) v) (s : Same H H') : Leafy K (hide a H') v := t.same (hide_but (But.of s))
theorem sok_of {s : Str} (h : (PyData.strOk s && decide (s.cps.size ≤ 100)) = true) : Sok s := by
  rw [Bool.and_eq_true] at h
  exact ⟨h.1, of_decide_eq_true h.2⟩
theorem lnil {P : V → Prop} : ∀ x ∈ ([] : List V), P x := fun _ h => nomatch h
theorem lcons {P : V → Prop} {v : V} {xs : List V} (h : P v) (t : ∀ x ∈ xs, P x) : ∀ x ∈ v :: xs, P x := fun x hx => by
  rcases List.mem_cons.mp hx with z | z
  · rw [z]; exact h
  · exact t x z
local macro_rules | `(tactic| walk_at "leafs") => `(tactic| first | exact lnil | (refine lcons ?hd ?tl; (case hd => first | exact leafy_int (small40 (by omega) (by omega)) | exact leafy_str (by assumption) | exact leafy_none | assumption); (case tl => walk_at "leafs")))


theorem fit_leaf {d : PyData} (h : LeafD d) : FitD d := ⟨h.1, h.2.1, Nat.le_trans h.2.2.2.2 (by decide), fit_shown h.2.2.1 (Nat.le_trans h.2.2.2.1 (by decide))⟩
theorem leaf_thing {K : PySem.W.Frag} {H : Hp} {v : V} (l : Leafy K H v) (n : NoT H v) : Thing K H v := by
  obtain ⟨⟨d, h1, h2⟩, _⟩ := l
  exact ⟨⟨d, h1, fit_leaf h2⟩, .inr n⟩
theorem leafy_nil {K : PySem.W.Frag} {H : Hp} {p : Addr} (h : H p = some (.lst [])) : Leafy K H (.ref p) := by
  refine ⟨⟨.list [], .lst (.of h) .nil, ?_⟩, .lst h, fun _ e => nomatch e⟩
  unfold LeafD
  simp [PyData.showable, PyData.showableAll, PyData.hasDict, PyData.hasDictAll, PyData.leavesShort, PyData.leavesShortAll, PyData.weight, PyData.weightAll, PyData.depth, PyData.depthAll]
theorem small15 {i : Int} (h0 : -100000000000000 ≤ i) (h1 : i ≤ 100000000000000) : i.natAbs < 10 ^ 40 := by
  have : (100000000000001 : Nat) ≤ 10 ^ 40 := by decide
  omega
theorem log15 {i : Int} (h0 : -100000000000000 ≤ i) (h1 : i ≤ 100000000000000) : i.natAbs.log2 < 60 := by
  refine PySem.Flt.log2_lt_of (by decide) ?_
  have e : (2 : Nat) ^ 60 = 1152921504606846976 := by decide
  rw [e]; omega
theorem leafy_tri {K : PySem.W.Frag} {H : Hp} {p : Addr} {m : Bool} {i : Int} (h : H p = some (.tup [.bl m, .int i, .int 0])) (h0 : -100000000000000 ≤ i) (h1 : i ≤ 100000000000000) : Leafy K H (.ref p) := by
  refine ⟨⟨.tuple [.bool m, .int i, .int 0], .tup (.of h) (.cons (.bl m) (.cons (.int i) (.cons (.int 0) .nil))), ?_⟩, .tup h, fun _ e => nomatch e⟩
  obtain ⟨a1, a2, a3, a4, a5⟩ := leaf_int (small15 h0 h1)
  have z3 : PyData.leavesShort 600 (.int 0) = true := by decide +kernel
  have l := log15 h0 h1
  refine ⟨?_, ?_, ?_, ?_, ?_⟩
  · simp only [PyData.showable, PyData.showableAll, Bool.and_true, Bool.true_and] at *; rw [a1]; decide
  · simp [PyData.hasDict, PyData.hasDictAll]
  · show (true && (PyData.leavesShort 600 (.int i) && (PyData.leavesShort 600 (.int 0) && true))) = true
    rw [a3, z3]; rfl
  · simp only [PyData.weight, PyData.weightAll]; split <;> simp <;> omega
  · simp [PyData.depth, PyData.depthAll]
local macro_rules | `(tactic| walk_at "leaf15") => `(tactic| first | exact lnil | (refine lcons ?hd ?tl; (case hd => first | exact leafy_bl _ | assumption | exact leafy_int (small15 (by omega) (by omega)) | exact leafy_int (by decide)); (case tl => walk_at "leaf15")))
theorem g45 : (1 : Int) * 2 ^ (45 : Int).toNat = 35184372088832 := by decide

theorem kds {H : Hp} {xs : List V} (l : ∀ x ∈ xs, Kd H x) {H' : Hp} (s : Same H H') : ∀ x ∈ xs, Kd H' x := fun x hx => (l x hx).same s
theorem bool_fit (b : Bool) : FitD (.bool b) := by cases b <;> (unfold FitD; decide +kernel)
theorem two_same {C : Prop} {b b' : Bool} (h : b = true ↔ C) (h' : b' = true ↔ C) : b = b' := by
  rw [Bool.eq_iff_iff, h, h']
theorem join_codes (l : List Str) : (Txt.join (Str.ofString "") l).cps.toList = (l.map fun s => s.cps.toList).flatten := by
  rw [TL.join_eq]
  show TL.tl (Str.join _ _) = _
  rw [TL.tl_join]
  have e : TL.tl (Str.ofString "") = [] := by decide +kernel
  rw [e, joinL_nil]
/-- a text of few plain signs -/
def Few (n : Nat) (z : Str) : Prop := (∀ c ∈ z.cps.toList, c < 128) ∧ z.cps.size ≤ n
theorem Few.sok {n : Nat} {z : Str} (f : Few n z) (h : n ≤ 100) : Sok z := by
  refine ⟨?_, Nat.le_trans f.2 h⟩
  unfold PyData.strOk
  rw [Array.all_eq_true_iff_forall_mem]
  intro c hc
  have := f.1 c (by simpa using hc)
  exact decide_eq_true (by omega)
theorem code_low : ∀ k, k < 9 → code k < 128 := by decide
theorem few_join {l : List Str} {n : Nat} (h : ∀ s ∈ l, ∃ k, k < 9 ∧ s = one (code k)) (hn : l.length ≤ n) : Few n (Txt.join (Str.ofString "") l) := by
  have e := join_codes l
  have e2 : ∀ l : List Str, (∀ s ∈ l, ∃ k, k < 9 ∧ s = one (code k)) → (l.map fun s => s.cps.toList).flatten.length = l.length := by
    intro l
    induction l with
    | nil => intro _; rfl
    | cons x r ih =>
      intro h
      obtain ⟨k, _, rfl⟩ := h x (List.mem_cons_self ..)
      rw [List.map_cons, List.flatten_cons, List.length_append, ih fun s hs => h s (List.mem_cons_of_mem _ hs), List.length_cons]
      show 1 + _ = _
      omega
  refine ⟨fun c hc => ?_, ?_⟩
  · rw [e, List.mem_flatten] at hc
    obtain ⟨t, ht, hc⟩ := hc
    obtain ⟨s, hs, rfl⟩ := List.mem_map.mp ht
    obtain ⟨k, hk, rfl⟩ := h s hs
    have : c = code k := by simpa [one] using hc
    rw [this]; exact code_low k hk
  · have : (Txt.join (Str.ofString "") l).cps.size = (Txt.join (Str.ofString "") l).cps.toList.length := by simp
    rw [this, e, e2 l h]; exact hn

theorem few_cut {n : Nat} {z : Str} (f : Few n z) (lo hi : Option Int) : Few n (cutS z lo hi) := by
  refine ⟨fun c hc => f.1 c ?_, ?_⟩
  · unfold cutS at hc
    exact List.mem_of_mem_drop (List.mem_of_mem_take (by simpa using hc))
  · unfold cutS
    have := f.2
    have e : z.cps.toList.length = z.cps.size := by simp
    show (List.take _ (List.drop _ z.cps.toList)).toArray.size ≤ n
    rw [List.size_toArray, List.length_take, List.length_drop]; omega
theorem few_app {n m : Nat} {z y : Str} (f : Few n z) (g : Few m y) : Few (n + m) (z ++ y) := by
  have e : (z ++ y).cps = z.cps ++ y.cps := rfl
  refine ⟨fun c hc => ?_, ?_⟩
  · rw [e, Array.toList_append] at hc
    rcases List.mem_append.mp hc with h | h
    · exact f.1 c h
    · exact g.1 c h
  · rw [e, Array.size_append]; have := f.2; have := g.2; omega
theorem few_one {c : Nat} (h : c < 128) : Few 1 ⟨#[c]⟩ := ⟨fun d hd => by
  have : d = c := by simpa using hd
  rw [this]; exact h, by simp⟩
theorem few_len {n : Nat} {z : Str} (f : Few n z) (h : n ≤ 1000) : z.length ≤ sizeLine := by rw [sizeLine_eq]; exact Nat.le_trans f.2 (Nat.le_trans h (by decide))
theorem pickC {z : Str} {r : Int} {n : Nat} (f : Few n z) (h0 : 0 ≤ r) (h1 : r < (z.cps.size : Int)) : ∃ c, atI z.cps.toList r = some c ∧ c < 128 := by
  obtain ⟨j, rfl⟩ : ∃ j : Nat, r = (j : Int) := ⟨r.toNat, by omega⟩
  have hj : j < z.cps.toList.length := by rw [Array.length_toList]; omega
  exact ⟨z.cps.toList[j], atI_nat (List.getElem?_eq_getElem hj), f.1 _ (List.getElem_mem hj)⟩
def CST : Str := Str.ofString "rwlsnfxcoa R"
theorem cst_few : Few 12 CST := ⟨by decide +kernel, by decide +kernel⟩
theorem cst_size : CST.cps.size = 12 := by decide +kernel
theorem But.put {p D : Addr} {G H' : Hp} {o : HO} (s : But p G H') (n : G D = none) : But p G (L2.upd H' D o) := fun b x nb h => by
  rw [upd_ne (ne_of_none h n)]; exact s b x nb h
theorem few_fit {l : List Str} (h : ∀ s ∈ l, ∃ k, k < 9 ∧ s = one (code k)) (hn : l.length ≤ 9) : (l.map (·.length)).sum + l.length * (Str.ofString "").length ≤ 16777216 := by
  have e : (Str.ofString "").length = 0 := by decide +kernel
  have e2 : ∀ l : List Str, (∀ s ∈ l, ∃ k, k < 9 ∧ s = one (code k)) → (l.map (·.length)).sum = l.length := by
    intro l
    induction l with
    | nil => intro _; rfl
    | cons x r ih =>
      intro h
      obtain ⟨k, _, rfl⟩ := h x (List.mem_cons_self ..)
      rw [List.map_cons, List.sum_cons, ih fun s hs => h s (List.mem_cons_of_mem _ hs), List.length_cons]
      show 1 + _ = _
      omega
  rw [e, e2 l h]; omega

def topS (i : Nat) : Stmt := PySem.Challenge.pw_sealedreach_k01_words_rights_lawful_ones.main.body.getD i (.Pass ⟨0, 0, 0, 0⟩)
abbrev s_is_whole : Stmt := topS 1
abbrev s__has_some : Stmt := topS 21
abbrev s__lead_one_way : Stmt := topS 20
abbrev s_field : Stmt := topS 16
abbrev s_rights_in : Stmt := topS 17
abbrev s__tell : Stmt := topS 18
abbrev s_is_rights : Stmt := topS 14
abbrev s__law_take : Stmt := topS 24
abbrev s__law_pool : Stmt := topS 23
abbrev s_is_word : Stmt := topS 13
abbrev s__may_be_marked : Stmt := topS 19
abbrev s_is_lawful : Stmt := topS 15
abbrev s__law_bits : Stmt := topS 25
abbrev s__law_mask : Stmt := topS 27
abbrev s__law_drawn : Stmt := topS 26
abbrev s__law_fields : Stmt := topS 28
abbrev s__law_good : Stmt := topS 29
abbrev s__law_is_word : Stmt := topS 30
abbrev s__law_is_lawful : Stmt := topS 31
abbrev s__law_is_rights : Stmt := topS 32
abbrev s__law_things : Stmt := topS 33
abbrev s_law : Stmt := topS 34
theorem sc_is_whole : FnScope ["thing", "least", "most"] ["thing", "least", "most"] (defScope s_is_whole) := ⟨rfl, rfl, rfl, by decide +kernel, rfl, by decide +kernel, by decide +kernel⟩
theorem sc__has_some : FnScope ["rights", "group", "sign"] ["rights", "group"] (defScope s__has_some) := ⟨rfl, rfl, rfl, by decide +kernel, rfl, by decide +kernel, by decide +kernel⟩
theorem sc__lead_one_way : FnScope ["rights", "group"] ["rights"] (defScope s__lead_one_way) := ⟨rfl, rfl, rfl, by decide +kernel, rfl, by decide +kernel, by decide +kernel⟩
theorem sc_field : FnScope ["bits", "place", "lowest", "many"] ["bits", "place"] (defScope s_field) := ⟨rfl, rfl, rfl, by decide +kernel, rfl, by decide +kernel, by decide +kernel⟩
theorem sc_rights_in : FnScope ["bits", "number", "k", "sign"] ["bits"] (defScope s_rights_in) := ⟨rfl, rfl, rfl, by decide +kernel, rfl, by decide +kernel, by decide +kernel⟩
theorem sc__tell : FnScope ["bits", "step", "count"] ["bits"] (defScope s__tell) := ⟨rfl, rfl, rfl, by decide +kernel, rfl, by decide +kernel, by decide +kernel⟩
theorem sc_is_rights : FnScope ["thing", "sign"] ["thing"] (defScope s_is_rights) := ⟨rfl, rfl, rfl, by decide +kernel, rfl, by decide +kernel, by decide +kernel⟩
theorem sc__law_take : FnScope ["_law_pool_here", "_law_many", "_law_found"] ["_law_pool_here", "_law_many"] (defScope s__law_take) := ⟨rfl, rfl, rfl, by decide +kernel, rfl, by decide +kernel, by decide +kernel⟩
theorem sc__law_pool : FnScope ["_law_script", "_law_k", "_law_cell", "_law_great", "_law_mixed"] ["_law_script", "_law_k"] (defScope s__law_pool) := ⟨rfl, rfl, rfl, by decide +kernel, rfl, by decide +kernel, by decide +kernel⟩
theorem sc_is_word : FnScope ["thing", "marked", "bits"] ["thing"] (defScope s_is_word) := ⟨rfl, rfl, rfl, by decide +kernel, rfl, by decide +kernel, by decide +kernel⟩
theorem sc__may_be_marked : FnScope ["bits"] ["bits"] (defScope s__may_be_marked) := ⟨rfl, rfl, rfl, by decide +kernel, rfl, by decide +kernel, by decide +kernel⟩
theorem sc_is_lawful : FnScope ["thing", "marked", "bits"] ["thing"] (defScope s_is_lawful) := ⟨rfl, rfl, rfl, by decide +kernel, rfl, by decide +kernel, by decide +kernel⟩
theorem sc__law_bits : FnScope ["_law_at", "_law_first", "_law_count", "_law_step", "_law_rights", "_law_kind"] ["_law_at", "_law_first", "_law_count", "_law_step", "_law_rights", "_law_kind"] (defScope s__law_bits) := ⟨rfl, rfl, rfl, by decide +kernel, rfl, by decide +kernel, by decide +kernel⟩
theorem sc__law_mask : FnScope ["_law_pool_here", "_law_far", "_law_some"] ["_law_pool_here"] (defScope s__law_mask) := ⟨rfl, rfl, rfl, by decide +kernel, rfl, by decide +kernel, by decide +kernel⟩
theorem sc__law_drawn : FnScope ["_law_pool_here", "_law_step", "_law_count", "_law_wide", "_law_first", "_law_kind", "_law_at"] ["_law_pool_here"] (defScope s__law_drawn) := ⟨rfl, rfl, rfl, by decide +kernel, rfl, by decide +kernel, by decide +kernel⟩
theorem sc__law_fields : FnScope ["_law_bits_here", "_law_first", "_law_count", "_law_step", "_law_at", "_law_sign", "_law_rights"] ["_law_bits_here"] (defScope s__law_fields) := ⟨rfl, rfl, rfl, by decide +kernel, rfl, by decide +kernel, by decide +kernel⟩
theorem sc__law_good : FnScope ["_law_rights", "_law_sign", "_law_some", "_law_groups"] ["_law_rights"] (defScope s__law_good) := ⟨rfl, rfl, rfl, by decide +kernel, rfl, by decide +kernel, by decide +kernel⟩
theorem sc__law_is_word : FnScope ["_law_thing"] ["_law_thing"] (defScope s__law_is_word) := ⟨rfl, rfl, rfl, by decide +kernel, rfl, by decide +kernel, by decide +kernel⟩
theorem sc__law_is_lawful : FnScope ["_law_thing", "_law_found"] ["_law_thing"] (defScope s__law_is_lawful) := ⟨rfl, rfl, rfl, by decide +kernel, rfl, by decide +kernel, by decide +kernel⟩
theorem sc__law_is_rights : FnScope ["_law_thing", "_law_sign"] ["_law_thing"] (defScope s__law_is_rights) := ⟨rfl, rfl, rfl, by decide +kernel, rfl, by decide +kernel, by decide +kernel⟩
theorem sc__law_things : FnScope ["_law_pool_here", "_law_bits_here", "_law_odd", "_law_great", "_law_some"] ["_law_pool_here"] (defScope s__law_things) := ⟨rfl, rfl, rfl, by decide +kernel, rfl, by decide +kernel, by decide +kernel⟩
theorem sc_law : FnScope ["_law_script", "_law_k", "_law_pool_here", "_law_thing", "_law_kept", "_law_sign", "_law_text", "_law_at", "_law_more"] ["_law_script"] (defScope s_law) := ⟨rfl, rfl, rfl, by decide +kernel, rfl, by decide +kernel, by decide +kernel⟩
structure Txt (K : PySem.W.Frag) (w : World) (mg : Str → Option Value) : Prop where
  z_abs : mg "abs" = none
  z_any : mg "any" = none
  z_bool : mg "bool" = none
  z_enumerate : mg "enumerate" = none
  z_int : mg "int" = none
  z_isinstance : mg "isinstance" = none
  z_len : mg "len" = none
  z_list : mg "list" = none
  z_max : mg "max" = none
  z_min : mg "min" = none
  z_range : mg "range" = none
  z_repr : mg "repr" = none
  z_str : mg "str" = none
  z_sum : mg "sum" = none
  z_tuple : mg "tuple" = none
  c_CELLS : ∃ t, mg "CELLS" = some (.int 4096 t)
  c_COUNT_LESS_ONE : ∃ p, mg "COUNT_LESS_ONE" = some (.ref p) ∧ ∀ H, SqT K H p [.int 24, .int 4]
  c_FIRST : ∃ p, mg "FIRST" = some (.ref p) ∧ ∀ H, SqT K H p [.int 12, .int 12]
  c_GROUPS : ∃ p, mg "GROUPS" = some (.ref p) ∧ ∀ H, SqT K H p [.str (Str.ofString "rwlsn"), .str (Str.ofString "x"), .str (Str.ofString "co")]
  c_LEAST_COUNT : ∃ t, mg "LEAST_COUNT" = some (.int 9 t)
  c_RIGHTS : ∃ t, mg "RIGHTS" = some (.str (Str.ofString "rwlsnfxco") t)
  c_RIGHTS_BITS : ∃ p, mg "RIGHTS_BITS" = some (.ref p) ∧ ∀ H, SqT K H p [.int 32, .int 9]
  c_STEP : ∃ p, mg "STEP" = some (.ref p) ∧ ∀ H, SqT K H p [.int 28, .int 4]
  c_TOP_STEP : ∃ t, mg "TOP_STEP" = some (.int 8 t)
  c_WORTHS : ∃ t, mg "WORTHS" = some (.int 35184372088832 t)
section
variable {P : Program} {w : World} {K : PySem.W.Frag} {mg : Str → Option Value} {base : Heap}

def sp_is_whole (K : PySem.W.Frag) : Sp := fun vs H Q _ => ∃ v l m, vs = [v, .int l, .int m] ∧ Kd H v ∧ ∀ b, (b = true ↔ ∃ n, v = .int n ∧ l ≤ n ∧ n ≤ m) → Q (.bl b) H
theorem ok_is_whole {f : Addr} {fd : FuncData} (F : Fun K "is_whole" "is_whole" s_is_whole f fd) (T : Txt K w mg) : FnOk P w K mg base CX0 1 f fd ["thing", "least", "most"] (sp_is_whole K) := by
  refine F.ok sc_is_whole (fun vs H Q E h => ?_) (fun cdv A outer s H vs Q E hr h => ?_)
  · obtain ⟨v, l, m, rfl, hv, q⟩ := h; rfl
  · obtain ⟨v, l, m, rfl, hv, q⟩ := h
    refine ⟨_, (pss_one (ps_ret (pe_and (pe_callB call_isi (by rfl) T.z_isinstance (by decide +kernel) (pa_cons (pv 0) (pa_cons (pe_bltn (v := .ty "int") (by rfl) T.z_int (by decide +kernel) rfl) pa_nil))) (pe_and (pe_not (pe_callB call_isi (by rfl) T.z_isinstance (by decide +kernel) (pa_cons (pv 0) (pa_cons (pe_bltn (v := .ty "bool") (by rfl) T.z_bool (by decide +kernel) rfl) pa_nil)))) (pe_one (pe_chain op_le op_le (pv 1) (pv 0) (pv 2))))))), ?_⟩
    obtain ⟨t, ty, kt⟩ := hv.int? (K := K)
    refine ⟨_, rfl, _, _, t, _, isI v, rfl, .ty "int", ty, kt, isI v, rfl, ifb (fun e1 => ?_) (fun e1 => ?_)⟩
    · obtain ⟨t2, ty2, kt2⟩ := hv.bool? (K := K)
      refine ⟨_, rfl, _, _, t2, _, isB v, rfl, .ty "bool", ty2, kt2, isB v, rfl, !isB v, rfl, ifnb (fun e2 => ?_) (fun e2 => ?_)⟩
      · obtain ⟨n, rfl⟩ : ∃ n, v = .int n := by
          cases hv with
          | int i => exact ⟨i, rfl⟩
          | bl b => cases e2
          | _ => cases e1
        refine ⟨_, rfl, _, rfl, _, _, rfl, rfl, _, rfl, ifd (fun h1 => ?_) (fun h1 => ?_)⟩
        · refine ⟨_, rfl, _, _, rfl, rfl, q _ ?_⟩
          rw [decide_eq_true_iff]
          exact ⟨fun h => ⟨n, rfl, h1, h⟩, fun ⟨n', e, h3, h4⟩ => by cases e; exact h4⟩
        · refine q _ ⟨fun h => Bool.noConfusion h, fun ⟨n', e, h3, h4⟩ => by cases e; exact absurd h3 h1⟩
      · refine q _ ⟨fun h => Bool.noConfusion h, fun ⟨n', e, h3, h4⟩ => by cases e; cases e2⟩
    · refine q _ ⟨fun h => Bool.noConfusion h, fun ⟨n', e, h3, h4⟩ => by cases e; cases e1⟩

def sp__has_some (K : PySem.W.Frag) : Sp := fun vs H Q _ => ∃ r g : Str, vs = [.str r, .str g] ∧ g.cps.size ≤ 9 ∧ ∀ H', Same H H' → Q (.bl (hasG r g)) H'
theorem ok__has_some {f : Addr} {fd : FuncData} (F : Fun K "_has_some" "_has_some" s__has_some f fd) (T : Txt K w mg) : FnOk P w K mg base CX0 1 f fd ["rights", "group"] (sp__has_some K) := by
  refine F.ok sc__has_some (fun vs H Q E h => ?_) (fun cdv A outer s H vs Q E hr h => ?_)
  · obtain ⟨r, g, rfl, hg, q⟩ := h; rfl
  · obtain ⟨r, g, rfl, hg, q⟩ := h
    refine ⟨_, (pss_one (ps_ret (pe_callB (cr_any rfl) (by rfl) T.z_any (by decide +kernel) (pa_cons (pe_lc (own := [("sign", 2)]) rfl sc__has_some.nd (pi_str (pv 1)) (blkOk_by (own := [("sign", 2)]) (N := ["rights", "group", "sign"]) (sc := defScope s__has_some) (by decide +kernel)) (fun _ _ _ _ _ => (pg_name (i := 2) sc__has_some.nd rfl (.inl rfl))) (fun _ _ _ _ _ => pts_nil) (fun _ _ _ _ _ => (pe_cmpR op_in_sign (pv 2) (pv 0) (by rfl)))) pa_nil)))), ?_⟩
    refine ⟨_, rfl, g, rfl, fun D hD => ?_⟩
    refine lc_it (walk_str (z := g)) (fun i H' => Same H H' ∧ H' D = some (.lst (((g.cps.toList.take i).map fun c => decide (c ∈ r.cps.toList)).map V.bl))) ⟨same_new hD, upd_same⟩ (fun _ _ _ _ => trivial) ?_ ?_
    · rintro i x H1 H2 hi ⟨sm, hl⟩ ⟨rfl, c, hc, rfl⟩
      refine ⟨rfl, ?_⟩
      refine ⟨_, rfl, _, rfl, c, r, rfl, rfl, _, hl, ?_, ?_, ?_⟩
      · rw [List.length_map, List.length_map, List.length_take]; exact szn (by omega)
      · exact fun b o e => by
          have n : b ≠ D := ne_of_none e hD
          rw [upd_ne n]; exact sm b o e
      · rw [upd_same, take_any hi, List.map_append]
        have e : g.cps[i] = c := by
          have := Array.getElem?_eq_getElem hi
          rw [this] at hc
          exact Option.some.inj hc
        rw [e]; rfl
    · rintro H1 ⟨sm, hl⟩
      refine ⟨D, _, rfl, .of hl, ?_⟩
      have e : (((g.cps.toList.take g.cps.size).map fun c => decide (c ∈ r.cps.toList)).any id) = hasG r g := by
        rw [show g.cps.size = g.cps.toList.length by simp, List.take_length]
        unfold hasG
        rw [List.any_map]; rfl
      exact qb (q _ sm) e

def sp__lead_one_way (K : PySem.W.Frag) : Sp := fun vs H Q _ => ∃ r : Str, vs = [.str r] ∧ ∀ H', Same H H' → Q (.bl (decide (([G0, G1, G2].filter (hasG r)).length ≤ 1))) H'
theorem ok__lead_one_way {f : Addr} {fd : FuncData} (F : Fun K "_lead_one_way" "_lead_one_way" s__lead_one_way f fd) (T : Txt K w mg) (C__has_some : Cal P w K mg base "_has_some" 1 ["rights", "group"] (sp__has_some K)) : FnOk P w K mg base CX0 2 f fd ["rights"] (sp__lead_one_way K) := by
  obtain ⟨p_GROUPS, hc_GROUPS, hs_GROUPS⟩ := T.c_GROUPS
  refine F.ok sc__lead_one_way (fun vs H Q E h => ?_) (fun cdv A outer s H vs Q E hr h => ?_)
  · obtain ⟨r, rfl, q⟩ := h; rfl
  · obtain ⟨r, rfl, q⟩ := h
    refine ⟨_, (pss_one (ps_ret (pe_cmpR op_le (pe_callB call_len_seq (by rfl) T.z_len (by decide +kernel) (pa_cons (pe_lc (own := [("group", 1)]) rfl sc__lead_one_way.nd (pi_tup (pe_glob (v := .ref p_GROUPS) (by rfl) hc_GROUPS rfl)) (blkOk_by (own := [("group", 1)]) (N := ["rights", "group"]) (sc := defScope s__lead_one_way) (by decide +kernel)) (fun _ _ _ _ _ => (pg_name (i := 1) sc__lead_one_way.nd rfl (.inl rfl))) (fun _ _ _ _ _ => (pts_one (pt_val (pe_cal C__has_some (hr.mono (by decide)) (pa_cons (pv 0) (pa_cons (pv 1) pa_nil)))))) (fun _ _ _ _ _ => (pv 1))) pa_nil)) pe_int (nomark _)))), ?_⟩
    refine ⟨p_GROUPS, rfl, ⟨_, hs_GROUPS _⟩, fun D hD => ?_⟩
    refine lc_it (walk_tup (xs := [.str G0, .str G1, .str G2])) (fun i H' => Same H H' ∧ H' D = some (.lst ((([G0, G1, G2].take i).filter (hasG r)).map V.str))) ⟨same_new hD, upd_same⟩ (fun _ _ _ _ => hs_GROUPS _) ?_ ?_
    · rintro i x H1 H2 hi ⟨sm, hl⟩ ⟨rfl, hx⟩
      obtain ⟨g, hg, rfl⟩ : ∃ g, [G0, G1, G2][i]? = some g ∧ x = V.str g := by
        have : i = 0 ∨ i = 1 ∨ i = 2 := by simp at hi; omega
        rcases this with e | e | e <;> subst e <;> exact ⟨_, rfl, (Option.some.inj hx).symm⟩
      have hg9 : g.cps.size ≤ 9 := by
        have : i = 0 ∨ i = 1 ∨ i = 2 := by simp at hi; omega
        rcases this with e | e | e <;> subst e <;> (cases hg; decide +kernel)
      refine ⟨rfl, ?_⟩
      refine ⟨_, rfl, _, rfl, r, g, rfl, hg9, fun H3 s3 => ⟨_, rfl, ?_⟩⟩
      have tk : [G0, G1, G2].take (i + 1) = [G0, G1, G2].take i ++ [g] := by rw [List.take_add_one, hg]; rfl
      have sm3 := sm.trans s3
      refine ifb (fun e => ?_) (fun e => ?_)
      · refine ⟨_, rfl, _, s3 _ _ hl, ?_, ?_, ?_⟩
        · rw [List.length_map]
          have h1 := List.length_filter_le (hasG r) ([G0, G1, G2].take i)
          have h2 : ([G0, G1, G2].take i).length ≤ 3 := by rw [List.length_take]; exact Nat.min_le_right _ _
          exact szn (by omega)
        · exact fun b o e => by
            have n : b ≠ D := ne_of_none e hD
            rw [upd_ne n]; exact sm3 b o e
        · rw [upd_same, tk, List.filter_append, List.map_append]
          simp [e]
      · refine ⟨sm3, ?_⟩
        rw [tk, List.filter_append]
        simp [e]
        exact s3 _ _ hl
    · rintro H1 ⟨sm, hl⟩
      refine ⟨D, _, rfl, .inl (.of hl), _, _, rfl, rfl, ?_⟩
      have e : decide (((([G0, G1, G2].take 3).filter (hasG r)).map V.str).length ≤ (1 : Int)) = decide (([G0, G1, G2].filter (hasG r)).length ≤ 1) := by
        rw [List.length_map, show [G0, G1, G2].take 3 = [G0, G1, G2] from rfl]
        rw [decide_eq_decide]
        omega
      exact qb (q _ sm) e

def sp_field (K : PySem.W.Frag) : Sp := fun vs H Q _ => ∃ (b : Int) (p : Addr) (lo mn : Nat), vs = [.int b, .ref p] ∧ SqT K H p [.int lo, .int mn] ∧ 0 ≤ b ∧ lo ≤ 100 ∧ mn ≤ 100 ∧ Q (.int (b / 2 ^ lo % 2 ^ mn)) H
theorem ok_field {f : Addr} {fd : FuncData} (F : Fun K "field" "field" s_field f fd) (T : Txt K w mg) : FnOk P w K mg base CX0 1 f fd ["bits", "place"] (sp_field K) := by
  refine F.ok sc_field (fun vs H Q E h => ?_) (fun cdv A outer s H vs Q E hr h => ?_)
  · obtain ⟨b, p, lo, mn, rfl, hp, hb, hlo, hmn, q⟩ := h; rfl
  · obtain ⟨b, p, lo, mn, rfl, hp, hb, hlo, hmn, q⟩ := h
    refine ⟨_, (pss_cons (ps_asg (pv 1) (pg_tup rfl (pgs_cons (pg_name (i := 2) sc_field.nd rfl (.inl rfl)) (pgs_cons (pg_name (i := 3) sc_field.nd rfl (.inl rfl)) pgs_nil))))
      (pss_one (ps_ret (pe_op op_and (pe_op op_shr (pv 0) (pv 2)) (pe_op op_sub (pe_op op_shl pe_int (pv 3)) pe_int))))), ?_⟩
    refine ⟨_, rfl, p, _, rfl, hp, rfl, _, _, rfl, _, _, rfl, rfl, ?_⟩
    refine ⟨_, rfl, _, rfl, _, _, rfl, rfl, by omega, _, rfl, _, _, rfl, rfl, ⟨by omega, by omega, by decide⟩, _, _, rfl, rfl, _, _, rfl, rfl, ?_⟩
    have e : Builtin.bitAnd (b / 2 ^ lo) (1 * 2 ^ mn - 1) = b / 2 ^ lo % 2 ^ mn := by
      rw [Int.one_mul, Bits.bitAnd_mask mn (Int.ediv_nonneg hb (Int.le_of_lt (pow_pos2 lo)))]
    exact qi q e

def sp_rights_in (K : PySem.W.Frag) : Sp := fun vs H Q _ => ∃ b : Int, vs = [.int b] ∧ 0 ≤ b ∧ ∀ H', Same H H' → Q (.str (rtx (bitp (fRts b)))) H'
theorem ok_rights_in {f : Addr} {fd : FuncData} (F : Fun K "rights_in" "rights_in" s_rights_in f fd) (T : Txt K w mg) (C_field : Cal P w K mg base "field" 1 ["bits", "place"] (sp_field K)) : FnOk P w K mg base CX0 2 f fd ["bits"] (sp_rights_in K) := by
  obtain ⟨t_RIGHTS, hc_RIGHTS⟩ := T.c_RIGHTS
  obtain ⟨p_RIGHTS_BITS, hc_RIGHTS_BITS, hs_RIGHTS_BITS⟩ := T.c_RIGHTS_BITS
  refine F.ok sc_rights_in (fun vs H Q E h => ?_) (fun cdv A outer s H vs Q E hr h => ?_)
  · obtain ⟨b, rfl, hb, q⟩ := h; rfl
  · obtain ⟨b, rfl, hb, q⟩ := h
    refine ⟨_, (pss_cons (ps_set (i := 1) sc_rights_in.nd rfl (.inr rfl) (pe_cal C_field (hr.mono (by decide)) (pa_cons (pv 0) (pa_cons (pe_glob (v := .ref p_RIGHTS_BITS) (by rfl) hc_RIGHTS_BITS rfl) pa_nil))))
      (pss_one (ps_ret (pe_join pe_str (pe_lc (own := [("k", 2), ("sign", 3)]) (g := gTup K 2 (gCons (gName 2) (gCons (gName 3) gNil))) rfl sc_rights_in.nd (pi_enumS (by rfl) T.z_enumerate (pa_cons (pe_glob (v := .str (Str.ofString "rwlsnfxco")) (by rfl) hc_RIGHTS ⟨_, rfl⟩) pa_nil)) (blkOk_by (own := [("k", 2), ("sign", 3)]) (N := ["bits", "number", "k", "sign"]) (sc := defScope s_rights_in) (by decide +kernel)) (fun _ _ _ _ _ => by exact (pg_tup rfl (pgs_cons (pg_name (i := 2) sc_rights_in.nd rfl (.inl rfl)) (pgs_cons (pg_name (i := 3) sc_rights_in.nd rfl (.inl rfl)) pgs_nil)))) (fun _ _ _ _ _ => (pts_one (pt_cmpR op_eq (pe_op op_and (pe_op op_shr (pv 1) (pv 2)) pe_int) pe_int (nomark _)))) (fun _ _ _ _ _ => (pv 3))))))), ?_⟩
    refine ⟨_, rfl, b, p_RIGHTS_BITS, 32, 9, rfl, hs_RIGHTS_BITS _, hb, by decide, by decide, ?_⟩
    refine ⟨⟨_, rfl⟩, RT, rfl, fun D hD => ?_⟩
    have h0 : 0 ≤ fRts b := Int.emod_nonneg _ (by decide)
    refine lc_it (walk_enumS (z := RT)) (fun i H' => Same H H' ∧ H' D = some (.lst ((rcs (bitp (fRts b)) i).map V.str))) ⟨same_new hD, upd_same⟩ (fun _ _ _ _ => trivial) ?_ ?_
    · rintro i x H1 H2 hi ⟨sm, hl⟩ ⟨Tp, x1, y1, rfl, hn, rfl, hx1, hy1⟩
      rw [RT_size] at hi
      have hy1 : (RT.cps[i]?).map (fun c => V.str ⟨#[c]⟩) = some y1 := hy1
      rw [RT_get i hi] at hy1
      have e1 : x1 = .int (i : Int) := (Option.some.inj hx1).symm
      have e2 : y1 = .str (one (code i)) := (Option.some.inj hy1).symm
      subst e1 e2
      have nD : D ≠ Tp := ne_of_none hl hn
      refine ⟨Tp, _, rfl, .of upd_same, rfl, _, _, rfl, _, _, rfl, rfl, wp2 (by simp) (by simp), ?_⟩
      have eb : Builtin.bitAnd (fRts b / 2 ^ i) 1 = fRts b / 2 ^ i % 2 := by
        have := Bits.bitAnd_mask 1 (x := fRts b / 2 ^ i) (Int.ediv_nonneg h0 (Int.le_of_lt (pow_pos2 i)))
        exact this
      refine ⟨_, rfl, _, rfl, _, _, rfl, rfl, by omega, _, _, rfl, rfl, rfl, _, rfl, ifd (fun e => ?_) (fun e => ?_)⟩
      · have e3 : bitp (fRts b) i = true := by
          unfold bitp
          rw [← eb]
          exact decide_eq_true (V.int.inj e)
        refine ⟨_, rfl, _, (by rw [upd_ne nD]; exact hl), ?_, ?_, ?_⟩
        · rw [List.length_map]
          have := rcs_len (bitp (fRts b)) i
          exact szn (by omega)
        · exact fun b o e => by
            have n : b ≠ D := ne_of_none e hD
            have n2 : b ≠ Tp := ne_of_none (sm b o e) hn
            rw [upd_ne n, upd_ne n2]; exact sm b o e
        · rw [upd_same, rcs_succ, List.map_append, if_pos e3]; rfl
      · refine ⟨sameN sm hn, ?_⟩
        have e3 : ¬ bitp (fRts b) i = true := by
          unfold bitp
          rw [← eb]
          intro z
          exact e (congrArg V.int (of_decide_eq_true z))
        rw [upd_ne nD, rcs_succ, if_neg e3, List.append_nil]
        exact hl
    · rintro H1 ⟨sm, hl⟩
      rw [RT_size] at hl
      exact ⟨_, D, _, rfl, rfl, .inl (.of hl), rcs_fit _, q _ sm⟩

def sp__tell (K : PySem.W.Frag) : Sp := fun vs H Q _ => ∃ b : Int, vs = [.int b] ∧ 0 ≤ b ∧ ∀ c, (c = true ↔ Tells b) → Q (.bl c) H
theorem ok__tell {f : Addr} {fd : FuncData} (F : Fun K "_tell" "_tell" s__tell f fd) (T : Txt K w mg) (C_field : Cal P w K mg base "field" 1 ["bits", "place"] (sp_field K)) : FnOk P w K mg base CX0 2 f fd ["bits"] (sp__tell K) := by
  obtain ⟨t_CELLS, hc_CELLS⟩ := T.c_CELLS
  obtain ⟨p_COUNT_LESS_ONE, hc_COUNT_LESS_ONE, hs_COUNT_LESS_ONE⟩ := T.c_COUNT_LESS_ONE
  obtain ⟨p_FIRST, hc_FIRST, hs_FIRST⟩ := T.c_FIRST
  obtain ⟨t_LEAST_COUNT, hc_LEAST_COUNT⟩ := T.c_LEAST_COUNT
  obtain ⟨p_STEP, hc_STEP, hs_STEP⟩ := T.c_STEP
  obtain ⟨t_TOP_STEP, hc_TOP_STEP⟩ := T.c_TOP_STEP
  refine F.ok sc__tell (fun vs H Q E h => ?_) (fun cdv A outer s H vs Q E hr h => ?_)
  · obtain ⟨b, rfl, hb, q⟩ := h; rfl
  · obtain ⟨b, rfl, hb, q⟩ := h
    refine ⟨_, (pss_cons (ps_set (i := 1) sc__tell.nd rfl (.inl rfl) (pe_cal C_field (hr.mono (by decide)) (pa_cons (pv 0) (pa_cons (pe_glob (v := .ref p_STEP) (by rfl) hc_STEP rfl) pa_nil))))
      (pss_cons (ps_set (i := 2) sc__tell.nd rfl (.inl rfl) (pe_op op_add (pe_cal C_field (hr.mono (by decide)) (pa_cons (pv 0) (pa_cons (pe_glob (v := .ref p_COUNT_LESS_ONE) (by rfl) hc_COUNT_LESS_ONE rfl) pa_nil))) pe_int))
      (pss_cons (ps_if (PW.pt (pw_or (pt_cmpR op_gt (pv 1) (pe_glob (v := .int 8) (by rfl) hc_TOP_STEP ⟨_, rfl⟩) (nomark _)) (pw_or1 (PW.pt (pw_and (pt_cmpR op_gt (pv 1) pe_int (nomark _)) (pw_and1 (pt_cmpR op_lt (pv 2) (pe_glob (v := .int 9) (by rfl) hc_LEAST_COUNT ⟨_, rfl⟩) (nomark _)))))))) (pss_one (ps_ret pe_bl)) pss_nil)
      (pss_one (ps_ret (pe_cmpR op_le (pe_op op_shl (pe_op op_add (pe_cal C_field (hr.mono (by decide)) (pa_cons (pv 0) (pa_cons (pe_glob (v := .ref p_FIRST) (by rfl) hc_FIRST rfl) pa_nil))) (pv 2)) (pv 1)) (pe_glob (v := .int 4096) (by rfl) hc_CELLS ⟨_, rfl⟩) (nomark _))))))), ?_⟩
    have f := fb b
    refine ⟨_, rfl, b, p_STEP, 28, 4, rfl, hs_STEP _, hb, by decide, by decide, ?_⟩
    refine ⟨_, rfl, b, p_COUNT_LESS_ONE, 24, 4, rfl, hs_COUNT_LESS_ONE _, hb, by decide, by decide, _, _, rfl, rfl, ?_⟩
    refine ⟨_, rfl, _, _, rfl, rfl, _, rfl, ifd (fun c1 => ?_) (fun c1 => ?_)⟩
    · have c2 : 8 < fStep b := c1
      show Q (.bl false) H
      exact q _ ⟨fun h => Bool.noConfusion h, fun h => absurd h.1 (by omega)⟩
    have c2 : ¬ 8 < fStep b := c1
    have fin : ((fStep b = 0 ∨ 9 ≤ fCnt b)) → Q (.bl (decide ((fFirst b + fCnt b) * 2 ^ (fStep b).toNat ≤ 4096))) H := fun z => by
      refine q _ ?_
      rw [decide_eq_true_iff]
      exact ⟨fun h => ⟨by omega, z, h⟩, fun h => h.2.2⟩
    refine ⟨_, rfl, _, _, rfl, rfl, _, rfl, ifd (fun c3 => ?_) (fun c3 => ?_)⟩
    · have c4 : 0 < fStep b := c3
      refine ⟨_, rfl, _, _, rfl, rfl, _, rfl, ifd (fun c5 => ?_) (fun c5 => ?_)⟩
      · have c6 : fCnt b < 9 := c5
        show Q (.bl false) H
        exact q _ ⟨fun h => Bool.noConfusion h, fun h => by have := h.2.1; omega⟩
      · have c6 : ¬ fCnt b < 9 := c5
        refine ⟨_, rfl, b, p_FIRST, 12, 12, rfl, hs_FIRST _, hb, by decide, by decide, _, rfl, _, _, rfl, rfl, _, rfl, _, _, rfl, rfl, cpw (z := fFirst b + fCnt b) (s := fStep b) (by omega) (by omega) (by omega) (by omega), _, _, rfl, rfl, fin (.inr (by omega))⟩
    · have c4 : ¬ 0 < fStep b := c3
      refine ⟨_, rfl, b, p_FIRST, 12, 12, rfl, hs_FIRST _, hb, by decide, by decide, _, rfl, _, _, rfl, rfl, _, rfl, _, _, rfl, rfl, cpw (z := fFirst b + fCnt b) (s := fStep b) (by omega) (by omega) (by omega) (by omega), _, _, rfl, rfl, fin (.inl (by omega))⟩

def sp_is_rights (K : PySem.W.Frag) : Sp := fun vs H Q _ => ∃ v, vs = [v] ∧ Kd H v ∧ ∀ b H', Same H H' → (b = true ↔ ∃ r, v = .str r ∧ r = rtx (hasR r)) → Q (.bl b) H'
theorem ok_is_rights {f : Addr} {fd : FuncData} (F : Fun K "is_rights" "is_rights" s_is_rights f fd) (T : Txt K w mg) : FnOk P w K mg base CX0 1 f fd ["thing"] (sp_is_rights K) := by
  obtain ⟨t_RIGHTS, hc_RIGHTS⟩ := T.c_RIGHTS
  refine F.ok sc_is_rights (fun vs H Q E h => ?_) (fun cdv A outer s H vs Q E hr h => ?_)
  · obtain ⟨v, rfl, hv, q⟩ := h; rfl
  · obtain ⟨v, rfl, hv, q⟩ := h
    refine ⟨_, (pss_one (ps_ret (pe_and (pe_callB call_isi (by rfl) T.z_isinstance (by decide +kernel) (pa_cons (pv 0) (pa_cons (pe_bltn (v := .ty "str") (by rfl) T.z_str (by decide +kernel) rfl) pa_nil))) (pe_one (pe_cmpR op_eq (pv 0) (pe_join pe_str (pe_lc (own := [("sign", 1)]) rfl sc_is_rights.nd (pi_str (pe_glob (v := .str (Str.ofString "rwlsnfxco")) (by rfl) hc_RIGHTS ⟨_, rfl⟩)) (blkOk_by (own := [("sign", 1)]) (N := ["thing", "sign"]) (sc := defScope s_is_rights) (by decide +kernel)) (fun _ _ _ _ _ => (pg_name (i := 1) sc_is_rights.nd rfl (.inl rfl))) (fun _ _ _ _ _ => (pts_one (pt_cmpR op_in_sign (pv 1) (pv 0) (by rfl)))) (fun _ _ _ _ _ => (pv 1)))) (nomark _)))))), ?_⟩
    obtain ⟨t, ty, kt⟩ := hv.str? (K := K)
    refine ⟨_, rfl, _, _, t, _, isS v, rfl, .ty "str", ty, kt, isS v, rfl, ifb (fun e1 => ?_) (fun e1 => ?_)⟩
    · obtain ⟨r, rfl⟩ : ∃ r, v = .str r := by
        cases hv with
        | str r => exact ⟨r, rfl⟩
        | _ => cases e1
      refine ⟨_, rfl, ⟨_, rfl⟩, RT, rfl, fun D hD => ?_⟩
      refine lc_it (walk_str (z := RT)) (fun i H' => Same H H' ∧ H' D = some (.lst ((rcs (hasR r) i).map V.str))) ⟨same_new hD, upd_same⟩ (fun _ _ _ _ => trivial) ?_ ?_
      · rintro i x H1 H2 hi ⟨sm, hl⟩ ⟨rfl, c, hc, rfl⟩
        rw [RT_size] at hi
        rw [RT_get i hi] at hc
        have ec : c = code i := (Option.some.inj hc).symm
        subst ec
        refine ⟨rfl, ?_⟩
        refine ⟨_, rfl, _, rfl, code i, r, rfl, rfl, _, rfl, ifb (fun e => ?_) (fun e => ?_)⟩
        · refine ⟨_, rfl, _, hl, ?_, ?_, ?_⟩
          · rw [List.length_map]
            have := rcs_len (hasR r) i
            exact szn (by omega)
          · exact fun b o e => by
              have n : b ≠ D := ne_of_none e hD
              rw [upd_ne n]; exact sm b o e
          · rw [upd_same, rcs_succ, List.map_append, if_pos (show hasR r i = true from e)]; rfl
        · refine ⟨sm, ?_⟩
          rw [rcs_succ, if_neg (by unfold hasR; rw [e]; exact Bool.false_ne_true), List.append_nil]
          exact hl
      · rintro H1 ⟨sm, hl⟩
        rw [RT_size] at hl
        refine ⟨_, D, _, rfl, rfl, .inl (.of hl), rcs_fit _, rfl, q _ _ sm ?_⟩
        rw [decide_eq_true_iff]
        exact ⟨fun h => ⟨r, rfl, V.str.inj h⟩, fun ⟨r', e, h⟩ => by cases e; exact congrArg V.str h⟩
    · refine q _ _ (Same.refl _) ⟨fun h => Bool.noConfusion h, fun ⟨r', e, h⟩ => by cases e; cases e1⟩

def sp__law_take (K : PySem.W.Frag) : Sp := fun vs H Q _ => ∃ (a : Addr) (x y m : Int), vs = [.ref a, .int m] ∧ Pool H a x y ∧ 0 < m ∧ m < 1073741824 ∧ ∀ r x1 y1, 0 ≤ r → r < m → Pool (upd H a (.lst [.int x1, .int y1])) a x1 y1 → Q (.int r) (upd H a (.lst [.int x1, .int y1]))
theorem ok__law_take {f : Addr} {fd : FuncData} (F : Fun K "_law_take" "_law_take" s__law_take f fd) (T : Txt K w mg) : FnOk P w K mg base CX0 1 f fd ["_law_pool_here", "_law_many"] (sp__law_take K) := by
  refine F.ok sc__law_take (fun vs H Q E h => ?_) (fun cdv A outer s H vs Q E hr h => ?_)
  · obtain ⟨a, x, y, m, rfl, hp, hm, hm2, q⟩ := h; rfl
  · obtain ⟨a, x, y, m, rfl, hp, hm, hm2, q⟩ := h
    refine ⟨_, (pss_cons (ps_if (pt_cmpR op_gt (pe_ix (r := rIxL K) ix_list (pv 0) pe_int (fun _ _ => rfl)) pe_int (nomark _)) (pss_cons (ps_set (i := 2) sc__law_take.nd rfl (.inl rfl) (pe_op op_mod (pe_ix (r := rIxL K) ix_list (pv 0) pe_int (fun _ _ => rfl)) (pv 1)))
      (pss_cons (ps_asg (pe_op op_fdiv (pe_ix (r := rIxL K) ix_list (pv 0) pe_int (fun _ _ => rfl)) (pv 1)) (pg_sub (pv 0) pe_int set_list))
      (pss_one (ps_ret (pv 2))))) pss_nil)
      (pss_cons (ps_asg (pe_op op_mod (pe_op op_add (pe_op op_mul (pe_ix (r := rIxL K) ix_list (pv 0) pe_int (fun _ _ => rfl)) pe_int) pe_int) pe_int) (pg_sub (pv 0) pe_int set_list))
      (pss_one (ps_ret (pe_op op_mod (pe_op op_fdiv (pe_op op_mod (pe_op op_mul (pe_ix (r := rIxL K) ix_list (pv 0) pe_int (fun _ _ => rfl)) (pe_ix (r := rIxL K) ix_list (pv 0) pe_int (fun _ _ => rfl))) pe_int) pe_int) (pv 1)))))), ?_⟩
    obtain ⟨hp, x0, y0, y1⟩ := hp
    refine ⟨_, rfl, a, _, 0, _, rfl, rfl, .of hp, atI_nat (j := 0) rfl, _, _, rfl, rfl, _, rfl, ifd (fun c => ?_) (fun c => ?_)⟩
    · refine ⟨_, rfl, a, _, 0, _, rfl, rfl, .of hp, atI_nat (j := 0) rfl, _, rfl, _, _, rfl, rfl, hm, ?_⟩
      refine ⟨_, rfl, a, _, 0, _, rfl, rfl, .of hp, atI_nat (j := 0) rfl, _, rfl, _, _, rfl, rfl, ⟨hm, hm2⟩, ?_⟩
      refine ⟨_, rfl, a, _, 0, 0, rfl, rfl, hp, rfl, ?_⟩
      refine ⟨_, rfl, q (x % m) (x / m) y (Int.emod_nonneg _ (by omega)) (Int.emod_lt_of_pos _ hm) ⟨upd_same, Int.ediv_nonneg x0 (by omega), y0, y1⟩⟩
    · refine ⟨_, rfl, a, _, 1, _, rfl, rfl, .of hp, atI_nat (j := 1) rfl, _, _, rfl, rfl, .inr ⟨by decide, by decide⟩, _, _, rfl, rfl, _, _, rfl, rfl, (by show (0 : Int) < _; decide), ?_⟩
      refine ⟨_, rfl, a, _, 1, 1, rfl, rfl, hp, rfl, ?_⟩
      have u1 : 0 ≤ (y * 48271 + 11) % 2147483647 := Int.emod_nonneg _ (by decide)
      have u2 : (y * 48271 + 11) % 2147483647 < 2147483647 := Int.emod_lt_of_pos _ (by decide)
      refine ⟨_, rfl, a, _, 1, _, rfl, rfl, .of upd_same, atI_nat (j := 1) rfl, _, rfl, a, _, 1, _, rfl, rfl, .of upd_same, atI_nat (j := 1) rfl, _, _, rfl, rfl, .inl ⟨by omega, by omega⟩, _, _, rfl, rfl, (by show (0 : Int) < _; decide), _, _, rfl, rfl, ⟨by decide, by decide⟩, _, rfl, _, _, rfl, rfl, hm, ?_⟩
      exact q _ x ((y * 48271 + 11) % 2147483647) (Int.emod_nonneg _ (by omega)) (Int.emod_lt_of_pos _ hm) ⟨upd_same, x0, u1, u2⟩

def sp__law_pool (K : PySem.W.Frag) : Sp := fun vs H Q _ => ∃ (a : Addr) (ns : List Int) (k : Nat), vs = [.ref a, .int k] ∧ SqL K H a (ns.map V.int) ∧ ns.length ≤ 63 ∧ k ≤ 63 ∧ ∀ x y p H', Same H H' → H p = none → Pool H' p x y → Q (.ref p) H'
theorem ok__law_pool {f : Addr} {fd : FuncData} (F : Fun K "_law_pool" "_law_pool" s__law_pool f fd) (T : Txt K w mg) : FnOk P w K mg base CX0 1 f fd ["_law_script", "_law_k"] (sp__law_pool K) := by
  refine F.ok sc__law_pool (fun vs H Q E h => ?_) (fun cdv A outer s H vs Q E hr h => ?_)
  · obtain ⟨a, ns, k, rfl, hS, hlen, hk, q⟩ := h; rfl
  · obtain ⟨a, ns, k, rfl, hS, hlen, hk, q⟩ := h
    refine ⟨_, (pss_cons (ps_set (i := 2) sc__law_pool.nd rfl (.inl rfl) (pe_op op_add (pe_op op_mul pe_int (pe_callB (cr_sum rfl) (by rfl) T.z_sum (by decide +kernel) (pa_cons (pe_slice sl_list (pv 0) po_none (po_some pe_int)) pa_nil))) (pv 1)))
      (pss_cons (ps_if (pt_cmpR op_lt (pv 1) (pe_callB call_len_seq (by rfl) T.z_len (by decide +kernel) (pa_cons (pv 0) pa_nil)) (nomark _)) (pss_one (ps_set (i := 2) sc__law_pool.nd rfl (.inl rfl) (pe_ix (r := rIxL K) ix_list (pv 0) (pv 1) (fun _ _ => rfl)))) pss_nil)
      (pss_cons (ps_set (i := 3) sc__law_pool.nd rfl (.inl rfl) (pe_callB call_abs (by rfl) T.z_abs (by decide +kernel) (pa_cons (pv 2) pa_nil)))
      (pss_cons (ps_set (i := 4) sc__law_pool.nd rfl (.inl rfl) (pe_op op_mod (pe_op op_mul (pe_op op_add (pe_op op_add (pe_op op_add (pe_op op_mod (pv 3) pe_int) (pe_op op_mul (pe_op op_mul pe_int (pv 1)) (pv 1))) (pe_op op_mul pe_int (pv 1))) pe_int) pe_int) pe_int))
      (pss_one (ps_ret (pe_lst (pa_cons (pe_op op_mul (pv 3) (pe_callTy call_int1 (by rfl) T.z_int (by decide +kernel) (pa_cons (pe_cmpR op_ge (pv 3) (pe_op op_pow pe_int pe_int) (nomark _)) pa_nil))) (pa_cons (pe_op op_mod (pe_op op_mul (pv 4) (pv 4)) pe_int) pa_nil))))))))), ?_⟩
    refine ⟨_, rfl, _, rfl, a, _, rfl, hS, fun p hp => ?_⟩
    have s1 : Same H (upd H p (.lst (cutV (ns.map V.int) none (some 63)))) := same_new hp
    have hS1 : SqL K (upd H p (.lst (cutV (ns.map V.int) none (some 63)))) a (ns.map V.int) := s1.seq hS
    refine ⟨p, ns, rfl, .of (by rw [upd_same, cut63 hlen]), _, _, rfl, rfl, .inl ⟨by decide, by decide⟩, _, rfl, _, _, rfl, rfl, ?_⟩
    refine ⟨_, rfl, _, rfl, a, _, rfl, .inl hS1, _, _, rfl, rfl, _, rfl, ifd (fun c => ?_) (fun c => ?_)⟩
    · rw [List.length_map] at c
      have hk2 : k < ns.length := by omega
      refine ⟨_, rfl, _, rfl, a, _, (k : Int), .int ns[k], rfl, rfl, hS1, atI_nat (by rw [List.getElem?_map, List.getElem?_eq_getElem hk2]; rfl), ?_⟩
      refine ⟨_, rfl, _, rfl, ?_⟩
      refine ⟨_, rfl, _, _, rfl, rfl, (by show (0 : Int) < _; decide), _, rfl, _, _, rfl, rfl, .inl ⟨by decide, by decide⟩, _, rfl, _, _, rfl, rfl, .inr ⟨by omega, by omega⟩, _, _, rfl, rfl, _, rfl, _, _, rfl, rfl, .inl ⟨by decide, by decide⟩, _, _, rfl, rfl, _, _, rfl, rfl, _, _, rfl, rfl, .inr ⟨by decide, by decide⟩, _, _, rfl, rfl, (by show (0 : Int) < _; decide), ?_⟩
      refine ⟨_, rfl, _, rfl, _, _, rfl, rfl, ⟨by decide, by decide, by decide⟩, _, _, rfl, rfl, .inr ⟨_, rfl, _, _, rfl, rfl, .inr (b01 _), ?_⟩⟩
      refine ⟨_, rfl, _, rfl, _, _, rfl, rfl, .inl (mixb _), _, _, rfl, rfl, (by show (0 : Int) < _; decide), sz (by simp), fun p2 hp2 => ?_⟩
      exact q _ _ p2 _ (sameN s1 hp2) (Same.free s1 hp2) ⟨upd_same, sizeb _ _, Int.emod_nonneg _ (by decide), Int.lt_trans (Int.emod_lt_of_pos _ (by decide)) (by decide)⟩
    · refine ⟨_, rfl, _, rfl, ?_⟩
      refine ⟨_, rfl, _, _, rfl, rfl, (by show (0 : Int) < _; decide), _, rfl, _, _, rfl, rfl, .inl ⟨by decide, by decide⟩, _, rfl, _, _, rfl, rfl, .inr ⟨by omega, by omega⟩, _, _, rfl, rfl, _, rfl, _, _, rfl, rfl, .inl ⟨by decide, by decide⟩, _, _, rfl, rfl, _, _, rfl, rfl, _, _, rfl, rfl, .inr ⟨by decide, by decide⟩, _, _, rfl, rfl, (by show (0 : Int) < _; decide), ?_⟩
      refine ⟨_, rfl, _, rfl, _, _, rfl, rfl, ⟨by decide, by decide, by decide⟩, _, _, rfl, rfl, .inr ⟨_, rfl, _, _, rfl, rfl, .inr (b01 _), ?_⟩⟩
      refine ⟨_, rfl, _, rfl, _, _, rfl, rfl, .inl (mixb _), _, _, rfl, rfl, (by show (0 : Int) < _; decide), sz (by simp), fun p2 hp2 => ?_⟩
      exact q _ _ p2 _ (sameN s1 hp2) (Same.free s1 hp2) ⟨upd_same, sizeb _ _, Int.emod_nonneg _ (by decide), Int.lt_trans (Int.emod_lt_of_pos _ (by decide)) (by decide)⟩

def sp_is_word (K : PySem.W.Frag) : Sp := fun vs H Q _ => ∃ v, vs = [v] ∧ ((∃ p xs, v = .ref p ∧ H p = some (.tup xs) ∧ (∀ x ∈ xs, Kd H x) ∧ ∀ b, (b = true ↔ ∃ m n, xs = [.bl m, .int n] ∧ W45 n) → Q (.bl b) H) ∨ (NoT H v ∧ Q (.bl false) H))
theorem ok_is_word {f : Addr} {fd : FuncData} (F : Fun K "is_word" "is_word" s_is_word f fd) (T : Txt K w mg) (C_is_whole : Cal P w K mg base "is_whole" 1 ["thing", "least", "most"] (sp_is_whole K)) : FnOk P w K mg base CX0 2 f fd ["thing"] (sp_is_word K) := by
  obtain ⟨t_WORTHS, hc_WORTHS⟩ := T.c_WORTHS
  refine F.ok sc_is_word (fun vs H Q E h => ?_) (fun cdv A outer s H vs Q E hr h => ?_)
  · obtain ⟨v, rfl, q⟩ := h; rfl
  · obtain ⟨v, rfl, q⟩ := h
    refine ⟨_, (pss_cons (ps_if (PW.pt (pw_or (pt_not (pt_val (pe_callB call_isi (by rfl) T.z_isinstance (by decide +kernel) (pa_cons (pv 0) (pa_cons (pe_bltn (v := .ty "tuple") (by rfl) T.z_tuple (by decide +kernel) rfl) pa_nil))))) (pw_or1 (pt_cmpR op_ne (pe_callB call_len_seq (by rfl) T.z_len (by decide +kernel) (pa_cons (pv 0) pa_nil)) pe_int (nomark _))))) (pss_one (ps_ret pe_bl)) pss_nil)
      (pss_cons (ps_asg (pv 0) (pg_tup rfl (pgs_cons (pg_name (i := 1) sc_is_word.nd rfl (.inl rfl)) (pgs_cons (pg_name (i := 2) sc_is_word.nd rfl (.inl rfl)) pgs_nil))))
      (pss_one (ps_ret (pe_and (pe_callB call_isi (by rfl) T.z_isinstance (by decide +kernel) (pa_cons (pv 1) (pa_cons (pe_bltn (v := .ty "bool") (by rfl) T.z_bool (by decide +kernel) rfl) pa_nil))) (pe_one (pe_cal C_is_whole (hr.mono (by decide)) (pa_cons (pv 2) (pa_cons pe_int (pa_cons (pe_op op_sub (pe_glob (v := .int 35184372088832) (by rfl) hc_WORTHS ⟨_, rfl⟩) pe_int) pa_nil)))))))))), ?_⟩
    rcases q with ⟨p, xs, rfl, hp, hk, q⟩ | ⟨nt, q⟩
    · refine ⟨_, rfl, _, _, _, _, true, rfl, .ty "tuple", .base (.tup hp), kit_ty (by decide +kernel), true, rfl, ?_⟩
      refine ⟨_, rfl, p, _, rfl, .inr (.of hp), rfl, _, rfl, ifnd (fun c => ?_) (fun c => ?_)⟩
      · show Q (.bl false) H
        refine q _ ⟨fun h => Bool.noConfusion h, fun ⟨m, n, e, _⟩ => ?_⟩
        subst e
        exact absurd rfl c
      have h2 : xs.length = 2 := by
        have := V.int.inj c
        omega
      obtain ⟨x1, x2, rfl⟩ : ∃ x1 x2, xs = [x1, x2] := match xs, h2 with
        | [a, b], _ => ⟨a, b, rfl⟩
      refine ⟨_, rfl, p, _, rfl, .of hp, rfl, _, _, rfl, _, _, rfl, rfl, ?_⟩
      obtain ⟨t, ty, kt⟩ := (hk x1 (by simp)).bool? (K := K)
      refine ⟨_, rfl, _, _, t, _, isB x1, rfl, .ty "bool", ty, kt, isB x1, rfl, ifb (fun e1 => ?_) (fun e1 => ?_)⟩
      · obtain ⟨m, rfl⟩ : ∃ m, x1 = .bl m := by
          cases x1 with
          | bl m => exact ⟨m, rfl⟩
          | _ => cases e1
        refine ⟨_, rfl, _, _, rfl, rfl, x2, _, _, rfl, hk x2 (by simp), fun b hb => q _ ?_⟩
        rw [hb]
        constructor
        · rintro ⟨n, rfl, h0, h1⟩
          exact ⟨m, n, rfl, h0, by omega⟩
        · rintro ⟨m', n, e, h0, h1⟩
          injection e with _ e
          injection e with e _
          exact ⟨n, e, h0, by omega⟩
      · refine q _ ⟨fun h => Bool.noConfusion h, fun ⟨m, n, e, _⟩ => ?_⟩
        injection e with e _
        subst e
        cases e1
    · obtain ⟨t, ty, kt⟩ := nt.tup? (K := K)
      refine ⟨_, rfl, _, _, t, _, false, rfl, .ty "tuple", ty, kt, false, rfl, ?_⟩
      exact q

def sp__may_be_marked (K : PySem.W.Frag) : Sp := fun vs H Q _ => ∃ n, vs = [.int n] ∧ 0 ≤ n ∧ ∀ b H', Same H H' → (b = true ↔ Law n) → Q (.bl b) H'
theorem ok__may_be_marked {f : Addr} {fd : FuncData} (F : Fun K "_may_be_marked" "_may_be_marked" s__may_be_marked f fd) (T : Txt K w mg) (C__lead_one_way : Cal P w K mg base "_lead_one_way" 2 ["rights"] (sp__lead_one_way K)) (C_rights_in : Cal P w K mg base "rights_in" 2 ["bits"] (sp_rights_in K)) (C__tell : Cal P w K mg base "_tell" 2 ["bits"] (sp__tell K)) : FnOk P w K mg base CX0 3 f fd ["bits"] (sp__may_be_marked K) := by
  refine F.ok sc__may_be_marked (fun vs H Q E h => ?_) (fun cdv A outer s H vs Q E hr h => ?_)
  · obtain ⟨n, rfl, hn, q⟩ := h; rfl
  · obtain ⟨n, rfl, hn, q⟩ := h
    refine ⟨_, (pss_one (ps_ret (pe_and (pe_cal C__tell (hr.mono (by decide)) (pa_cons (pv 0) pa_nil)) (pe_one (pe_cal C__lead_one_way (hr.mono (by decide)) (pa_cons (pe_cal C_rights_in (hr.mono (by decide)) (pa_cons (pv 0) pa_nil)) pa_nil)))))), ?_⟩
    refine ⟨_, rfl, n, rfl, hn, fun c hc => ⟨_, rfl, ifb (fun e => ?_) (fun e => ?_)⟩⟩
    · refine ⟨_, rfl, n, rfl, hn, fun H1 s1 => ⟨_, rfl, fun H2 s2 => q _ _ (s1.trans s2) ?_⟩⟩
      rw [decide_eq_true_iff]
      exact ⟨fun h => ⟨hc.mp e, h⟩, fun h => h.2⟩
    · exact q _ _ (Same.refl _) ⟨fun h => Bool.noConfusion h, fun h => by rw [hc.mpr h.1] at e; cases e⟩

def sp_is_lawful (K : PySem.W.Frag) : Sp := fun vs H Q _ => ∃ v, vs = [v] ∧ ((∃ p xs, v = .ref p ∧ H p = some (.tup xs) ∧ (∀ x ∈ xs, Kd H x) ∧ ∀ b H', Same H H' → (b = true ↔ ∃ m n, xs = [.bl m, .int n] ∧ W45 n ∧ (m = true → Law n)) → Q (.bl b) H') ∨ (NoT H v ∧ ∀ H', Same H H' → Q (.bl false) H'))
theorem ok_is_lawful {f : Addr} {fd : FuncData} (F : Fun K "is_lawful" "is_lawful" s_is_lawful f fd) (T : Txt K w mg) (C_is_word : Cal P w K mg base "is_word" 2 ["thing"] (sp_is_word K)) (C__may_be_marked : Cal P w K mg base "_may_be_marked" 3 ["bits"] (sp__may_be_marked K)) : FnOk P w K mg base CX0 4 f fd ["thing"] (sp_is_lawful K) := by
  refine F.ok sc_is_lawful (fun vs H Q E h => ?_) (fun cdv A outer s H vs Q E hr h => ?_)
  · obtain ⟨v, rfl, q⟩ := h; rfl
  · obtain ⟨v, rfl, q⟩ := h
    refine ⟨_, (pss_cons (ps_if (pt_not (pt_val (pe_cal C_is_word (hr.mono (by decide)) (pa_cons (pv 0) pa_nil)))) (pss_one (ps_ret pe_bl)) pss_nil)
      (pss_cons (ps_asg (pv 0) (pg_tup rfl (pgs_cons (pg_name (i := 1) sc_is_lawful.nd rfl (.inl rfl)) (pgs_cons (pg_name (i := 2) sc_is_lawful.nd rfl (.inl rfl)) pgs_nil))))
      (pss_one (ps_ret (pe_or (pe_not (pv 1)) (pe_one (pe_cal C__may_be_marked (hr.mono (by decide)) (pa_cons (pv 2) pa_nil)))))))), ?_⟩
    rcases q with ⟨p, xs, rfl, hp, hk, q⟩ | ⟨nt, q⟩
    · refine ⟨_, rfl, _, rfl, .inl ⟨p, xs, rfl, hp, hk, fun b hb => ⟨_, rfl, ifnb (fun e => ?_) (fun e => ?_)⟩⟩⟩
      · show Q (.bl false) H
        refine q _ _ (Same.refl _) ⟨fun h => Bool.noConfusion h, fun ⟨m, n, e1, e2, _⟩ => ?_⟩
        rw [hb.mpr ⟨m, n, e1, e2⟩] at e; cases e
      obtain ⟨m, n, rfl, hw⟩ := hb.mp e
      refine ⟨_, rfl, p, _, rfl, .of hp, rfl, _, _, rfl, _, _, rfl, rfl, ?_⟩
      refine ⟨_, rfl, m, rfl, !m, rfl, ?_⟩
      cases m with
      | false =>
        show Q (.bl true) H
        exact q _ _ (Same.refl _) ⟨fun _ => ⟨false, n, rfl, hw, fun h => Bool.noConfusion h⟩, fun _ => rfl⟩
      | true =>
        refine ⟨_, rfl, n, rfl, hw.1, fun c H1 s1 hc => q _ _ s1 ?_⟩
        rw [hc]
        constructor
        · intro h
          exact ⟨true, n, rfl, hw, fun _ => h⟩
        · rintro ⟨m', n', e2, _, h⟩
          injection e2 with e3 e2
          injection e2 with e2 _
          cases e2
          cases e3
          exact h rfl
    · refine ⟨_, rfl, _, rfl, .inr ⟨nt, ⟨_, rfl, ?_⟩⟩⟩
      show Q (.bl false) H
      exact q _ (Same.refl _)

def sp__law_bits (K : PySem.W.Frag) : Sp := fun vs H Q _ => ∃ a f c s r k, vs = [.int a, .int f, .int c, .int s, .int r, .int k] ∧ BW f ∧ BW (c - 1) ∧ BW s ∧ BW r ∧ BW k ∧ Q (.int (a + f * 4096 + (c - 1) * 16777216 + s * 268435456 + r * 4294967296 + k * 2199023255552)) H
theorem ok__law_bits {f : Addr} {fd : FuncData} (F : Fun K "_law_bits" "_law_bits" s__law_bits f fd) (T : Txt K w mg) : FnOk P w K mg base CX0 1 f fd ["_law_at", "_law_first", "_law_count", "_law_step", "_law_rights", "_law_kind"] (sp__law_bits K) := by
  refine F.ok sc__law_bits (fun vs H Q E h => ?_) (fun cdv A outer s H vs Q E hr h => ?_)
  · obtain ⟨a, f1, c, s1, r, k, rfl, bf, bc, bs, br, bk, q⟩ := h; rfl
  · obtain ⟨a, f1, c, s1, r, k, rfl, bf, bc, bs, br, bk, q⟩ := h
    refine ⟨_, (pss_one (ps_ret (pe_op op_add (pe_op op_add (pe_op op_add (pe_op op_add (pe_op op_add (pv 0) (pe_op op_shl (pv 1) pe_int)) (pe_op op_shl (pe_op op_sub (pv 2) pe_int) pe_int)) (pe_op op_shl (pv 3) pe_int)) (pe_op op_shl (pv 4) pe_int)) (pe_op op_shl (pv 5) pe_int)))), ?_⟩
    refine ⟨_, rfl, _, rfl, _, _, rfl, rfl, cpw bf.1 bf.2 (by decide) (by decide), _, _, rfl, rfl, _, rfl, _, _, rfl, rfl, _, _, rfl, rfl, cpw bc.1 bc.2 (by decide) (by decide), _, _, rfl, rfl, _, rfl, _, _, rfl, rfl, cpw bs.1 bs.2 (by decide) (by decide), _, _, rfl, rfl, _, rfl, _, _, rfl, rfl, cpw br.1 br.2 (by decide) (by decide), _, _, rfl, rfl, _, rfl, _, _, rfl, rfl, cpw bk.1 bk.2 (by decide) (by decide), _, _, rfl, rfl, q⟩

def sp__law_mask (K : PySem.W.Frag) : Sp := fun vs H Q _ => ∃ (a : Addr) (x y : Int), vs = [.ref a] ∧ Pool H a x y ∧ ∀ r x1 y1 H', 0 ≤ r → r < 512 → But a H H' → Pool H' a x1 y1 → Q (.int r) H'
theorem ok__law_mask {f : Addr} {fd : FuncData} (F : Fun K "_law_mask" "_law_mask" s__law_mask f fd) (T : Txt K w mg) (C__law_take : Cal P w K mg base "_law_take" 1 ["_law_pool_here", "_law_many"] (sp__law_take K)) : FnOk P w K mg base CX0 2 f fd ["_law_pool_here"] (sp__law_mask K) := by
  refine F.ok sc__law_mask (fun vs H Q E h => ?_) (fun cdv A outer s H vs Q E hr h => ?_)
  · obtain ⟨a, x, y, rfl, hP, q⟩ := h; rfl
  · obtain ⟨a, x, y, rfl, hP, q⟩ := h
    refine ⟨_, (pss_cons (ps_set (i := 1) sc__law_mask.nd rfl (.inl rfl) (pe_op op_mul pe_int (pe_cal C__law_take (hr.mono (by decide)) (pa_cons (pv 0) (pa_cons pe_int pa_nil)))))
      (pss_cons (ps_set (i := 2) sc__law_mask.nd rfl (.inl rfl) (pe_lst (pa_cons (pe_op op_add (pe_cal C__law_take (hr.mono (by decide)) (pa_cons (pv 0) (pa_cons pe_int pa_nil))) (pv 1)) (pa_cons (pe_op op_add pe_int (pv 1)) (pa_cons (pe_op op_add (pv 1) (pe_op op_mul pe_int (pe_op op_add pe_int (pe_cal C__law_take (hr.mono (by decide)) (pa_cons (pv 0) (pa_cons pe_int pa_nil)))))) (pa_cons (pe_cal C__law_take (hr.mono (by decide)) (pa_cons (pv 0) (pa_cons pe_int pa_nil))) pa_nil))))))
      (pss_one (ps_ret (pe_ix (r := rIxL K) ix_list (pv 2) (pe_cal C__law_take (hr.mono (by decide)) (pa_cons (pv 0) (pa_cons pe_int pa_nil))) (fun _ _ => rfl)))))), ?_⟩
    refine ⟨_, rfl, a, x, y, _, rfl, hP, by decide, by decide, fun r1 x1 y1 r10 r11 P1 => ⟨_, _, rfl, rfl, .inl ⟨by decide, by decide⟩, ?_⟩⟩
    refine ⟨_, rfl, a, x1, y1, _, rfl, P1, by decide, by decide, fun r2 x2 y2 r20 r21 P2 => ⟨_, rfl, _, _, rfl, rfl, _, rfl, _, _, rfl, rfl, _, rfl, ?_⟩⟩
    refine ⟨_, rfl, a, x2, y2, _, rfl, P2, by decide, by decide, fun r3 x3 y3 r30 r31 P3 => ⟨_, _, rfl, rfl, _, _, rfl, rfl, .inl ⟨by decide, by decide⟩, _, _, rfl, rfl, ?_⟩⟩
    refine ⟨_, rfl, a, x3, y3, _, rfl, P3, by decide, by decide, fun r4 x4 y4 r40 r41 P4 => ⟨sz (by simp), fun q1 hq1 => ?_⟩⟩
    refine ⟨_, rfl, _, rfl, a, x4, y4, _, rfl, P4.new hq1, by decide, by decide, fun r5 x5 y5 r50 r51 P5 => ?_⟩
    have n1 : q1 ≠ a := (ne_of_none P4.1 hq1).symm
    obtain ⟨lv, hv, z, rfl, z0, z1⟩ := pick (xs := [.int (r2 + 32 * r1), .int (64 + 32 * r1), .int (32 * r1 + 128 * (1 + r3)), .int r4]) (fun v => ∃ z, v = .int z ∧ 0 ≤ z ∧ z < 512) r50 r51 (by
      intro v hv
      simp at hv
      rcases hv with h | h | h | h <;> exact ⟨_, h, by omega, by omega⟩)
    refine ⟨q1, _, _, _, rfl, rfl, .of (by rw [upd_ne n1, upd_same]), hv, ?_⟩
    exact q z x5 y5 _ z0 z1 (But.upd (But.new (But.upd (But.upd (But.upd (But.upd (But.refl _ _))))) hq1)) P5

def sp__law_drawn (K : PySem.W.Frag) : Sp := fun vs H Q _ => ∃ (a : Addr) (x y : Int), vs = [.ref a] ∧ Pool H a x y ∧ ∀ r x1 y1 H', W45 r → But a H H' → Pool H' a x1 y1 → Q (.int r) H'
theorem ok__law_drawn {f : Addr} {fd : FuncData} (F : Fun K "_law_drawn" "_law_drawn" s__law_drawn f fd) (T : Txt K w mg) (C__law_take : Cal P w K mg base "_law_take" 1 ["_law_pool_here", "_law_many"] (sp__law_take K)) (C__law_bits : Cal P w K mg base "_law_bits" 1 ["_law_at", "_law_first", "_law_count", "_law_step", "_law_rights", "_law_kind"] (sp__law_bits K)) (C__law_mask : Cal P w K mg base "_law_mask" 2 ["_law_pool_here"] (sp__law_mask K)) : FnOk P w K mg base CX0 3 f fd ["_law_pool_here"] (sp__law_drawn K) := by
  refine F.ok sc__law_drawn (fun vs H Q E h => ?_) (fun cdv A outer s H vs Q E hr h => ?_)
  · obtain ⟨a, x, y, rfl, hP, q⟩ := h; rfl
  · obtain ⟨a, x, y, rfl, hP, q⟩ := h
    refine ⟨_, (pss_cons (ps_set (i := 1) sc__law_drawn.nd rfl (.inl rfl) (pe_ix (r := rIxL K) ix_list (pe_lst (pa_cons pe_int (pa_cons pe_int (pa_cons pe_int (pa_cons pe_int (pa_cons pe_int (pa_cons pe_int (pa_cons pe_int (pa_cons pe_int (pa_cons pe_int (pa_cons pe_int (pa_cons pe_int (pa_cons pe_int pa_nil))))))))))))) (pe_cal C__law_take (hr.mono (by decide)) (pa_cons (pv 0) (pa_cons pe_int pa_nil))) (fun _ _ => rfl)))
      (pss_cons (ps_set (i := 2) sc__law_drawn.nd rfl (.inl rfl) (pe_ix (r := rIxL K) ix_list (pe_lst (pa_cons (pe_op op_add pe_int (pe_cal C__law_take (hr.mono (by decide)) (pa_cons (pv 0) (pa_cons pe_int pa_nil)))) (pa_cons (pe_op op_add pe_int (pe_cal C__law_take (hr.mono (by decide)) (pa_cons (pv 0) (pa_cons pe_int pa_nil)))) (pa_cons pe_int (pa_cons pe_int (pa_cons pe_int pa_nil)))))) (pe_cal C__law_take (hr.mono (by decide)) (pa_cons (pv 0) (pa_cons pe_int pa_nil))) (fun _ _ => rfl)))
      (pss_cons (ps_set (i := 3) sc__law_drawn.nd rfl (.inl rfl) (pe_callB (call_max2 rfl) (by rfl) T.z_max (by decide +kernel) (pa_cons pe_int (pa_cons (pe_op op_add (pe_op op_sub (pe_op op_shr pe_int (pe_callB (call_min2 rfl) (by rfl) T.z_min (by decide +kernel) (pa_cons (pv 1) (pa_cons pe_int pa_nil)))) (pv 2)) pe_int) pa_nil))))
      (pss_cons (ps_set (i := 4) sc__law_drawn.nd rfl (.inl rfl) (pe_op op_mod (pe_ix (r := rIxL K) ix_list (pe_lst (pa_cons (pe_cal C__law_take (hr.mono (by decide)) (pa_cons (pv 0) (pa_cons (pv 3) pa_nil))) (pa_cons (pe_cal C__law_take (hr.mono (by decide)) (pa_cons (pv 0) (pa_cons pe_int pa_nil))) (pa_cons (pe_op op_sub (pv 3) pe_int) (pa_cons (pv 3) pa_nil))))) (pe_cal C__law_take (hr.mono (by decide)) (pa_cons (pv 0) (pa_cons pe_int pa_nil))) (fun _ _ => rfl)) pe_int))
      (pss_cons (ps_set (i := 5) sc__law_drawn.nd rfl (.inl rfl) (pe_ix (r := rIxL K) ix_list (pe_lst (pa_cons pe_int (pa_cons pe_int (pa_cons pe_int (pa_cons pe_int (pa_cons pe_int (pa_cons (pe_cal C__law_take (hr.mono (by decide)) (pa_cons (pv 0) (pa_cons pe_int pa_nil))) pa_nil))))))) (pe_cal C__law_take (hr.mono (by decide)) (pa_cons (pv 0) (pa_cons pe_int pa_nil))) (fun _ _ => rfl)))
      (pss_cons (ps_set (i := 6) sc__law_drawn.nd rfl (.inl rfl) (pe_ix (r := rIxL K) ix_list (pe_lst (pa_cons (pe_cal C__law_take (hr.mono (by decide)) (pa_cons (pv 0) (pa_cons pe_int pa_nil))) (pa_cons (pe_op op_and (pe_op op_shl (pv 4) (pe_callB (call_min2 rfl) (by rfl) T.z_min (by decide +kernel) (pa_cons (pv 1) (pa_cons pe_int pa_nil)))) pe_int) (pa_cons pe_int pa_nil)))) (pe_cal C__law_take (hr.mono (by decide)) (pa_cons (pv 0) (pa_cons pe_int pa_nil))) (fun _ _ => rfl)))
      (pss_one (ps_ret (pe_cal C__law_bits (hr.mono (by decide)) (pa_cons (pv 6) (pa_cons (pv 4) (pa_cons (pv 2) (pa_cons (pv 1) (pa_cons (pe_cal C__law_mask (hr.mono (by decide)) (pa_cons (pv 0) pa_nil)) (pa_cons (pv 5) pa_nil))))))))))))))), ?_⟩
    refine ⟨sz (by simp), fun q1 hq1 => ?_⟩
    refine ⟨_, rfl, a, x, y, _, rfl, hP.new hq1, by decide, by decide, fun r1 x1 y1 r10 r11 P1 => ?_⟩
    have n1 : q1 ≠ a := (ne_of_none hP.1 hq1).symm
    obtain ⟨v1, hv1, st, rfl, st0, st1⟩ := pick (xs := [.int 0, .int 0, .int 1, .int 2, .int 3, .int 4, .int 5, .int 6, .int 7, .int 8, .int 9, .int 15]) (fun v => ∃ z, v = .int z ∧ 0 ≤ z ∧ z ≤ 15) r10 r11 (by
      intro v hv
      simp at hv
      rcases hv with h | h | h | h | h | h | h | h | h | h | h <;> exact ⟨_, h, by omega, by omega⟩)
    refine ⟨q1, _, _, _, rfl, rfl, .of (by rw [upd_ne n1, upd_same]), hv1, ?_⟩
    have B1 := But.upd (o := .lst [.int x1, .int y1]) (But.new (o := .lst [.int 0, .int 0, .int 1, .int 2, .int 3, .int 4, .int 5, .int 6, .int 7, .int 8, .int 9, .int 15]) (But.refl a H) hq1)
    generalize eH1 : upd (upd H q1 _) a _ = H1 at P1 B1 ⊢
    clear eH1 hv1 n1 hq1 hP
    refine ⟨_, rfl, a, x1, y1, _, rfl, P1, by decide, by decide, fun r2 x2 y2 r20 r21 P2 => ⟨_, _, rfl, rfl, ?_⟩⟩
    refine ⟨_, rfl, a, x2, y2, _, rfl, P2, by decide, by decide, fun r3 x3 y3 r30 r31 P3 => ⟨_, _, rfl, rfl, sz (by simp), fun q2 hq2 => ?_⟩⟩
    refine ⟨_, rfl, a, x3, y3, _, rfl, P3.new hq2, by decide, by decide, fun r4 x4 y4 r40 r41 P4 => ?_⟩
    have n2 : q2 ≠ a := (ne_of_none P3.1 hq2).symm
    obtain ⟨v2, hv2, ct, rfl, ct0, ct1⟩ := pick (xs := [.int (1 + r2), .int (9 + r3), .int 9, .int 16, .int 8]) (fun v => ∃ z, v = .int z ∧ 1 ≤ z ∧ z ≤ 16) r40 r41 (by
      intro v hv
      simp at hv
      rcases hv with h | h | h | h | h <;> exact ⟨_, h, by omega, by omega⟩)
    refine ⟨q2, _, _, _, rfl, rfl, .of (by rw [upd_ne n2, upd_same]), hv2, ?_⟩
    have B2 := But.upd (o := .lst [.int x4, .int y4]) (But.new (o := .lst [.int (1 + r2), .int (9 + r3), .int 9, .int 16, .int 8]) (But.upd (o := .lst [.int x3, .int y3]) (But.upd (o := .lst [.int x2, .int y2]) B1)) hq2)
    generalize eH2 : upd (upd (upd (upd H1 a _) a _) q2 _) a _ = H2 at P4 B2 ⊢
    clear eH2 hv2 n2 hq2 P1 P2 P3 B1
    obtain ⟨sm, esm, sm0, sm1⟩ : ∃ sm : Int, sm = (if 8 < st then 8 else st) ∧ 0 ≤ sm ∧ sm ≤ 8 := ⟨_, rfl, by split <;> omega, by split <;> omega⟩
    refine ⟨_, rfl, _, _, rfl, ?_⟩
    rw [← esm]
    refine ⟨_, _, rfl, rfl, sm0, _, rfl, _, _, rfl, rfl, _, _, rfl, rfl, _, _, rfl, ?_⟩
    have dv : 0 ≤ 4096 / (2 : Int) ^ sm.toNat ∧ 4096 / (2 : Int) ^ sm.toNat ≤ 4096 := div_le' (by decide)
    obtain ⟨wd, ewd, wd0, wd1⟩ : ∃ wd : Int, wd = (if 4096 / (2 : Int) ^ sm.toNat - ct + 1 > 1 then 4096 / (2 : Int) ^ sm.toNat - ct + 1 else 1) ∧ 1 ≤ wd ∧ wd ≤ 4096 := ⟨_, rfl, by split <;> omega, by split <;> omega⟩
    rw [← ewd]
    refine ⟨_, rfl, _, rfl, a, x4, y4, _, rfl, P4, by omega, by omega, fun r5 x5 y5 r50 r51 P5 => ?_⟩
    refine ⟨_, rfl, a, x5, y5, _, rfl, P5, by decide, by decide, fun r6 x6 y6 r60 r61 P6 => ⟨_, rfl, _, _, rfl, rfl, _, rfl, sz (by simp), fun q3 hq3 => ?_⟩⟩
    refine ⟨_, rfl, a, x6, y6, _, rfl, P6.new hq3, by decide, by decide, fun r7 x7 y7 r70 r71 P7 => ?_⟩
    have n3 : q3 ≠ a := (ne_of_none P6.1 hq3).symm
    obtain ⟨v3, hv3, fi', rfl, fi0', fi1'⟩ := pick (xs := [.int r5, .int r6, .int (wd - 1), .int wd]) (fun v => ∃ z, v = .int z ∧ 0 ≤ z ∧ z ≤ 4096) r70 r71 (by
      intro v hv
      simp at hv
      rcases hv with h | h | h | h <;> exact ⟨_, h, by omega, by omega⟩)
    refine ⟨q3, _, _, _, rfl, rfl, .of (by rw [upd_ne n3, upd_same]), hv3, _, _, rfl, rfl, (by show (0 : Int) < _; decide), ?_⟩
    have fi0 : 0 ≤ fi' % 4096 := by omega
    have fi1 : fi' % 4096 ≤ 4095 := by omega
    have B3 := But.upd (o := .lst [.int x7, .int y7]) (But.new (o := .lst [.int r5, .int r6, .int (wd - 1), .int wd]) (But.upd (o := .lst [.int x6, .int y6]) (But.upd (o := .lst [.int x5, .int y5]) B2)) hq3)
    generalize eH3 : upd (upd (upd (upd H2 a _) a _) q3 _) a _ = H3 at P7 B3 ⊢
    clear eH3 hv3 n3 hq3 P4 P5 P6 B2
    refine ⟨_, rfl, a, x7, y7, _, rfl, P7, by decide, by decide, fun r8 x8 y8 r80 r81 P8 => ⟨sz (by simp), fun q4 hq4 => ?_⟩⟩
    refine ⟨_, rfl, a, x8, y8, _, rfl, P8.new hq4, by decide, by decide, fun r9 x9 y9 r90 r91 P9 => ?_⟩
    have n4 : q4 ≠ a := (ne_of_none P8.1 hq4).symm
    obtain ⟨v4, hv4, kd, rfl, kd0, kd1⟩ := pick (xs := [.int 0, .int 0, .int 1, .int 2, .int 3, .int r8]) (fun v => ∃ z, v = .int z ∧ 0 ≤ z ∧ z ≤ 15) r90 r91 (by
      intro v hv
      simp at hv
      rcases hv with h | h | h | h | h <;> exact ⟨_, h, by omega, by omega⟩)
    refine ⟨q4, _, _, _, rfl, rfl, .of (by rw [upd_ne n4, upd_same]), hv4, ?_⟩
    have B4 := But.upd (o := .lst [.int x9, .int y9]) (But.new (o := .lst [.int 0, .int 0, .int 1, .int 2, .int 3, .int r8]) (But.upd (o := .lst [.int x8, .int y8]) B3) hq4)
    generalize eH4 : upd (upd (upd H3 a _) q4 _) a _ = H4 at P9 B4 ⊢
    clear eH4 hv4 n4 hq4 P7 P8 B3
    refine ⟨_, rfl, a, x9, y9, _, rfl, P9, by decide, by decide, fun ra xa ya ra0 ra1 Pa => ⟨_, rfl, _, rfl, _, _, rfl, ?_⟩⟩
    rw [← esm]
    have fpos : 0 ≤ fi' % 4096 * 2 ^ sm.toNat := Int.mul_nonneg fi0 (Int.le_of_lt (pow_pos2 _))
    refine ⟨_, _, rfl, rfl, cpw fi0 (by omega) sm0 (by omega), _, _, rfl, rfl, sz (by simp), fun q5 hq5 => ?_⟩
    have eand : Builtin.bitAnd (fi' % 4096 * 2 ^ sm.toNat) 4095 = fi' % 4096 * 2 ^ sm.toNat % 4096 := Bits.bitAnd_mask 12 fpos
    have an0 : 0 ≤ Builtin.bitAnd (fi' % 4096 * 2 ^ sm.toNat) 4095 := by rw [eand]; omega
    have an1 : Builtin.bitAnd (fi' % 4096 * 2 ^ sm.toNat) 4095 ≤ 4095 := by rw [eand]; omega
    refine ⟨_, rfl, a, xa, ya, _, rfl, Pa.new hq5, by decide, by decide, fun rb xb yb rb0 rb1 Pb => ?_⟩
    have n5 : q5 ≠ a := (ne_of_none Pa.1 hq5).symm
    obtain ⟨v5, hv5, at', rfl, at0, at1⟩ := pick (xs := [.int ra, .int (Builtin.bitAnd (fi' % 4096 * 2 ^ sm.toNat) 4095), .int 4095]) (fun v => ∃ z, v = .int z ∧ 0 ≤ z ∧ z ≤ 4095) rb0 rb1 (by
      intro v hv
      simp at hv
      rcases hv with h | h | h <;> exact ⟨_, h, by omega, by omega⟩)
    refine ⟨q5, _, _, _, rfl, rfl, .of (by rw [upd_ne n5, upd_same]), hv5, ?_⟩
    have B5 := But.upd (o := .lst [.int xb, .int yb]) (But.new (o := .lst [.int ra, .int (Builtin.bitAnd (fi' % 4096 * 2 ^ sm.toNat) 4095), .int 4095]) (But.upd (o := .lst [.int xa, .int ya]) B4) hq5)
    generalize eH5 : upd (upd (upd H4 a _) q5 _) a _ = H5 at Pb B5 ⊢
    clear eH5 hv5 n5 hq5 P9 Pa B4
    refine ⟨_, rfl, _, rfl, _, rfl, _, rfl, _, rfl, a, xb, yb, rfl, Pb, fun mk xc yc H6 mk0 mk1 B6 P6 => ⟨_, rfl, _, _, _, _, _, _, rfl, ⟨fi0, by omega⟩, ⟨by omega, by omega⟩, ⟨st0, by omega⟩, ⟨mk0, by omega⟩, ⟨kd0, by omega⟩, ?_⟩⟩
    exact q _ xc yc H6 ⟨by omega, by omega⟩ (B5.trans B6) P6

def sp__law_fields (K : PySem.W.Frag) : Sp := fun vs H Q _ => ∃ b : Int, vs = [.int b] ∧ W45 b ∧ (¬ Tells b → ∀ H', Same H H' → Q .non H') ∧ (Tells b → ∀ q H', Same H H' → H q = none → H' q = some (.tup [.int (fFirst b * 2 ^ (fStep b).toNat), .int ((fFirst b + fCnt b) * 2 ^ (fStep b).toNat), .int (fAt b), .str (rtx (bitp (fRts b))), .int (fKind b)]) → Q (.ref q) H')
theorem ok__law_fields {f : Addr} {fd : FuncData} (F : Fun K "_law_fields" "_law_fields" s__law_fields f fd) (T : Txt K w mg) : FnOk P w K mg base CX0 1 f fd ["_law_bits_here"] (sp__law_fields K) := by
  refine F.ok sc__law_fields (fun vs H Q E h => ?_) (fun cdv A outer s H vs Q E hr h => ?_)
  · obtain ⟨b, rfl, hw, q1, q2⟩ := h; rfl
  · obtain ⟨b, rfl, hw, q1, q2⟩ := h
    refine ⟨_, (pss_cons (ps_par (i := 1) (j := 2) rfl sc__law_fields.nd rfl rfl (by decide) rfl rfl (pa_cons (pe_op op_and (pe_op op_shr (pv 0) pe_int) pe_int) (pa_cons (pe_op op_add (pe_op op_and (pe_op op_shr (pv 0) pe_int) pe_int) pe_int) pa_nil)) (by rfl))
      (pss_cons (ps_set (i := 3) sc__law_fields.nd rfl (.inl rfl) (pe_op op_and (pe_op op_shr (pv 0) pe_int) pe_int))
      (pss_cons (ps_if (PW.pt (pw_or (pt_cmpR op_gt (pv 3) pe_int (nomark _)) (pw_or (PW.pt (pw_and (pt_cmpR op_gt (pv 3) pe_int (nomark _)) (pw_and1 (pt_cmpR op_lt (pv 2) pe_int (nomark _))))) (pw_or1 (pt_cmpR op_gt (pe_op op_shl (pe_op op_add (pv 1) (pv 2)) (pv 3)) pe_int (nomark _)))))) (pss_one (ps_ret pe_non)) pss_nil)
      (pss_cons (ps_set (i := 6) sc__law_fields.nd rfl (.inl rfl) (pe_join pe_str (pe_lc (own := [("_law_at", 4), ("_law_sign", 5)]) (g := gTup K 2 (gCons (gName 4) (gCons (gName 5) gNil))) rfl sc__law_fields.nd (pi_enumS (by rfl) T.z_enumerate (pa_cons pe_str pa_nil)) (blkOk_by (own := [("_law_at", 4), ("_law_sign", 5)]) (N := ["_law_bits_here", "_law_first", "_law_count", "_law_step", "_law_at", "_law_sign", "_law_rights"]) (sc := defScope s__law_fields) (by decide +kernel)) (fun _ _ _ _ _ => by exact (pg_tup rfl (pgs_cons (pg_name (i := 4) sc__law_fields.nd rfl (.inl rfl)) (pgs_cons (pg_name (i := 5) sc__law_fields.nd rfl (.inl rfl)) pgs_nil)))) (fun _ _ _ _ _ => (pts_one (pt_cmpR op_eq (pe_op op_and (pe_op op_shr (pv 0) (pe_op op_add pe_int (pv 4))) pe_int) pe_int (nomark _)))) (fun _ _ _ _ _ => (pv 5)))))
      (pss_one (ps_ret (pe_tup (pa_cons (pe_op op_shl (pv 1) (pv 3)) (pa_cons (pe_op op_shl (pe_op op_add (pv 1) (pv 2)) (pv 3)) (pa_cons (pe_op op_and (pv 0) pe_int) (pa_cons (pv 6) (pa_cons (pe_op op_shr (pv 0) pe_int) pa_nil)))))))))))), ?_⟩
    obtain ⟨h0, h45⟩ := hw
    have f := fb b
    have a12 : Builtin.bitAnd (b / 2 ^ 12) 4095 = fFirst b := Bits.bitAnd_mask 12 (by omega)
    have a24 : Builtin.bitAnd (b / 2 ^ 24) 15 + 1 = fCnt b := congrArg (· + 1) (Bits.bitAnd_mask 4 (by omega))
    have a28 : Builtin.bitAnd (b / 2 ^ 28) 15 = fStep b := Bits.bitAnd_mask 4 (by omega)
    have a0 : Builtin.bitAnd b 4095 = fAt b := by
      have := Bits.bitAnd_mask (x := b) 12 h0
      unfold fAt
      rw [show (2 : Int) ^ 0 = 1 by decide, Int.ediv_one]
      exact this
    have a41 : b / 2 ^ 41 = fKind b := by
      unfold fKind
      rw [show (2 : Int) ^ 41 = 2199023255552 by decide, show (2 : Int) ^ 4 = 16 by decide]
      omega
    have cp3 : CPow (Builtin.bitAnd (b / 2 ^ 12) 4095 + (Builtin.bitAnd (b / 2 ^ 24) 15 + 1)) (Builtin.bitAnd (b / 2 ^ 28) 15) := by rw [a12, a24, a28]; exact cpw (by omega) (by omega) (by omega) (by omega)
    have cp1 : CPow (Builtin.bitAnd (b / 2 ^ 12) 4095) (Builtin.bitAnd (b / 2 ^ 28) 15) := by rw [a12, a28]; exact cpw (by omega) (by omega) (by omega) (by omega)
    refine ⟨_, rfl, _, _, rfl, rfl, (by show (0 : Int) ≤ _; decide), _, _, rfl, rfl, _, rfl, _, _, rfl, rfl, (by show (0 : Int) ≤ _; decide), _, _, rfl, rfl, _, _, rfl, rfl, _, _, rfl, ?_⟩
    refine ⟨_, rfl, _, _, rfl, rfl, (by show (0 : Int) ≤ _; decide), _, _, rfl, rfl, ?_⟩
    have no : ¬ Tells b → Q .non H := fun z => q1 z H (Same.refl _)
    have fin : Tells b → tSeq (tAsg (tM1 (fun x xs H Q => ∃ a p, ∃ ys : List Str, x = .str a ∧ xs = [.ref p] ∧ (SqL K H p (ys.map V.str) ∨ SqT K H p (ys.map V.str)) ∧ (ys.map (·.length)).sum + ys.length * a.length ≤ 16777216 ∧ Q (.str (Txt.join a ys)) H) (tC (.str (Str.ofString ""))) (tLc (iEnumS (tCons (tC (.str (Str.ofString "rwlsnfxco"))) tNil)) (gTup K 2 (gCons (gName 4) (gCons (gName 5) gNil))) (tTest (tOp rEq (tOp (rI0 fun i j => .int (Builtin.bitAnd i j)) (tOp (rI (fun _ j => 0 ≤ j) fun i j => .int (i / 2 ^ j.toNat)) (tVar 0) (tOp (rI0 fun i j => .int (i + j)) (tC (.int 32)) (tVar 4))) (tC (.int 1))) (tC (.int 1)))) (tVar 5) [4, 5])) (gName 6)) (tRet (tTup (tCons (tOp (rI CPow fun i j => .int (i * 2 ^ j.toNat)) (tVar 1) (tVar 3)) (tCons (tOp (rI CPow fun i j => .int (i * 2 ^ j.toNat)) (tOp (rI0 fun i j => .int (i + j)) (tVar 1) (tVar 2)) (tVar 3)) (tCons (tOp (rI0 fun i j => .int (Builtin.bitAnd i j)) (tVar 0) (tC (.int 4095))) (tCons (tVar 6) (tCons (tOp (rI (fun _ j => 0 ≤ j) fun i j => .int (i / 2 ^ j.toNat)) (tVar 0) (tC (.int 41))) tNil))))))) { nx := fun _ H' => Q .non H', rt := Q } [some (.int b), some (.int (Builtin.bitAnd (b / 2 ^ 12) 4095)), some (.int (Builtin.bitAnd (b / 2 ^ 24) 15 + 1)), some (.int (Builtin.bitAnd (b / 2 ^ 28) 15)), none, none, none] H := fun tl => by
      have hr0 : 0 ≤ fRts b := Int.emod_nonneg _ (by decide)
      refine ⟨⟨_, rfl⟩, RT, rfl, fun D hD => ?_⟩
      refine lc_it (walk_enumS (z := RT)) (fun i H' => Same H H' ∧ H' D = some (.lst ((rcs (bitp (fRts b)) i).map V.str))) ⟨same_new hD, upd_same⟩ (fun _ _ _ _ => trivial) ?_ ?_
      · rintro i x H1 H2 hi ⟨sm, hl⟩ ⟨Tp, x1, y1, rfl, hn, rfl, hx1, hy1⟩
        rw [RT_size] at hi
        have hy1 : (RT.cps[i]?).map (fun c => V.str ⟨#[c]⟩) = some y1 := hy1
        rw [RT_get i hi] at hy1
        have e1 : x1 = .int (i : Int) := (Option.some.inj hx1).symm
        have e2 : y1 = .str (one (code i)) := (Option.some.inj hy1).symm
        subst e1 e2
        have nD : D ≠ Tp := ne_of_none hl hn
        refine ⟨Tp, _, rfl, .of upd_same, rfl, _, _, rfl, _, _, rfl, rfl, rfl, ?_⟩
        have eb : Builtin.bitAnd (b / 2 ^ (32 + i)) 1 = b / 2 ^ (32 + i) % 2 := Bits.bitAnd_mask 1 (Int.ediv_nonneg h0 (Int.le_of_lt (pow_pos2 _)))
        have el := bit_lift b hi
        refine ⟨_, rfl, _, rfl, _, _, rfl, rfl, _, _, rfl, rfl, by omega, _, _, rfl, rfl, rfl, _, rfl, ifd (fun e => ?_) (fun e => ?_)⟩
        · have e3 : bitp (fRts b) i = true := by
            unfold bitp
            rw [← el, ← eb]
            exact decide_eq_true (V.int.inj e)
          refine ⟨_, rfl, _, (by rw [upd_ne nD]; exact hl), ?_, ?_, ?_⟩
          · rw [List.length_map]
            have := rcs_len (bitp (fRts b)) i
            exact szn (by omega)
          · exact fun b o e => by
              have n : b ≠ D := ne_of_none e hD
              have n2 : b ≠ Tp := ne_of_none (sm b o e) hn
              rw [upd_ne n, upd_ne n2]; exact sm b o e
          · rw [upd_same, rcs_succ, List.map_append, if_pos e3]; rfl
        · refine ⟨sameN sm hn, ?_⟩
          have e3 : ¬ bitp (fRts b) i = true := by
            unfold bitp
            rw [← el, ← eb]
            intro z
            exact e (congrArg V.int (of_decide_eq_true z))
          rw [upd_ne nD, rcs_succ, if_neg e3, List.append_nil]
          exact hl
      · rintro H1 ⟨sm, hl⟩
        rw [RT_size] at hl
        refine ⟨_, D, _, rfl, rfl, .inl (.of hl), rcs_fit _, ?_⟩
        refine ⟨_, rfl, _, rfl, _, _, rfl, rfl, cp1, _, rfl, _, rfl, _, _, rfl, rfl, _, rfl, _, _, rfl, rfl, cp3, _, rfl, _, _, rfl, rfl, _, rfl, _, rfl, _, _, rfl, rfl, (by show (0 : Int) ≤ _; decide), sz (by simp), fun q hq => ?_⟩
        refine q2 tl q _ (sameN sm hq) (Same.free sm hq) ?_
        rw [upd_same]
        show some (HO.tup [.int (Builtin.bitAnd (b / 2 ^ 12) 4095 * 2 ^ (Builtin.bitAnd (b / 2 ^ 28) 15).toNat), .int ((Builtin.bitAnd (b / 2 ^ 12) 4095 + (Builtin.bitAnd (b / 2 ^ 24) 15 + 1)) * 2 ^ (Builtin.bitAnd (b / 2 ^ 28) 15).toNat), .int (Builtin.bitAnd b 4095), .str (rtx (bitp (fRts b))), .int (b / 2 ^ 41)]) = _
        rw [a12, a24, a28, a0, a41]
    refine ⟨_, rfl, _, _, rfl, rfl, _, rfl, ifd (fun c => ?_) (fun c => ?_)⟩
    · have c2 : 8 < fStep b := by rw [← a28]; exact c
      exact no fun z => absurd z.1 (by omega)
    have c2 : ¬ 8 < fStep b := by rw [← a28]; exact c
    have last : (fStep b = 0 ∨ 9 ≤ fCnt b) → ∀ c : Bool, (c = true ↔ ¬ (fFirst b + fCnt b) * 2 ^ (fStep b).toNat ≤ 4096) → (c = true → ¬ Tells b) ∧ (c = false → Tells b) := fun z c hc =>
      ⟨fun e t => hc.mp e t.2.2, fun e => ⟨by omega, z, by
        rcases Decidable.em ((fFirst b + fCnt b) * 2 ^ (fStep b).toNat ≤ 4096) with h | h
        · exact h
        · rw [hc.mpr h] at e; cases e⟩⟩
    have l3 : decide (4096 < (Builtin.bitAnd (b / 2 ^ 12) 4095 + (Builtin.bitAnd (b / 2 ^ 24) 15 + 1)) * 2 ^ (Builtin.bitAnd (b / 2 ^ 28) 15).toNat) = true ↔ ¬ (fFirst b + fCnt b) * 2 ^ (fStep b).toNat ≤ 4096 := by
      rw [a12, a24, a28, decide_eq_true_iff]; omega
    refine ⟨_, rfl, _, _, rfl, rfl, _, rfl, ifd (fun c3 => ?_) (fun c3 => ?_)⟩
    · have c4 : 0 < fStep b := by rw [← a28]; exact c3
      refine ⟨_, rfl, _, _, rfl, rfl, _, rfl, ifd (fun c5 => ?_) (fun c5 => ?_)⟩
      · have c6 : fCnt b < 9 := by rw [← a24]; exact c5
        exact no fun z => by have := z.2.1; omega
      · have c6 : ¬ fCnt b < 9 := by rw [← a24]; exact c5
        refine ⟨_, rfl, _, rfl, _, _, rfl, rfl, _, rfl, _, _, rfl, rfl, cp3, _, _, rfl, rfl, _, rfl, ifb (fun e => ?_) (fun e => ?_)⟩
        · exact no ((last (.inr (by omega)) _ l3).1 e)
        · exact fin ((last (.inr (by omega)) _ l3).2 e)
    · have c4 : ¬ 0 < fStep b := by rw [← a28]; exact c3
      refine ⟨_, rfl, _, rfl, _, _, rfl, rfl, _, rfl, _, _, rfl, rfl, cp3, _, _, rfl, rfl, _, rfl, ifb (fun e => ?_) (fun e => ?_)⟩
      · exact no ((last (.inl (by omega)) _ l3).1 e)
      · exact fin ((last (.inl (by omega)) _ l3).2 e)
abbrev scope_good : Scope := { kind := ScopeKind.function, names := [(Str.ofString ".0", NameKind.local), (Str.ofString "_law_some", NameKind.cell), (Str.ofString "_law_rights", NameKind.cell)], isGenerator := false, isCoroutine := false }
def sp__law_good (K : PySem.W.Frag) : Sp := fun vs H Q _ => ∃ p, vs = [.str (rtx p)] ∧ ∀ b H', Same H H' → (b = true ↔ OneW (rtx p)) → Q (.bl b) H'
theorem ok__law_good {f : Addr} {fd : FuncData} (F : Fun K "_law_good" "_law_good" s__law_good f fd) (T : Txt K w mg) : FnOk P w K mg base CX0 1 f fd ["_law_rights"] (sp__law_good K) := by
  refine F.ok sc__law_good (fun vs H Q E h => ?_) (fun cdv A outer s H vs Q E hr h => ?_)
  · obtain ⟨p, rfl, q⟩ := h; rfl
  · obtain ⟨p, rfl, q⟩ := h
    refine ⟨_, (pss_cons (ps_setLc (i := 3) (own := [("_law_some", 2)]) rfl sc__law_good.nd rfl rfl (sw_true rfl rfl rfl (by decide +kernel)) (pi_list (pe_lst (pa_cons pe_str (pa_cons pe_str (pa_cons pe_str pa_nil))))) (blkOk_by (own := [("_law_some", 2)]) (N := ["_law_rights", "_law_sign", "_law_some", "_law_groups"]) (sc := defScope s__law_good) (by decide +kernel)) (fun _ _ _ _ _ => (pg_name (i := 2) sc__law_good.nd rfl (.inr rfl))) (fun _ _ _ _ _ => pts_nil) (fun _ _ _ _ _ => (pe_cmpR (r := rNeD K) (op_neD hr.units) (pe_lc (own := [("_law_sign", 1)]) rfl sc__law_good.nd (pi_str (pv 0)) (blkOk_by (own := [("_law_sign", 1)]) (N := ["_law_rights", "_law_sign", "_law_some", "_law_groups"]) (sc := scope_good) (by decide +kernel)) (fun _ _ _ _ _ => (pg_name (i := 1) sc__law_good.nd rfl (.inl rfl))) (fun _ _ _ _ _ => by exact (pts_one (pt_cmpR op_in_sign (pv 1) (pv 2) (by rfl)))) (fun _ _ _ _ _ => by exact (pv 1))) (pe_lst pa_nil) (nomark _))))
      (pss_one (ps_ret (pe_cmpR op_lt (pe_bm PySem.F.plainAttrs_list PySem.F.slot_list_count PySem.F.type_list_count mt_lcountB (pv 3) (pa_cons pe_bl pa_nil)) pe_int (nomark _))))), ?_⟩
    refine ⟨sz (by simp), fun L hL => ?_⟩
    refine ⟨L, rfl, ⟨_, .of upd_same⟩, fun D hD => ?_⟩
    have nLD : L ≠ D := ne_of_none upd_same hD
    refine lc_it (walk_list (xs := [.str G0, .str G1, .str G2])) (fun i H' => Same _ H' ∧ H' D = some (.lst ((([G0, G1, G2].take i).map (hasG (rtx p))).map V.bl))) ⟨same_new hD, upd_same⟩ (fun i H' _ h => .of (h.1 _ _ upd_same)) ?_ ?_
    · rintro i x H1 H2 hi ⟨sm, hl⟩ ⟨rfl, hx⟩
      obtain ⟨g, hg, rfl⟩ : ∃ g, [G0, G1, G2][i]? = some g ∧ x = V.str g := by
        have : i = 0 ∨ i = 1 ∨ i = 2 := by simp at hi; omega
        rcases this with e | e | e <;> subst e <;> exact ⟨_, rfl, (Option.some.inj hx).symm⟩
      have tk : [G0, G1, G2].take (i + 1) = [G0, G1, G2].take i ++ [g] := by rw [List.take_add_one, hg]; rfl
      refine ⟨rfl, ?_⟩
      refine ⟨_, rfl, _, rfl, fun D2 hD2 => ?_⟩
      have nD2 : D ≠ D2 := ne_of_none hl hD2
      refine lc_it (walk_str (z := rtx p)) (fun j H' => Same H2 H' ∧ H' D2 = some (.lst ((((rtx p).cps.toList.take j).filter fun c => decide (c ∈ g.cps.toList)).map fun c => V.str (one c)))) ⟨same_new hD2, upd_same⟩ (fun _ _ _ _ => trivial) ?_ ?_
      · rintro j x H3 H4 hj ⟨sm3, hl3⟩ ⟨rfl, c, hc, rfl⟩
        refine ⟨rfl, ?_⟩
        have ec : (rtx p).cps.toList[j]? = some c := by rw [Array.getElem?_toList]; exact hc
        have tk2 : (rtx p).cps.toList.take (j + 1) = (rtx p).cps.toList.take j ++ [c] := by rw [List.take_add_one, ec]; rfl
        refine ⟨_, rfl, _, rfl, c, g, rfl, rfl, _, rfl, ifb (fun e => ?_) (fun e => ?_)⟩
        · refine ⟨_, rfl, _, hl3, ?_, ?_, ?_⟩
          · rw [List.length_map]
            have h1 := List.length_filter_le (fun c => decide (c ∈ g.cps.toList)) ((rtx p).cps.toList.take j)
            have h2 : ((rtx p).cps.toList.take j).length ≤ j := by rw [List.length_take]; exact Nat.min_le_left _ _
            have h3 := rtx_len p
            exact szn (by omega)
          · exact fun b o e => by
              have n : b ≠ D2 := ne_of_none e hD2
              rw [upd_ne n]; exact sm3 b o e
          · rw [upd_same, tk2, List.filter_append, List.map_append, show List.filter (fun c => decide (c ∈ g.cps.toList)) [c] = [c] by rw [List.filter_cons, if_pos e]; rfl]
            rfl
        · refine ⟨sm3, ?_⟩
          rw [tk2, List.filter_append, show List.filter (fun c => decide (c ∈ g.cps.toList)) [c] = [] by rw [List.filter_cons, if_neg (by rw [e]; exact Bool.false_ne_true)]; rfl, List.append_nil]
          exact hl3
      · rintro H3 ⟨sm3, hl3⟩
        refine ⟨sz (by simp), fun D3 hD3 => ?_⟩
        have n23 : D2 ≠ D3 := ne_of_none hl3 hD3
        have nD3 : D ≠ D3 := ne_of_none (sm3 _ _ hl) hD3
        have efull : (rtx p).cps.toList.take (rtx p).cps.size = (rtx p).cps.toList := by rw [show (rtx p).cps.size = (rtx p).cps.toList.length by simp, List.take_length]
        rw [efull] at hl3
        refine ⟨_, _, .lst (.of (show (upd H3 D3 _) D2 = _ by rw [upd_ne n23]; exact hl3)) (dp_strs _), .lst (.of upd_same) .nil, strs_shape (fun c hc => rtx_ok p (List.mem_filter.mp hc).1), rfl, ?_⟩
        refine ⟨_, (show (upd H3 D3 _) D = _ by rw [upd_ne nD3]; exact sm3 _ _ hl), ?_, ?_, ?_⟩
        · rw [List.length_map, List.length_map, List.length_take]
          exact szn (Nat.lt_of_le_of_lt (Nat.min_le_right _ _) (by decide))
        · exact fun b o e => by
            have n : b ≠ D := ne_of_none e hD
            have n3 : b ≠ D3 := ne_of_none (sm3 _ _ (sm _ _ e)) hD3
            rw [upd_ne n, upd_ne n3]
            exact sm3 _ _ (sm _ _ e)
        · rw [upd_same, tk, List.map_append, List.map_append, strs_eqv, hasG_iff]
          rfl
    · rintro H1 ⟨sm, hl⟩
      refine ⟨_, rfl, .inl ⟨rfl, _, .inl (.inl hl)⟩, D, _, rfl, rfl, .of hl, _, _, rfl, rfl, q _ _ (Same.trans (same_new hL) sm) ?_⟩
      rw [decide_eq_true_iff]
      unfold OneW
      have e : ((([G0, G1, G2].take 3).map (hasG (rtx p))).filter id).length = ([G0, G1, G2].filter (hasG (rtx p))).length := by
        rw [List.filter_map, List.length_map]; rfl
      show ((((([G0, G1, G2].take 3).map (hasG (rtx p))).filter id).length : Nat) : Int) < 2 ↔ _
      rw [e]
      omega

def sp__law_is_word (K : PySem.W.Frag) : Sp := fun vs H Q _ => ∃ v, vs = [v] ∧ ((∃ p xs, v = .ref p ∧ H p = some (.tup xs) ∧ (∀ x ∈ xs, Kd H x) ∧ ∀ b, (b = true ↔ ∃ m n, xs = [.bl m, .int n] ∧ W45 n) → Q (.bl b) H) ∨ (NoT H v ∧ Q (.bl false) H))
theorem ok__law_is_word {f : Addr} {fd : FuncData} (F : Fun K "_law_is_word" "_law_is_word" s__law_is_word f fd) (T : Txt K w mg) : FnOk P w K mg base CX0 1 f fd ["_law_thing"] (sp__law_is_word K) := by
  refine F.ok sc__law_is_word (fun vs H Q E h => ?_) (fun cdv A outer s H vs Q E hr h => ?_)
  · obtain ⟨v, rfl, q⟩ := h; rfl
  · obtain ⟨v, rfl, q⟩ := h
    refine ⟨_, (pss_cons (ps_if (PW.pt (pw_or (pt_not (pt_val (pe_callB call_isi (by rfl) T.z_isinstance (by decide +kernel) (pa_cons (pv 0) (pa_cons (pe_bltn (v := .ty "tuple") (by rfl) T.z_tuple (by decide +kernel) rfl) pa_nil))))) (pw_or (pt_cmpR op_ne (pe_callB call_len_seq (by rfl) T.z_len (by decide +kernel) (pa_cons (pv 0) pa_nil)) pe_int (nomark _)) (pw_or1 (pt_not (pt_val (pe_callB call_isi (by rfl) T.z_isinstance (by decide +kernel) (pa_cons (pe_ix (r := rIxT K) ix_tup (pv 0) pe_int (fun _ _ => rfl)) (pa_cons (pe_bltn (v := .ty "bool") (by rfl) T.z_bool (by decide +kernel) rfl) pa_nil))))))))) (pss_one (ps_ret pe_bl)) pss_nil)
      (pss_one (ps_ret (pe_and (pe_callB call_isi (by rfl) T.z_isinstance (by decide +kernel) (pa_cons (pe_ix (r := rIxT K) ix_tup (pv 0) pe_int (fun _ _ => rfl)) (pa_cons (pe_bltn (v := .ty "int") (by rfl) T.z_int (by decide +kernel) rfl) pa_nil))) (pe_and (pe_not (pe_callB call_isi (by rfl) T.z_isinstance (by decide +kernel) (pa_cons (pe_ix (r := rIxT K) ix_tup (pv 0) pe_int (fun _ _ => rfl)) (pa_cons (pe_bltn (v := .ty "bool") (by rfl) T.z_bool (by decide +kernel) rfl) pa_nil)))) (pe_one (pe_chain op_le op_lt pe_int (pe_ix (r := rIxT K) ix_tup (pv 0) pe_int (fun _ _ => rfl)) (pe_op op_shl pe_int pe_int)))))))), ?_⟩
    rcases q with ⟨p, xs, rfl, hp, hk, q⟩ | ⟨nt, q⟩
    · refine ⟨_, rfl, _, _, _, _, true, rfl, .ty "tuple", .base (.tup hp), kit_ty (by decide +kernel), true, rfl, ?_⟩
      refine ⟨_, rfl, p, _, rfl, .inr (.of hp), rfl, _, rfl, ifnd (fun c => ?_) (fun c => ?_)⟩
      · show Q (.bl false) H
        refine q _ ⟨fun h => Bool.noConfusion h, fun ⟨m, n, e, _⟩ => ?_⟩
        subst e
        exact absurd rfl c
      have h2 : xs.length = 2 := by
        have := V.int.inj c
        omega
      obtain ⟨x1, x2, rfl⟩ : ∃ x1 x2, xs = [x1, x2] := match xs, h2 with
        | [a, b], _ => ⟨a, b, rfl⟩
      have no : (∀ m n, x1 = V.bl m → x2 = V.int n → W45 n → False) → Q (.bl false) H := fun z => q _ ⟨fun h => Bool.noConfusion h, fun ⟨m, n, e, h⟩ => by
        injection e with e1 e2
        injection e2 with e2 _
        exact (z m n e1 e2 h).elim⟩
      obtain ⟨t, ty, kt⟩ := (hk x1 (by simp)).bool? (K := K)
      refine ⟨_, rfl, p, _, 0, _, rfl, rfl, .of hp, atI_nat (j := 0) rfl, _, _, t, _, isB x1, rfl, .ty "bool", ty, kt, isB x1, rfl, ifnb (fun e => ?_) (fun e1 => ?_)⟩
      · show Q (.bl false) H
        exact no fun m n z1 z2 _ => by rw [z1] at e; cases e
      obtain ⟨m, rfl⟩ : ∃ m, x1 = .bl m := by
        cases x1 with
        | bl m => exact ⟨m, rfl⟩
        | _ => cases e1
      obtain ⟨t2, ty2, kt2⟩ := (hk x2 (by simp)).int? (K := K)
      refine ⟨_, rfl, p, _, 1, _, rfl, rfl, .of hp, atI_nat (j := 1) rfl, _, _, t2, _, isI x2, rfl, .ty "int", ty2, kt2, isI x2, rfl, ifb (fun e2 => ?_) (fun e2 => ?_)⟩
      case refine_2 => exact no fun m n z1 z2 _ => by rw [z2] at e2; cases e2
      obtain ⟨t3, ty3, kt3⟩ := (hk x2 (by simp)).bool? (K := K)
      refine ⟨_, rfl, p, _, 1, _, rfl, rfl, .of hp, atI_nat (j := 1) rfl, _, _, t3, _, isB x2, rfl, .ty "bool", ty3, kt3, isB x2, rfl, !isB x2, rfl, ifnb (fun e3 => ?_) (fun e3 => ?_)⟩
      case refine_2 => exact no fun m n z1 z2 _ => by rw [z2] at e3; cases e3
      obtain ⟨n, rfl⟩ : ∃ n, x2 = .int n := by
        cases x2 with
        | int i => exact ⟨i, rfl⟩
        | bl b => cases e3
        | _ => cases e2
      refine ⟨_, rfl, p, _, 1, _, rfl, rfl, .of hp, atI_nat (j := 1) rfl, _, _, rfl, rfl, _, rfl, ifd (fun c1 => ?_) (fun c1 => ?_)⟩
      case refine_2 => exact no fun m' n' z1 z2 w => by cases z2; exact c1 w.1
      refine ⟨_, _, rfl, rfl, ⟨by decide, by decide, by decide⟩, _, _, rfl, rfl, q _ ?_⟩
      rw [decide_eq_true_iff]
      have e45 : (1 : Int) * 2 ^ (45 : Int).toNat = 35184372088832 := by decide
      rw [e45]
      constructor
      · intro h
        exact ⟨m, n, rfl, c1, by omega⟩
      · rintro ⟨m', n', e, w⟩
        injection e with e1 e2
        injection e2 with e2 _
        cases e2
        have := w.2
        omega
    · obtain ⟨t, ty, kt⟩ := nt.tup? (K := K)
      refine ⟨_, rfl, _, _, t, _, false, rfl, .ty "tuple", ty, kt, false, rfl, ?_⟩
      show Q (.bl false) H
      exact q

def sp__law_is_lawful (K : PySem.W.Frag) : Sp := fun vs H Q _ => ∃ v, vs = [v] ∧ ((∃ p xs, v = .ref p ∧ H p = some (.tup xs) ∧ (∀ x ∈ xs, Kd H x) ∧ ∀ b H', Same H H' → (b = true ↔ ∃ m n, xs = [.bl m, .int n] ∧ W45 n ∧ (m = true → Law n)) → Q (.bl b) H') ∨ (NoT H v ∧ ∀ H', Same H H' → Q (.bl false) H'))
theorem ok__law_is_lawful {f : Addr} {fd : FuncData} (F : Fun K "_law_is_lawful" "_law_is_lawful" s__law_is_lawful f fd) (T : Txt K w mg) (C__law_fields : Cal P w K mg base "_law_fields" 1 ["_law_bits_here"] (sp__law_fields K)) (C__law_good : Cal P w K mg base "_law_good" 1 ["_law_rights"] (sp__law_good K)) (C__law_is_word : Cal P w K mg base "_law_is_word" 1 ["_law_thing"] (sp__law_is_word K)) : FnOk P w K mg base CX0 2 f fd ["_law_thing"] (sp__law_is_lawful K) := by
  refine F.ok sc__law_is_lawful (fun vs H Q E h => ?_) (fun cdv A outer s H vs Q E hr h => ?_)
  · obtain ⟨v, rfl, q⟩ := h; rfl
  · obtain ⟨v, rfl, q⟩ := h
    refine ⟨_, (pss_cons (ps_if (pt_not (pt_val (pe_cal C__law_is_word (hr.mono (by decide)) (pa_cons (pv 0) pa_nil)))) (pss_one (ps_ret pe_bl)) pss_nil)
      (pss_cons (ps_set (i := 1) sc__law_is_lawful.nd rfl (.inl rfl) (pe_cal C__law_fields (hr.mono (by decide)) (pa_cons (pe_ix (r := rIxT K) ix_tup (pv 0) pe_int (fun _ _ => rfl)) pa_nil)))
      (pss_one (ps_ret (pe_or (pe_not (pe_ix (r := rIxT K) ix_tup (pv 0) pe_int (fun _ _ => rfl))) (pe_one (pe_and (pe_cmpR op_notN (pv 1) pe_non (nomark _)) (pe_one (pe_cal C__law_good (hr.mono (by decide)) (pa_cons (pe_ix (r := rIxT K) ix_tup (pv 1) pe_int (fun _ _ => rfl)) pa_nil)))))))))), ?_⟩
    rcases q with ⟨p, xs, rfl, hp, hk, q⟩ | ⟨nt, q⟩
    · refine ⟨_, rfl, .ref p, rfl, .inl ⟨p, xs, rfl, hp, hk, fun b hb => ⟨_, rfl, ifnb (fun e => ?_) (fun e => ?_)⟩⟩⟩
      · show Q (.bl false) H
        exact q _ _ (Same.refl _) ⟨fun h => Bool.noConfusion h, fun ⟨m, n, z, w, _⟩ => by rw [hb.mpr ⟨m, n, z, w⟩] at e; cases e⟩
      obtain ⟨m, n, rfl, w⟩ := hb.mp e
      have fin : ∀ H' b, Same H H' → (b = true ↔ (m = true → Law n)) → Q (.bl b) H' := fun H' b s hb => q b H' s (by
        rw [hb]
        constructor
        · intro h; exact ⟨m, n, rfl, w, h⟩
        · rintro ⟨m', n', z, _, h⟩
          injection z with z1 z2
          injection z2 with z2 _
          cases z1; cases z2; exact h)
      have not : ∀ H', Same H H' → m = false → Q (.bl true) H' := fun H' s z => fin H' true s ⟨fun _ h => by (rw [z] at h; cases h), fun _ => rfl⟩
      refine ⟨_, rfl, p, _, 1, _, rfl, rfl, .of hp, atI_nat (j := 1) rfl, n, rfl, w, fun nt H1 s1 => ?_, fun tl q1 H1 s1 hq1 hq12 => ?_⟩
      · refine ⟨_, rfl, p, _, 0, _, rfl, rfl, .of (s1 _ _ hp), atI_nat (j := 0) rfl, m, rfl, _, rfl, ifb (fun c => not H1 s1 (by cases m with | false => rfl | true => cases c)) (fun c => ?_)⟩
        have m1 : m = true := by cases m with | true => rfl | false => cases c
        subst m1
        refine ⟨_, rfl, rfl, _, rfl, ifnd (fun c => absurd rfl c) (fun _ => ?_)⟩
        exact fin _ _ s1 ⟨fun h => Bool.noConfusion h, fun h => absurd (h rfl).1 nt⟩
      · refine ⟨_, rfl, p, _, 0, _, rfl, rfl, .of (s1 _ _ hp), atI_nat (j := 0) rfl, m, rfl, _, rfl, ifb (fun c => not H1 s1 (by cases m with | false => rfl | true => cases c)) (fun c => ?_)⟩
        have m1 : m = true := by cases m with | true => rfl | false => cases c
        subst m1
        refine ⟨_, rfl, rfl, _, rfl, ifnd (fun _ => ?_) (fun c => by cases c)⟩
        refine ⟨_, rfl, q1, _, 3, _, rfl, rfl, .of hq12, atI_nat (j := 3) rfl, bitp (fRts n), rfl, fun g H2 s2 hg => fin _ _ (s1.trans s2) ?_⟩
        rw [hg]
        exact ⟨fun h _ => ⟨tl, h⟩, fun h => (h rfl).2⟩
    · obtain ⟨t, ty, kt⟩ := nt.tup? (K := K)
      refine ⟨_, rfl, _, rfl, .inr ⟨nt, ⟨_, rfl, ?_⟩⟩⟩
      show Q (.bl false) H
      exact q _ (Same.refl _)

def sp__law_is_rights (K : PySem.W.Frag) : Sp := fun vs H Q _ => ∃ v, vs = [v] ∧ Kd H v ∧ (∀ s, v = .str s → Sok s) ∧ ∀ b H', Same H H' → (b = true ↔ ∃ r, v = .str r ∧ r = rtx (hasR r)) → Q (.bl b) H'
theorem ok__law_is_rights {f : Addr} {fd : FuncData} (F : Fun K "_law_is_rights" "_law_is_rights" s__law_is_rights f fd) (T : Txt K w mg) : FnOk P w K mg base CX0 1 f fd ["_law_thing"] (sp__law_is_rights K) := by
  refine F.ok sc__law_is_rights (fun vs H Q E h => ?_) (fun cdv A outer s H vs Q E hr h => ?_)
  · obtain ⟨v, rfl, hv, hs, q⟩ := h; rfl
  · obtain ⟨v, rfl, hv, hs, q⟩ := h
    refine ⟨_, (pss_one (ps_ret (pe_and (pe_callB call_isi (by rfl) T.z_isinstance (by decide +kernel) (pa_cons (pv 0) (pa_cons (pe_bltn (v := .ty "str") (by rfl) T.z_str (by decide +kernel) rfl) pa_nil))) (pe_one (pe_cmpR (r := rEqD K) (op_eqD hr.units) (pe_lc (own := [("_law_sign", 1)]) rfl sc__law_is_rights.nd (pi_str pe_str) (blkOk_by (own := [("_law_sign", 1)]) (N := ["_law_thing", "_law_sign"]) (sc := defScope s__law_is_rights) (by decide +kernel)) (fun _ _ _ _ _ => (pg_name (i := 1) sc__law_is_rights.nd rfl (.inl rfl))) (fun _ _ _ _ _ => (pts_one (pt_cmpR op_in_sign (pv 1) (pv 0) (by rfl)))) (fun _ _ _ _ _ => (pv 1))) (pe_callTy (call_listStr rfl) (by rfl) T.z_list (by decide +kernel) (pa_cons (pv 0) pa_nil)) (nomark _)))))), ?_⟩
    obtain ⟨t, ty, kt⟩ := hv.str? (K := K)
    refine ⟨_, rfl, _, _, t, _, isS v, rfl, .ty "str", ty, kt, isS v, rfl, ifb (fun e1 => ?_) (fun e1 => ?_)⟩
    · obtain ⟨r, rfl⟩ : ∃ r, v = .str r := by
        cases hv with
        | str r => exact ⟨r, rfl⟩
        | _ => cases e1
      have sr := hs r rfl
      refine ⟨RT, rfl, fun D hD => ?_⟩
      refine lc_it (walk_str (z := RT)) (fun i H' => Same H H' ∧ H' D = some (.lst ((rcs (hasR r) i).map V.str))) ⟨same_new hD, upd_same⟩ (fun _ _ _ _ => trivial) ?_ ?_
      · rintro i x H2 H3 hi ⟨sm, hl⟩ ⟨rfl, c, hc, rfl⟩
        rw [RT_size] at hi
        rw [RT_get i hi] at hc
        have ec : c = code i := (Option.some.inj hc).symm
        subst ec
        refine ⟨rfl, ?_⟩
        refine ⟨_, rfl, _, rfl, code i, r, rfl, rfl, _, rfl, ifb (fun e => ?_) (fun e => ?_)⟩
        · refine ⟨_, rfl, _, hl, ?_, ?_, ?_⟩
          · rw [List.length_map]
            have := rcs_len (hasR r) i
            exact szn (by omega)
          · exact fun b o e => by
              have n : b ≠ D := ne_of_none e hD
              rw [upd_ne n]; exact sm b o e
          · rw [upd_same, rcs_succ, List.map_append, if_pos (show hasR r i = true from e)]; rfl
        · refine ⟨sm, ?_⟩
          rw [rcs_succ, if_neg (by unfold hasR; rw [e]; exact Bool.false_ne_true), List.append_nil]
          exact hl
      rintro H2 ⟨sm, hl⟩
      rw [RT_size] at hl
      refine ⟨_, rfl, r, rfl, ?_, fun L hL => ?_⟩
      · have := sr.2; rw [sizeLine_eq]; omega
      have hl2 : (upd H2 L (.lst (signs r))) D = some (.lst ((rcs (hasR r) 9).map V.str)) := by rw [upd_ne (ne_of_none hl hL)]; exact hl
      have S2 : Same H (upd H2 L (.lst (signs r))) := sameN sm hL
      have hL2 : (upd H2 L (.lst (signs r))) L = some (.lst ((r.cps.toList.map one).map V.str)) := by rw [upd_same, signs_strs]
      generalize upd H2 L _ = H3 at hl2 S2 hL2 ⊢
      refine ⟨_, _, dp_txts hl2, dp_txts hL2, shaped_strs (ok_rcs _), shaped_strs (ok_signs sr.1), q _ _ S2 ?_⟩
      rw [eqv_strs]
      constructor
      · intro h
        exact ⟨r, rfl, rcs_ext (by rw [signs_strs, h])⟩
      · rintro ⟨r', e, h⟩
        cases e
        have e6 := rcs_sig h
        rw [signs_strs] at e6
        exact (List.map_inj_right (fun a b e => V.str.inj e)).mp e6
    · refine q _ _ (Same.refl _) ⟨fun h => Bool.noConfusion h, fun ⟨r', e, h⟩ => by cases e; cases e1⟩

def sp__law_things (K : PySem.W.Frag) : Sp := fun vs H Q _ => ∃ (a : Addr) (x y : Int), vs = [.ref a] ∧ Pool H a x y ∧ ∀ L xs x1 y1 H', But a H H' → Pool H' a x1 y1 → H' L = some (.lst xs) → L ≠ a → (∀ v ∈ xs, Thing K (hide a H') v) → Q (.ref L) H'
theorem ok__law_things {f : Addr} {fd : FuncData} (F : Fun K "_law_things" "_law_things" s__law_things f fd) (T : Txt K w mg) (C__law_take : Cal P w K mg base "_law_take" 1 ["_law_pool_here", "_law_many"] (sp__law_take K)) (C__law_drawn : Cal P w K mg base "_law_drawn" 3 ["_law_pool_here"] (sp__law_drawn K)) : FnOk P w K mg base CX0 4 f fd ["_law_pool_here"] (sp__law_things K) := by
  refine F.ok sc__law_things (fun vs H Q E h => ?_) (fun cdv A outer s H vs Q E hr h => ?_)
  · obtain ⟨a, x, y, rfl, hP, q⟩ := h; rfl
  · obtain ⟨a, x, y, rfl, hP, q⟩ := h
    refine ⟨_, (pss_cons (ps_set (i := 1) sc__law_things.nd rfl (.inl rfl) (pe_cal C__law_drawn (hr.mono (by decide)) (pa_cons (pv 0) pa_nil)))
      (pss_cons (ps_set (i := 2) sc__law_things.nd rfl (.inl rfl) (pe_ix (r := rIxL K) ix_list (pe_lst (pa_cons pe_non (pa_cons pe_int (pa_cons pe_int (pa_cons pe_str (pa_cons pe_str (pa_cons pe_str (pa_cons (pe_lst pa_nil) (pa_cons (pe_tup (pa_cons (pv 1) pa_nil)) (pa_cons (pe_tup (pa_cons pe_bl (pa_cons (pv 1) (pa_cons pe_int pa_nil)))) pa_nil)))))))))) (pe_cal C__law_take (hr.mono (by decide)) (pa_cons (pv 0) (pa_cons pe_int pa_nil))) (fun _ _ => rfl)))
      (pss_cons (ps_set (i := 3) sc__law_things.nd rfl (.inl rfl) (pe_op op_shl pe_int pe_int))
      (pss_cons (ps_set (i := 4) sc__law_things.nd rfl (.inl rfl) (pe_lst (pa_cons (pe_tup (pa_cons pe_bl (pa_cons (pv 1) pa_nil))) (pa_cons (pe_tup (pa_cons pe_bl (pa_cons (pv 1) pa_nil))) (pa_cons (pe_tup (pa_cons pe_int (pa_cons (pv 1) pa_nil))) (pa_cons (pe_tup (pa_cons pe_bl (pa_cons (pe_op op_add (pv 1) (pv 3)) pa_nil))) (pa_cons (pe_tup (pa_cons pe_bl (pa_cons (pe_op op_sub (pe_un un_neg (pv 1)) pe_int) pa_nil))) (pa_cons (pe_lst (pa_cons pe_bl (pa_cons (pv 1) pa_nil))) (pa_cons (pe_tup (pa_cons (pv 2) (pa_cons (pv 1) pa_nil))) pa_nil)))))))))
      (pss_cons (ps_set (i := 4) sc__law_things.nd rfl (.inl rfl) (pe_op op_cat (pv 4) (pe_lst (pa_cons (pe_tup (pa_cons pe_bl (pa_cons (pv 2) pa_nil))) (pa_cons (pe_tup (pa_cons pe_bl (pa_cons pe_bl pa_nil))) (pa_cons (pe_tup (pa_cons pe_bl (pa_cons (pe_op op_sub (pv 3) pe_int) pa_nil))) (pa_cons (pe_tup (pa_cons pe_bl (pa_cons (pe_op op_sub (pv 3) pe_int) pa_nil))) (pa_cons (pv 2) (pa_cons (pe_tup pa_nil) (pa_cons (pe_tup (pa_cons pe_bl (pa_cons pe_int pa_nil))) (pa_cons (pe_tup (pa_cons pe_bl (pa_cons pe_int pa_nil))) pa_nil)))))))))))
      (pss_one (ps_ret (pe_op op_cat (pv 4) (pe_lst (pa_cons (pe_tup (pa_cons pe_bl (pa_cons (pv 3) pa_nil))) (pa_cons (pe_tup (pa_cons pe_bl (pa_cons (pe_un un_neg pe_int) pa_nil))) pa_nil))))))))))), ?_⟩
    refine ⟨_, rfl, a, x, y, rfl, hP, fun b x1 y1 H1 w B1 P1 => ?_⟩
    obtain ⟨w0, w1⟩ := id w
    have g45 := g45
    refine ⟨sz (by simp), fun l0 hl0 => ⟨_, rfl, sz (by simp), fun t1 ht1 => ⟨_, rfl, sz (by simp), fun t2 ht2 => ⟨sz (by simp), fun LL hLL => ?_⟩⟩⟩⟩
    have sA := same_new (o := .lst []) hl0
    have sB := same_new (o := .tup [.int b]) ht1
    have sC := same_new (o := .tup [.bl true, .int b, .int 0]) ht2
    have sD := same_new (o := .lst [V.non, .int 0, .int 1, .str (Str.ofString ""), .str (Str.ofString "x"), .str (Str.ofString "1"), .ref l0, .ref t1, .ref t2]) hLL
    have k0 : (upd H1 l0 (.lst [])) l0 = some (.lst []) := upd_same
    have k1 : (upd (upd H1 l0 (.lst [])) t1 (.tup [.int b])) t1 = some (.tup [.int b]) := upd_same
    have k2 : (upd (upd (upd H1 l0 (.lst [])) t1 (.tup [.int b])) t2 (.tup [.bl true, .int b, .int 0])) t2 = some (.tup [.bl true, .int b, .int 0]) := upd_same
    have kL : (upd (upd (upd (upd H1 l0 (.lst [])) t1 (.tup [.int b])) t2 (.tup [.bl true, .int b, .int 0])) LL (.lst [V.non, .int 0, .int 1, .str (Str.ofString ""), .str (Str.ofString "x"), .str (Str.ofString "1"), .ref l0, .ref t1, .ref t2])) LL = some (.lst [V.non, .int 0, .int 1, .str (Str.ofString ""), .str (Str.ofString "x"), .str (Str.ofString "1"), .ref l0, .ref t1, .ref t2]) := upd_same
    replace k0 := sD _ _ (sC _ _ (sB _ _ k0))
    replace k1 := sD _ _ (sC _ _ k1)
    replace k2 := sD _ _ k2
    have S4 := ((sA.trans sB).trans sC).trans sD
    clear sA sB sC sD hl0 ht1 ht2 hLL
    generalize upd (upd (upd (upd H1 l0 _) t1 _) t2 _) LL _ = H2 at k0 k1 k2 kL S4 ⊢
    have P2 := P1.same S4
    have B2 := B1.trans (But.of S4)
    have nn : ∀ {p : Addr} {o : HO}, H2 p = some o → o ≠ .lst [.int x1, .int y1] → p ≠ a := fun {p o} h1 h2 z => by
      rw [z, P2.1] at h1
      exact h2 (Option.some.inj h1).symm
    refine ⟨_, rfl, a, x1, y1, _, rfl, P2, by decide, by decide, fun r x2 y2 r0 r1 P3 => ?_⟩
    have B3 : But a H2 (upd H2 a (.lst [.int x2, .int y2])) := (But.refl a H2).upd
    have m0 := B3 _ _ (nn k0 (by simp)) k0
    have m1 := B3 _ _ (nn k1 (by simp)) k1
    have m2 := B3 _ _ (nn k2 (by simp)) k2
    have mL := B3 _ _ (nn kL (by simp)) kL
    have z0 := nn k0 (by simp)
    have z1 := nn k1 (by simp)
    have z2 := nn k2 (by simp)
    have B4 := B2.trans B3
    clear nn B3 P1 P2 B1 B2 k0 k1 k2 kL S4
    generalize upd H2 a _ = G at P3 B4 m0 m1 m2 mL ⊢
    have e0 := hide_at m0 z0
    have e1 := hide_at m1 z1
    have e2 := hide_at m2 z2
    have lt : ∀ {s : Str}, Sok s → Leafy K (hide a G) (.str s) ∧ Thing K (hide a G) (.str s) := fun {s} h => ⟨leafy_str h, leaf_thing (leafy_str h) (.str s)⟩
    obtain ⟨v, hv, lv, tv⟩ := pick (P := fun v => Leafy K (hide a G) v ∧ Thing K (hide a G) v) (xs := [V.non, .int 0, .int 1, .str (Str.ofString ""), .str (Str.ofString "x"), .str (Str.ofString "1"), .ref l0, .ref t1, .ref t2]) r0 r1
      (lcons ⟨leafy_none, Thing.non⟩ (lcons ⟨leafy_int (by decide), leaf_thing (leafy_int (by decide)) (.int _)⟩ (lcons ⟨leafy_int (by decide), leaf_thing (leafy_int (by decide)) (.int _)⟩ (lcons (lt (sok_of (by decide +kernel))) (lcons (lt (sok_of (by decide +kernel))) (lcons (lt (sok_of (by decide +kernel)))
        (lcons ⟨leafy_nil e0, leaf_thing (leafy_nil e0) (.lst e0)⟩ (lcons ⟨leafy_one e1 (small15 (by omega) (by omega)), Thing.tup e1 (lcons (leafy_int (small15 (by omega) (by omega))) lnil) (by simp)⟩ (lcons ⟨leafy_tri e2 (by omega) (by omega), Thing.tup e2 (lcons (leafy_bl _) (lcons (leafy_int (small15 (by omega) (by omega))) (lcons (leafy_int (by decide)) lnil))) (by simp)⟩ lnil)))))))))
    refine ⟨LL, _, r, v, rfl, rfl, .of mL, hv, ?_⟩
    refine ⟨_, _, rfl, rfl, ⟨by decide, by decide, by decide⟩, ?_⟩
    clear m0 m1 m2 mL e0 e1 e2 lt hv z0 z1 z2
    have P0 := P3
    have B0 := B4
    have lv0 := lv
    generalize G = G0 at P0 B0 lv0 tv ⊢
    refine ⟨_, rfl, sz (by simp), fun p0 h0 => ?_⟩
    have S0 := same_new (o := .tup [.bl true, .int b]) h0
    have n0 : p0 ≠ a := (ne_of_none P0.1 h0).symm
    have e0 : (upd G0 p0 (.tup [.bl true, .int b])) p0 = some (.tup [.bl true, .int b]) := upd_same
    have P1 := P0.new (o := .tup [.bl true, .int b]) h0
    have B1 := B0.new (o := .tup [.bl true, .int b]) h0
    have lv1 := lv0.go S0
    generalize upd G0 p0 _ = G1 at S0 e0 P1 B1 lv1 ⊢
    have t0 : Thing K (hide a G1) (.ref p0) := Thing.tup (hide_at e0 n0) (by walk_at "leaf15") (by simp)
    refine ⟨_, rfl, sz (by simp), fun p1 h1 => ?_⟩
    have S1 := same_new (o := .tup [.bl false, .int b]) h1
    have n1 : p1 ≠ a := (ne_of_none P1.1 h1).symm
    have e1 : (upd G1 p1 (.tup [.bl false, .int b])) p1 = some (.tup [.bl false, .int b]) := upd_same
    have P2 := P1.new (o := .tup [.bl false, .int b]) h1
    have B2 := B1.new (o := .tup [.bl false, .int b]) h1
    have lv2 := lv1.go S1
    generalize upd G1 p1 _ = G2 at S1 e1 P2 B2 lv2 ⊢
    have t1 : Thing K (hide a G2) (.ref p1) := Thing.tup (hide_at e1 n1) (by walk_at "leaf15") (by simp)
    refine ⟨_, rfl, sz (by simp), fun p2 h2 => ?_⟩
    have S2 := same_new (o := .tup [.int 1, .int b]) h2
    have n2 : p2 ≠ a := (ne_of_none P2.1 h2).symm
    have e2 : (upd G2 p2 (.tup [.int 1, .int b])) p2 = some (.tup [.int 1, .int b]) := upd_same
    have P3 := P2.new (o := .tup [.int 1, .int b]) h2
    have B3 := B2.new (o := .tup [.int 1, .int b]) h2
    have lv3 := lv2.go S2
    generalize upd G2 p2 _ = G3 at S2 e2 P3 B3 lv3 ⊢
    have t2 : Thing K (hide a G3) (.ref p2) := Thing.tup (hide_at e2 n2) (by walk_at "leaf15") (by simp)
    refine ⟨_, rfl, _, rfl, _, _, rfl, rfl, sz (by simp), fun p3 h3 => ?_⟩
    have S3 := same_new (o := .tup [.bl true, .int (b + 1 * 2 ^ (45 : Int).toNat)]) h3
    have n3 : p3 ≠ a := (ne_of_none P3.1 h3).symm
    have e3 : (upd G3 p3 (.tup [.bl true, .int (b + 1 * 2 ^ (45 : Int).toNat)])) p3 = some (.tup [.bl true, .int (b + 1 * 2 ^ (45 : Int).toNat)]) := upd_same
    have P4 := P3.new (o := .tup [.bl true, .int (b + 1 * 2 ^ (45 : Int).toNat)]) h3
    have B4 := B3.new (o := .tup [.bl true, .int (b + 1 * 2 ^ (45 : Int).toNat)]) h3
    have lv4 := lv3.go S3
    generalize upd G3 p3 _ = G4 at S3 e3 P4 B4 lv4 ⊢
    have t3 : Thing K (hide a G4) (.ref p3) := Thing.tup (hide_at e3 n3) (by walk_at "leaf15") (by simp)
    refine ⟨_, rfl, _, rfl, _, _, rfl, rfl, sz (by simp), fun p4 h4 => ?_⟩
    have S4 := same_new (o := .tup [.bl true, .int (-b - 1)]) h4
    have n4 : p4 ≠ a := (ne_of_none P4.1 h4).symm
    have e4 : (upd G4 p4 (.tup [.bl true, .int (-b - 1)])) p4 = some (.tup [.bl true, .int (-b - 1)]) := upd_same
    have P5 := P4.new (o := .tup [.bl true, .int (-b - 1)]) h4
    have B5 := B4.new (o := .tup [.bl true, .int (-b - 1)]) h4
    have lv5 := lv4.go S4
    generalize upd G4 p4 _ = G5 at S4 e4 P5 B5 lv5 ⊢
    have t4 : Thing K (hide a G5) (.ref p4) := Thing.tup (hide_at e4 n4) (by walk_at "leaf15") (by simp)
    refine ⟨_, rfl, sz (by simp), fun p5 h5 => ?_⟩
    have S5 := same_new (o := .lst [.bl true, .int b]) h5
    have n5 : p5 ≠ a := (ne_of_none P5.1 h5).symm
    have e5 : (upd G5 p5 (.lst [.bl true, .int b])) p5 = some (.lst [.bl true, .int b]) := upd_same
    have P6 := P5.new (o := .lst [.bl true, .int b]) h5
    have B6 := B5.new (o := .lst [.bl true, .int b]) h5
    have lv6 := lv5.go S5
    generalize upd G5 p5 _ = G6 at S5 e5 P6 B6 lv6 ⊢
    have t5 : Thing K (hide a G6) (.ref p5) := Thing.lst (hide_at e5 n5) (by walk_at "leaf15") (by simp)
    refine ⟨_, rfl, _, rfl, sz (by simp), fun p6 h6 => ?_⟩
    have S6 := same_new (o := .tup [v, .int b]) h6
    have n6 : p6 ≠ a := (ne_of_none P6.1 h6).symm
    have e6 : (upd G6 p6 (.tup [v, .int b])) p6 = some (.tup [v, .int b]) := upd_same
    have P7 := P6.new (o := .tup [v, .int b]) h6
    have B7 := B6.new (o := .tup [v, .int b]) h6
    have lv7 := lv6.go S6
    generalize upd G6 p6 _ = G7 at S6 e6 P7 B7 lv7 ⊢
    have t6 : Thing K (hide a G7) (.ref p6) := Thing.tup (hide_at e6 n6) (by walk_at "leaf15") (by simp)
    refine ⟨sz (by simp), fun p7 h7 => ?_⟩
    have S7 := same_new (o := .lst [.ref p0, .ref p1, .ref p2, .ref p3, .ref p4, .ref p5, .ref p6]) h7
    have n7 : p7 ≠ a := (ne_of_none P7.1 h7).symm
    have e7 : (upd G7 p7 (.lst [.ref p0, .ref p1, .ref p2, .ref p3, .ref p4, .ref p5, .ref p6])) p7 = some (.lst [.ref p0, .ref p1, .ref p2, .ref p3, .ref p4, .ref p5, .ref p6]) := upd_same
    have P8 := P7.new (o := .lst [.ref p0, .ref p1, .ref p2, .ref p3, .ref p4, .ref p5, .ref p6]) h7
    have B8 := B7.new (o := .lst [.ref p0, .ref p1, .ref p2, .ref p3, .ref p4, .ref p5, .ref p6]) h7
    have lv8 := lv7.go S7
    generalize upd G7 p7 _ = G8 at S7 e7 P8 B8 lv8 ⊢
    refine ⟨_, rfl, ?_⟩
    refine ⟨_, rfl, sz (by simp), fun p8 h8 => ?_⟩
    have S8 := same_new (o := .tup [.bl true, v]) h8
    have n8 : p8 ≠ a := (ne_of_none P8.1 h8).symm
    have e8 : (upd G8 p8 (.tup [.bl true, v])) p8 = some (.tup [.bl true, v]) := upd_same
    have P9 := P8.new (o := .tup [.bl true, v]) h8
    have B9 := B8.new (o := .tup [.bl true, v]) h8
    have lv9 := lv8.go S8
    generalize upd G8 p8 _ = G9 at S8 e8 P9 B9 lv9 ⊢
    have t8 : Thing K (hide a G9) (.ref p8) := Thing.tup (hide_at e8 n8) (by walk_at "leaf15") (by simp)
    refine ⟨sz (by simp), fun p9 h9 => ?_⟩
    have S9 := same_new (o := .tup [.bl false, .bl true]) h9
    have n9 : p9 ≠ a := (ne_of_none P9.1 h9).symm
    have e9 : (upd G9 p9 (.tup [.bl false, .bl true])) p9 = some (.tup [.bl false, .bl true]) := upd_same
    have P10 := P9.new (o := .tup [.bl false, .bl true]) h9
    have B10 := B9.new (o := .tup [.bl false, .bl true]) h9
    have lv10 := lv9.go S9
    generalize upd G9 p9 _ = G10 at S9 e9 P10 B10 lv10 ⊢
    have t9 : Thing K (hide a G10) (.ref p9) := Thing.tup (hide_at e9 n9) (by walk_at "leaf15") (by simp)
    refine ⟨_, rfl, _, _, rfl, rfl, sz (by simp), fun p10 h10 => ?_⟩
    have S10 := same_new (o := .tup [.bl false, .int (1 * 2 ^ (45 : Int).toNat - 1)]) h10
    have n10 : p10 ≠ a := (ne_of_none P10.1 h10).symm
    have e10 : (upd G10 p10 (.tup [.bl false, .int (1 * 2 ^ (45 : Int).toNat - 1)])) p10 = some (.tup [.bl false, .int (1 * 2 ^ (45 : Int).toNat - 1)]) := upd_same
    have P11 := P10.new (o := .tup [.bl false, .int (1 * 2 ^ (45 : Int).toNat - 1)]) h10
    have B11 := B10.new (o := .tup [.bl false, .int (1 * 2 ^ (45 : Int).toNat - 1)]) h10
    have lv11 := lv10.go S10
    generalize upd G10 p10 _ = G11 at S10 e10 P11 B11 lv11 ⊢
    have t10 : Thing K (hide a G11) (.ref p10) := Thing.tup (hide_at e10 n10) (by walk_at "leaf15") (by simp)
    refine ⟨_, rfl, _, _, rfl, rfl, sz (by simp), fun p11 h11 => ?_⟩
    have S11 := same_new (o := .tup [.bl true, .int (1 * 2 ^ (45 : Int).toNat - 1)]) h11
    have n11 : p11 ≠ a := (ne_of_none P11.1 h11).symm
    have e11 : (upd G11 p11 (.tup [.bl true, .int (1 * 2 ^ (45 : Int).toNat - 1)])) p11 = some (.tup [.bl true, .int (1 * 2 ^ (45 : Int).toNat - 1)]) := upd_same
    have P12 := P11.new (o := .tup [.bl true, .int (1 * 2 ^ (45 : Int).toNat - 1)]) h11
    have B12 := B11.new (o := .tup [.bl true, .int (1 * 2 ^ (45 : Int).toNat - 1)]) h11
    have lv12 := lv11.go S11
    generalize upd G11 p11 _ = G12 at S11 e11 P12 B12 lv12 ⊢
    have t11 : Thing K (hide a G12) (.ref p11) := Thing.tup (hide_at e11 n11) (by walk_at "leaf15") (by simp)
    refine ⟨_, rfl, ?_⟩
    refine ⟨sz (by simp), fun p12 h12 => ?_⟩
    have S12 := same_new (o := .tup []) h12
    have n12 : p12 ≠ a := (ne_of_none P12.1 h12).symm
    have e12 : (upd G12 p12 (.tup [])) p12 = some (.tup []) := upd_same
    have P13 := P12.new (o := .tup []) h12
    have B13 := B12.new (o := .tup []) h12
    have lv13 := lv12.go S12
    generalize upd G12 p12 _ = G13 at S12 e12 P13 B13 lv13 ⊢
    have t12 : Thing K (hide a G13) (.ref p12) := Thing.tup (hide_at e12 n12) (by walk_at "leaf15") (by simp)
    refine ⟨sz (by simp), fun p13 h13 => ?_⟩
    have S13 := same_new (o := .tup [.bl false, .int 0]) h13
    have n13 : p13 ≠ a := (ne_of_none P13.1 h13).symm
    have e13 : (upd G13 p13 (.tup [.bl false, .int 0])) p13 = some (.tup [.bl false, .int 0]) := upd_same
    have P14 := P13.new (o := .tup [.bl false, .int 0]) h13
    have B14 := B13.new (o := .tup [.bl false, .int 0]) h13
    have lv14 := lv13.go S13
    generalize upd G13 p13 _ = G14 at S13 e13 P14 B14 lv14 ⊢
    have t13 : Thing K (hide a G14) (.ref p13) := Thing.tup (hide_at e13 n13) (by walk_at "leaf15") (by simp)
    refine ⟨sz (by simp), fun p14 h14 => ?_⟩
    have S14 := same_new (o := .tup [.bl true, .int 0]) h14
    have n14 : p14 ≠ a := (ne_of_none P14.1 h14).symm
    have e14 : (upd G14 p14 (.tup [.bl true, .int 0])) p14 = some (.tup [.bl true, .int 0]) := upd_same
    have P15 := P14.new (o := .tup [.bl true, .int 0]) h14
    have B15 := B14.new (o := .tup [.bl true, .int 0]) h14
    have lv15 := lv14.go S14
    generalize upd G14 p14 _ = G15 at S14 e14 P15 B15 lv15 ⊢
    have t14 : Thing K (hide a G15) (.ref p14) := Thing.tup (hide_at e14 n14) (by walk_at "leaf15") (by simp)
    refine ⟨sz (by simp), fun p15 h15 => ?_⟩
    have S15 := same_new (o := .lst [.ref p8, .ref p9, .ref p10, .ref p11, v, .ref p12, .ref p13, .ref p14]) h15
    have n15 : p15 ≠ a := (ne_of_none P15.1 h15).symm
    have e15 : (upd G15 p15 (.lst [.ref p8, .ref p9, .ref p10, .ref p11, v, .ref p12, .ref p13, .ref p14])) p15 = some (.lst [.ref p8, .ref p9, .ref p10, .ref p11, v, .ref p12, .ref p13, .ref p14]) := upd_same
    have P16 := P15.new (o := .lst [.ref p8, .ref p9, .ref p10, .ref p11, v, .ref p12, .ref p13, .ref p14]) h15
    have B16 := B15.new (o := .lst [.ref p8, .ref p9, .ref p10, .ref p11, v, .ref p12, .ref p13, .ref p14]) h15
    have lv16 := lv15.go S15
    generalize upd G15 p15 _ = G16 at S15 e15 P16 B16 lv16 ⊢
    refine ⟨p7, p15, _, _, rfl, rfl, ((((((((S8).trans S9).trans S10).trans S11).trans S12).trans S13).trans S14).trans S15) _ _ e7, e15, sz (by simp), ?_⟩
    refine fun p16 h16 => ?_
    have S16 := same_new (o := .lst ([.ref p0, .ref p1, .ref p2, .ref p3, .ref p4, .ref p5, .ref p6] ++ [.ref p8, .ref p9, .ref p10, .ref p11, v, .ref p12, .ref p13, .ref p14])) h16
    have n16 : p16 ≠ a := (ne_of_none P16.1 h16).symm
    have e16 : (upd G16 p16 (.lst ([.ref p0, .ref p1, .ref p2, .ref p3, .ref p4, .ref p5, .ref p6] ++ [.ref p8, .ref p9, .ref p10, .ref p11, v, .ref p12, .ref p13, .ref p14]))) p16 = some (.lst ([.ref p0, .ref p1, .ref p2, .ref p3, .ref p4, .ref p5, .ref p6] ++ [.ref p8, .ref p9, .ref p10, .ref p11, v, .ref p12, .ref p13, .ref p14])) := upd_same
    have P17 := P16.new (o := .lst ([.ref p0, .ref p1, .ref p2, .ref p3, .ref p4, .ref p5, .ref p6] ++ [.ref p8, .ref p9, .ref p10, .ref p11, v, .ref p12, .ref p13, .ref p14])) h16
    have B17 := B16.new (o := .lst ([.ref p0, .ref p1, .ref p2, .ref p3, .ref p4, .ref p5, .ref p6] ++ [.ref p8, .ref p9, .ref p10, .ref p11, v, .ref p12, .ref p13, .ref p14])) h16
    have lv17 := lv16.go S16
    generalize upd G16 p16 _ = G17 at S16 e16 P17 B17 lv17 ⊢
    refine ⟨_, rfl, ?_⟩
    refine ⟨_, rfl, sz (by simp), fun p17 h17 => ?_⟩
    have S17 := same_new (o := .tup [.bl false, .int (1 * 2 ^ (45 : Int).toNat)]) h17
    have n17 : p17 ≠ a := (ne_of_none P17.1 h17).symm
    have e17 : (upd G17 p17 (.tup [.bl false, .int (1 * 2 ^ (45 : Int).toNat)])) p17 = some (.tup [.bl false, .int (1 * 2 ^ (45 : Int).toNat)]) := upd_same
    have P18 := P17.new (o := .tup [.bl false, .int (1 * 2 ^ (45 : Int).toNat)]) h17
    have B18 := B17.new (o := .tup [.bl false, .int (1 * 2 ^ (45 : Int).toNat)]) h17
    have lv18 := lv17.go S17
    generalize upd G17 p17 _ = G18 at S17 e17 P18 B18 lv18 ⊢
    have t17 : Thing K (hide a G18) (.ref p17) := Thing.tup (hide_at e17 n17) (by walk_at "leaf15") (by simp)
    refine ⟨_, rfl, sz (by simp), fun p18 h18 => ?_⟩
    have S18 := same_new (o := .tup [.bl false, .int (-1)]) h18
    have n18 : p18 ≠ a := (ne_of_none P18.1 h18).symm
    have e18 : (upd G18 p18 (.tup [.bl false, .int (-1)])) p18 = some (.tup [.bl false, .int (-1)]) := upd_same
    have P19 := P18.new (o := .tup [.bl false, .int (-1)]) h18
    have B19 := B18.new (o := .tup [.bl false, .int (-1)]) h18
    have lv19 := lv18.go S18
    generalize upd G18 p18 _ = G19 at S18 e18 P19 B19 lv19 ⊢
    have t18 : Thing K (hide a G19) (.ref p18) := Thing.tup (hide_at e18 n18) (by walk_at "leaf15") (by simp)
    refine ⟨sz (by simp), fun p19 h19 => ?_⟩
    have S19 := same_new (o := .lst [.ref p17, .ref p18]) h19
    have n19 : p19 ≠ a := (ne_of_none P19.1 h19).symm
    have e19 : (upd G19 p19 (.lst [.ref p17, .ref p18])) p19 = some (.lst [.ref p17, .ref p18]) := upd_same
    have P20 := P19.new (o := .lst [.ref p17, .ref p18]) h19
    have B20 := B19.new (o := .lst [.ref p17, .ref p18]) h19
    have lv20 := lv19.go S19
    generalize upd G19 p19 _ = G20 at S19 e19 P20 B20 lv20 ⊢
    refine ⟨p16, p19, _, _, rfl, rfl, (((S17).trans S18).trans S19) _ _ e16, e19, sz (by simp), ?_⟩
    refine fun p20 h20 => ?_
    have S20 := same_new (o := .lst ([.ref p0, .ref p1, .ref p2, .ref p3, .ref p4, .ref p5, .ref p6] ++ [.ref p8, .ref p9, .ref p10, .ref p11, v, .ref p12, .ref p13, .ref p14] ++ [.ref p17, .ref p18])) h20
    have n20 : p20 ≠ a := (ne_of_none P20.1 h20).symm
    have e20 : (upd G20 p20 (.lst ([.ref p0, .ref p1, .ref p2, .ref p3, .ref p4, .ref p5, .ref p6] ++ [.ref p8, .ref p9, .ref p10, .ref p11, v, .ref p12, .ref p13, .ref p14] ++ [.ref p17, .ref p18]))) p20 = some (.lst ([.ref p0, .ref p1, .ref p2, .ref p3, .ref p4, .ref p5, .ref p6] ++ [.ref p8, .ref p9, .ref p10, .ref p11, v, .ref p12, .ref p13, .ref p14] ++ [.ref p17, .ref p18])) := upd_same
    have P21 := P20.new (o := .lst ([.ref p0, .ref p1, .ref p2, .ref p3, .ref p4, .ref p5, .ref p6] ++ [.ref p8, .ref p9, .ref p10, .ref p11, v, .ref p12, .ref p13, .ref p14] ++ [.ref p17, .ref p18])) h20
    have B21 := B20.new (o := .lst ([.ref p0, .ref p1, .ref p2, .ref p3, .ref p4, .ref p5, .ref p6] ++ [.ref p8, .ref p9, .ref p10, .ref p11, v, .ref p12, .ref p13, .ref p14] ++ [.ref p17, .ref p18])) h20
    have lv21 := lv20.go S20
    generalize upd G20 p20 _ = G21 at S20 e20 P21 B21 lv21 ⊢
    refine q p20 _ x2 y2 G21 B21 P21 e20 n20 ?_
    exact lcons (t0.go ((((((((((((((((((((S1).trans S2).trans S3).trans S4).trans S5).trans S6).trans S7).trans S8).trans S9).trans S10).trans S11).trans S12).trans S13).trans S14).trans S15).trans S16).trans S17).trans S18).trans S19).trans S20)) (lcons (t1.go (((((((((((((((((((S2).trans S3).trans S4).trans S5).trans S6).trans S7).trans S8).trans S9).trans S10).trans S11).trans S12).trans S13).trans S14).trans S15).trans S16).trans S17).trans S18).trans S19).trans S20)) (lcons (t2.go ((((((((((((((((((S3).trans S4).trans S5).trans S6).trans S7).trans S8).trans S9).trans S10).trans S11).trans S12).trans S13).trans S14).trans S15).trans S16).trans S17).trans S18).trans S19).trans S20)) (lcons (t3.go (((((((((((((((((S4).trans S5).trans S6).trans S7).trans S8).trans S9).trans S10).trans S11).trans S12).trans S13).trans S14).trans S15).trans S16).trans S17).trans S18).trans S19).trans S20)) (lcons (t4.go ((((((((((((((((S5).trans S6).trans S7).trans S8).trans S9).trans S10).trans S11).trans S12).trans S13).trans S14).trans S15).trans S16).trans S17).trans S18).trans S19).trans S20)) (lcons (t5.go (((((((((((((((S6).trans S7).trans S8).trans S9).trans S10).trans S11).trans S12).trans S13).trans S14).trans S15).trans S16).trans S17).trans S18).trans S19).trans S20)) (lcons (t6.go ((((((((((((((S7).trans S8).trans S9).trans S10).trans S11).trans S12).trans S13).trans S14).trans S15).trans S16).trans S17).trans S18).trans S19).trans S20)) (lcons (t8.go ((((((((((((S9).trans S10).trans S11).trans S12).trans S13).trans S14).trans S15).trans S16).trans S17).trans S18).trans S19).trans S20)) (lcons (t9.go (((((((((((S10).trans S11).trans S12).trans S13).trans S14).trans S15).trans S16).trans S17).trans S18).trans S19).trans S20)) (lcons (t10.go ((((((((((S11).trans S12).trans S13).trans S14).trans S15).trans S16).trans S17).trans S18).trans S19).trans S20)) (lcons (t11.go (((((((((S12).trans S13).trans S14).trans S15).trans S16).trans S17).trans S18).trans S19).trans S20)) (lcons (tv.go (((((((((((((((((((((S0).trans S1).trans S2).trans S3).trans S4).trans S5).trans S6).trans S7).trans S8).trans S9).trans S10).trans S11).trans S12).trans S13).trans S14).trans S15).trans S16).trans S17).trans S18).trans S19).trans S20)) (lcons (t12.go ((((((((S13).trans S14).trans S15).trans S16).trans S17).trans S18).trans S19).trans S20)) (lcons (t13.go (((((((S14).trans S15).trans S16).trans S17).trans S18).trans S19).trans S20)) (lcons (t14.go ((((((S15).trans S16).trans S17).trans S18).trans S19).trans S20)) (lcons (t17.go (((S18).trans S19).trans S20)) (lcons (t18.go ((S19).trans S20)) (lnil)))))))))))))))))

theorem ok_law {f : Addr} {oc kV dc pm cdv ct : Value} {od an : Option Addr} {osl : Array (Option Value)} (lk : K.lookup f = some ⟨oc, od, .func (PySem.W.fnOf "law" "law" (defArgs s_law) (defBody s_law) (defScope s_law) .none kV dc pm an cdv ct), osl⟩) (hcd : PySem.W.codeIn K cdv "law" = true) (T : Txt K w mg) (C_is_rights : Cal P w K mg base "is_rights" 1 ["thing"] (sp_is_rights K)) (C__law_take : Cal P w K mg base "_law_take" 1 ["_law_pool_here", "_law_many"] (sp__law_take K)) (C__law_pool : Cal P w K mg base "_law_pool" 1 ["_law_script", "_law_k"] (sp__law_pool K)) (C_is_word : Cal P w K mg base "is_word" 2 ["thing"] (sp_is_word K)) (C_is_lawful : Cal P w K mg base "is_lawful" 4 ["thing"] (sp_is_lawful K)) (C__law_is_word : Cal P w K mg base "_law_is_word" 1 ["_law_thing"] (sp__law_is_word K)) (C__law_is_lawful : Cal P w K mg base "_law_is_lawful" 2 ["_law_thing"] (sp__law_is_lawful K)) (C__law_is_rights : Cal P w K mg base "_law_is_rights" 1 ["_law_thing"] (sp__law_is_rights K)) (C__law_things : Cal P w K mg base "_law_things" 4 ["_law_pool_here"] (sp__law_things K)) {s : Shared} {H : Hp} {a : Addr} {ns : List Int} (e0 : Env0 P w K mg base callerA [] s H) (hS : SqL K H a (ns.map V.int)) (hlen : ns.length ≤ 63) :
    codeAny (model P w) callerA (.call (.ref f) ⟨[.ref a], []⟩) (CR CX0 [] P w H s (fun v _ => v = .bl true) fun _ _ _ => False) s := by
  obtain ⟨t_RIGHTS, hc_RIGHTS⟩ := T.c_RIGHTS
  have hr : Room 4 (callerA.deeper (envOfC "law" (defScope s_law) s.heap.objs.size f cdv)) := Room.deeper (k := 4) ⟨rfl, by decide, by decide⟩ _
  have gd : (callerA.deeper (envOfC "law" (defScope s_law) s.heap.objs.size f cdv)).guards = some [] := caller_guards
  generalize hQ : (fun (v : V) (_ : Hp) => v = V.bl true) = Q
  have q : ∀ H', Q (.bl true) H' := fun _ => by rw [← hQ]
  refine body_at (N := ["_law_script", "_law_k", "_law_pool_here", "_law_thing", "_law_kept", "_law_sign", "_law_text", "_law_at", "_law_more"]) (ps := ["_law_script"]) (vs := [.ref a]) (us := [.ref a]) lk hcd sc_law rfl (k := 4) ⟨rfl, by decide, by decide⟩ e0 (.of_eq rfl) (.cons rfl .nil) ?_
  refine ⟨_, PSs.nox (pss_cons (ps_if (pt_cmpR op_ne (pe_glob (v := .str (Str.ofString "rwlsnfxco")) (by rfl) hc_RIGHTS ⟨_, rfl⟩) pe_str (nomark _)) (pss_one (ps_ret pe_bl)) pss_nil)
      (pss_cons (ps_for PassesOwn.never rfl (pi_range1 (by rfl) T.z_range (pa_cons (pe_callB (call_max2 rfl) (by rfl) T.z_max (by decide +kernel) (pa_cons pe_int (pa_cons (pe_callB (call_min2 rfl) (by rfl) T.z_min (by decide +kernel) (pa_cons (pe_callB call_len_seq (by rfl) T.z_len (by decide +kernel) (pa_cons (pv 0) pa_nil)) (pa_cons pe_int pa_nil))) pa_nil))) pa_nil)) (pg_name (i := 1) sc_law.nd rfl (.inl rfl)) (pss_cons (ps_set (i := 2) sc_law.nd rfl (.inr rfl) (pe_cal C__law_pool (hr.mono (by decide)) (pa_cons (pv 0) (pa_cons (pv 1) pa_nil))))
      (pss_cons (ps_for PassesOwn.never rfl (pi_list (pe_cal C__law_things (hr.mono (by decide)) (pa_cons (pv 2) pa_nil))) (pg_name (i := 3) sc_law.nd rfl (.inl rfl)) (pss_cons (ps_set (i := 4) sc_law.nd rfl (.inl rfl) (pe_callB (call_reprD gd hr.units) (by rfl) T.z_repr (by decide +kernel) (pa_cons (pv 3) pa_nil)))
      (pss_cons (ps_if (PW.pt (pw_or (pt_cmpR op_ne (pe_callB (call_reprD gd hr.units) (by rfl) T.z_repr (by decide +kernel) (pa_cons (pe_cal C_is_word (hr.mono (by decide)) (pa_cons (pv 3) pa_nil)) pa_nil)) (pe_callB (call_reprD gd hr.units) (by rfl) T.z_repr (by decide +kernel) (pa_cons (pe_cal C__law_is_word (hr.mono (by decide)) (pa_cons (pv 3) pa_nil)) pa_nil)) (nomark _)) (pw_or1 (pt_cmpR op_ne (pe_callB (call_reprD gd hr.units) (by rfl) T.z_repr (by decide +kernel) (pa_cons (pv 3) pa_nil)) (pv 4) (nomark _))))) (pss_one (ps_ret pe_bl)) pss_nil)
      (pss_one (ps_if (pt_cmpR op_ne (pe_callB (call_reprD gd hr.units) (by rfl) T.z_repr (by decide +kernel) (pa_cons (pe_cal C_is_lawful (hr.mono (by decide)) (pa_cons (pv 3) pa_nil)) pa_nil)) (pe_callB (call_reprD gd hr.units) (by rfl) T.z_repr (by decide +kernel) (pa_cons (pe_cal C__law_is_lawful (hr.mono (by decide)) (pa_cons (pv 3) pa_nil)) pa_nil)) (nomark _)) (pss_one (ps_ret pe_bl)) pss_nil)))))
      (pss_cons (ps_set (i := 6) sc_law.nd rfl (.inl rfl) (pe_join pe_str (pe_lc (own := [("_law_sign", 5)]) rfl sc_law.nd (pi_str (pe_glob (v := .str (Str.ofString "rwlsnfxco")) (by rfl) hc_RIGHTS ⟨_, rfl⟩)) (blkOk_by (own := [("_law_sign", 5)]) (N := ["_law_script", "_law_k", "_law_pool_here", "_law_thing", "_law_kept", "_law_sign", "_law_text", "_law_at", "_law_more"]) (sc := defScope s_law) (by decide +kernel)) (fun _ _ _ _ _ => (pg_name (i := 5) sc_law.nd rfl (.inl rfl))) (fun _ _ _ _ _ => (pts_one (pt_cmpR op_eq (pe_cal C__law_take (hr.mono (by decide)) (pa_cons (pv 2) (pa_cons pe_int pa_nil))) pe_int (nomark _)))) (fun _ _ _ _ _ => (pv 5)))))
      (pss_cons (ps_set (i := 7) sc_law.nd rfl (.inl rfl) (pe_cal C__law_take (hr.mono (by decide)) (pa_cons (pv 2) (pa_cons (pe_op op_add (pe_callB call_len_str (by rfl) T.z_len (by decide +kernel) (pa_cons (pv 6) pa_nil)) pe_int) pa_nil))))
      (pss_cons (ps_set (i := 8) sc_law.nd rfl (.inl rfl) (pe_op op_add_str (pe_op op_add_str (pe_slice sl_str (pv 6) po_none (po_some (pv 7))) (pe_ix (r := rIxS) ix_str pe_str (pe_cal C__law_take (hr.mono (by decide)) (pa_cons (pv 2) (pa_cons pe_int pa_nil))) (fun _ _ => rfl))) (pe_slice sl_str (pv 6) (po_some (pv 7)) po_none)))
      (pss_one (ps_for PassesOwn.never rfl (pi_list (pe_lst (pa_cons (pv 6) (pa_cons (pv 8) (pa_cons (pe_revS (pv 6)) (pa_cons (pe_op op_add_str (pv 6) (pv 6)) (pa_cons (pe_callTy (call_listStr rfl) (by rfl) T.z_list (by decide +kernel) (pa_cons (pv 6) pa_nil)) (pa_cons (pe_callTy (call_tupleStr rfl) (by rfl) T.z_tuple (by decide +kernel) (pa_cons (pv 6) pa_nil)) (pa_cons pe_non (pa_cons pe_int (pa_cons pe_str (pa_cons pe_bl (pa_cons pe_dnewK pa_nil))))))))))))) (pg_name (i := 3) sc_law.nd rfl (.inl rfl)) (pss_one (ps_if (pt_cmpR op_ne (pe_callB (call_reprD gd hr.units) (by rfl) T.z_repr (by decide +kernel) (pa_cons (pe_cal C_is_rights (hr.mono (by decide)) (pa_cons (pv 3) pa_nil)) pa_nil)) (pe_callB (call_reprD gd hr.units) (by rfl) T.z_repr (by decide +kernel) (pa_cons (pe_cal C__law_is_rights (hr.mono (by decide)) (pa_cons (pv 3) pa_nil)) pa_nil)) (nomark _)) (pss_one (ps_ret pe_bl)) pss_nil))))))))))
      (pss_one (ps_ret pe_bl)))), ?_⟩
  refine ⟨rfl, _, rfl, ifnd (fun c => absurd rfl c) (fun _ => ?_)⟩
  refine ⟨_, rfl, a, _, rfl, .inl hS, _, _, rfl, _, _, rfl, _, rfl, rep_lo (c := 30) (by decide) (by decide), rep_hi (c := 30) (by decide) (by decide), for_range (fun i σ H' => ∃ v1 v2 v3 v4 v5 v6 v7 v8, σ = [some (.ref a), v1, v2, v3, v4, v5, v6, v7, v8] ∧ Same H H') ⟨_, _, _, _, _, _, _, _, rfl, Same.refl _⟩ ?_ ?_⟩
  · rintro i σ H3 hi ⟨v1, v2, v3, v4, v5, v6, v7, v8, rfl, s3⟩
    have hi63 := rep_i (c := 30) (by decide) (by decide) hi
    rw [i0]
    refine ⟨_, rfl, _, rfl, a, ns, i, rfl, s3.seq hS, hlen, hi63, fun x y p H4 sm4 hp0 P4 => ?_⟩
    refine ⟨_, rfl, p, x, y, rfl, P4, fun L xs x1 y1 H5 B5 P5 hL nL hT => ?_⟩
    refine ⟨L, rfl, ⟨_, .of hL⟩, for_list (K := K) (a := L) (xs := xs) (fun j σ H' => ∃ u3 u4 u5 u6 u7 u8, σ = [some (.ref a), some (.int (i : Int)), some (.ref p), u3, u4, u5, u6, u7, u8] ∧ Same H5 H') ⟨_, _, _, _, _, _, rfl, Same.refl _⟩ (fun j σ H' _ ⟨_, _, _, _, _, _, _, sm⟩ => .of (sm _ _ hL)) ?_ ?_⟩
    · rintro j xx σ G1 hx ⟨u3, u4, u5, u6, u7, u8, rfl, S1⟩
      obtain ⟨⟨d, dp, ft⟩, tt⟩ := ((hT xx (List.mem_of_getElem? hx)).same (hide_same p _)).same S1
      refine ⟨_, rfl, _, d, rfl, dp, ft.1, ft.2.1, ft.2.2.1, ft.2.2.2, ?_⟩
      have bf := bool_fit
      rcases tt with ⟨pp, ys, rfl, t1, t2, t3⟩ | tn
      · refine ⟨_, rfl, _, rfl, .inl ⟨pp, ys, rfl, t1, t2, fun b hb => ?_⟩⟩
        refine ⟨.bl b, .bool b, rfl, .bl b, (bf b).1, (bf b).2.1, (bf b).2.2.1, (bf b).2.2.2, ?_⟩
        refine ⟨_, rfl, _, rfl, .inl ⟨pp, ys, rfl, t1, t2, fun b' hb' => ?_⟩⟩
        have e := two_same hb hb'
        subst e
        refine ⟨.bl b, .bool b, rfl, .bl b, (bf b).1, (bf b).2.1, (bf b).2.2.1, (bf b).2.2.2, ?_⟩
        refine ⟨rfl, _, rfl, ifnd (fun c => absurd rfl c) (fun _ => ?_)⟩
        refine ⟨_, rfl, _, d, rfl, dp, ft.1, ft.2.1, ft.2.2.1, ft.2.2.2, _, rfl, rfl, _, rfl, ifnd (fun c => absurd rfl c) (fun _ => ?_)⟩
        refine ⟨_, rfl, _, rfl, .inl ⟨pp, ys, rfl, t1, t2, fun g H6 S6 hg => ?_⟩⟩
        refine ⟨.bl g, .bool g, rfl, .bl g, (bf g).1, (bf g).2.1, (bf g).2.2.1, (bf g).2.2.2, ?_⟩
        refine ⟨_, rfl, _, rfl, .inl ⟨pp, ys, rfl, S6 _ _ t1, kds t2 S6, fun g' H7 S7 hg' => ?_⟩⟩
        have e := two_same hg hg'
        subst e
        refine ⟨.bl g, .bool g, rfl, .bl g, (bf g).1, (bf g).2.1, (bf g).2.2.1, (bf g).2.2.2, ?_⟩
        refine ⟨rfl, _, rfl, ifnd (fun c => absurd rfl c) (fun _ => ?_)⟩
        exact ⟨_, _, _, _, _, _, rfl, (S1.trans S6).trans S7⟩
      · refine ⟨_, rfl, _, rfl, .inr ⟨tn, ?_⟩⟩
        refine ⟨.bl false, .bool false, rfl, .bl false, (bf false).1, (bf false).2.1, (bf false).2.2.1, (bf false).2.2.2, ?_⟩
        refine ⟨_, rfl, _, rfl, .inr ⟨tn, ?_⟩⟩
        refine ⟨.bl false, .bool false, rfl, .bl false, (bf false).1, (bf false).2.1, (bf false).2.2.1, (bf false).2.2.2, ?_⟩
        refine ⟨rfl, _, rfl, ifnd (fun c => absurd rfl c) (fun _ => ?_)⟩
        refine ⟨_, rfl, _, d, rfl, dp, ft.1, ft.2.1, ft.2.2.1, ft.2.2.2, _, rfl, rfl, _, rfl, ifnd (fun c => absurd rfl c) (fun _ => ?_)⟩
        refine ⟨_, rfl, _, rfl, .inr ⟨tn, fun H6 S6 => ?_⟩⟩
        refine ⟨.bl false, .bool false, rfl, .bl false, (bf false).1, (bf false).2.1, (bf false).2.2.1, (bf false).2.2.2, ?_⟩
        refine ⟨_, rfl, _, rfl, .inr ⟨tn.same S6, fun H7 S7 => ?_⟩⟩
        refine ⟨.bl false, .bool false, rfl, .bl false, (bf false).1, (bf false).2.1, (bf false).2.2.1, (bf false).2.2.2, ?_⟩
        refine ⟨rfl, _, rfl, ifnd (fun c => absurd rfl c) (fun _ => ?_)⟩
        exact ⟨_, _, _, _, _, _, rfl, (S1.trans S6).trans S7⟩
    rintro σ G1 ⟨u3, u4, u5, u6, u7, u8, rfl, S1⟩
    have P6 := P5.same S1
    refine ⟨⟨_, rfl⟩, RT, rfl, fun D hD => ?_⟩
    have nDp : D ≠ p := (ne_of_none P6.1 hD).symm
    refine lc_it (walk_str (z := RT)) (fun i H' => ∃ l x2 y2, But p G1 H' ∧ Pool H' p x2 y2 ∧ H' D = some (.lst (l.map V.str)) ∧ l.length ≤ i ∧ ∀ s ∈ l, ∃ k, k < 9 ∧ s = one (code k)) ⟨[], x1, y1, But.of (same_new hD), P6.new hD, upd_same, by simp, by simp⟩ (fun _ _ _ _ => trivial) ?_ ?_
    · rintro i x H1 H2 hi ⟨l, x2, y2, b1, Q1, hl, hn, hk⟩ ⟨rfl, c, hc, rfl⟩
      rw [RT_size] at hi
      rw [RT_get i hi] at hc
      have ec : c = code i := (Option.some.inj hc).symm
      subst ec
      refine ⟨rfl, ?_⟩
      refine ⟨_, rfl, p, x2, y2, _, rfl, Q1, by decide, by decide, fun r x3 y3 r0 r1 P2 => ⟨rfl, _, rfl, ifd (fun e => ?_) (fun e => ?_)⟩⟩
      · refine ⟨_, rfl, _, (by rw [upd_ne nDp]; exact hl), ?_, l ++ [one (code i)], x3, y3, (b1.upd).put hD, ⟨by rw [upd_ne nDp.symm]; exact P2.1, P2.2⟩, ?_, ?_, ?_⟩
        · rw [List.length_map]; exact szn (by omega)
        · rw [upd_same, List.map_append]; rfl
        · rw [List.length_append]; show l.length + 1 ≤ _; omega
        · intro s hs
          rcases List.mem_append.mp hs with z | z
          · exact hk s z
          · exact ⟨i, hi, by simpa using z⟩
      · exact ⟨l, x3, y3, b1.upd, P2, (by rw [upd_ne nDp]; exact hl), by omega, hk⟩
    rintro H1 ⟨l, x2, y2, b1, P1, hl, hn, hk⟩
    rw [RT_size] at hn
    refine ⟨_, D, l, rfl, rfl, .inl (.of hl), few_fit hk hn, ?_⟩
    have fz := few_join hk hn
    generalize Txt.join _ l = z at fz ⊢
    have zl : z.cps.size ≤ 9 := fz.2
    have zl9 : z.length ≤ 9 := zl
    have zs : z.length ≤ sizeLine := by rw [sizeLine_eq]; exact Nat.le_trans zl (by decide)
    refine ⟨_, rfl, _, rfl, z, rfl, zs, _, _, rfl, rfl, p, x2, y2, _, rfl, P1, by omega, by omega, fun r x3 y3 r0 r1 P2 => ?_⟩
    refine ⟨_, rfl, _, rfl, _, rfl, z, rfl, zs, ?_⟩
    refine ⟨_, rfl, p, x3, y3, _, rfl, P2, by decide, by decide, fun r4 x4 y4 r40 r41 P4 => ?_⟩
    obtain ⟨c, hc, lc⟩ := pickC cst_few r40 (by rw [cst_size]; exact r41)
    refine ⟨CST, _, c, rfl, rfl, few_len cst_few (by decide), hc, ?_⟩
    have f1 := few_cut fz none (some r)
    have f2 := few_one lc
    refine ⟨_, _, rfl, rfl, ?_, ?_⟩
    · have := f1.2; have := f2.2; rw [sizeLine_eq]; show (cutS z none (some r)).cps.size + _ ≤ _; show _ + (#[c] : Array Nat).size ≤ _; simp; omega
    refine ⟨_, rfl, _, rfl, _, rfl, z, rfl, zs, ?_⟩
    have f3 := few_app f1 f2
    have f4 := few_cut fz (some r) none
    refine ⟨_, _, rfl, rfl, ?_, ?_⟩
    · have := f3.2; have := f4.2; rw [sizeLine_eq]; show (cutS z none (some r) ++ (⟨#[c]⟩ : Str)).cps.size + (cutS z (some r) none).cps.size ≤ _; omega
    have f5 := few_app f3 f4
    generalize cutS z none (some r) ++ _ ++ _ = zm at f5 ⊢
    clear f1 f2 f3 f4 hc lc
    have BA : But p G1 (upd (upd H1 p (HO.lst [V.int x3, V.int y3])) p (HO.lst [V.int x4, V.int y4])) := (b1.upd).upd
    generalize upd (upd H1 p _) p _ = G2 at P4 BA ⊢
    refine ⟨_, rfl, _, rfl, _, rfl, z, rfl, zs, fun zr hzr hzc => ?_⟩
    refine ⟨_, rfl, _, rfl, _, _, rfl, rfl, ?_, ?_⟩
    · rw [sizeLine_eq]; omega
    refine ⟨_, rfl, z, rfl, zs, fun t1 ht1 => ?_⟩
    refine ⟨_, rfl, z, rfl, zs, fun t2 ht2 => ?_⟩
    refine fun t3 ht3 => ?_
    refine ⟨sz (by simp), fun LL hLL => ?_⟩
    have sa := same_new (o := .lst (signs z)) ht1
    have sb := same_new (o := .tup (signs z)) ht2
    have sc := same_new (o := .dK []) ht3
    have sd := same_new (o := .lst [V.str z, .str zm, .str zr, .str (z ++ z), .ref t1, .ref t2, .non, .int 7, .str (Str.ofString ""), .bl true, .ref t3]) hLL
    have k1 := sd _ _ (sc _ _ (sb _ _ (upd_same (H := G2) (a := t1) (o := .lst (signs z)))))
    have k2 := sd _ _ (sc _ _ (upd_same (H := upd G2 t1 (.lst (signs z))) (a := t2) (o := .tup (signs z))))
    have k3 := sd _ _ (upd_same (H := upd (upd G2 t1 (.lst (signs z))) t2 (.tup (signs z))) (a := t3) (o := .dK []))
    have kL : (upd (upd (upd (upd G2 t1 (.lst (signs z))) t2 (.tup (signs z))) t3 (.dK [])) LL (.lst [V.str z, .str zm, .str zr, .str (z ++ z), .ref t1, .ref t2, .non, .int 7, .str (Str.ofString ""), .bl true, .ref t3])) LL = some (.lst [V.str z, .str zm, .str zr, .str (z ++ z), .ref t1, .ref t2, .non, .int 7, .str (Str.ofString ""), .bl true, .ref t3]) := upd_same
    have SG := ((sa.trans sb).trans sc).trans sd
    clear sa sb sc sd ht1 ht2 ht3 hLL
    generalize upd (upd (upd (upd G2 t1 _) t2 _) t3 _) LL _ = G3 at k1 k2 k3 kL SG ⊢
    have lens : z.cps.size ≤ 9 := zl
    have frz : Few 9 zr := ⟨fun c hc => fz.1 c (hzc c hc), Nat.le_trans hzr zl9⟩
    have ok : ∀ {n : Nat} {s : Str}, Few n s → n ≤ 100 → Kd G3 (.str s) ∧ ∀ s', V.str s = .str s' → Sok s' := fun {n s} f h => ⟨.str s, fun s' e => by cases e; exact f.sok h⟩
    have all : ∀ v ∈ [V.str z, .str zm, .str zr, .str (z ++ z), .ref t1, .ref t2, .non, .int 7, .str (Str.ofString ""), .bl true, .ref t3], Kd G3 v ∧ ∀ s, v = .str s → Sok s :=
      lcons (ok fz (by decide)) (lcons (ok f5 (by decide)) (lcons (ok frz (by decide)) (lcons (ok (few_app fz fz) (by decide)) (lcons ⟨.lst k1, fun _ e => nomatch e⟩ (lcons ⟨.tup k2, fun _ e => nomatch e⟩ (lcons ⟨.non, fun _ e => nomatch e⟩ (lcons ⟨.int 7, fun _ e => nomatch e⟩
        (lcons ⟨.str _, fun s e => by cases e; exact sok_of (by decide +kernel)⟩ (lcons ⟨.bl true, fun _ e => nomatch e⟩ (lcons ⟨.dk k3, fun _ e => nomatch e⟩ lnil))))))))))
    have BF : Same H G3 := sameP s3 sm4 hp0 (((B5.trans (But.of S1)).trans BA).trans (But.of SG))
    refine ⟨LL, rfl, ⟨_, .of kL⟩, for_list (K := K) (a := LL) (xs := [V.str z, .str zm, .str zr, .str (z ++ z), .ref t1, .ref t2, .non, .int 7, .str (Str.ofString ""), .bl true, .ref t3]) (fun j σ H' => ∃ u3 u4 u5 u6 u7 u8, σ = [some (.ref a), some (.int (i : Int)), some (.ref p), u3, u4, u5, u6, u7, u8] ∧ Same G3 H') ⟨_, _, _, _, _, _, rfl, Same.refl _⟩ (fun j σ H' _ ⟨_, _, _, _, _, _, _, sm⟩ => .of (sm _ _ kL)) ?_ ?_⟩
    · rintro j xx σ G4 hx ⟨u3, u4, u5, u6, u7, u8, rfl, S4⟩
      obtain ⟨kd, sk⟩ := all xx (List.mem_of_getElem? hx)
      have bf := bool_fit
      refine ⟨_, rfl, xx, rfl, kd.same S4, fun g H6 S6 hg => ?_⟩
      refine ⟨.bl g, .bool g, rfl, .bl g, (bf g).1, (bf g).2.1, (bf g).2.2.1, (bf g).2.2.2, ?_⟩
      refine ⟨_, rfl, xx, rfl, kd.same (S4.trans S6), sk, fun g' H7 S7 hg' => ?_⟩
      have e := two_same hg hg'
      subst e
      refine ⟨.bl g, .bool g, rfl, .bl g, (bf g).1, (bf g).2.1, (bf g).2.2.1, (bf g).2.2.2, ?_⟩
      refine ⟨rfl, _, rfl, ifnd (fun c => absurd rfl c) (fun _ => ?_)⟩
      exact ⟨_, _, _, _, _, _, rfl, (S4.trans S6).trans S7⟩
    rintro σ G4 ⟨u3, u4, u5, u6, u7, u8, rfl, S4⟩
    exact ⟨_, _, _, _, _, _, _, _, rfl, BF.trans S4⟩
  · rintro σ H3 ⟨v1, v2, v3, v4, v5, v6, v7, v8, rfl, s3⟩
    exact q _
end
theorem all_mk {l : PySem.W.OpenLaw} {w : World} {K : PySem.W.Frag} {h : Heap} {mg : Str → Option Value} {fa f0 f1 f2 f3 f4 f5 f6 f7 f8 f9 f10 f11 f12 f13 f14 f15 f16 f17 f18 f19 f20 f21 : Addr} (X : K.In h) (G : h.Ns mainGlobals mg) (hfa : mg "law" = some (.ref fa))
    {od0 an0 od1 an1 od2 an2 od3 an3 od4 an4 od5 an5 od6 an6 od7 an7 od8 an8 od9 an9 od10 an10 od11 an11 od12 an12 od13 an13 od14 an14 od15 an15 od16 an16 od17 an17 od18 an18 od19 an19 od20 an20 od21 an21 : Option Addr} {sl0 sl1 sl2 sl3 sl4 sl5 sl6 sl7 sl8 sl9 sl10 sl11 sl12 sl13 sl14 sl15 sl16 sl17 sl18 sl19 sl20 sl21 : Array (Option Value)} {oc0 kV0 dc0 pm0 cd0 ct0 oc1 kV1 dc1 pm1 cd1 ct1 oc2 kV2 dc2 pm2 cd2 ct2 oc3 kV3 dc3 pm3 cd3 ct3 oc4 kV4 dc4 pm4 cd4 ct4 oc5 kV5 dc5 pm5 cd5 ct5 oc6 kV6 dc6 pm6 cd6 ct6 oc7 kV7 dc7 pm7 cd7 ct7 oc8 kV8 dc8 pm8 cd8 ct8 oc9 kV9 dc9 pm9 cd9 ct9 oc10 kV10 dc10 pm10 cd10 ct10 oc11 kV11 dc11 pm11 cd11 ct11 oc12 kV12 dc12 pm12 cd12 ct12 oc13 kV13 dc13 pm13 cd13 ct13 oc14 kV14 dc14 pm14 cd14 ct14 oc15 kV15 dc15 pm15 cd15 ct15 oc16 kV16 dc16 pm16 cd16 ct16 oc17 kV17 dc17 pm17 cd17 ct17 oc18 kV18 dc18 pm18 cd18 ct18 oc19 kV19 dc19 pm19 cd19 ct19 oc20 kV20 dc20 pm20 cd20 ct20 oc21 kV21 dc21 pm21 cd21 ct21 : Value}
    (a0 : PySem.W.nsIn K mainGlobals "is_whole" = some (some (.ref f0))) (l0 : K.lookup f0 = some ⟨oc0, od0, .func (PySem.W.fnOf "is_whole" "is_whole" (defArgs s_is_whole) (defBody s_is_whole) (defScope s_is_whole) .none kV0 dc0 pm0 an0 cd0 ct0), sl0⟩) (c0 : PySem.W.codeIn K cd0 "is_whole" = true) (k0 : PySem.W.keepIn K (.ref f0) = true)
    (a1 : PySem.W.nsIn K mainGlobals "_has_some" = some (some (.ref f1))) (l1 : K.lookup f1 = some ⟨oc1, od1, .func (PySem.W.fnOf "_has_some" "_has_some" (defArgs s__has_some) (defBody s__has_some) (defScope s__has_some) .none kV1 dc1 pm1 an1 cd1 ct1), sl1⟩) (c1 : PySem.W.codeIn K cd1 "_has_some" = true) (k1 : PySem.W.keepIn K (.ref f1) = true)
    (a2 : PySem.W.nsIn K mainGlobals "_lead_one_way" = some (some (.ref f2))) (l2 : K.lookup f2 = some ⟨oc2, od2, .func (PySem.W.fnOf "_lead_one_way" "_lead_one_way" (defArgs s__lead_one_way) (defBody s__lead_one_way) (defScope s__lead_one_way) .none kV2 dc2 pm2 an2 cd2 ct2), sl2⟩) (c2 : PySem.W.codeIn K cd2 "_lead_one_way" = true) (k2 : PySem.W.keepIn K (.ref f2) = true)
    (a3 : PySem.W.nsIn K mainGlobals "field" = some (some (.ref f3))) (l3 : K.lookup f3 = some ⟨oc3, od3, .func (PySem.W.fnOf "field" "field" (defArgs s_field) (defBody s_field) (defScope s_field) .none kV3 dc3 pm3 an3 cd3 ct3), sl3⟩) (c3 : PySem.W.codeIn K cd3 "field" = true) (k3 : PySem.W.keepIn K (.ref f3) = true)
    (a4 : PySem.W.nsIn K mainGlobals "rights_in" = some (some (.ref f4))) (l4 : K.lookup f4 = some ⟨oc4, od4, .func (PySem.W.fnOf "rights_in" "rights_in" (defArgs s_rights_in) (defBody s_rights_in) (defScope s_rights_in) .none kV4 dc4 pm4 an4 cd4 ct4), sl4⟩) (c4 : PySem.W.codeIn K cd4 "rights_in" = true) (k4 : PySem.W.keepIn K (.ref f4) = true)
    (a5 : PySem.W.nsIn K mainGlobals "_tell" = some (some (.ref f5))) (l5 : K.lookup f5 = some ⟨oc5, od5, .func (PySem.W.fnOf "_tell" "_tell" (defArgs s__tell) (defBody s__tell) (defScope s__tell) .none kV5 dc5 pm5 an5 cd5 ct5), sl5⟩) (c5 : PySem.W.codeIn K cd5 "_tell" = true) (k5 : PySem.W.keepIn K (.ref f5) = true)
    (a6 : PySem.W.nsIn K mainGlobals "is_rights" = some (some (.ref f6))) (l6 : K.lookup f6 = some ⟨oc6, od6, .func (PySem.W.fnOf "is_rights" "is_rights" (defArgs s_is_rights) (defBody s_is_rights) (defScope s_is_rights) .none kV6 dc6 pm6 an6 cd6 ct6), sl6⟩) (c6 : PySem.W.codeIn K cd6 "is_rights" = true) (k6 : PySem.W.keepIn K (.ref f6) = true)
    (a7 : PySem.W.nsIn K mainGlobals "_law_take" = some (some (.ref f7))) (l7 : K.lookup f7 = some ⟨oc7, od7, .func (PySem.W.fnOf "_law_take" "_law_take" (defArgs s__law_take) (defBody s__law_take) (defScope s__law_take) .none kV7 dc7 pm7 an7 cd7 ct7), sl7⟩) (c7 : PySem.W.codeIn K cd7 "_law_take" = true) (k7 : PySem.W.keepIn K (.ref f7) = true)
    (a8 : PySem.W.nsIn K mainGlobals "_law_pool" = some (some (.ref f8))) (l8 : K.lookup f8 = some ⟨oc8, od8, .func (PySem.W.fnOf "_law_pool" "_law_pool" (defArgs s__law_pool) (defBody s__law_pool) (defScope s__law_pool) .none kV8 dc8 pm8 an8 cd8 ct8), sl8⟩) (c8 : PySem.W.codeIn K cd8 "_law_pool" = true) (k8 : PySem.W.keepIn K (.ref f8) = true)
    (a9 : PySem.W.nsIn K mainGlobals "is_word" = some (some (.ref f9))) (l9 : K.lookup f9 = some ⟨oc9, od9, .func (PySem.W.fnOf "is_word" "is_word" (defArgs s_is_word) (defBody s_is_word) (defScope s_is_word) .none kV9 dc9 pm9 an9 cd9 ct9), sl9⟩) (c9 : PySem.W.codeIn K cd9 "is_word" = true) (k9 : PySem.W.keepIn K (.ref f9) = true)
    (a10 : PySem.W.nsIn K mainGlobals "_may_be_marked" = some (some (.ref f10))) (l10 : K.lookup f10 = some ⟨oc10, od10, .func (PySem.W.fnOf "_may_be_marked" "_may_be_marked" (defArgs s__may_be_marked) (defBody s__may_be_marked) (defScope s__may_be_marked) .none kV10 dc10 pm10 an10 cd10 ct10), sl10⟩) (c10 : PySem.W.codeIn K cd10 "_may_be_marked" = true) (k10 : PySem.W.keepIn K (.ref f10) = true)
    (a11 : PySem.W.nsIn K mainGlobals "is_lawful" = some (some (.ref f11))) (l11 : K.lookup f11 = some ⟨oc11, od11, .func (PySem.W.fnOf "is_lawful" "is_lawful" (defArgs s_is_lawful) (defBody s_is_lawful) (defScope s_is_lawful) .none kV11 dc11 pm11 an11 cd11 ct11), sl11⟩) (c11 : PySem.W.codeIn K cd11 "is_lawful" = true) (k11 : PySem.W.keepIn K (.ref f11) = true)
    (a12 : PySem.W.nsIn K mainGlobals "_law_bits" = some (some (.ref f12))) (l12 : K.lookup f12 = some ⟨oc12, od12, .func (PySem.W.fnOf "_law_bits" "_law_bits" (defArgs s__law_bits) (defBody s__law_bits) (defScope s__law_bits) .none kV12 dc12 pm12 an12 cd12 ct12), sl12⟩) (c12 : PySem.W.codeIn K cd12 "_law_bits" = true) (k12 : PySem.W.keepIn K (.ref f12) = true)
    (a13 : PySem.W.nsIn K mainGlobals "_law_mask" = some (some (.ref f13))) (l13 : K.lookup f13 = some ⟨oc13, od13, .func (PySem.W.fnOf "_law_mask" "_law_mask" (defArgs s__law_mask) (defBody s__law_mask) (defScope s__law_mask) .none kV13 dc13 pm13 an13 cd13 ct13), sl13⟩) (c13 : PySem.W.codeIn K cd13 "_law_mask" = true) (k13 : PySem.W.keepIn K (.ref f13) = true)
    (a14 : PySem.W.nsIn K mainGlobals "_law_drawn" = some (some (.ref f14))) (l14 : K.lookup f14 = some ⟨oc14, od14, .func (PySem.W.fnOf "_law_drawn" "_law_drawn" (defArgs s__law_drawn) (defBody s__law_drawn) (defScope s__law_drawn) .none kV14 dc14 pm14 an14 cd14 ct14), sl14⟩) (c14 : PySem.W.codeIn K cd14 "_law_drawn" = true) (k14 : PySem.W.keepIn K (.ref f14) = true)
    (a15 : PySem.W.nsIn K mainGlobals "_law_fields" = some (some (.ref f15))) (l15 : K.lookup f15 = some ⟨oc15, od15, .func (PySem.W.fnOf "_law_fields" "_law_fields" (defArgs s__law_fields) (defBody s__law_fields) (defScope s__law_fields) .none kV15 dc15 pm15 an15 cd15 ct15), sl15⟩) (c15 : PySem.W.codeIn K cd15 "_law_fields" = true) (k15 : PySem.W.keepIn K (.ref f15) = true)
    (a16 : PySem.W.nsIn K mainGlobals "_law_good" = some (some (.ref f16))) (l16 : K.lookup f16 = some ⟨oc16, od16, .func (PySem.W.fnOf "_law_good" "_law_good" (defArgs s__law_good) (defBody s__law_good) (defScope s__law_good) .none kV16 dc16 pm16 an16 cd16 ct16), sl16⟩) (c16 : PySem.W.codeIn K cd16 "_law_good" = true) (k16 : PySem.W.keepIn K (.ref f16) = true)
    (a17 : PySem.W.nsIn K mainGlobals "_law_is_word" = some (some (.ref f17))) (l17 : K.lookup f17 = some ⟨oc17, od17, .func (PySem.W.fnOf "_law_is_word" "_law_is_word" (defArgs s__law_is_word) (defBody s__law_is_word) (defScope s__law_is_word) .none kV17 dc17 pm17 an17 cd17 ct17), sl17⟩) (c17 : PySem.W.codeIn K cd17 "_law_is_word" = true) (k17 : PySem.W.keepIn K (.ref f17) = true)
    (a18 : PySem.W.nsIn K mainGlobals "_law_is_lawful" = some (some (.ref f18))) (l18 : K.lookup f18 = some ⟨oc18, od18, .func (PySem.W.fnOf "_law_is_lawful" "_law_is_lawful" (defArgs s__law_is_lawful) (defBody s__law_is_lawful) (defScope s__law_is_lawful) .none kV18 dc18 pm18 an18 cd18 ct18), sl18⟩) (c18 : PySem.W.codeIn K cd18 "_law_is_lawful" = true) (k18 : PySem.W.keepIn K (.ref f18) = true)
    (a19 : PySem.W.nsIn K mainGlobals "_law_is_rights" = some (some (.ref f19))) (l19 : K.lookup f19 = some ⟨oc19, od19, .func (PySem.W.fnOf "_law_is_rights" "_law_is_rights" (defArgs s__law_is_rights) (defBody s__law_is_rights) (defScope s__law_is_rights) .none kV19 dc19 pm19 an19 cd19 ct19), sl19⟩) (c19 : PySem.W.codeIn K cd19 "_law_is_rights" = true) (k19 : PySem.W.keepIn K (.ref f19) = true)
    (a20 : PySem.W.nsIn K mainGlobals "_law_things" = some (some (.ref f20))) (l20 : K.lookup f20 = some ⟨oc20, od20, .func (PySem.W.fnOf "_law_things" "_law_things" (defArgs s__law_things) (defBody s__law_things) (defScope s__law_things) .none kV20 dc20 pm20 an20 cd20 ct20), sl20⟩) (c20 : PySem.W.codeIn K cd20 "_law_things" = true) (k20 : PySem.W.keepIn K (.ref f20) = true)
    (a21 : PySem.W.nsIn K mainGlobals "law" = some (some (.ref f21))) (l21 : K.lookup f21 = some ⟨oc21, od21, .func (PySem.W.fnOf "law" "law" (defArgs s_law) (defBody s_law) (defScope s_law) .none kV21 dc21 pm21 an21 cd21 ct21), sl21⟩) (c21 : PySem.W.codeIn K cd21 "law" = true) (k21 : PySem.W.keepIn K (.ref f21) = true)
    (z_abs : PySem.W.nsIn K mainGlobals "abs" = some none)
    (z_any : PySem.W.nsIn K mainGlobals "any" = some none)
    (z_bool : PySem.W.nsIn K mainGlobals "bool" = some none)
    (z_enumerate : PySem.W.nsIn K mainGlobals "enumerate" = some none)
    (z_int : PySem.W.nsIn K mainGlobals "int" = some none)
    (z_isinstance : PySem.W.nsIn K mainGlobals "isinstance" = some none)
    (z_len : PySem.W.nsIn K mainGlobals "len" = some none)
    (z_list : PySem.W.nsIn K mainGlobals "list" = some none)
    (z_max : PySem.W.nsIn K mainGlobals "max" = some none)
    (z_min : PySem.W.nsIn K mainGlobals "min" = some none)
    (z_range : PySem.W.nsIn K mainGlobals "range" = some none)
    (z_repr : PySem.W.nsIn K mainGlobals "repr" = some none)
    (z_str : PySem.W.nsIn K mainGlobals "str" = some none)
    (z_sum : PySem.W.nsIn K mainGlobals "sum" = some none)
    (z_tuple : PySem.W.nsIn K mainGlobals "tuple" = some none)
    {t_CELLS : Tok} (v_CELLS : PySem.W.nsIn K mainGlobals "CELLS" = some (some (.int 4096 t_CELLS)))
    {p_COUNT_LESS_ONE : Addr} {dd_COUNT_LESS_ONE : Option Addr} {n_COUNT_LESS_ONE : Nat} {sl_COUNT_LESS_ONE : Array (Option Value)} {t_COUNT_LESS_ONE_0 t_COUNT_LESS_ONE_1 : Tok} (v_COUNT_LESS_ONE : PySem.W.nsIn K mainGlobals "COUNT_LESS_ONE" = some (some (.ref p_COUNT_LESS_ONE))) (w_COUNT_LESS_ONE : K.lookup p_COUNT_LESS_ONE = some ⟨.type "tuple", dd_COUNT_LESS_ONE, .seq #[(Value.int 24 t_COUNT_LESS_ONE_0), (Value.int 4 t_COUNT_LESS_ONE_1)] n_COUNT_LESS_ONE, sl_COUNT_LESS_ONE⟩)
    {p_FIRST : Addr} {dd_FIRST : Option Addr} {n_FIRST : Nat} {sl_FIRST : Array (Option Value)} {t_FIRST_0 t_FIRST_1 : Tok} (v_FIRST : PySem.W.nsIn K mainGlobals "FIRST" = some (some (.ref p_FIRST))) (w_FIRST : K.lookup p_FIRST = some ⟨.type "tuple", dd_FIRST, .seq #[(Value.int 12 t_FIRST_0), (Value.int 12 t_FIRST_1)] n_FIRST, sl_FIRST⟩)
    {p_GROUPS : Addr} {dd_GROUPS : Option Addr} {n_GROUPS : Nat} {sl_GROUPS : Array (Option Value)} {t_GROUPS_0 t_GROUPS_1 t_GROUPS_2 : Tok} (v_GROUPS : PySem.W.nsIn K mainGlobals "GROUPS" = some (some (.ref p_GROUPS))) (w_GROUPS : K.lookup p_GROUPS = some ⟨.type "tuple", dd_GROUPS, .seq #[(Value.str (Str.ofString "rwlsn") t_GROUPS_0), (Value.str (Str.ofString "x") t_GROUPS_1), (Value.str (Str.ofString "co") t_GROUPS_2)] n_GROUPS, sl_GROUPS⟩)
    {t_LEAST_COUNT : Tok} (v_LEAST_COUNT : PySem.W.nsIn K mainGlobals "LEAST_COUNT" = some (some (.int 9 t_LEAST_COUNT)))
    {t_RIGHTS : Tok} (v_RIGHTS : PySem.W.nsIn K mainGlobals "RIGHTS" = some (some (.str (Str.ofString "rwlsnfxco") t_RIGHTS)))
    {p_RIGHTS_BITS : Addr} {dd_RIGHTS_BITS : Option Addr} {n_RIGHTS_BITS : Nat} {sl_RIGHTS_BITS : Array (Option Value)} {t_RIGHTS_BITS_0 t_RIGHTS_BITS_1 : Tok} (v_RIGHTS_BITS : PySem.W.nsIn K mainGlobals "RIGHTS_BITS" = some (some (.ref p_RIGHTS_BITS))) (w_RIGHTS_BITS : K.lookup p_RIGHTS_BITS = some ⟨.type "tuple", dd_RIGHTS_BITS, .seq #[(Value.int 32 t_RIGHTS_BITS_0), (Value.int 9 t_RIGHTS_BITS_1)] n_RIGHTS_BITS, sl_RIGHTS_BITS⟩)
    {p_STEP : Addr} {dd_STEP : Option Addr} {n_STEP : Nat} {sl_STEP : Array (Option Value)} {t_STEP_0 t_STEP_1 : Tok} (v_STEP : PySem.W.nsIn K mainGlobals "STEP" = some (some (.ref p_STEP))) (w_STEP : K.lookup p_STEP = some ⟨.type "tuple", dd_STEP, .seq #[(Value.int 28 t_STEP_0), (Value.int 4 t_STEP_1)] n_STEP, sl_STEP⟩)
    {t_TOP_STEP : Tok} (v_TOP_STEP : PySem.W.nsIn K mainGlobals "TOP_STEP" = some (some (.int 8 t_TOP_STEP)))
    {t_WORTHS : Tok} (v_WORTHS : PySem.W.nsIn K mainGlobals "WORTHS" = some (some (.int 35184372088832 t_WORTHS)))
    : ∀ (base : Heap) (H : Hp) (s : Shared) (a : Addr) (ns : List Int), K.In base → base.Ns mainGlobals mg → Env0 l.prog w K mg base callerA [] s H → SqL K H a (ns.map V.int) → ns.length ≤ 63 → codeAny (model l.prog w) callerA (.call (.ref fa) ⟨[.ref a], []⟩) (CR CX0 [] l.prog w H s (fun v _ => v = .bl true) fun _ _ _ => False) s := by
  have e := hfa.symm.trans (PySem.W.mg_of X G a21)
  cases e
  have F0 := fun_mk (st := s_is_whole) l0 c0 k0
  have F1 := fun_mk (st := s__has_some) l1 c1 k1
  have F2 := fun_mk (st := s__lead_one_way) l2 c2 k2
  have F3 := fun_mk (st := s_field) l3 c3 k3
  have F4 := fun_mk (st := s_rights_in) l4 c4 k4
  have F5 := fun_mk (st := s__tell) l5 c5 k5
  have F6 := fun_mk (st := s_is_rights) l6 c6 k6
  have F7 := fun_mk (st := s__law_take) l7 c7 k7
  have F8 := fun_mk (st := s__law_pool) l8 c8 k8
  have F9 := fun_mk (st := s_is_word) l9 c9 k9
  have F10 := fun_mk (st := s__may_be_marked) l10 c10 k10
  have F11 := fun_mk (st := s_is_lawful) l11 c11 k11
  have F12 := fun_mk (st := s__law_bits) l12 c12 k12
  have F13 := fun_mk (st := s__law_mask) l13 c13 k13
  have F14 := fun_mk (st := s__law_drawn) l14 c14 k14
  have F15 := fun_mk (st := s__law_fields) l15 c15 k15
  have F16 := fun_mk (st := s__law_good) l16 c16 k16
  have F17 := fun_mk (st := s__law_is_word) l17 c17 k17
  have F18 := fun_mk (st := s__law_is_lawful) l18 c18 k18
  have F19 := fun_mk (st := s__law_is_rights) l19 c19 k19
  have F20 := fun_mk (st := s__law_things) l20 c20 k20
  have F21 := fun_mk (st := s_law) l21 c21 k21
  have T : Txt K w mg := ⟨PySem.W.mg_none_of X G z_abs, PySem.W.mg_none_of X G z_any, PySem.W.mg_none_of X G z_bool, PySem.W.mg_none_of X G z_enumerate, PySem.W.mg_none_of X G z_int, PySem.W.mg_none_of X G z_isinstance, PySem.W.mg_none_of X G z_len, PySem.W.mg_none_of X G z_list, PySem.W.mg_none_of X G z_max, PySem.W.mg_none_of X G z_min, PySem.W.mg_none_of X G z_range, PySem.W.mg_none_of X G z_repr, PySem.W.mg_none_of X G z_str, PySem.W.mg_none_of X G z_sum, PySem.W.mg_none_of X G z_tuple, ⟨_, PySem.W.mg_of X G v_CELLS⟩, ⟨_, PySem.W.mg_of X G v_COUNT_LESS_ONE, fun H => .inr ⟨_, _, _, w_COUNT_LESS_ONE, rfl, rfl, by show 2 ≤ sizeLine; decide, .cons ⟨_, rfl⟩ (.cons ⟨_, rfl⟩ (.nil))⟩⟩, ⟨_, PySem.W.mg_of X G v_FIRST, fun H => .inr ⟨_, _, _, w_FIRST, rfl, rfl, by show 2 ≤ sizeLine; decide, .cons ⟨_, rfl⟩ (.cons ⟨_, rfl⟩ (.nil))⟩⟩, ⟨_, PySem.W.mg_of X G v_GROUPS, fun H => .inr ⟨_, _, _, w_GROUPS, rfl, rfl, by show 3 ≤ sizeLine; decide, .cons ⟨_, rfl⟩ (.cons ⟨_, rfl⟩ (.cons ⟨_, rfl⟩ (.nil)))⟩⟩, ⟨_, PySem.W.mg_of X G v_LEAST_COUNT⟩, ⟨_, PySem.W.mg_of X G v_RIGHTS⟩, ⟨_, PySem.W.mg_of X G v_RIGHTS_BITS, fun H => .inr ⟨_, _, _, w_RIGHTS_BITS, rfl, rfl, by show 2 ≤ sizeLine; decide, .cons ⟨_, rfl⟩ (.cons ⟨_, rfl⟩ (.nil))⟩⟩, ⟨_, PySem.W.mg_of X G v_STEP, fun H => .inr ⟨_, _, _, w_STEP, rfl, rfl, by show 2 ≤ sizeLine; decide, .cons ⟨_, rfl⟩ (.cons ⟨_, rfl⟩ (.nil))⟩⟩, ⟨_, PySem.W.mg_of X G v_TOP_STEP⟩, ⟨_, PySem.W.mg_of X G v_WORTHS⟩⟩
  intro base H s a ns kb nb e0 hS hlen
  have C_is_whole : Cal l.prog w K mg base "is_whole" 1 ["thing", "least", "most"] (sp_is_whole K) := ⟨_, _, ok_is_whole F0 T, PySem.W.mg_of X G a0, F0.kp, F0.binds fun _ _ _ _ _ _ us hl => match us, hl with | [_, _, _], _ => rfl⟩
  have C__has_some : Cal l.prog w K mg base "_has_some" 1 ["rights", "group"] (sp__has_some K) := ⟨_, _, ok__has_some F1 T, PySem.W.mg_of X G a1, F1.kp, F1.binds fun _ _ _ _ _ _ us hl => match us, hl with | [_, _], _ => rfl⟩
  have C__lead_one_way : Cal l.prog w K mg base "_lead_one_way" 2 ["rights"] (sp__lead_one_way K) := ⟨_, _, ok__lead_one_way F2 T C__has_some, PySem.W.mg_of X G a2, F2.kp, F2.binds fun _ _ _ _ _ _ us hl => match us, hl with | [_], _ => rfl⟩
  have C_field : Cal l.prog w K mg base "field" 1 ["bits", "place"] (sp_field K) := ⟨_, _, ok_field F3 T, PySem.W.mg_of X G a3, F3.kp, F3.binds fun _ _ _ _ _ _ us hl => match us, hl with | [_, _], _ => rfl⟩
  have C_rights_in : Cal l.prog w K mg base "rights_in" 2 ["bits"] (sp_rights_in K) := ⟨_, _, ok_rights_in F4 T C_field, PySem.W.mg_of X G a4, F4.kp, F4.binds fun _ _ _ _ _ _ us hl => match us, hl with | [_], _ => rfl⟩
  have C__tell : Cal l.prog w K mg base "_tell" 2 ["bits"] (sp__tell K) := ⟨_, _, ok__tell F5 T C_field, PySem.W.mg_of X G a5, F5.kp, F5.binds fun _ _ _ _ _ _ us hl => match us, hl with | [_], _ => rfl⟩
  have C_is_rights : Cal l.prog w K mg base "is_rights" 1 ["thing"] (sp_is_rights K) := ⟨_, _, ok_is_rights F6 T, PySem.W.mg_of X G a6, F6.kp, F6.binds fun _ _ _ _ _ _ us hl => match us, hl with | [_], _ => rfl⟩
  have C__law_take : Cal l.prog w K mg base "_law_take" 1 ["_law_pool_here", "_law_many"] (sp__law_take K) := ⟨_, _, ok__law_take F7 T, PySem.W.mg_of X G a7, F7.kp, F7.binds fun _ _ _ _ _ _ us hl => match us, hl with | [_, _], _ => rfl⟩
  have C__law_pool : Cal l.prog w K mg base "_law_pool" 1 ["_law_script", "_law_k"] (sp__law_pool K) := ⟨_, _, ok__law_pool F8 T, PySem.W.mg_of X G a8, F8.kp, F8.binds fun _ _ _ _ _ _ us hl => match us, hl with | [_, _], _ => rfl⟩
  have C_is_word : Cal l.prog w K mg base "is_word" 2 ["thing"] (sp_is_word K) := ⟨_, _, ok_is_word F9 T C_is_whole, PySem.W.mg_of X G a9, F9.kp, F9.binds fun _ _ _ _ _ _ us hl => match us, hl with | [_], _ => rfl⟩
  have C__may_be_marked : Cal l.prog w K mg base "_may_be_marked" 3 ["bits"] (sp__may_be_marked K) := ⟨_, _, ok__may_be_marked F10 T C__lead_one_way C_rights_in C__tell, PySem.W.mg_of X G a10, F10.kp, F10.binds fun _ _ _ _ _ _ us hl => match us, hl with | [_], _ => rfl⟩
  have C_is_lawful : Cal l.prog w K mg base "is_lawful" 4 ["thing"] (sp_is_lawful K) := ⟨_, _, ok_is_lawful F11 T C_is_word C__may_be_marked, PySem.W.mg_of X G a11, F11.kp, F11.binds fun _ _ _ _ _ _ us hl => match us, hl with | [_], _ => rfl⟩
  have C__law_bits : Cal l.prog w K mg base "_law_bits" 1 ["_law_at", "_law_first", "_law_count", "_law_step", "_law_rights", "_law_kind"] (sp__law_bits K) := ⟨_, _, ok__law_bits F12 T, PySem.W.mg_of X G a12, F12.kp, F12.binds fun _ _ _ _ _ _ us hl => match us, hl with | [_, _, _, _, _, _], _ => rfl⟩
  have C__law_mask : Cal l.prog w K mg base "_law_mask" 2 ["_law_pool_here"] (sp__law_mask K) := ⟨_, _, ok__law_mask F13 T C__law_take, PySem.W.mg_of X G a13, F13.kp, F13.binds fun _ _ _ _ _ _ us hl => match us, hl with | [_], _ => rfl⟩
  have C__law_drawn : Cal l.prog w K mg base "_law_drawn" 3 ["_law_pool_here"] (sp__law_drawn K) := ⟨_, _, ok__law_drawn F14 T C__law_take C__law_bits C__law_mask, PySem.W.mg_of X G a14, F14.kp, F14.binds fun _ _ _ _ _ _ us hl => match us, hl with | [_], _ => rfl⟩
  have C__law_fields : Cal l.prog w K mg base "_law_fields" 1 ["_law_bits_here"] (sp__law_fields K) := ⟨_, _, ok__law_fields F15 T, PySem.W.mg_of X G a15, F15.kp, F15.binds fun _ _ _ _ _ _ us hl => match us, hl with | [_], _ => rfl⟩
  have C__law_good : Cal l.prog w K mg base "_law_good" 1 ["_law_rights"] (sp__law_good K) := ⟨_, _, ok__law_good F16 T, PySem.W.mg_of X G a16, F16.kp, F16.binds fun _ _ _ _ _ _ us hl => match us, hl with | [_], _ => rfl⟩
  have C__law_is_word : Cal l.prog w K mg base "_law_is_word" 1 ["_law_thing"] (sp__law_is_word K) := ⟨_, _, ok__law_is_word F17 T, PySem.W.mg_of X G a17, F17.kp, F17.binds fun _ _ _ _ _ _ us hl => match us, hl with | [_], _ => rfl⟩
  have C__law_is_lawful : Cal l.prog w K mg base "_law_is_lawful" 2 ["_law_thing"] (sp__law_is_lawful K) := ⟨_, _, ok__law_is_lawful F18 T C__law_fields C__law_good C__law_is_word, PySem.W.mg_of X G a18, F18.kp, F18.binds fun _ _ _ _ _ _ us hl => match us, hl with | [_], _ => rfl⟩
  have C__law_is_rights : Cal l.prog w K mg base "_law_is_rights" 1 ["_law_thing"] (sp__law_is_rights K) := ⟨_, _, ok__law_is_rights F19 T, PySem.W.mg_of X G a19, F19.kp, F19.binds fun _ _ _ _ _ _ us hl => match us, hl with | [_], _ => rfl⟩
  have C__law_things : Cal l.prog w K mg base "_law_things" 4 ["_law_pool_here"] (sp__law_things K) := ⟨_, _, ok__law_things F20 T C__law_take C__law_drawn, PySem.W.mg_of X G a20, F20.kp, F20.binds fun _ _ _ _ _ _ us hl => match us, hl with | [_], _ => rfl⟩
  exact ok_law l21 c21 T C_is_rights C__law_take C__law_pool C_is_word C_is_lawful C__law_is_word C__law_is_lawful C__law_is_rights C__law_things e0 hS hlen
end My
open PySem PySem.W PyProof.Rows
set_option maxRecDepth 100000 in
set_option maxHeartbeats 0 in
theorem PySem.Challenge.cw_sealedreach_k01_words_rights_lawful_ones_holds : PySem.Challenge.rw_sealedreach_k01_words_rights_lawful_ones.Holds := by
  w_on; o_law; k_head; (case hw => w_witness2)
  k_fill
  refine My.walk_scr (l := PySem.Challenge.rw_sealedreach_k01_words_rights_lawful_ones) (n := 63) rfl (by decide) rfl (fun w h Y => PySem.W.kIn_of Y) ?F
  case F =>
    intro w mg fa h KX G hmg
    refine' My.all_mk KX G hmg ?a0 ?l0 ?c0 ?k0 ?a1 ?l1 ?c1 ?k1 ?a2 ?l2 ?c2 ?k2 ?a3 ?l3 ?c3 ?k3 ?a4 ?l4 ?c4 ?k4 ?a5 ?l5 ?c5 ?k5 ?a6 ?l6 ?c6 ?k6 ?a7 ?l7 ?c7 ?k7 ?a8 ?l8 ?c8 ?k8 ?a9 ?l9 ?c9 ?k9 ?a10 ?l10 ?c10 ?k10 ?a11 ?l11 ?c11 ?k11 ?a12 ?l12 ?c12 ?k12 ?a13 ?l13 ?c13 ?k13 ?a14 ?l14 ?c14 ?k14 ?a15 ?l15 ?c15 ?k15 ?a16 ?l16 ?c16 ?k16 ?a17 ?l17 ?c17 ?k17 ?a18 ?l18 ?c18 ?k18 ?a19 ?l19 ?c19 ?k19 ?a20 ?l20 ?c20 ?k20 ?a21 ?l21 ?c21 ?k21 ?z_abs ?z_any ?z_bool ?z_enumerate ?z_int ?z_isinstance ?z_len ?z_list ?z_max ?z_min ?z_range ?z_repr ?z_str ?z_sum ?z_tuple ?v_CELLS ?v_COUNT_LESS_ONE ?w_COUNT_LESS_ONE ?v_FIRST ?w_FIRST ?v_GROUPS ?w_GROUPS ?v_LEAST_COUNT ?v_RIGHTS ?v_RIGHTS_BITS ?w_RIGHTS_BITS ?v_STEP ?w_STEP ?v_TOP_STEP ?v_WORTHS
    (case a0 => k_is)
    (case l0 => k_is)
    (case c0 => k_is)
    (case k0 => k_is)
    (case a1 => k_is)
    (case l1 => k_is)
    (case c1 => k_is)
    (case k1 => k_is)
    (case a2 => k_is)
    (case l2 => k_is)
    (case c2 => k_is)
    (case k2 => k_is)
    (case a3 => k_is)
    (case l3 => k_is)
    (case c3 => k_is)
    (case k3 => k_is)
    (case a4 => k_is)
    (case l4 => k_is)
    (case c4 => k_is)
    (case k4 => k_is)
    (case a5 => k_is)
    (case l5 => k_is)
    (case c5 => k_is)
    (case k5 => k_is)
    (case a6 => k_is)
    (case l6 => k_is)
    (case c6 => k_is)
    (case k6 => k_is)
    (case a7 => k_is)
    (case l7 => k_is)
    (case c7 => k_is)
    (case k7 => k_is)
    (case a8 => k_is)
    (case l8 => k_is)
    (case c8 => k_is)
    (case k8 => k_is)
    (case a9 => k_is)
    (case l9 => k_is)
    (case c9 => k_is)
    (case k9 => k_is)
    (case a10 => k_is)
    (case l10 => k_is)
    (case c10 => k_is)
    (case k10 => k_is)
    (case a11 => k_is)
    (case l11 => k_is)
    (case c11 => k_is)
    (case k11 => k_is)
    (case a12 => k_is)
    (case l12 => k_is)
    (case c12 => k_is)
    (case k12 => k_is)
    (case a13 => k_is)
    (case l13 => k_is)
    (case c13 => k_is)
    (case k13 => k_is)
    (case a14 => k_is)
    (case l14 => k_is)
    (case c14 => k_is)
    (case k14 => k_is)
    (case a15 => k_is)
    (case l15 => k_is)
    (case c15 => k_is)
    (case k15 => k_is)
    (case a16 => k_is)
    (case l16 => k_is)
    (case c16 => k_is)
    (case k16 => k_is)
    (case a17 => k_is)
    (case l17 => k_is)
    (case c17 => k_is)
    (case k17 => k_is)
    (case a18 => k_is)
    (case l18 => k_is)
    (case c18 => k_is)
    (case k18 => k_is)
    (case a19 => k_is)
    (case l19 => k_is)
    (case c19 => k_is)
    (case k19 => k_is)
    (case a20 => k_is)
    (case l20 => k_is)
    (case c20 => k_is)
    (case k20 => k_is)
    (case a21 => k_is)
    (case l21 => k_is)
    (case c21 => k_is)
    (case k21 => k_is)
    (case z_abs => k_is)
    (case z_any => k_is)
    (case z_bool => k_is)
    (case z_enumerate => k_is)
    (case z_int => k_is)
    (case z_isinstance => k_is)
    (case z_len => k_is)
    (case z_list => k_is)
    (case z_max => k_is)
    (case z_min => k_is)
    (case z_range => k_is)
    (case z_repr => k_is)
    (case z_str => k_is)
    (case z_sum => k_is)
    (case z_tuple => k_is)
    (case v_CELLS => k_is)
    (case v_COUNT_LESS_ONE => k_is)
    (case w_COUNT_LESS_ONE => k_is)
    (case v_FIRST => k_is)
    (case w_FIRST => k_is)
    (case v_GROUPS => k_is)
    (case w_GROUPS => k_is)
    (case v_LEAST_COUNT => k_is)
    (case v_RIGHTS => k_is)
    (case v_RIGHTS_BITS => k_is)
    (case w_RIGHTS_BITS => k_is)
    (case v_STEP => k_is)
    (case w_STEP => k_is)
    (case v_TOP_STEP => k_is)
    (case v_WORTHS => k_is)
