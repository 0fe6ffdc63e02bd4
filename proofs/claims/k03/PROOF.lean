import PyProof.Rows.All
import Wide.All
import OpenK.AllK
import Wide.FinOn
import HandS.ForMost
import HandS.IsInst
import HandS.Conv
import HandS.TupLe
import HandS.Walk
import HandS.Zip
import HandS.Defaults
import HandS.MakeKwOnly
import HandS.SetFor
import HandS.Wide
import HandS.ForExc
import HandS.ExcInit
import KE.KExcIs
import PyProof.ReprLen
import HandS.TupAny
import HandS.Style
import PySem.Challenge.RW_sealedreach_k03_no_fields
set_option Elab.async false
set_option linter.all false
set_option maxRecDepth 100000
set_option maxHeartbeats 4000000
namespace My
open PySem PySem.Spec PyProof.Rows L2
/-! ### calls of a def by its name alone -/
structure Cal (P : Program) (w : World) (K : PySem.W.Frag) (mg : Str → Option Value) (base : Heap) (x : Str) (k : Nat) (ps : List Str) (sp : Sp) : Prop where
  ex : ∃ (f : Addr) (fd : FuncData), FnOk P w K mg base CX0 k f fd ps sp ∧ mg x = some (.ref f) ∧ PySem.W.keepIn K (.ref f) = true ∧ Binds K fd ps []
theorem pe_cal {X : Cx} {x : Str} {k : Nat} {ps : List Str} {sp : Sp} {e : Expr} {es : List Expr} {t : TA} {p pos : Pos} (C : Cal X.prog X.w X.K X.mg X.base x k ps sp) (hr : Room k X.A)
    (ha : PA X (e :: es) t) (hg : Gl X x := by rfl) (hdb : (x == ("__debug__" : Str)) = false := by decide) (he : starEach (e :: es) X.env = (false, eval e X.env) :: starEach es X.env := by rfl) (hpl : (backTo pos (starEach es X.env)).any (·.1) = false := by rfl) :
    PE X (.Call (.Name x p) (e :: es) [] pos) (tCall sp [] E0 t) := by
  obtain ⟨f, fd, G, g, kp, b⟩ := C.ex
  exact pe_call G hr hg g kp b .nil pass0 ha hdb he hpl
/-- .. with defaults of its keyword-only names -/
structure CalD (P : Program) (w : World) (K : PySem.W.Frag) (mg : Str → Option Value) (base : Heap) (x : Str) (k : Nat) (ps : List Str) (dvs : List V) (sp : Sp) : Prop where
  ex : ∃ (f : Addr) (fd : FuncData) (ds : List Value), FnOk P w K mg base CX0 k f fd ps sp ∧ mg x = some (.ref f) ∧ PySem.W.keepIn K (.ref f) = true ∧ Vals dvs ds ∧ Binds K fd ps ds
theorem pe_calD {X : Cx} {x : Str} {k : Nat} {ps : List Str} {dvs : List V} {sp : Sp} {e : Expr} {es : List Expr} {t : TA} {p pos : Pos} (C : CalD X.prog X.w X.K X.mg X.base x k ps dvs sp) (hr : Room k X.A)
    (ha : PA X (e :: es) t) (hg : Gl X x := by rfl) (hdb : (x == ("__debug__" : Str)) = false := by decide) (he : starEach (e :: es) X.env = (false, eval e X.env) :: starEach es X.env := by rfl) (hpl : (backTo pos (starEach es X.env)).any (·.1) = false := by rfl) :
    PE X (.Call (.Name x p) (e :: es) [] pos) (tCall sp dvs E0 t) := by
  obtain ⟨f, fd, ds, G, g, kp, hd, b⟩ := C.ex
  exact pe_call G hr hg g kp b hd pass0 ha hdb he hpl
/-- .. called with one place and its keyword-only names -/
structure CalK (P : Program) (w : World) (K : PySem.W.Frag) (mg : Str → Option Value) (base : Heap) (x : Str) (k : Nat) (ps : List Str) (n : Nat) (ks : List Str) (sp : Sp) : Prop where
  ex : ∃ (f : Addr) (fd : FuncData) (g : List Value → List Value → List Value), FnOk P w K mg base CX0 k f fd ps sp ∧ mg x = some (.ref f) ∧ PySem.W.keepIn K (.ref f) = true ∧ KBn K fd ps n ks g (fun vs zs => vs ++ zs)
theorem pe_calK {X : Cx} {x : Str} {k n : Nat} {ps ks : List Str} {sp : Sp} {e : Expr} {es : List Expr} {kws : List Keyword} {t tk : TA} {p pos : Pos} (C : CalK X.prog X.w X.K X.mg X.base x k ps n ks sp) (hr : Room k X.A)
    (ha : PA X (e :: es) t) (hkw : PK X kws tk) (hg : Gl X x := by rfl) (hall : (backToKw pos (keywordEach kws X.env)).all (·.1.isSome) = true := by rfl) (hks : (backToKw pos (keywordEach kws X.env)).filterMap (·.1) = ks := by rfl)
    (hdb : (x == ("__debug__" : Str)) = false := by decide) (he : starEach (e :: es) X.env = (false, eval e X.env) :: starEach es X.env := by rfl)
    (hpl : ((backTo pos (starEach (e :: es) X.env)).any (·.1) || (backToKw pos (keywordEach kws X.env)).any (·.1.isNone)) = false := by rfl) :
    PE X (.Call (.Name x p) (e :: es) kws pos) (tCallN n ks.length sp (fun vs zs => vs ++ zs) E0 t tk) := by
  obtain ⟨f, fd, g, G, gm, kp, b⟩ := C.ex
  exact pe_callN G hr hg gm kp b pass0 ha hkw hall hks hdb he hpl
/-! ### tests -/
theorem ifnd {p : Prop} [Decidable p] {A B : Prop} (h1 : ¬ p → A) (h2 : p → B) : if (!decide p) = true then A else B := by
  by_cases h : p
  · rw [decide_eq_true h]; exact h2 h
  · rw [decide_eq_false h]; exact h1 h
theorem ifnb {c : Bool} {A B : Prop} (h1 : c = false → A) (h2 : c = true → B) : if (!c) = true then A else B := by
  cases c with
  | true => exact h2 rfl
  | false => exact h1 rfl
theorem ifd {p : Prop} [Decidable p] {A B : Prop} (h1 : p → A) (h2 : ¬ p → B) : if decide p = true then A else B := by
  by_cases h : p
  · rw [if_pos (decide_eq_true h)]; exact h1 h
  · rw [decide_eq_false h, if_neg Bool.false_ne_true]; exact h2 h
theorem ifP {p : Prop} [Decidable p] {A B : Prop} (h : p) (h1 : A) : if decide p = true then A else B := by
  rw [if_pos (decide_eq_true h)]; exact h1
theorem ifN {p : Prop} [Decidable p] {A B : Prop} (h : ¬ p) (h1 : B) : if decide p = true then A else B := by
  rw [decide_eq_false h, if_neg Bool.false_ne_true]; exact h1
theorem ifb {c : Bool} {A B : Prop} (h1 : c = true → A) (h2 : c = false → B) : if c = true then A else B := by
  cases c with
  | true => rw [if_pos rfl]; exact h1 rfl
  | false => rw [if_neg Bool.false_ne_true]; exact h2 rfl
theorem ifbT {c : Bool} {A B : Prop} (h : c = true) (h1 : A) : if c = true then A else B := by rw [if_pos h]; exact h1
theorem ifbF {c : Bool} {A B : Prop} (h : c = false) (h1 : B) : if c = true then A else B := by rw [h, if_neg Bool.false_ne_true]; exact h1
/-! ### heaps -/
theorem viaS {H H' : Hp} {b : Addr} {o : HO} (s : Same H H') (h : H b = some o) : H' b = some o := s b o h
theorem same_new {H : Hp} {p : Addr} {o : HO} (h : H p = none) : Same H (upd H p o) := fun b x e => by
  rw [upd_ne (ne_of_none e h)]; exact e
/-- all but what stands at a is as it was -/
def But (a : Addr) (H H' : Hp) : Prop := ∀ b o, b ≠ a → H b = some o → H' b = some o
theorem viaB {H H' : Hp} {a b : Addr} {o : HO} (s : But a H H') (n : b ≠ a) (h : H b = some o) : H' b = some o := s b o n h
theorem But.refl (a : Addr) (H : Hp) : But a H H := fun _ _ _ h => h
theorem But.of {a : Addr} {H H' : Hp} (s : Same H H') : But a H H' := fun b o _ h => s b o h
theorem But.trans {a : Addr} {H H1 H2 : Hp} (s : But a H H1) (t : But a H1 H2) : But a H H2 := fun b o n h => t b o n (s b o n h)
theorem But.upd {a : Addr} {H H' : Hp} {o : HO} (s : But a H H') : But a H (upd H' a o) := fun b x n h => by
  rw [upd_ne n]; exact s b x n h
theorem But.new {a p : Addr} {H H' : Hp} {o : HO} (s : But a H H') (n : H' p = none) : But a H (L2.upd H' p o) := fun b x nb h => by
  have e := s b x nb h
  rw [upd_ne (ne_of_none e n)]; exact e
theorem sameN {p : Addr} {H H' : Hp} {o : HO} (s : Same H H') (n : H' p = none) : Same H (L2.upd H' p o) := fun b x h => by
  have e := s b x h
  rw [upd_ne (ne_of_none e n)]; exact e
theorem updK {H : Hp} {a b : Addr} {o u : HO} (n : b ≠ a) (h : H b = some u) : L2.upd H a o b = some u := by rw [upd_ne n]; exact h
/-- the pool of a law: a list of two numbers, the second small -/
def Pool (H : Hp) (a : Addr) (x y : Int) : Prop := H a = some (.lst [.int x, .int y]) ∧ 0 ≤ x ∧ 0 ≤ y ∧ y < 2147483647

local macro_rules | `(tactic| walk_at "ne") => `(tactic| first | assumption | (apply Ne.symm; assumption) | (refine ne_of_none ?_ (by assumption); walk_at "at") | (apply Ne.symm; refine ne_of_none ?_ (by assumption); walk_at "at"))
local macro_rules | `(tactic| walk_at "at") => `(tactic| first | assumption | exact upd_same | (refine updK ?n ?h; (case n => walk_at "ne"); (case h => walk_at "at")) | (refine viaS (by assumption) ?_; walk_at "at") | (refine viaB (by assumption) ?n ?h; (case n => walk_at "ne"); (case h => walk_at "at")))
local macro_rules | `(tactic| walk_at "side") => `(tactic| first | rfl | omega | decide | (refine ⟨by omega, by omega, ?_⟩; first | decide | omega) | (refine Or.inl ⟨by omega, by omega⟩) | (refine Or.inr ⟨by omega, by omega⟩) | exact ⟨by omega, by omega⟩)
/-- one step of a reading whose answers are plain -/
local macro_rules | `(tactic| walk_at "g1") => `(tactic| first | refine ⟨_, rfl, ?_⟩ | refine ⟨_, _, rfl, rfl, ?_⟩ | refine ⟨by walk_at "side", ?_⟩)
local macro_rules | `(tactic| walk_at "g") => `(tactic| repeat walk_at "g1")
theorem sz {n : Nat} (h : n ≤ 1000) : n ≤ sizeLine := Nat.le_of_lt (small1000 h)
theorem Pool.new {H : Hp} {p q : Addr} {x y : Int} {o : HO} (h : Pool H p x y) (n : H q = none) : Pool (upd H q o) p x y := ⟨by rw [upd_ne (ne_of_none h.1 n)]; exact h.1, h.2⟩
def rep (c L : Int) : Int := if (if c < L then c else L) > 1 then (if c < L then c else L) else 1
theorem rep_le {c L : Int} (h : 1 ≤ c) (h2 : c ≤ 63) : 1 ≤ rep c L ∧ rep c L ≤ c := by
  unfold rep
  by_cases d : c < L
  · simp only [if_pos d]; split <;> omega
  · simp only [if_neg d]; split <;> omega
theorem rep_lo {c L : Int} (h : 1 ≤ c) (h2 : c ≤ 63) : -(2 ^ 62) ≤ rep c L := by have := (rep_le (L := L) h h2).1; omega
theorem rep_hi {c L : Int} (h : 1 ≤ c) (h2 : c ≤ 63) : rep c L < 2 ^ 62 := by have := (rep_le (L := L) h h2).2; omega
theorem rep_i {c L : Int} {i : Nat} (h : 1 ≤ c) (h2 : c ≤ 63) (k : i < (rep c L).toNat) : i ≤ 63 := by have := (rep_le (L := L) h h2).2; omega
/-- a pool's own changes leave what stood ahead of it -/
theorem sameP {H H1 H2 H3 : Hp} {p : Addr} (s : Same H H1) (s1 : Same H1 H2) (n : H1 p = none) (b : But p H2 H3) : Same H H3 := fun c o e =>
  b c o (ne_of_none (s c o e) n) (s1 _ _ (s _ _ e))
theorem pick {xs : List V} {r : Int} (P : V → Prop) (h0 : 0 ≤ r) (h1 : r < (xs.length : Int)) (hP : ∀ v ∈ xs, P v) : ∃ v, atI xs r = some v ∧ P v := by
  obtain ⟨j, rfl⟩ : ∃ j : Nat, r = (j : Int) := ⟨r.toNat, by omega⟩
  have hj : j < xs.length := by omega
  exact ⟨xs[j], atI_nat (List.getElem?_eq_getElem hj), hP _ (List.getElem_mem hj)⟩
theorem cut63 {ns : List Int} (h : ns.length ≤ 63) : cutV (ns.map V.int) none (some 63) = ns.map V.int := by
  unfold cutV
  rw [show HT.sIx (ns.map V.int).length (ns.map V.int).length (some 63) = min 63 (ns.map V.int).length from HT.sIx_nat _ _ 63, HT.sIx_none]
  rw [List.drop_zero, Nat.sub_zero, List.length_map, Nat.min_eq_right h]
  exact List.take_of_length_le (by simp)
theorem qb {Q : VK} {H : Hp} {b b' : Bool} (q : Q (.bl b') H) (e : b = b') : Q (.bl b) H := e ▸ q
theorem qi {Q : VK} {H : Hp} {i j : Int} (q : Q (.int j) H) (e : i = j) : Q (.int i) H := e ▸ q
/-! ### enumerate over a text -/
def Ies (x : Str) : It := ⟨fun i _ => i < x.cps.size, fun i H v H' => ∃ T c, v = .ref T ∧ H T = none ∧ H' = upd H T (.tup [.int (i : Nat), .str ⟨#[c]⟩]) ∧ x.cps[i]? = some c, fun i _ => i = x.cps.size⟩
theorem turn_enumS {P : Program} {w : World} {K : PySem.W.Frag} {elts : List Expr} {kk : Nat} {tpos : Pos} (e it : Addr) (x : Str) (t : Tok) :
    Turn P w K (.Tuple elts kk tpos) (Ies x) [e, it] e (fun i h => (∃ old, IsEnum h e it ((i : Nat) : Int) old) ∧ h.IsStrIter it (strIterType x) x t i ∧ e ≠ it) where
  mem := by simp
  obj := fun i h st b hb => by
    obtain ⟨⟨old, he⟩, ⟨o, ho, hc, hd⟩, _⟩ := st
    have e' : b = e ∨ b = it := by simpa using hb
    rcases e' with z | z
    · rw [z]; exact ⟨_, he, fun v q => nomatch q⟩
    · rw [z]; exact ⟨o, ho, fun v q => by rw [hd] at q; cases q⟩
  keep := fun i h h' st k => let ⟨⟨old, he⟩, ⟨o, ho, r⟩, hne⟩ := st; ⟨⟨old, k e (by simp) _ he⟩, ⟨o, k it (by simp) o ho, r⟩, hne⟩
  item := by
    intro X hP hw hK hc i pins s σ H E I hf st hg
    subst hP hw hK
    obtain ⟨⟨old, he⟩, hit, hne⟩ := st
    have hel : e < s.heap.objs.size := Heap.lt_size he
    have hil : it < s.heap.objs.size := by obtain ⟨_, q, _⟩ := hit; exact Heap.lt_size q
    have hd : X.A.in1.handled = none := I.ok.hd hc
    have D : Draws X.prog X.w X.A.in1 it [it] x.cps.size (fun i v => ∃ c u, x.cps[i]? = some c ∧ v = .str ⟨#[c]⟩ u) (fun i h => h.IsStrIter it (strIterType x) x t i) := by
      unfold strIterType
      split
      · exact Draws.strAscii hd it x t
      · exact Draws.strWide hd it x t
    refine wpAny_pyNext_enum_itemD D he hit hg hne (by simpa using hne) fun v h' tk hv ho hit' hT hsz hk => ?_
    obtain ⟨c, u, hcx, rfl⟩ := hv
    refine ⟨_, rfl, wpAny_letOwnedTupleGo_enum (s := { s with heap := h', toks := tk + 1 }) ho fun h'' he' sb => ?_⟩
    have hT2 : h''.get? s.heap.objs.size = some { cls := .type "tuple", data := .seq #[.int i tk, .str ⟨#[c]⟩ u] } := (sb.2 _ (Nat.ne_of_gt hel)).trans hT
    have new : ObjOk X.prog X.w (upd H s.heap.objs.size (.tup [.int (i : Nat), .str ⟨#[c]⟩])) h'' s.heap.objs.size (.tup [.int (i : Nat), .str ⟨#[c]⟩]) :=
      ⟨by show 2 ≤ sizeLine; decide, [.int i tk, .str ⟨#[c]⟩ u], .cons ⟨_, rfl⟩ (.cons ⟨_, rfl⟩ .nil), ⟨_, hT2, rfl, _, rfl⟩⟩
    have I1 : Inv X pins σ (upd H s.heap.objs.size (.tup [.int (i : Nat), .str ⟨#[c]⟩])) { s with heap := h'', toks := tk + 1 } :=
      I.turnedNew (ch := [e, it]) (fun b ob hb q => (sb.2 b (fun z => hb (by simp [z]))).trans (hk b ob (fun z => hb (by simp [z])) (fun z => hb (by simp [z])) q)) hf (Nat.le_refl _) new
    refine ⟨.ref s.heap.objs.size, _, I1, rfl, ⟨_, c, rfl, I.hok.fresh (Nat.le_refl _), rfl, hcx⟩, ⟨⟨.str ⟨#[c]⟩ u, ?_⟩, ?_, hne⟩, fun b hb => ?_⟩
    · have e1 : ((i + 1 : Nat) : Int) = (i : Int) + 1 := by omega
      rw [e1]; exact he'
    · obtain ⟨o2, q2, r2⟩ := hit'
      exact ⟨o2, (sb.2 it (Ne.symm hne)).trans q2, r2⟩
    · have hb' : b < s.heap.objs.size := by
        have e' : b = e ∨ b = it := by simpa using hb
        rcases e' with z | z
        · rw [z]; exact hel
        · rw [z]; exact hil
      rw [upd_ne (Nat.ne_of_lt hb')]
      exact (hf b hb).1
  done := by
    intro X hP hw hK hc i pins s σ H E I hf st hg
    subst hP hw hK
    obtain ⟨⟨old, he⟩, hit, hne⟩ := st
    have hg' : i = x.cps.size := hg
    subst hg'
    have hd : X.A.in1.handled = none := I.ok.hd hc
    have D : Draws X.prog X.w X.A.in1 it [it] x.cps.size (fun i v => ∃ c u, x.cps[i]? = some c ∧ v = .str ⟨#[c]⟩ u) (fun i h => h.IsStrIter it (strIterType x) x t i) := by
      unfold strIterType
      split
      · exact Draws.strAscii hd it x t
      · exact Draws.strWide hd it x t
    obtain ⟨f0, f1, f2, f3, f4, f5⟩ := hf it (by simp)
    exact wpAny_pyNext_enum_endD D he hit fun h' eb => ⟨rfl, I.turned (t' := s.toks) (fun b o hb q => eb b o hb q) f0 f1 f3 f4 f5⟩
  self := fun A i s Q E st h => let ⟨⟨_, he⟩, _⟩ := st; wpAny_pyIter_enum he h
def iEnumS (ta : TA) : TI := fun σ H R => ta σ H fun vs H1 => ∃ x : Str, vs = [.str x] ∧ R (Ies x) H1
theorem pi_enumS {X : Cx} {e : Expr} {ta : TA} {p pos tpos : Pos} {elts : List Expr} {kk : Nat} (hg : Gl X "enumerate") (hm : X.mg "enumerate" = none) (ha : PA X [e] ta) (hs : starEach [e] X.env = [(false, eval e X.env)] := by rfl) :
    PI X (.Tuple elts kk tpos) (.Call (.Name "enumerate" p) [e] [] pos) (iEnumS ta) := by
  refine ⟨fun pins s σ H R I h => ?_⟩
  refine Call_ (ld_blt I hg hm boot_enumerate (PyProof.Rows.callWith_type1 (thn (ha.run pos pins s σ H _ I h) fun us s1 ⟨vs, H1, I1, r1, q1⟩ => ?_) hs rfl))
  obtain ⟨x, ex, q⟩ := q1
  subst ex
  cases r1 with
  | cons r rr =>
    cases rr
    obtain ⟨t, rfl⟩ := r
    refine call_enumerate_str fun h' he hit hsz hk => wpAny_pyIter_enum he ?_
    have I2 : Inv X pins σ H1 { s1 with heap := h' } := I1.kept (t' := s1.toks) hk
    refine ⟨s1.heap.objs.size + 1, [s1.heap.objs.size + 1, s1.heap.objs.size], _, _, H1, rfl, I2, turn_enumS (s1.heap.objs.size + 1) s1.heap.objs.size x t, ⟨⟨.none, he⟩, hit, Nat.succ_ne_self _⟩, fun b hb => ?_, q⟩
    have e' : b = s1.heap.objs.size + 1 ∨ b = s1.heap.objs.size := by simpa using hb
    have hle : s1.heap.objs.size ≤ b := by
      rcases e' with z | z
      · rw [z]; exact Nat.le_add_right _ _
      · rw [z]; exact Nat.le_refl _
    exact I1.fpOk hle (I1.hok.fresh hle)
theorem walk_enumS {z : Str} : Walk (Ies z) z.cps.size (fun _ => True) (YPair (fun i => some (.int (i : Nat))) (fun i => (z.cps[i]?).map fun c => .str ⟨#[c]⟩)) where
  goes := fun i H hi _ => hi
  stops := fun H _ => rfl
  yields := fun i H x H' hi _ y => by
    obtain ⟨T, c, rfl, hn, rfl, hc⟩ := y
    exact ⟨T, _, _, rfl, hn, rfl, rfl, by simp [hc]⟩
theorem walk_zipT {K : PySem.W.Frag} {a b : Addr} {xs ys : List V} {n : Nat} (hn : n = min xs.length ys.length) : Walk (RZ.ItzT K a b) n (fun H => SqT K H a xs ∧ SqT K H b ys) (YPair (fun i => xs[i]?) (fun i => ys[i]?)) where
  goes := fun i H hi h => by
    have h1 : i < xs.length := by omega
    have h2 : i < ys.length := by omega
    exact ⟨xs, ys, xs[i], ys[i], h.1, h.2, List.getElem?_eq_getElem h1, List.getElem?_eq_getElem h2⟩
  stops := fun H h => ⟨xs, ys, h.1, h.2, by omega⟩
  yields := fun i H x H' hi h y => by
    obtain ⟨T, x1, y1, rfl, hn', rfl, h1, h2⟩ := y
    exact ⟨T, x1, y1, rfl, hn', rfl, h1 xs h.1, h2 ys h.2⟩

theorem b01 (k : Bool) : -(2 ^ 64) < (if k then (1 : Int) else 0) ∧ (if k then (1 : Int) else 0) < 2 ^ 64 := by cases k <;> decide
theorem mixb (z : Int) : -(2 ^ 64) < z % 2147483647 ∧ z % 2147483647 < 2 ^ 64 := by omega
theorem sizeb (c : Int) (k : Bool) : 0 ≤ (if c < 0 then -c else c) * (if k then (1 : Int) else 0) := by
  cases k
  · simp
  · simp; split <;> omega

/-! ### the mathematics of bounds -/
def Dd (lo hi : Int) (t : Nat) : Int := (hi - 1) / 2 ^ t - lo / 2 ^ t
def StepIs (lo hi : Int) (s : Nat) : Prop := s ≤ 8 ∧ Dd lo hi s ≤ 15 ∧ ∀ t, t < s → 15 < Dd lo hi t
def Bd (lo hi : Int) : Prop := 0 ≤ lo ∧ lo < hi ∧ hi ≤ 4096
def Ex (lo hi : Int) (s : Nat) : Prop := StepIs lo hi s ∧ lo / 2 ^ s * 2 ^ s = lo ∧ ((hi - 1) / 2 ^ s + 1) * 2 ^ s = hi
theorem le8 {s : Nat} (h : s ≤ 8) : s = 0 ∨ s = 1 ∨ s = 2 ∨ s = 3 ∨ s = 4 ∨ s = 5 ∨ s = 6 ∨ s = 7 ∨ s = 8 := by omega
theorem StepIs.uniq {lo hi : Int} {s t : Nat} (h : StepIs lo hi s) (k : StepIs lo hi t) : s = t := by
  rcases Nat.lt_trichotomy s t with c | c | c
  · have := k.2.2 s c; have := h.2.1; omega
  · exact c
  · have := h.2.2 t c; have := k.2.1; omega
theorem pow_pos2 (s : Nat) : (0 : Int) < 2 ^ s := Int.pow_pos (by decide)
theorem over_eq (lo hi : Int) (s : Nat) : (hi + 1 * 2 ^ s - 1) / 2 ^ s - lo / 2 ^ s = Dd lo hi s + 1 := by
  have e : hi + 1 * 2 ^ s - 1 = (hi - 1) + 1 * 2 ^ s := by omega
  rw [e, Int.add_mul_ediv_right _ _ (Int.ne_of_gt (pow_pos2 s))]
  unfold Dd
  omega
theorem first_over (lo hi : Int) (s : Nat) : lo / 2 ^ s + (Dd lo hi s + 1) = (hi - 1) / 2 ^ s + 1 := by
  unfold Dd; omega
theorem dd8 {lo hi : Int} (b : Bd lo hi) : Dd lo hi 8 ≤ 15 := by
  obtain ⟨h1, h2, h3⟩ := b
  unfold Dd
  have e : (2 : Int) ^ 8 = 256 := by decide
  rw [e]; omega
/-- going up from nought: below s all are too many -/
theorem lt8 {lo hi : Int} {s : Nat} (b : Bd lo hi) (h : 15 < Dd lo hi s) (u : s ≤ 8) : s < 8 := by
  rcases Nat.lt_or_ge s 8 with c | c
  · exact c
  · have e : s = 8 := by omega
    subst e
    have := dd8 b
    omega
/-- what a shift asks -/
theorem p8 {s : Nat} (h : s ≤ 8) : (2 : Int) ^ s ≤ 256 := by
  rcases le8 h with e | e | e | e | e | e | e | e | e <;> subst e <;> decide
theorem na {x : Int} (h0 : 0 ≤ x) (h1 : x ≤ 100000) : x.natAbs < 2 ^ 64 := by omega
theorem div_le' {x : Int} {s : Nat} (h0 : 0 ≤ x) : 0 ≤ x / 2 ^ s ∧ x / 2 ^ s ≤ x :=
  ⟨Int.ediv_nonneg h0 (Int.le_of_lt (pow_pos2 s)), Int.ediv_le_self _ h0⟩
theorem bc {lo hi : Int} {s : Nat} (b : Bd lo hi) (h : s ≤ 8) : CPow (lo / 2 ^ s) (s : Int) := by
  have := div_le' (s := s) b.1
  have := b.2
  exact ⟨by omega, by omega, na (by omega) (by omega)⟩
theorem bc2 {lo hi : Int} {s : Nat} (b : Bd lo hi) (h : StepIs lo hi s) : CPow (lo / 2 ^ s + (Dd lo hi s + 1)) (s : Int) := by
  have h8 := h.1
  obtain ⟨b1, b2, b3⟩ := b
  have := div_le' (s := s) (x := hi - 1) (by omega)
  rw [first_over]
  exact ⟨by omega, by omega, na (by omega) (by omega)⟩
theorem dd0 (n : Int) (s : Nat) : Dd 0 n s + 1 = (n - 1) / 2 ^ s + 1 := by
  unfold Dd; rw [Int.zero_ediv]; omega
theorem bc3 {n : Int} {s : Nat} (h : StepIs 0 n s) (b : Bd 0 n) : CPow (Dd 0 n s + 1) (s : Int) := by
  have h8 := h.1
  obtain ⟨b1, b2, b3⟩ := b
  have := div_le' (s := s) (x := n - 1) (by omega)
  rw [dd0]
  exact ⟨by omega, by omega, na (by omega) (by omega)⟩
def Can (lo hi : Int) (s : Nat) : Prop := lo % 2 ^ s = 0 ∧ 9 ≤ (hi - lo) / 2 ^ s
def GH (lo hi : Int) (s : Nat) : Prop := s ≤ 8 ∧ (s = 0 ∨ Can lo hi s) ∧ ∀ t, s < t → t ≤ 8 → ¬ Can lo hi t
def mn (lo hi : Int) (s : Nat) : Int := if (hi - lo) / 2 ^ s < 16 then (hi - lo) / 2 ^ s else 16
theorem cmn {lo hi : Int} {s : Nat} (b : Bd lo hi) (h : s ≤ 8) : CPow (mn lo hi s) (s : Int) := by
  obtain ⟨b1, b2, b3⟩ := b
  have := div_le' (s := s) (x := hi - lo) (by omega)
  unfold mn
  refine ⟨by omega, by omega, na ?_ ?_⟩ <;> split <;> omega
theorem bl_int {a b : Int} : decide (V.int a = V.int b) = decide (a = b) := by
  by_cases h : a = b
  · subst h; simp
  · have : ¬ (V.int a = V.int b) := fun e => h (V.int.inj e)
    simp [h, this]
theorem t2_eqv {a b c d : Int} : PyData.eqv (.tuple [.int a, .int b]) (.tuple [.int c, .int d]) = true ↔ a = c ∧ b = d := by
  simp [PyData.eqv, PyData.eqvAll]
theorem t2_no {a b c d : Int} (e : PyData.eqv (.tuple [.int a, .int b]) (.tuple [.int c, .int d]) = false) (h1 : a = c) (h2 : b = d) : False := by
  rw [t2_eqv.mpr ⟨h1, h2⟩] at e; cases e
theorem dp2 {K : PySem.W.Frag} {H : Hp} {p : Addr} {a b : Int} (h : H p = some (.tup [.int a, .int b])) : Dp K H (.ref p) (.tuple [.int a, .int b]) :=
  .tup (.of h) (.cons (.int a) (.cons (.int b) .nil))
theorem t3_eqv {a b x c d y : Int} : PyData.eqv (.tuple [.int a, .int b, .int x]) (.tuple [.int c, .int d, .int y]) = true ↔ a = c ∧ b = d ∧ x = y := by
  simp [PyData.eqv, PyData.eqvAll]
theorem dp3 {K : PySem.W.Frag} {H : Hp} {p : Addr} {a b c : Int} (h : H p = some (.tup [.int a, .int b, .int c])) : Dp K H (.ref p) (.tuple [.int a, .int b, .int c]) :=
  .tup (.of h) (.cons (.int a) (.cons (.int b) (.cons (.int c) .nil)))

/-! ### things of any kind -/
inductive Kd (H : Hp) : V → Prop where
  | non : Kd H .non
  | bl (b : Bool) : Kd H (.bl b)
  | int (i : Int) : Kd H (.int i)
  | str (x : Str) : Kd H (.str x)
  | lst {p : Addr} {xs : List V} (e : H p = some (.lst xs)) : Kd H (.ref p)
  | tup {p : Addr} {xs : List V} (e : H p = some (.tup xs)) : Kd H (.ref p)
  | dk {p : Addr} {kvs : List (Key × V)} (e : H p = some (.dK kvs)) : Kd H (.ref p)
theorem Kd.same {H H' : Hp} {v : V} (k : Kd H v) (s : Same H H') : Kd H' v := by
  cases k with
  | non => exact .non
  | bl b => exact .bl b
  | int i => exact .int i
  | str x => exact .str x
  | lst e => exact .lst (s _ _ e)
  | tup e => exact .tup (s _ _ e)
  | dk e => exact .dk (s _ _ e)
def isI : V → Bool | .int _ => true | .bl _ => true | _ => false
def isB : V → Bool | .bl _ => true | _ => false
def isS : V → Bool | .str _ => true | _ => false
theorem Kd.int? {K : PySem.W.Frag} {H : Hp} {v : V} (k : Kd H v) : ∃ t, TyX K H v t ∧ PySem.W.kitOne K t (.type "int") = some (isI v) := by
  cases k with
  | non => exact ⟨_, .base .non, kit_ty (r := false) (by decide +kernel)⟩
  | bl b => exact ⟨_, .base (.bl b), kit_ty (r := true) (by decide +kernel)⟩
  | int i => exact ⟨_, .base (.int i), kit_ty (r := true) (by decide +kernel)⟩
  | str x => exact ⟨_, .base (.str x), kit_ty (r := false) (by decide +kernel)⟩
  | lst e => exact ⟨_, .base (.lst e), kit_ty (r := false) (by decide +kernel)⟩
  | tup e => exact ⟨_, .base (.tup e), kit_ty (r := false) (by decide +kernel)⟩
  | dk e => exact ⟨_, .base (.dK e), kit_ty (r := false) (by decide +kernel)⟩
theorem Kd.bool? {K : PySem.W.Frag} {H : Hp} {v : V} (k : Kd H v) : ∃ t, TyX K H v t ∧ PySem.W.kitOne K t (.type "bool") = some (isB v) := by
  cases k with
  | non => exact ⟨_, .base .non, kit_ty (r := false) (by decide +kernel)⟩
  | bl b => exact ⟨_, .base (.bl b), kit_ty (r := true) (by decide +kernel)⟩
  | int i => exact ⟨_, .base (.int i), kit_ty (r := false) (by decide +kernel)⟩
  | str x => exact ⟨_, .base (.str x), kit_ty (r := false) (by decide +kernel)⟩
  | lst e => exact ⟨_, .base (.lst e), kit_ty (r := false) (by decide +kernel)⟩
  | tup e => exact ⟨_, .base (.tup e), kit_ty (r := false) (by decide +kernel)⟩
  | dk e => exact ⟨_, .base (.dK e), kit_ty (r := false) (by decide +kernel)⟩
theorem Kd.str? {K : PySem.W.Frag} {H : Hp} {v : V} (k : Kd H v) : ∃ t, TyX K H v t ∧ PySem.W.kitOne K t (.type "str") = some (isS v) := by
  cases k with
  | non => exact ⟨_, .base .non, kit_ty (r := false) (by decide +kernel)⟩
  | bl b => exact ⟨_, .base (.bl b), kit_ty (r := false) (by decide +kernel)⟩
  | int i => exact ⟨_, .base (.int i), kit_ty (r := false) (by decide +kernel)⟩
  | str x => exact ⟨_, .base (.str x), kit_ty (r := true) (by decide +kernel)⟩
  | lst e => exact ⟨_, .base (.lst e), kit_ty (r := false) (by decide +kernel)⟩
  | tup e => exact ⟨_, .base (.tup e), kit_ty (r := false) (by decide +kernel)⟩
  | dk e => exact ⟨_, .base (.dK e), kit_ty (r := false) (by decide +kernel)⟩
/-- it is no tuple -/
inductive NoT (H : Hp) : V → Prop where
  | non : NoT H .non
  | bl (b : Bool) : NoT H (.bl b)
  | int (i : Int) : NoT H (.int i)
  | str (x : Str) : NoT H (.str x)
  | lst {p : Addr} {xs : List V} (e : H p = some (.lst xs)) : NoT H (.ref p)
  | dk {p : Addr} {kvs : List (Key × V)} (e : H p = some (.dK kvs)) : NoT H (.ref p)
theorem NoT.tup? {K : PySem.W.Frag} {H : Hp} {v : V} (k : NoT H v) : ∃ t, TyX K H v t ∧ PySem.W.kitOne K t (.type "tuple") = some false := by
  cases k with
  | non => exact ⟨_, .base .non, kit_ty (by decide +kernel)⟩
  | bl b => exact ⟨_, .base (.bl b), kit_ty (by decide +kernel)⟩
  | int i => exact ⟨_, .base (.int i), kit_ty (by decide +kernel)⟩
  | str x => exact ⟨_, .base (.str x), kit_ty (by decide +kernel)⟩
  | lst e => exact ⟨_, .base (.lst e), kit_ty (by decide +kernel)⟩
  | dk e => exact ⟨_, .base (.dK e), kit_ty (by decide +kernel)⟩
/-! ### texts of rights -/
def RT : Str := Str.ofString "rwlsnfxco"
def code (k : Nat) : Nat := [114, 119, 108, 115, 110, 102, 120, 99, 111].getD k 0
def one (c : Nat) : Str := ⟨#[c]⟩
theorem RT_size : RT.cps.size = 9 := by decide +kernel
theorem RT_get : ∀ k, k < 9 → RT.cps[k]? = some (code k) := by decide +kernel
theorem code_inj : ∀ j, j < 9 → ∀ k, k < 9 → code j = code k → j = k := by decide +kernel
def rcs (p : Nat → Bool) (i : Nat) : List Str := ((List.range i).filter p).map fun k => one (code k)
def rtx (p : Nat → Bool) : Str := Txt.join (Str.ofString "") (rcs p 9)
theorem joinL_nil : ∀ l : List (List Nat), TL.joinL [] l = l.flatten
  | [] => rfl
  | [p] => by simp [TL.joinL]
  | p :: q :: r => by
    show p ++ ([] ++ TL.joinL [] (q :: r)) = _
    rw [joinL_nil (q :: r)]; simp
theorem rtx_codes (p : Nat → Bool) : (rtx p).cps.toList = ((List.range 9).filter p).map code := by
  unfold rtx
  rw [TL.join_eq]
  show TL.tl (Str.join _ _) = _
  rw [TL.tl_join]
  have e : TL.tl (Str.ofString "") = [] := by decide +kernel
  rw [e, joinL_nil]
  unfold rcs
  generalize (List.range 9).filter p = l
  induction l with
  | nil => rfl
  | cons x r ih =>
    simp only [List.map_cons, List.flatten_cons] at *
    rw [ih]; rfl
theorem rtx_mem (p : Nat → Bool) {k : Nat} (hk : k < 9) : code k ∈ (rtx p).cps.toList ↔ p k = true := by
  rw [rtx_codes, List.mem_map]
  constructor
  · rintro ⟨j, hj, e⟩
    obtain ⟨h1, h2⟩ := List.mem_filter.mp hj
    have : j = k := code_inj j (List.mem_range.mp h1) k hk e
    subst this; exact h2
  · intro h
    exact ⟨k, List.mem_filter.mpr ⟨List.mem_range.mpr hk, h⟩, rfl⟩
theorem rcs_succ (p : Nat → Bool) (i : Nat) : rcs p (i + 1) = rcs p i ++ (if p i = true then [one (code i)] else []) := by
  unfold rcs
  rw [List.range_succ, List.filter_append, List.map_append]
  congr 1
  by_cases h : p i = true
  · simp [h]
  · simp [h]
theorem rcs_len (p : Nat → Bool) (i : Nat) : (rcs p i).length ≤ i := by
  unfold rcs
  rw [List.length_map]
  exact Nat.le_trans (List.length_filter_le _ _) (by rw [List.length_range]; exact Nat.le_refl _)
theorem rcs_one (p : Nat → Bool) (i : Nat) : ((rcs p i).map (·.length)).sum = (rcs p i).length := by
  unfold rcs
  generalize (List.range i).filter p = l
  induction l with
  | nil => rfl
  | cons x r ih =>
    simp only [List.map_cons, List.sum_cons, List.length_cons] at *
    rw [ih]
    show 1 + _ = _
    omega
theorem rcs_fit (p : Nat → Bool) : ((rcs p 9).map (·.length)).sum + (rcs p 9).length * (Str.ofString "").length ≤ 16777216 := by
  have e : (Str.ofString "").length = 0 := by decide +kernel
  rw [e, rcs_one]
  have := rcs_len p 9
  omega
theorem szn {n : Nat} (h : n < 1000) : n < sizeLine := small1000 (Nat.le_of_lt h)
/-- the right k is in a text -/
def hasR (r : Str) (k : Nat) : Bool := decide (code k ∈ r.cps.toList)
def hasG (r g : Str) : Bool := g.cps.toList.any fun c => decide (c ∈ r.cps.toList)
def G0 : Str := Str.ofString "rwlsn"
def G1 : Str := Str.ofString "x"
def G2 : Str := Str.ofString "co"
def OneW (r : Str) : Prop := ([G0, G1, G2].filter (hasG r)).length ≤ 1
def mask (p : Nat → Bool) (i : Nat) : List Int := ((List.range i).filter p).map fun k => (2 : Int) ^ k
def maskOf (r : Str) : Int := (mask (hasR r) 9).sum
theorem mask_succ (p : Nat → Bool) (i : Nat) : mask p (i + 1) = mask p i ++ (if p i = true then [(2 : Int) ^ i] else []) := by
  unfold mask
  rw [List.range_succ, List.filter_append, List.map_append]
  congr 1
  by_cases h : p i = true
  · simp [h]
  · simp [h]
theorem mask_len (p : Nat → Bool) (i : Nat) : (mask p i).length ≤ i := by
  unfold mask
  rw [List.length_map]
  exact Nat.le_trans (List.length_filter_le _ _) (by rw [List.length_range]; exact Nat.le_refl _)
theorem i0 (i : Nat) : (0 : Int) + (i : Int) = (i : Int) := by omega
theorem take_any {g r : Str} {i : Nat} (hi : i < g.cps.size) : (g.cps.toList.take (i + 1)).map (fun c => decide (c ∈ r.cps.toList)) = (g.cps.toList.take i).map (fun c => decide (c ∈ r.cps.toList)) ++ [decide (g.cps[i] ∈ r.cps.toList)] := by
  rw [List.take_add_one, List.map_append]
  congr 1
  simp [hi]
theorem wipe_in {σ : L2.St} {i : Nat} : ∀ {vs : List Nat}, i ∈ vs → (wipe σ vs)[i]? = if i < σ.length then some none else none
  | [], h => by cases h
  | a :: vs, h => by
    show ((wipe σ vs).set a none)[i]? = _
    by_cases e : a = i
    · subst e
      rw [List.getElem?_set_self']
      by_cases l : a < σ.length
      · rw [if_pos l, List.getElem?_eq_getElem (by rw [wipe_length]; exact l)]; rfl
      · rw [if_neg l, List.getElem?_eq_none (by rw [wipe_length]; omega)]; rfl
    · rw [List.getElem?_set_ne e]
      exact wipe_in (by rcases List.mem_cons.mp h with q | q; exact absurd q.symm e; exact q)
theorem wipe_set {σ : L2.St} {vs : List Nat} {j : Nat} {v : Option V} (h : j ∈ vs) : wipe (σ.set j v) vs = wipe σ vs := by
  refine List.ext_getElem? fun i => ?_
  by_cases c : i ∈ vs
  · rw [wipe_in c, wipe_in c, List.length_set]
  · have n : j ≠ i := fun e => c (e ▸ h)
    rw [wipe_out c, wipe_out c, List.getElem?_set_ne n]
theorem wipe_wipe {σ : L2.St} {vs : List Nat} : wipe (wipe σ vs) vs = wipe σ vs := by
  refine List.ext_getElem? fun i => ?_
  by_cases c : i ∈ vs
  · rw [wipe_in c, wipe_in c, wipe_length]
  · rw [wipe_out c]
theorem wp1 {σ : L2.St} {vs : List Nat} {j : Nat} {v : Option V} (h : j ∈ vs) : wipe ((wipe σ vs).set j v) vs = wipe σ vs := by rw [wipe_set h, wipe_wipe]
theorem wp2 {σ : L2.St} {vs : List Nat} {j k : Nat} {v u : Option V} (h : j ∈ vs) (h2 : k ∈ vs) : wipe (((wipe σ vs).set j v).set k u) vs = wipe σ vs := by rw [wipe_set h2, wipe_set h, wipe_wipe]
def bitp (m : Int) : Nat → Bool := fun k => decide (m / 2 ^ k % 2 = 1)
/-- what bits tell -/
def fAt (b : Int) : Int := b / 2 ^ 0 % 2 ^ 12
def fFirst (b : Int) : Int := b / 2 ^ 12 % 2 ^ 12
def fCnt (b : Int) : Int := b / 2 ^ 24 % 2 ^ 4 + 1
def fStep (b : Int) : Int := b / 2 ^ 28 % 2 ^ 4
def fRts (b : Int) : Int := b / 2 ^ 32 % 2 ^ 9
def fKind (b : Int) : Int := b / 2 ^ 41 % 2 ^ 4
def Tells (b : Int) : Prop := fStep b ≤ 8 ∧ (fStep b = 0 ∨ 9 ≤ fCnt b) ∧ (fFirst b + fCnt b) * 2 ^ (fStep b).toNat ≤ 4096
theorem fb (b : Int) : 0 ≤ fStep b ∧ fStep b ≤ 15 ∧ 1 ≤ fCnt b ∧ fCnt b ≤ 16 ∧ 0 ≤ fFirst b ∧ fFirst b ≤ 4095 := by
  unfold fStep fCnt fFirst; omega
theorem cpw {z s : Int} (h0 : 0 ≤ z) (h1 : z ≤ 10000000000000) (h2 : 0 ≤ s) (h3 : s ≤ 1000) : CPow z s := ⟨h2, by omega, by omega⟩
/-- the fields of a lawful marked word -/
def F5 (xs : List V) : Prop := ∃ (lo hi at' : Int) (r : Str) (kd : Int), xs = [.int lo, .int hi, .int at', .str r, .int kd] ∧ Bd lo hi ∧ (∃ s, Ex lo hi s) ∧ 0 ≤ at' ∧ at' ≤ 4095 ∧ 0 ≤ kd ∧ kd ≤ 15 ∧ r = rtx (hasR r) ∧ OneW r
def wl (a b c d e f : Int) : List Int := [a * 2 ^ 0, b * 2 ^ 12, c * 2 ^ 24, d * 2 ^ 28, e * 2 ^ 32, f * 2 ^ 41]
def wbits (lo hi at' mr kd : Int) (s : Nat) : Int := (wl at' (lo / 2 ^ s) (Dd lo hi s + 1 - 1) s mr kd).sum
def BW (z : Int) : Prop := 0 ≤ z ∧ z ≤ 10000000000000
theorem six_at {K : PySem.W.Frag} {pA pF pC pS pR pK : Addr} {a b c d e f : Int} {i : Nat} {x1 y1 : V} (hi : i < 6) (hx : [V.ref pA, .ref pF, .ref pC, .ref pS, .ref pR, .ref pK][i]? = some x1) (hy : [V.int a, .int b, .int c, .int d, .int e, .int f][i]? = some y1)
    (sA : ∀ H, SqT K H pA [.int 0, .int 12]) (sF : ∀ H, SqT K H pF [.int 12, .int 12]) (sC : ∀ H, SqT K H pC [.int 24, .int 4]) (sS : ∀ H, SqT K H pS [.int 28, .int 4]) (sR : ∀ H, SqT K H pR [.int 32, .int 9]) (sK : ∀ H, SqT K H pK [.int 41, .int 4])
    (ba : BW a) (bb : BW b) (bc : BW c) (bd : BW d) (be : BW e) (bf : BW f) :
    ∃ (p : Addr) (lo mn : Nat) (z : Int), x1 = .ref p ∧ (∀ H, SqT K H p [.int lo, .int mn]) ∧ lo ≤ 100 ∧ y1 = .int z ∧ BW z ∧ (wl a b c d e f).take (i + 1) = (wl a b c d e f).take i ++ [z * 2 ^ lo] := by
  have six : i = 0 ∨ i = 1 ∨ i = 2 ∨ i = 3 ∨ i = 4 ∨ i = 5 := by omega
  rcases six with h | h | h | h | h | h <;> subst h
  · exact ⟨pA, 0, 12, a, (Option.some.inj hx).symm, sA, by decide, (Option.some.inj hy).symm, ba, rfl⟩
  · exact ⟨pF, 12, 12, b, (Option.some.inj hx).symm, sF, by decide, (Option.some.inj hy).symm, bb, rfl⟩
  · exact ⟨pC, 24, 4, c, (Option.some.inj hx).symm, sC, by decide, (Option.some.inj hy).symm, bc, rfl⟩
  · exact ⟨pS, 28, 4, d, (Option.some.inj hx).symm, sS, by decide, (Option.some.inj hy).symm, bd, rfl⟩
  · exact ⟨pR, 32, 9, e, (Option.some.inj hx).symm, sR, by decide, (Option.some.inj hy).symm, be, rfl⟩
  · exact ⟨pK, 41, 4, f, (Option.some.inj hx).symm, sK, by decide, (Option.some.inj hy).symm, bf, rfl⟩
theorem mask_b (p : Nat → Bool) : ∀ i, i ≤ 9 → 0 ≤ (mask p i).sum ∧ (mask p i).sum < 2 ^ i
  | 0, _ => by unfold mask; simp
  | i + 1, h => by
    have ih := mask_b p i (by omega)
    rw [mask_succ, List.sum_append]
    have e : (2 : Int) ^ (i + 1) = 2 * 2 ^ i := by rw [Int.pow_succ]; omega
    rw [e]
    by_cases c : p i = true
    · simp only [if_pos c, List.sum_cons, List.sum_nil]; omega
    · simp only [if_neg c, List.sum_nil]; omega
theorem maskOf_b (r : Str) : 0 ≤ maskOf r ∧ maskOf r < 512 := by
  have := mask_b (hasR r) 9 (Nat.le_refl _)
  unfold maskOf; omega
instance (b : Int) : Decidable (Tells b) := by unfold Tells; infer_instance

/-! ### bits and fields there and back -/
theorem wb_eq (lo hi at' mr kd : Int) (s : Nat) : wbits lo hi at' mr kd s = at' + lo / 2 ^ s * 4096 + Dd lo hi s * 16777216 + (s : Int) * 268435456 + mr * 4294967296 + kd * 2199023255552 := by
  unfold wbits wl
  simp only [List.sum_cons, List.sum_nil]
  omega
theorem bits6 {a F D s m k : Int} (a0 : 0 ≤ a) (a1 : a ≤ 4095) (F0 : 0 ≤ F) (F1 : F ≤ 4095) (D0 : 0 ≤ D) (D1 : D ≤ 15) (s0 : 0 ≤ s) (s1 : s ≤ 8) (m0 : 0 ≤ m) (m1 : m < 512) (k0 : 0 ≤ k) (k1 : k ≤ 15) :
    fStep (a + F * 4096 + D * 16777216 + s * 268435456 + m * 4294967296 + k * 2199023255552) = s ∧ fFirst (a + F * 4096 + D * 16777216 + s * 268435456 + m * 4294967296 + k * 2199023255552) = F ∧ fCnt (a + F * 4096 + D * 16777216 + s * 268435456 + m * 4294967296 + k * 2199023255552) = D + 1 ∧
    fAt (a + F * 4096 + D * 16777216 + s * 268435456 + m * 4294967296 + k * 2199023255552) = a ∧ fRts (a + F * 4096 + D * 16777216 + s * 268435456 + m * 4294967296 + k * 2199023255552) = m ∧ fKind (a + F * 4096 + D * 16777216 + s * 268435456 + m * 4294967296 + k * 2199023255552) = k := by
  unfold fStep fFirst fCnt fAt fRts fKind
  rw [show (2 : Int) ^ 0 = 1 by decide, show (2 : Int) ^ 4 = 16 by decide, show (2 : Int) ^ 9 = 512 by decide, show (2 : Int) ^ 12 = 4096 by decide, show (2 : Int) ^ 24 = 16777216 by decide, show (2 : Int) ^ 28 = 268435456 by decide, show (2 : Int) ^ 32 = 4294967296 by decide, show (2 : Int) ^ 41 = 2199023255552 by decide]
  generalize hb : a + F * 4096 + D * 16777216 + s * 268435456 + m * 4294967296 + k * 2199023255552 = b
  have q1 : b / 4096 = F + 4096 * (D + 16 * (s + 16 * (m + 512 * k))) := by omega
  have q2 : b / 16777216 = D + 16 * (s + 16 * (m + 512 * k)) := by omega
  have q3 : b / 268435456 = s + 16 * (m + 512 * k) := by omega
  have q4 : b / 4294967296 = m + 512 * k := by omega
  have q5 : b / 2199023255552 = k := by omega
  rw [q1, q2, q3, q4, q5]
  refine ⟨?_, ?_, ?_, ?_, ?_, ?_⟩ <;> omega
theorem wb_dec {lo hi at' mr kd : Int} {s : Nat} (b : Bd lo hi) (e : Ex lo hi s) (a0 : 0 ≤ at') (a1 : at' ≤ 4095) (m0 : 0 ≤ mr) (m1 : mr < 512) (k0 : 0 ≤ kd) (k1 : kd ≤ 15) :
    0 ≤ wbits lo hi at' mr kd s ∧ Tells (wbits lo hi at' mr kd s) ∧ fFirst (wbits lo hi at' mr kd s) * 2 ^ (fStep (wbits lo hi at' mr kd s)).toNat = lo ∧ (fFirst (wbits lo hi at' mr kd s) + fCnt (wbits lo hi at' mr kd s)) * 2 ^ (fStep (wbits lo hi at' mr kd s)).toNat = hi ∧
    fAt (wbits lo hi at' mr kd s) = at' ∧ fRts (wbits lo hi at' mr kd s) = mr ∧ fKind (wbits lo hi at' mr kd s) = kd := by
  obtain ⟨⟨s8, e1, e2⟩, e3, e4⟩ := e
  obtain ⟨b1, b2, b3⟩ := b
  have dl := div_le' (s := s) b1
  have d0 : 0 ≤ Dd lo hi s := by
    unfold Dd
    have := Int.ediv_le_ediv (pow_pos2 s) (show lo ≤ hi - 1 by omega)
    omega
  have fo := first_over lo hi s
  have h9 : s = 0 ∨ 9 ≤ Dd lo hi s + 1 := by
    rcases Nat.eq_zero_or_pos s with c | c
    · exact .inl c
    · right
      have := e2 (s - 1) (by omega)
      clear e2 fo
      unfold Dd at *
      rcases le8 s8 with e | e | e | e | e | e | e | e | e <;> subst e <;> first | omega | (simp at *; omega)
  have ed : Dd lo hi s + 1 = (hi - 1) / 2 ^ s + 1 - lo / 2 ^ s := by omega
  rw [wb_eq]
  have eF : lo / 2 ^ s ≤ 4095 := by omega
  generalize hF : lo / 2 ^ s = F at *
  generalize hD : Dd lo hi s = D at *
  have s0 : (0 : Int) ≤ (s : Int) ∧ (s : Int) ≤ 8 := by omega
  have F0 : 0 ≤ F := dl.1
  obtain ⟨x1, x2, x3, x4, x5, x6⟩ := bits6 (a := at') (F := F) (D := D) (s := (s : Int)) (m := mr) (k := kd) a0 a1 F0 eF d0 e1 s0.1 s0.2 m0 m1 k0 k1
  have e5 : (F + (D + 1)) * 2 ^ s = hi := by rw [fo]; exact e4
  refine ⟨by omega, ⟨?_, ?_, ?_⟩, ?_, ?_, x4, x5, x6⟩
  · rw [x1]; omega
  · rw [x1, x3]; omega
  · rw [x1, x2, x3]
    show (F + (D + 1)) * 2 ^ s ≤ 4096
    rw [e5]; exact b3
  · rw [x1, x2]; exact e3
  · rw [x1, x2, x3]; exact e5
theorem R_ok : Str.ofString "r" = rtx (hasR (Str.ofString "r")) := by decide +kernel
theorem R_one : OneW (Str.ofString "r") := by unfold OneW; decide +kernel
theorem R_rtx : rtx (bitp (maskOf (Str.ofString "r"))) = Str.ofString "r" := by decide +kernel
theorem dp5 {K : PySem.W.Frag} {H : Hp} {p : Addr} {a b c d : Int} {r : Str} (h : H p = some (.tup [.int a, .int b, .int c, .str r, .int d])) : Dp K H (.ref p) (.tuple [.int a, .int b, .int c, .str r, .int d]) :=
  .tup (.of h) (.cons (.int a) (.cons (.int b) (.cons (.int c) (.cons (.str r) (.cons (.int d) .nil)))))
theorem d5_sh (a b c d : Int) (r : Str) (h : PyData.canLay0 (.str r) = true) : SeqAt.shaped (.tuple [.int a, .int b, .int c, .str r, .int d]) = true := by
  have e : PyData.canLay0 (.tuple [.int a, .int b, .int c, .str r, .int d]) = true := by
    simp only [PyData.canLay0, PyData.canLayAll0, Bool.true_and, Bool.and_true] at *
    exact h
  unfold SeqAt.shaped
  rw [e]
  simp [PyData.depth, PyData.depthAll]
theorem d5_refl (a b c d : Int) (r : Str) : PyData.eqv (.tuple [.int a, .int b, .int c, .str r, .int d]) (.tuple [.int a, .int b, .int c, .str r, .int d]) = true := by
  simp [PyData.eqv, PyData.eqvAll]

theorem mt_lcountB {X : Cx} : MtR X "list.count" (fun x xs H Q => ∃ (p : Addr) (bs : List Bool), x = .ref p ∧ xs = [.bl true] ∧ SqL X.K H p (bs.map V.bl) ∧ Q (.int ((bs.filter id).length : Nat)) H) := by
  intro pins s σ H x xs v us Q I rx rxs h
  obtain ⟨p, bs, rfl, rfl, hs, q⟩ := h
  cases rx
  obtain ⟨u, rfl, ru⟩ := rxs.one
  obtain rfl : u = Value.bool true := ru
  obtain ⟨its, rv, ⟨⟨cls, dd, data, sl⟩, n, ho, hc, hdn, hd⟩, hlen⟩ := I.list hs
  simp only at hc hd
  subst hc hd
  have hb := Vals.bls rv
  subst hb
  refine call_meets PySem.F.slot_list_count ⟨_, ho, rfl⟩ PySem.F.entry_list_count (PySem.F.args_list_count_2 _ _)
    (SeqAt.list_countAt p (bs.map Value.bool).toArray n dd sl (.bool true) (eqU (.bl true))) ⟨ho, fun y hy => mem_eqAt (x := .bl true) rfl rfl rv (by simp [flatV]) y (by simpa using hy), ?_⟩
  have ec : (bs.map Value.bool).toArray.toList.countP (eqU (.bl true)) = (bs.filter id).length := by
    show (bs.map Value.bool).countP (eqU (.bl true)) = _
    rw [List.countP_map, List.countP_eq_length_filter]
    congr 1
    refine List.filter_congr fun b _ => ?_
    cases b <;> rfl
  refine ⟨.int ((bs.filter id).length : Nat), H, I.tok _, ⟨s.toks, ?_⟩, q⟩
  show Value.int (((bs.map Value.bool).toArray.toList.countP (eqU (.bl true)) : Nat) : Int) s.toks = _
  rw [ec]
/-- bits that a marked word may have -/
def Law (b : Int) : Prop := Tells b ∧ OneW (rtx (bitp (fRts b)))
def W45 (b : Int) : Prop := 0 ≤ b ∧ b < 35184372088832

theorem bit_lift (b : Int) {i : Nat} (h : i < 9) : b / 2 ^ (32 + i) % 2 = fRts b / 2 ^ i % 2 := by
  unfold fRts
  rw [show (2 : Int) ^ 32 = 4294967296 by decide, show (2 : Int) ^ 9 = 512 by decide]
  rcases le8 (show i ≤ 8 by omega) with e | e | e | e | e | e | e | e | e <;> subst e
  · rw [show (2 : Int) ^ (32 + 0) = 4294967296 by decide, show (2 : Int) ^ 0 = 1 by decide]; omega
  · rw [show (2 : Int) ^ (32 + 1) = 8589934592 by decide, show (2 : Int) ^ 1 = 2 by decide]; omega
  · rw [show (2 : Int) ^ (32 + 2) = 17179869184 by decide, show (2 : Int) ^ 2 = 4 by decide]; omega
  · rw [show (2 : Int) ^ (32 + 3) = 34359738368 by decide, show (2 : Int) ^ 3 = 8 by decide]; omega
  · rw [show (2 : Int) ^ (32 + 4) = 68719476736 by decide, show (2 : Int) ^ 4 = 16 by decide]; omega
  · rw [show (2 : Int) ^ (32 + 5) = 137438953472 by decide, show (2 : Int) ^ 5 = 32 by decide]; omega
  · rw [show (2 : Int) ^ (32 + 6) = 274877906944 by decide, show (2 : Int) ^ 6 = 64 by decide]; omega
  · rw [show (2 : Int) ^ (32 + 7) = 549755813888 by decide, show (2 : Int) ^ 7 = 128 by decide]; omega
  · rw [show (2 : Int) ^ (32 + 8) = 1099511627776 by decide, show (2 : Int) ^ 8 = 256 by decide]; omega

theorem rtx_len (p : Nat → Bool) : (rtx p).cps.size ≤ 9 := by
  have e : (rtx p).cps.size = (rtx p).cps.toList.length := by simp
  rw [e, rtx_codes, List.length_map]
  exact Nat.le_trans (List.length_filter_le _ _) (by decide)
theorem code_ok : ∀ k, k < 9 → PyData.canLay0 (.str (one (code k))) = true := by decide +kernel
theorem rtx_ok (p : Nat → Bool) {c : Nat} (h : c ∈ (rtx p).cps.toList) : PyData.canLay0 (.str (one c)) = true := by
  rw [rtx_codes] at h
  obtain ⟨k, hk, rfl⟩ := List.mem_map.mp h
  exact code_ok k (List.mem_range.mp (List.mem_filter.mp hk).1)
theorem strs_lay : ∀ {l : List Nat}, (∀ c ∈ l, PyData.canLay0 (.str (one c)) = true) → PyData.canLayAll0 (l.map fun c => .str (one c)) = true
  | [], _ => by simp [PyData.canLayAll0]
  | c :: l, h => by
    have ih := strs_lay (l := l) fun x hx => h x (List.mem_cons_of_mem _ hx)
    simp only [List.map_cons, PyData.canLayAll0, ih, h c (List.mem_cons_self ..), Bool.and_self]
theorem strs_depth : ∀ l : List Nat, PyData.depthAll (l.map fun c => .str (one c)) = 0
  | [] => by simp [PyData.depthAll]
  | c :: l => by simp only [List.map_cons, PyData.depthAll, PyData.depth, strs_depth l]; rfl
theorem strs_shape {l : List Nat} (h : ∀ c ∈ l, PyData.canLay0 (.str (one c)) = true) : SeqAt.shaped (.list (l.map fun c => .str (one c))) = true := by
  have e : PyData.canLay0 (.list (l.map fun c => .str (one c))) = true := by
    simp only [PyData.canLay0]; exact strs_lay h
  unfold SeqAt.shaped
  rw [e]
  simp only [PyData.depth, strs_depth]; rfl
theorem dp_strs {K : PySem.W.Frag} {H : Hp} : ∀ l : List Nat, DpAll K H (l.map fun c => V.str (one c)) (l.map fun c => .str (one c))
  | [] => .nil
  | c :: l => .cons (.str (one c)) (dp_strs l)
theorem strs_eqv (l : List Nat) : PyData.eqv (.list (l.map fun c => .str (one c))) (.list []) = l.isEmpty := by
  cases l with
  | nil => rfl
  | cons c l => simp [PyData.eqv, PyData.eqvAll]
theorem hasG_iff (r g : Str) : (!(r.cps.toList.filter fun c => decide (c ∈ g.cps.toList)).isEmpty) = hasG r g := by
  unfold hasG
  rw [Bool.eq_iff_iff, List.any_eq_true]
  constructor
  · intro h
    cases e : r.cps.toList.filter fun c => decide (c ∈ g.cps.toList) with
    | nil => rw [e] at h; cases h
    | cons c l =>
      have m : c ∈ r.cps.toList.filter fun c => decide (c ∈ g.cps.toList) := by rw [e]; exact List.mem_cons_self ..
      obtain ⟨m1, m2⟩ := List.mem_filter.mp m
      exact ⟨c, of_decide_eq_true m2, decide_eq_true m1⟩
  · rintro ⟨c, m1, m2⟩
    have m : c ∈ r.cps.toList.filter fun c => decide (c ∈ g.cps.toList) := List.mem_filter.mpr ⟨of_decide_eq_true m2, decide_eq_true m1⟩
    cases e : r.cps.toList.filter fun c => decide (c ∈ g.cps.toList) with
    | nil => rw [e] at m; cases m
    | cons c l => rfl

/-! ### words and their fields there and back -/
theorem tw_eqv {m n : Bool} {a b : Int} : PyData.eqv (.tuple [.bool m, .int a]) (.tuple [.bool n, .int b]) = true ↔ m = n ∧ a = b := by
  simp [PyData.eqv, PyData.eqvAll]
theorem tw_no {m : Bool} {a b : Int} (e : PyData.eqv (.tuple [.bool m, .int a]) (.tuple [.bool m, .int b]) = false) (h : a = b) : False := by
  rw [tw_eqv.mpr ⟨rfl, h⟩] at e; cases e
theorem dpw {K : PySem.W.Frag} {H : Hp} {p : Addr} {m : Bool} {a : Int} (h : H p = some (.tup [.bl m, .int a])) : Dp K H (.ref p) (.tuple [.bool m, .int a]) :=
  .tup (.of h) (.cons (.bl m) (.cons (.int a) .nil))
theorem d5_eqv {a b c d a' b' c' d' : Int} {r r' : Str} : PyData.eqv (.tuple [.int a, .int b, .int c, .str r, .int d]) (.tuple [.int a', .int b', .int c', .str r', .int d']) = true ↔ a = a' ∧ b = b' ∧ c = c' ∧ r = r' ∧ d = d' := by
  simp [PyData.eqv, PyData.eqvAll]
theorem d5_no {a b c d : Int} {r : Str} (e : PyData.eqv (.tuple [.int a, .int b, .int c, .str r, .int d]) (.tuple [.int a, .int b, .int c, .str r, .int d]) = false) : False := by
  rw [d5_refl] at e; cases e
theorem rtx_congr {p q : Nat → Bool} (h : ∀ k, k < 9 → p k = q k) : rtx p = rtx q := by
  unfold rtx rcs
  rw [List.filter_congr fun k hk => h k (List.mem_range.mp hk)]
theorem hasR_rtx (p : Nat → Bool) {k : Nat} (h : k < 9) : hasR (rtx p) k = p k := by
  unfold hasR
  rw [Bool.eq_iff_iff, decide_eq_true_iff]
  exact rtx_mem p h
theorem rtx_self (p : Nat → Bool) : rtx p = rtx (hasR (rtx p)) := rtx_congr fun k h => (hasR_rtx p h).symm
theorem mask_congr {p q : Nat → Bool} (h : ∀ k, k < 9 → p k = q k) : mask p 9 = mask q 9 := by
  unfold mask
  rw [List.filter_congr fun k hk => h k (List.mem_range.mp hk)]
theorem maskOf_rtx (p : Nat → Bool) : maskOf (rtx p) = (mask p 9).sum := by
  unfold maskOf
  rw [mask_congr fun k h => hasR_rtx p h]
theorem mask512 : ∀ m : Fin 512, (mask (bitp (m.val : Int)) 9).sum = (m.val : Int) := by decide +kernel
theorem mask_bitp {m : Int} (h0 : 0 ≤ m) (h1 : m < 512) : (mask (bitp m) 9).sum = m := by
  have h := mask512 ⟨m.toNat, by omega⟩
  have e : ((m.toNat : Nat) : Int) = m := by omega
  rw [e] at h
  exact h
theorem rtx_can (p : Nat → Bool) : PyData.canLay0 (.str (rtx p)) = true := by
  simp only [PyData.canLay0, PyData.strOk]
  rw [Array.all_eq_true_iff_forall_mem]
  intro c hc
  have h := rtx_ok p (c := c) (by simpa using hc)
  simp only [PyData.canLay0, PyData.strOk] at h
  simpa [one] using h
structure WF (b lo hi at' : Int) (p : Nat → Bool) (kd : Int) (s : Nat) : Prop where
  bd : Bd lo hi
  ex : Ex lo hi s
  a0 : 0 ≤ at'
  a1 : at' ≤ 4095
  k0 : 0 ≤ kd
  k1 : kd ≤ 15
  ow : OneW (rtx p)
  wb : wbits lo hi at' (maskOf (rtx p)) kd s = b
theorem WF.f5 {b lo hi at' kd : Int} {p : Nat → Bool} {s : Nat} (W : WF b lo hi at' p kd s) : F5 [.int lo, .int hi, .int at', .str (rtx p), .int kd] :=
  ⟨lo, hi, at', _, kd, rfl, W.bd, ⟨s, W.ex⟩, W.a0, W.a1, W.k0, W.k1, rtx_self p, W.ow⟩
theorem wf_of {b : Int} (w : W45 b) (L : Law b) : ∃ (lo hi at' : Int) (p : Nat → Bool) (kd : Int) (s : Nat), [V.int (fFirst b * 2 ^ (fStep b).toNat), .int ((fFirst b + fCnt b) * 2 ^ (fStep b).toNat), .int (fAt b), .str (rtx (bitp (fRts b))), .int (fKind b)] = [.int lo, .int hi, .int at', .str (rtx p), .int kd] ∧ WF b lo hi at' p kd s := by
  obtain ⟨⟨t1, t2, t3⟩, ow⟩ := L
  obtain ⟨w0, w1⟩ := w
  have f := fb b
  have r0 : 0 ≤ fRts b := Int.emod_nonneg _ (by decide)
  have r1 : fRts b < 512 := Int.emod_lt_of_pos _ (by decide)
  have a0 : 0 ≤ fAt b := Int.emod_nonneg _ (by decide)
  have a1 : fAt b < 4096 := Int.emod_lt_of_pos _ (by decide)
  have k0 : 0 ≤ fKind b := Int.emod_nonneg _ (by decide)
  have k1 : fKind b < 16 := Int.emod_lt_of_pos _ (by decide)
  have sum : b = fAt b + fFirst b * 4096 + (fCnt b - 1) * 16777216 + fStep b * 268435456 + fRts b * 4294967296 + fKind b * 2199023255552 := by
    clear t1 t2 t3 ow f r0 r1 a0 a1 k0 k1
    unfold fAt fFirst fCnt fStep fRts fKind
    rw [show (2 : Int) ^ 0 = 1 by decide, show (2 : Int) ^ 4 = 16 by decide, show (2 : Int) ^ 9 = 512 by decide, show (2 : Int) ^ 12 = 4096 by decide, show (2 : Int) ^ 24 = 16777216 by decide, show (2 : Int) ^ 28 = 268435456 by decide, show (2 : Int) ^ 32 = 4294967296 by decide, show (2 : Int) ^ 41 = 2199023255552 by decide]
    omega
  obtain ⟨s, es⟩ : ∃ s : Nat, fStep b = (s : Int) := ⟨(fStep b).toNat, by omega⟩
  rw [es] at t1 t2 t3 sum ⊢
  have e1 : ((s : Int)).toNat = s := rfl
  rw [e1] at t3 ⊢
  generalize fFirst b = F at *
  generalize fCnt b = C at *
  have s8 : s ≤ 8 := by omega
  have core : Bd (F * 2 ^ s) ((F + C) * 2 ^ s) ∧ Ex (F * 2 ^ s) ((F + C) * 2 ^ s) s ∧ F * 2 ^ s / 2 ^ s = F ∧ Dd (F * 2 ^ s) ((F + C) * 2 ^ s) s + 1 = C := by
    have c9 : s = 0 ∨ 9 ≤ C := by omega
    clear sum es t2
    unfold Ex StepIs Dd Bd
    refine ⟨?_, ⟨⟨s8, ?_, fun t ht => ?_⟩, ?_, ?_⟩, ?_, ?_⟩
    · rcases le8 s8 with e | e | e | e | e | e | e | e | e <;> subst e <;> omega
    · rcases le8 s8 with e | e | e | e | e | e | e | e | e <;> subst e <;> omega
    · have t8 : t ≤ 8 := by omega
      rcases le8 s8 with e | e | e | e | e | e | e | e | e <;> subst e <;> rcases le8 t8 with e | e | e | e | e | e | e | e | e <;> subst e <;> first | omega | (simp at *; omega)
    all_goals (rcases le8 s8 with e | e | e | e | e | e | e | e | e <;> subst e <;> omega)
  refine ⟨_, _, _, bitp (fRts b), _, s, rfl, ⟨core.1, core.2.1, a0, by omega, k0, by omega, ow, ?_⟩⟩
  rw [wb_eq, core.2.2.1, maskOf_rtx, mask_bitp r0 r1]
  have := core.2.2.2
  omega
/-- one right less -/
def lessp (p : Nat → Bool) (i : Nat) : Nat → Bool := fun k => p k && decide (k ≠ i)
theorem less_mask (p : Nat → Bool) (i : Nat) (hp : p i = true) : ∀ n, (mask p n).sum = (mask (lessp p i) n).sum + (if i < n then (2 : Int) ^ i else 0)
  | 0 => by unfold mask; simp
  | n + 1 => by
    have ih := less_mask p i hp n
    rw [mask_succ, mask_succ, List.sum_append, List.sum_append, ih]
    unfold lessp
    rcases Nat.lt_trichotomy i n with c | c | c
    · have h1 : decide (n ≠ i) = true := decide_eq_true (by omega)
      rw [h1, Bool.and_true, if_pos c, if_pos (show i < n + 1 by omega)]
      omega
    · subst c
      have h1 : decide (i ≠ i) = false := decide_eq_false (by simp)
      rw [h1, Bool.and_false, if_pos hp, if_neg (Nat.lt_irrefl i), if_neg Bool.false_ne_true, if_pos (Nat.lt_succ_self i)]
      simp
    · have h1 : decide (n ≠ i) = true := decide_eq_true (by omega)
      rw [h1, Bool.and_true, if_neg (show ¬ i < n by omega), if_neg (show ¬ i < n + 1 by omega)]
      omega
theorem less_codes (p : Nat → Bool) {i : Nat} (hi : i < 9) : (((rtx p).cps.toList.filter fun c => !decide (V.str (one c) = V.str (one (code i)))).map one) = rcs (lessp p i) 9 := by
  rw [rtx_codes]
  unfold rcs lessp
  rw [List.filter_map, List.map_map, ← List.filter_filter]
  congr 1
  rw [List.filter_filter, List.filter_filter]
  refine List.filter_congr fun k hk => ?_
  have hk9 := List.mem_range.mp hk
  have e : decide (V.str (one (code k)) = V.str (one (code i))) = decide (k = i) := by
    rw [decide_eq_decide]
    constructor
    · intro h
      have h2 := V.str.inj h
      have h3 : code k = code i := by
        have h4 := congrArg (fun x : Str => x.cps.toList) h2
        simpa [one] using h4
      exact code_inj k hk9 i hi h3
    · intro h; rw [h]
  simp only [Function.comp]
  rw [e]
  by_cases c : k = i
  · simp [c]
  · simp [c]
theorem less_one {p : Nat → Bool} {i : Nat} (h : OneW (rtx p)) : OneW (rtx (lessp p i)) := by
  unfold OneW at *
  refine Nat.le_trans ?_ h
  have key : ∀ l : List Str, (l.filter (hasG (rtx (lessp p i)))).length ≤ (l.filter (hasG (rtx p))).length := by
    intro l
    induction l with
    | nil => exact Nat.le_refl _
    | cons g l ih =>
      have mono : hasG (rtx (lessp p i)) g = true → hasG (rtx p) g = true := by
        unfold hasG
        rw [List.any_eq_true, List.any_eq_true]
        rintro ⟨c, c1, c2⟩
        refine ⟨c, c1, decide_eq_true ?_⟩
        have c3 := of_decide_eq_true c2
        rw [rtx_codes] at c3 ⊢
        obtain ⟨k, k1, k2⟩ := List.mem_map.mp c3
        obtain ⟨k3, k4⟩ := List.mem_filter.mp k1
        refine List.mem_map.mpr ⟨k, List.mem_filter.mpr ⟨k3, ?_⟩, k2⟩
        unfold lessp at k4
        exact (Bool.and_eq_true_iff.mp k4).1
      rw [List.filter_cons, List.filter_cons]
      by_cases c : hasG (rtx (lessp p i)) g = true
      · rw [if_pos c, if_pos (mono c)]
        simp only [List.length_cons]
        omega
      · rw [if_neg c]
        split
        · simp only [List.length_cons]; omega
        · exact ih
  exact key _
theorem least_in {lo hi il ih : Int} {t s : Nat} (b : Bd lo hi) (e : Ex lo hi t) (h1 : lo ≤ il) (h2 : il < ih) (h3 : ih ≤ hi) (g : StepIs il ih s) : lo ≤ il / 2 ^ s * 2 ^ s ∧ ((ih - 1) / 2 ^ s + 1) * 2 ^ s ≤ hi := by
  obtain ⟨⟨t8, e1, e2⟩, e3, e4⟩ := e
  obtain ⟨b1, b2, b3⟩ := b
  have st : s ≤ t := by
    rcases Nat.lt_or_ge t s with c | c
    · have := g.2.2 t c
      exfalso
      clear e2 g
      unfold Dd at *
      rcases le8 t8 with e | e | e | e | e | e | e | e | e <;> subst e <;> omega
    · exact c
  have s8 := g.1
  clear e2 g
  unfold Dd at *
  rcases le8 t8 with e | e | e | e | e | e | e | e | e <;> subst e <;> rcases le8 s8 with e | e | e | e | e | e | e | e | e <;> subst e <;> first | omega | (simp at *; omega)
theorem least_ex {il ih : Int} {s : Nat} (b : Bd il ih) (g : StepIs il ih s) : Bd (il / 2 ^ s * 2 ^ s) (((ih - 1) / 2 ^ s + 1) * 2 ^ s) ∧ Ex (il / 2 ^ s * 2 ^ s) (((ih - 1) / 2 ^ s + 1) * 2 ^ s) s ∧ il / 2 ^ s * 2 ^ s ≤ il ∧ ih ≤ ((ih - 1) / 2 ^ s + 1) * 2 ^ s ∧ il / 2 ^ s * 2 ^ s / 2 ^ s = il / 2 ^ s ∧ Dd (il / 2 ^ s * 2 ^ s) (((ih - 1) / 2 ^ s + 1) * 2 ^ s) s = Dd il ih s := by
  obtain ⟨b1, b2, b3⟩ := b
  have s8 := g.1
  have g1 := g.2.1
  have g2 := g.2.2
  refine ⟨?_, ⟨⟨s8, ?_, fun t ht => ?_⟩, ?_, ?_⟩, ?_, ?_, ?_, ?_⟩
  · unfold Bd
    rcases le8 s8 with e | e | e | e | e | e | e | e | e <;> subst e <;> omega
  · unfold Dd at *
    clear g2 g
    rcases le8 s8 with e | e | e | e | e | e | e | e | e <;> subst e <;> omega
  · have g3 := g2 t ht
    have t8 : t ≤ 8 := by omega
    clear g2 g
    unfold Dd at *
    rcases le8 s8 with e | e | e | e | e | e | e | e | e <;> subst e <;> rcases le8 t8 with e | e | e | e | e | e | e | e | e <;> subst e <;> first | omega | (simp at *; omega)
  all_goals (clear g2 g; unfold Dd at *; rcases le8 s8 with e | e | e | e | e | e | e | e | e <;> subst e <;> omega)
theorem bc4 {lo hi : Int} {s : Nat} (b : Bd lo hi) (h : s ≤ 8) : CPow ((hi - 1) / 2 ^ s + 1) (s : Int) := by
  obtain ⟨b1, b2, b3⟩ := b
  have := div_le' (s := s) (x := hi - 1) (by omega)
  exact ⟨by omega, by omega, na (by omega) (by omega)⟩

/-! ### what is drawn: heaps -/
theorem seqT' {K : PySem.W.Frag} {H H' : Hp} {a : Addr} {xs : List V} (e : Same H H') (h : SqT K H a xs) : SqT K H' a xs := by
  rcases h with (h | ⟨o, h⟩) | h
  · exact .inl (.inl (e _ _ h))
  · exact .inl (.inr ⟨o, e _ _ h⟩)
  · exact .inr h
theorem Pool.same {H H' : Hp} {p : Addr} {x y : Int} (h : Pool H p x y) (s : Same H H') : Pool H' p x y := ⟨s _ _ h.1, h.2⟩
theorem But.free {H H' : Hp} {a q : Addr} {x y : Int} (b : But a H H') (P : Pool H' a x y) (n : H' q = none) : H q = none := by
  cases e : H q with
  | none => rfl
  | some o =>
    by_cases c : q = a
    · subst c; rw [P.1] at n; cases n
    · rw [b q o c e] at n; cases n
local macro_rules | `(tactic| walk_at "but") => `(tactic| first | assumption | exact But.refl _ _ | (refine But.trans ?_ (by assumption); walk_at "but") | (refine But.trans ?_ (But.of (by assumption)); walk_at "but") | (refine But.new ?_ (by assumption); walk_at "but") | (refine But.upd ?_; walk_at "but"))
local macro_rules | `(tactic| walk_at "same") => `(tactic| first | assumption | exact Same.refl _ | (refine Same.trans ?_ (by assumption); walk_at "same") | (refine sameN ?_ (by assumption); walk_at "same"))
/-! ### words as they lie in memory -/
def tup5 (b : Int) : List V := [.int (fFirst b * 2 ^ (fStep b).toNat), .int ((fFirst b + fCnt b) * 2 ^ (fStep b).toNat), .int (fAt b), .str (rtx (bitp (fRts b))), .int (fKind b)]
structure Wd (H : Hp) (q : Addr) (m : Bool) (b : Int) : Prop where
  at' : H q = some (.tup [.bl m, .int b])
  w : W45 b
  law : m = true → Law b
theorem Wd.same {H H' : Hp} {q : Addr} {m : Bool} {b : Int} (h : Wd H q m b) (s : Same H H') : Wd H' q m b := ⟨s _ _ h.at', h.w, h.law⟩
theorem Wd.ne {H : Hp} {q a : Addr} {m : Bool} {b x y : Int} (h : Wd H q m b) (P : Pool H a x y) : q ≠ a := by
  intro e; subst e
  have := h.at'
  rw [P.1] at this; cases this
theorem Wd.but {H H' : Hp} {q a : Addr} {m : Bool} {b : Int} (h : Wd H q m b) (s : But a H H') (n : q ≠ a) : Wd H' q m b := ⟨s _ _ n h.at', h.w, h.law⟩
theorem sum_ite (c : Bool) (z : Int) : (if c = true then [z] else []).sum = if c = true then z else 0 := by cases c <;> simp
theorem mask_val (p : Nat → Bool) : (mask p 9).sum = (if p 0 = true then 1 else 0) + (if p 1 = true then 2 else 0) + (if p 2 = true then 4 else 0) + (if p 3 = true then 8 else 0) + (if p 4 = true then 16 else 0) + (if p 5 = true then 32 else 0) + (if p 6 = true then 64 else 0) + (if p 7 = true then 128 else 0) + (if p 8 = true then 256 else 0) := by
  have e0 : (mask p 0).sum = 0 := by unfold mask; simp
  simp only [mask_succ, List.sum_append, sum_ite, e0]
  simp
theorem bit01 (c : Bool) (z : Int) : ∃ x : Int, (0 ≤ x ∧ x ≤ 1) ∧ (if c = true then z else 0) = z * x ∧ c = decide (x = 1) := by
  cases c
  · exact ⟨0, by omega, by simp, by decide⟩
  · exact ⟨1, by omega, by simp, by decide⟩
theorem bitp_mask (p : Nat → Bool) {k : Nat} (h : k < 9) : bitp ((mask p 9).sum) k = p k := by
  unfold bitp
  rw [mask_val]
  obtain ⟨x0, b0, e0, d0⟩ := bit01 (p 0) 1
  obtain ⟨x1, b1, e1, d1⟩ := bit01 (p 1) 2
  obtain ⟨x2, b2, e2, d2⟩ := bit01 (p 2) 4
  obtain ⟨x3, b3, e3, d3⟩ := bit01 (p 3) 8
  obtain ⟨x4, b4, e4, d4⟩ := bit01 (p 4) 16
  obtain ⟨x5, b5, e5, d5⟩ := bit01 (p 5) 32
  obtain ⟨x6, b6, e6, d6⟩ := bit01 (p 6) 64
  obtain ⟨x7, b7, e7, d7⟩ := bit01 (p 7) 128
  obtain ⟨x8, b8, e8, d8⟩ := bit01 (p 8) 256
  rw [e0, e1, e2, e3, e4, e5, e6, e7, e8]
  rcases le8 (show k ≤ 8 by omega) with e | e | e | e | e | e | e | e | e <;> subst e
  · rw [d0, decide_eq_decide]; omega
  · rw [d1, decide_eq_decide]; omega
  · rw [d2, decide_eq_decide]; omega
  · rw [d3, decide_eq_decide]; omega
  · rw [d4, decide_eq_decide]; omega
  · rw [d5, decide_eq_decide]; omega
  · rw [d6, decide_eq_decide]; omega
  · rw [d7, decide_eq_decide]; omega
  · rw [d8, decide_eq_decide]; omega
theorem WF.all {b lo hi at' kd : Int} {p : Nat → Bool} {s : Nat} (W : WF b lo hi at' p kd s) : W45 b ∧ Law b ∧ tup5 b = [.int lo, .int hi, .int at', .str (rtx p), .int kd] ∧ fKind b = kd ∧ fAt b = at' ∧ fRts b = (mask p 9).sum := by
  have mb := maskOf_b (rtx p)
  have D := wb_dec W.bd W.ex W.a0 W.a1 mb.1 mb.2 W.k0 W.k1
  have e := wb_eq lo hi at' (maskOf (rtx p)) kd s
  rw [W.wb] at D e
  obtain ⟨d0, t, e1, e2, e3, e4, e5⟩ := D
  have er : rtx (bitp (fRts b)) = rtx p := by
    rw [e4, maskOf_rtx]
    exact rtx_congr fun k h => bitp_mask p h
  have x := W.ex
  obtain ⟨⟨s8, x1, x2⟩, x3, x4⟩ := x
  obtain ⟨b1, b2, b3⟩ := W.bd
  have dl := div_le' (s := s) b1
  have w := W.a1
  have k := W.k1
  refine ⟨⟨d0, ?_⟩, ⟨t, ?_⟩, ?_, e5, e3, by rw [e4, maskOf_rtx]⟩
  · clear x2 x3 x4 t e1 e2 e3 e4 e5 er
    have : lo / 2 ^ s ≤ 4095 := by omega
    omega
  · rw [er]; exact W.ow
  · unfold tup5
    rw [e1, e2, e3, er, e5]
theorem rtx_inj {p q : Nat → Bool} (h : rtx p = rtx q) {k : Nat} (hk : k < 9) : p k = q k := by
  rw [← hasR_rtx p hk, ← hasR_rtx q hk, h]
theorem ow_sub {p q : Nat → Bool} (h : ∀ k, k < 9 → q k = true → p k = true) (o : OneW (rtx p)) : OneW (rtx q) := by
  unfold OneW at *
  refine Nat.le_trans ?_ o
  have key : ∀ l : List Str, (l.filter (hasG (rtx q))).length ≤ (l.filter (hasG (rtx p))).length := by
    intro l
    induction l with
    | nil => exact Nat.le_refl _
    | cons g l ih =>
      have mono : hasG (rtx q) g = true → hasG (rtx p) g = true := by
        unfold hasG
        rw [List.any_eq_true, List.any_eq_true]
        rintro ⟨c, c1, c2⟩
        refine ⟨c, c1, decide_eq_true ?_⟩
        have c3 := of_decide_eq_true c2
        rw [rtx_codes] at c3 ⊢
        obtain ⟨k, k1, k2⟩ := List.mem_map.mp c3
        obtain ⟨k3, k4⟩ := List.mem_filter.mp k1
        exact List.mem_map.mpr ⟨k, List.mem_filter.mpr ⟨k3, h k (List.mem_range.mp k3) k4⟩, k2⟩
      rw [List.filter_cons, List.filter_cons]
      by_cases c : hasG (rtx q) g = true
      · rw [if_pos c, if_pos (mono c)]
        simp only [List.length_cons]
        omega
      · rw [if_neg c]
        split
        · simp only [List.length_cons]; omega
        · exact ih
  exact key _
/-- the rights to cells and f alone go together -/
theorem ow_low {p : Nat → Bool} (h : ∀ k, k < 9 → 6 ≤ k → p k = false) : OneW (rtx p) := by
  have e : OneW (rtx fun k => decide (k < 6)) := by unfold OneW; decide +kernel
  refine ow_sub (fun k hk hp => ?_) e
  rcases Nat.lt_or_ge k 6 with c | c
  · exact decide_eq_true c
  · rw [h k hk c] at hp; cases hp
/-- a text of rights that is good -/
def RV (v : V) : Prop := ∃ p, v = .str (rtx p) ∧ OneW (rtx p)
theorem rv {s : Str} (h : s = rtx (hasR s)) (o : OneW s) : RV (.str s) := ⟨hasR s, congrArg V.str h, h ▸ o⟩
theorem rvd {s : Str} (h : (decide (s = rtx (hasR s)) && decide (([G0, G1, G2].filter (hasG s)).length ≤ 1)) = true) : RV (.str s) := by
  rw [Bool.and_eq_true] at h
  exact rv (of_decide_eq_true h.1) (of_decide_eq_true (p := ([G0, G1, G2].filter (hasG s)).length ≤ 1) h.2)
/-- one word within another -/
def Within (b c : Int) : Prop := fFirst c * 2 ^ (fStep c).toNat ≤ fFirst b * 2 ^ (fStep b).toNat ∧ (fFirst b + fCnt b) * 2 ^ (fStep b).toNat ≤ (fFirst c + fCnt c) * 2 ^ (fStep c).toNat ∧ (∀ k, k < 9 → bitp (fRts b) k = true → bitp (fRts c) k = true) ∧ (fKind b = fKind c ∨ (fKind c = 0 ∧ fKind b ≠ 2))
theorem Within.refl (b : Int) : Within b b := ⟨Int.le_refl _, Int.le_refl _, fun _ _ h => h, .inl rfl⟩
theorem sub_iff {p q : Nat → Bool} : (∀ c ∈ (rtx p).cps.toList, c ∈ (rtx q).cps.toList) ↔ ∀ k, k < 9 → p k = true → q k = true := by
  constructor
  · intro h k hk hp
    exact (rtx_mem q hk).mp (h _ ((rtx_mem p hk).mpr hp))
  · intro h c hc
    rw [rtx_codes] at hc
    obtain ⟨k, hk, rfl⟩ := List.mem_map.mp hc
    obtain ⟨k1, k2⟩ := List.mem_filter.mp hk
    have k9 := List.mem_range.mp k1
    exact (rtx_mem q k9).mpr (h k k9 k2)
theorem WF.uniq {b lo hi at' kd lo' hi' a' kd' : Int} {p p' : Nat → Bool} {s s' : Nat} (W : WF b lo hi at' p kd s) (W' : WF b lo' hi' a' p' kd' s') : lo = lo' ∧ hi = hi' ∧ at' = a' ∧ rtx p = rtx p' ∧ kd = kd' ∧ s = s' := by
  have e := W.all.2.2.1.symm.trans W'.all.2.2.1
  injection e with g1 e
  injection e with g2 e
  injection e with g3 e
  injection e with g4 e
  injection e with g5 _
  have h1 := V.int.inj g1
  have h2 := V.int.inj g2
  refine ⟨h1, h2, V.int.inj g3, V.str.inj g4, V.int.inj g5, ?_⟩
  have x := W.ex.1
  rw [h1, h2] at x
  exact x.uniq W'.ex.1
theorem WF.within {b c lo hi at' kd lo' hi' a' kd' : Int} {p p' : Nat → Bool} {s s' : Nat} (W : WF b lo hi at' p kd s) (W' : WF c lo' hi' a' p' kd' s') : Within b c ↔ lo' ≤ lo ∧ hi ≤ hi' ∧ (∀ k, k < 9 → p k = true → p' k = true) ∧ (kd = kd' ∨ (kd' = 0 ∧ kd ≠ 2)) := by
  have e := W.all.2.2.1
  have e' := W'.all.2.2.1
  unfold tup5 at e e'
  injection e with g1 e
  injection e with g2 e
  injection e with g3 e
  injection e with g4 e
  injection e with g5 _
  injection e' with h1 e'
  injection e' with h2 e'
  injection e' with h3 e'
  injection e' with h4 e'
  injection e' with h5 _
  unfold Within
  rw [V.int.inj g1, V.int.inj g2, V.int.inj g5, V.int.inj h1, V.int.inj h2, V.int.inj h5]
  have r1 : ∀ k, k < 9 → bitp (fRts b) k = p k := fun k hk => rtx_inj (V.str.inj g4) hk
  have r2 : ∀ k, k < 9 → bitp (fRts c) k = p' k := fun k hk => rtx_inj (V.str.inj h4) hk
  constructor
  · rintro ⟨a1, a2, a3, a4⟩
    exact ⟨a1, a2, fun k hk hp => by rw [← r2 k hk]; exact a3 k hk (by rw [r1 k hk]; exact hp), a4⟩
  · rintro ⟨a1, a2, a3, a4⟩
    exact ⟨a1, a2, fun k hk hp => by rw [r2 k hk]; exact a3 k hk (by rw [← r1 k hk]; exact hp), a4⟩
def andp (p q : Nat → Bool) : Nat → Bool := fun k => p k && q k
theorem bitp_nat (n k : Nat) : bitp (n : Int) k = n.testBit k := by
  unfold bitp
  rw [Nat.testBit_eq_decide_div_mod_eq, decide_eq_decide]
  have e : (n : Int) / 2 ^ k % 2 = ((n / 2 ^ k % 2 : Nat) : Int) := by
    rw [Int.natCast_emod, Int.natCast_ediv, Int.natCast_pow]; rfl
  rw [e]; omega
theorem mask_and (p q : Nat → Bool) : Builtin.bitAnd ((mask p 9).sum) ((mask q 9).sum) = (mask (andp p q) 9).sum := by
  have hp := mask_b p 9 (Nat.le_refl _)
  have hq := mask_b q 9 (Nat.le_refl _)
  rw [PyProof.Rows.bitAnd_pp hp.1 hq.1]
  have ep : (((mask p 9).sum.toNat : Nat) : Int) = (mask p 9).sum := by omega
  have eq : (((mask q 9).sum.toNat : Nat) : Int) = (mask q 9).sum := by omega
  have lt : (mask p 9).sum.toNat &&& (mask q 9).sum.toNat < 512 := Nat.lt_of_le_of_lt Nat.and_le_left (by omega)
  rw [← mask_bitp (m := (((mask p 9).sum.toNat &&& (mask q 9).sum.toNat : Nat) : Int)) (by omega) (by omega)]
  rw [mask_congr fun k hk => ?_]
  rw [bitp_nat, Nat.testBit_and, ← bitp_nat, ← bitp_nat, ep, eq, bitp_mask p hk, bitp_mask q hk]
  rfl
theorem WF.lohi {b lo hi at' kd : Int} {p : Nat → Bool} {s : Nat} (W : WF b lo hi at' p kd s) : fFirst b * 2 ^ (fStep b).toNat = lo ∧ (fFirst b + fCnt b) * 2 ^ (fStep b).toNat = hi := by
  have e := W.all.2.2.1
  unfold tup5 at e
  injection e with g1 e
  injection e with g2 e
  exact ⟨V.int.inj g1, V.int.inj g2⟩
theorem mask_sub (p q : Nat → Bool) : Builtin.bitAnd ((mask p 9).sum) ((mask q 9).sum) = (mask p 9).sum ↔ ∀ k, k < 9 → p k = true → q k = true := by
  rw [mask_and]
  constructor
  · intro h k hk hp
    have e : bitp ((mask (andp p q) 9).sum) k = bitp ((mask p 9).sum) k := by rw [h]
    rw [bitp_mask _ hk, bitp_mask _ hk, hp] at e
    unfold andp at e
    exact (Bool.and_eq_true_iff.mp e).2
  · intro h
    rw [mask_congr fun k hk => ?_]
    unfold andp
    cases e : p k
    · rfl
    · rw [h k hk e]; rfl

theorem made_eq {lo hi : Int} {s : Nat} (x : Ex lo hi s) : (hi - lo) / 2 ^ s - 1 = Dd lo hi s := by
  obtain ⟨h1, h2, h3⟩ := x
  have p := pow_pos2 s
  have e : hi - lo = ((hi - 1) / 2 ^ s + 1 - lo / 2 ^ s) * 2 ^ s := by
    rw [Int.sub_mul, h2, h3]
  rw [e, Int.mul_ediv_cancel _ (Int.ne_of_gt p)]
  unfold Dd; omega
theorem made_step {p : Nat → Bool} {j : Nat} {b z : Int} {c : Bool} (hc : c = p j) (h : b = z + (mask p j).sum * 4294967296) : b + (if c = true then (1 : Int) else 0) * 2 ^ (32 + (j : Int)).toNat = z + (mask p (j + 1)).sum * 4294967296 := by
  have e : (32 + (j : Int)).toNat = 32 + j := by omega
  rw [e, Int.pow_add, show (2 : Int) ^ 32 = 4294967296 by decide, mask_succ, List.sum_append, sum_ite, hc, h, Int.add_mul]
  cases p j with
  | false => simp
  | true =>
    rw [if_pos rfl, if_pos rfl, Int.one_mul]
    omega
theorem with_fin {A P G : Prop} (h : A → P) (k : (A → P) → G) : G := k h

theorem RL_get : ∀ k, k < 6 → (Str.ofString "rwlsnf").cps[k]? = some (code k) := by decide +kernel
theorem RL_size : (Str.ofString "rwlsnf").cps.size = 6 := by decide +kernel
theorem rcs_congr {p q : Nat → Bool} {i : Nat} (h : ∀ k, k < i → p k = q k) : rcs p i = rcs q i := by
  unfold rcs
  rw [List.filter_congr fun k hk => h k (List.mem_range.mp hk)]
def setp (p : Nat → Bool) (i : Nat) (c : Bool) : Nat → Bool := fun k => if k = i then c else p k
theorem rcs_set (p : Nat → Bool) (i : Nat) (c : Bool) : rcs (setp p i c) (i + 1) = rcs p i ++ (if c = true then [one (code i)] else []) := by
  rw [rcs_succ, rcs_congr (p := setp p i c) (q := p) fun k hk => by unfold setp; rw [if_neg (by omega)]]
  unfold setp
  rw [if_pos rfl]
def lowp (p : Nat → Bool) : Nat → Bool := fun k => p k && decide (k < 6)
theorem rcs_low (p : Nat → Bool) : rcs p 6 = rcs (lowp p) 9 := by
  rw [rcs_succ (lowp p) 8, rcs_succ (lowp p) 7, rcs_succ (lowp p) 6]
  have h6 : lowp p 6 = false := by unfold lowp; simp
  have h7 : lowp p 7 = false := by unfold lowp; simp
  have h8 : lowp p 8 = false := by unfold lowp; simp
  rw [h6, h7, h8]
  simp only [Bool.false_eq_true, if_false, List.append_nil]
  refine rcs_congr fun k hk => ?_
  unfold lowp
  rw [decide_eq_true hk, Bool.and_true]
theorem ow_lowp (p : Nat → Bool) : OneW (rtx (lowp p)) := ow_low fun k _ h => by
  unfold lowp
  rw [decide_eq_false (by omega), Bool.and_false]
theorem rcs_fit6 (p : Nat → Bool) : ((rcs p 6).map (·.length)).sum + (rcs p 6).length * (Str.ofString "").length ≤ 16777216 := by
  rw [rcs_low]; exact rcs_fit _
theorem join_low (p : Nat → Bool) : Txt.join (Str.ofString "") (rcs p 6) = rtx (lowp p) := by
  rw [rcs_low]; rfl

theorem with_finW {A P : Int → Int → Hp → Prop} {G : Prop} (h : ∀ lo hi H, A lo hi H → P lo hi H) (k : (∀ lo hi H, A lo hi H → P lo hi H) → G) : G := k h
theorem small_ex {lo hi : Int} (h1 : lo < hi) (h2 : hi - lo ≤ 16) : ∃ s, Ex lo hi s := by
  refine ⟨0, ⟨by omega, ?_, fun t ht => absurd ht (Nat.not_lt_zero t)⟩, ?_, ?_⟩
  · unfold Dd; simp; omega
  · simp
  · simp
theorem W45_of {n : Nat} (h : n < 35184372088832) : W45 (n : Int) := by unfold W45; omega
theorem sub_nodup : ∀ {L l : List Nat}, l.Sublist L → L.Nodup → l = L.filter (fun k => decide (k ∈ l)) := by
  intro L l h
  induction h with
  | slnil => intro _; rfl
  | @cons l L a h ih =>
    intro n
    obtain ⟨n1, n2⟩ := List.nodup_cons.mp n
    have na : a ∉ l := fun z => n1 (h.subset z)
    rw [List.filter_cons, if_neg (by simpa using na)]
    exact ih n2
  | @cons_cons l L a h ih =>
    intro n
    obtain ⟨n1, n2⟩ := List.nodup_cons.mp n
    rw [List.filter_cons, if_pos (by simp)]
    congr 1
    refine (ih n2).trans (List.filter_congr fun k hk => ?_)
    have nk : k ≠ a := fun z => n1 (z ▸ hk)
    rw [decide_eq_decide]
    simp [nk]
theorem sub_rtx {p : Nat → Bool} {l : List Nat} (h : l.Sublist (rtx p).cps.toList) : ∃ q : Nat → Bool, (∀ k, k < 9 → q k = true → p k = true) ∧ l.map one = rcs q 9 := by
  rw [rtx_codes] at h
  obtain ⟨l', h1, rfl⟩ := List.sublist_map_iff.mp h
  have h2 : l'.Sublist (List.range 9) := h1.trans List.filter_sublist
  have e := sub_nodup h2 List.nodup_range
  refine ⟨fun k => decide (k ∈ l'), fun k _ hk => ?_, ?_⟩
  · have m := h1.subset (of_decide_eq_true hk)
    exact (List.mem_filter.mp m).2
  · unfold rcs
    rw [List.map_map, ← e]
    rfl
theorem sub_snoc {l L : List Nat} {i c : Nat} (h : l.Sublist (L.take i)) (e : L[i]? = some c) : (l ++ [c]).Sublist (L.take (i + 1)) := by
  rw [List.take_add_one, e]
  exact h.append (List.Sublist.refl _)
theorem sub_skip {l L : List Nat} {i : Nat} (h : l.Sublist (L.take i)) : l.Sublist (L.take (i + 1)) := by
  rw [List.take_add_one]
  exact h.trans (List.sublist_append_left _ _)
theorem sub_len {l : List Nat} {i : Nat} {p : Nat → Bool} (h : l.Sublist ((rtx p).cps.toList.take i)) : l.length < 1000 := by
  have h1 := h.length_le
  rw [List.length_take] at h1
  have := rtx_len p
  have e : (rtx p).cps.toList.length = (rtx p).cps.size := by simp
  omega

theorem ex1648 : ∃ s, Ex 16 48 s := ⟨1, ⟨by decide, by decide, fun t ht => by
  have : t = 0 := by omega
  subst this; decide⟩, by decide, by decide⟩
theorem take_all {α : Type} {l : List α} {n : Nat} (h : n = l.length) : l.take n = l := by rw [h, List.take_length]
theorem size_len (z : Str) : z.cps.size = z.cps.toList.length := by simp
theorem strs_fit {l : List Nat} (h : l.length < 1000) : (((l.map one)).map (·.length)).sum + (l.map one).length * (Str.ofString "").length ≤ 16777216 := by
  have e : (Str.ofString "").length = 0 := by decide +kernel
  have e2 : ((l.map one).map (·.length)).sum = l.length := by
    clear h e
    induction l with
    | nil => rfl
    | cons x r ih =>
      simp only [List.map_cons, List.sum_cons, List.length_cons] at *
      rw [ih]
      show 1 + _ = _
      omega
  rw [e, e2]
  omega
theorem filt_nil {l : List Nat} {f : Nat → Bool} : (l.filter f).isEmpty = true ↔ ∀ c ∈ l, ¬ f c = true := by
  rw [List.isEmpty_iff, List.filter_eq_nil_iff]
/-! ### an error that is kept behind its suite -/
/-- at a: an exception of the class cls, its own dict at d -/
def kept (a : Addr) (cls : Value) (d : Option Addr) : HO := .ext fun h => ∃ oe, h.get? a = some oe ∧ Zc cls d oe ∧ ∃ vs, oe.data = .fields vs
theorem kept_ok {P : Program} {w : World} {H : Hp} {h : Heap} {a : Addr} {cls : Value} {d : Option Addr} {oe : Obj} {vs : Array Value} (e : h.get? a = some oe) (z : Zc cls d oe) (hd : oe.data = .fields vs) : ObjOk P w H h a (kept a cls d) :=
  ⟨⟨oe, e, z, vs, hd⟩, ⟨oe, e⟩, fun _ _ ⟨o, e1, r⟩ k => ⟨o, k o e1, r⟩⟩
theorem Inv.track {X : Cx} {pins : List (Addr × Obj)} {σ : L2.St} {H : Hp} {s : Shared} {a : Addr} {cls : Value} {d : Option Addr} {oe : Obj} {vs : Array Value} (I : Inv X pins σ H s)
    (e : s.heap.get? a = some oe) (z : Zc cls d oe) (hd : oe.data = .fields vs) (na : H a = none) (n0 : X.s_0.heap.get? a = none) (nL : a ≠ X.env.locals) (np : ∀ p ∈ X.pn ++ pins, p.1 ≠ a) :
    Inv X pins σ (upd H a (kept a cls d)) s := by
  refine ⟨I.ok, I.os, I.bare, ⟨I.base.keep, I.base.slot, fun b o q n hx => ?_, I.base.there, fun b xs q => ?_, fun b o u q => ?_, fun b ps q => ?_⟩, I.loc, I.cell, ?_, fun x c q => ?_, fun p hp => ?_, fun b o q => ?_, I.len⟩
  · have nb : b ≠ a := fun y => by rw [y, n0] at q; cases q
    rw [upd_ne nb]
    exact I.base.free b o q n hx
  · have q' := I.base.tups b xs q
    rw [upd_ne (ne_of_none q' na)]; exact q'
  · have q' := I.base.frzs b o u q
    rw [upd_ne (ne_of_none q' na)]; exact q'
  · obtain ⟨more, q'⟩ := I.base.tbls b ps q
    exact ⟨more, by rw [upd_ne (ne_of_none q' na)]; exact q'⟩
  · rw [upd_ne (Ne.symm nL)]; exact I.free
  · have nc : c ≠ a := fun y => by
      obtain ⟨v, o, e1, e2⟩ := I.cell x c q
      rw [y, e] at e1
      cases e1
      rw [hd] at e2
      cases e2
    rw [upd_ne nc]; exact I.freeC x c q
  · obtain ⟨p1, p2, p3, p4, p5⟩ := I.pin p hp
    exact ⟨p1, by rw [upd_ne (np p hp)]; exact p2, p3, p4, p5⟩
  · by_cases hb : b = a
    · subst hb
      rw [upd_same] at q
      cases q
      exact kept_ok e z hd
    · rw [upd_ne hb] at q
      exact (I.hok b o q).stay (fun _ _ _ y => y) (fun c hc => by rw [upd_ne (ne_of_none hc na)]; exact hc) fun c xs hc => by rw [upd_ne (ne_of_none hc na)]; exact hc
/-- what the clause 'except x as n' wishes of an exception of the body, where the error is kept -/
def wKp (K : PySem.W.Frag) (c : Value) (i : Nat) (ts : Addr → Value → Option Addr → TS) (Wout : WX) (D : Ends) : WX := fun cls d σ H =>
  ∃ b, PySem.W.exmOne K cls c = some b ∧ (b = true → ∀ a, H a = none → ts a cls d { nx := fun σ' H' => D.nx (σ'.set i none) (upd H' a (kept a cls d)), rt := fun v H' => D.rt v (upd H' a (kept a cls d)), bk := fun σ' H' => D.bk (σ'.set i none) (upd H' a (kept a cls d)), ct := fun σ' H' => D.ct (σ'.set i none) (upd H' a (kept a cls d)) } (σ.set i (some (.ref a))) H) ∧
    (b = false → Wout cls d σ H)
section
variable {X : Cx} {x n : Str} {c : Value} {i : Nat} {body suite : List Stmt} {b₀ : Stmt} {np pos pos' : Pos} {tb : WX → TS} {ts : Addr → Value → Option Addr → TS} {Wout : WX}
theorem ps_try_keep (hs : X.stack = X.env :: X.outer) (hex : X.ex = []) (hf : X.env.frame = some X.env.locals) (hN : X.N.Nodup) (hi : X.N[i]? = some n) (hln : X.env.kindOf n = some .local) (hc : Names X x c) (tk : Takes X Wout)
    (hb : ∀ (W : WX) (pn : List (Addr × Obj)) (xe : Value → Shared → Prop), Takes (X.tr pn xe) W → PassesOwn (model X.prog X.w) X.A X.env xe → PSs (X.tr pn xe) body (tb W))
    (hsu : ∀ (a : Addr) (oe : Obj) (cls : Value) (d : Option Addr) (pn : List (Addr × Obj)), Zc cls d oe → (∃ vs, oe.data = .fields vs) → PSs (X.suite a ((a, oe) :: pn)) (b₀ :: suite) (ts a cls d)) :
    PS X (.Try body [.ExceptHandler (some (.Name x np)) (some n) (b₀ :: suite) pos'] [] [] pos) (fun D σ H => tb (wKp X.K c i ts Wout D) D σ H) := by
  refine ⟨fun pins s σ H D I h => ?_⟩
  have ok := I.ok
  have hfr : X.A.frames = some (X.env :: X.outer) := by rw [ok.frames, hs]
  have hloc : Loc X.env.scope n := .inl hln
  refine wpAny_Try_except ?_
  refine wpAny_mono ((hb (wKp X.K c i ts Wout D) (X.pn ++ pins) (fun e s₁ => wpAny (model X.prog X.w) X.A (noteFrame e X.env) (fun _ s₂ => wpAny (model X.prog X.w) X.A (setFlight e none) (fun _ s₃ =>
    wpAny (model X.prog X.w) X.A (handleBy e X.env [.ExceptHandler (some (.Name x np)) (some n) (b₀ :: suite) pos']) (SP X pins D) X.xe s₃) X.xe s₂) X.xe s₁) (fun u s' xx => ?_) PassesOwn.looking).run [] s σ H D (I.toTry _) h) (fun f s1 hsp => ?_) (fun e s1 he => he)
  · obtain ⟨a, B, sI, pins', σ', H', cls, d, rfl, J', nb, up, sky, na, os, ag, b, hb1, hyes, hno⟩ := xx
    have J : Inv X pins σ' H' sI := J'.ofTry ok
    have sky' : Sky B (X.env :: X.outer) a (Zc cls d) X.env.locals s'.heap := by rw [← hs]; exact sky
    show wpAny (model X.prog X.w) X.A (noteFrame (.ref a) X.env) _ _ _
    refine Sky.land Zc.steady hfr hf sky' fun h3 fl3 up3 => ?_
    have J3 : Inv X pins σ' H' { s' with heap := h3 } := J.landed nb fl3.1 (up.trans up3) os ag
    obtain ⟨oe3, vs3, he3, hz3, hd3⟩ := fl3.there
    have notFr : ∀ {h : Heap} {o : Obj} {vs : Array Value}, h.FunFrames B (X.env :: X.outer) → h.get? a = some o → o.data = .fields vs → a ∉ frs (X.env :: X.outer) := fun {h o vs} ff e dd hm => by
      obtain ⟨_, o', e', hnf⟩ := ff.mem hm
      rw [e] at e'; cases e'
      exact hnf _ dd
    have nfr := notFr fl3.2.2.1 he3 hd3
    have nL : a ≠ X.env.locals := fun z => nfr (List.mem_filterMap.mpr ⟨X.env, List.mem_cons_self, by rw [hf, z]⟩)
    have nF : a ∉ X.fs := fun hm => by
      obtain ⟨e, he, q⟩ := List.mem_filterMap.mp hm
      exact nfr (List.mem_filterMap.mpr ⟨e, List.mem_cons_of_mem _ he, q⟩)
    have nI : sI.heap.get? a = none := by
      cases e : sI.heap.get? a with
      | none => rfl
      | some o =>
        have z := nb a o e (by rw [hs]; exact nfr)
        rw [fl3.2.1] at z
        cases z
    have n0 : X.s_0.heap.get? a = none := by
      cases e : X.s_0.heap.get? a with
      | none => rfl
      | some o =>
        obtain ⟨o', e'⟩ := J.base.there a o e (by rw [hex]; exact fun z => nomatch z)
        rw [nI] at e'
        cases e'
    have npin : ∀ p ∈ X.pn ++ pins, p.1 ≠ a := fun p hp z => by
      obtain ⟨e, _⟩ := J.pin p hp
      rw [z, nI] at e
      cases e
    have S3 := J3.suite he3 hd3 na nL nF
    refine wpAny_handleBy_cons (codeAny_handlers_test ?_) (by intro q; cases q)
    have LT : PySem.W.Looks (model X.prog X.w) h3 (typeOf (.ref a)) cls := fun A Q E s k q => wpAny_typeOf_ref (k _ _ he3) (by rw [hz3.1]; exact q)
    have LM := PySem.W.exm_one (M := model X.prog X.w) (J3.kIn) LT hb1
    have test : ∀ {Q : Value → Shared → Prop} {E : Value → Shared → Prop}, Q c { s' with heap := h3 } → wpAny (model X.prog X.w) (X.A.mark (some (.ref a))) (eval (.Name x np) X.env) Q E { s' with heap := h3 } := fun {Q E} q => by
      obtain ⟨hg, hdbg, hm | ⟨hm, hv, hnn⟩⟩ := hc
      · exact ld_glob (X := X.suite a ((a, oe3) :: (X.pn ++ pins))) S3 hg hm q hdbg
      · exact ld_blt (X := X.suite a ((a, oe3) :: (X.pn ++ pins))) S3 hg hm hv q hnn hdbg
    refine test (LM.here ?_)
    cases b with
    | true =>
      refine codeAny_handlers_suite_as ?_
      refine HandSPX.lands_againZ fl3 fun h4 fl4 up4 => ?_
      have J4 : Inv X pins σ' H' { s' with heap := h4 } := J.landed nb fl4.1 ((up.trans up3).trans up4) os ag
      obtain ⟨oe4, vs4, he4, hz4, hd4⟩ := fl4.there
      have S4 := J4.suite he4 hd4 na nL nF
      refine store_ok (X := X.suite a ((a, oe4) :: (X.pn ++ pins))) (v := .ref a) S4 hN hi hloc rfl (fun s5 S5 => ?_) (.inr hln)
      refine wpAny_mono ((hsu a oe4 cls d (X.pn ++ pins) hz4 ⟨_, hd4⟩).run [] s5 _ H' _ S5 (hyes rfl a na)) (fun f s6 hsp => ?_) (fun _ _ z => False.elim z)
      have end_ : ∀ {σ6 : L2.St} {H6 : Hp} {Q : Shared → Prop}, Inv (X.suite a ((a, oe4) :: (X.pn ++ pins))) [] σ6 H6 s6 → (∀ s7, Inv X pins (σ6.set i none) (upd H6 a (kept a cls d)) s7 → Q s7) →
          wpAny (model X.prog X.w) X.A (do bindName X.env n .none; unbindBehindTheSuite X.env n pos') (fun _ s7 => Q s7) X.xe s6 := fun {σ6 H6 Q} S6 hq => by
        obtain ⟨p1, p2, _⟩ := S6.pin (a, oe4) (List.mem_append.mpr (.inl List.mem_cons_self))
        exact gone_ok (My.Inv.track (S6.unsuite ok) p1 hz4 hd4 p2 n0 nL npin) hN hi hln hq
      cases f with
      | next =>
        obtain ⟨σ6, H6, S6, q6⟩ := hsp
        exact end_ S6 fun s7 J7 => ⟨_, _, J7, q6⟩
      | brk =>
        obtain ⟨σ6, H6, S6, q6⟩ := hsp
        exact end_ S6 fun s7 J7 => ⟨_, _, J7, q6⟩
      | cont =>
        obtain ⟨σ6, H6, S6, q6⟩ := hsp
        exact end_ S6 fun s7 J7 => ⟨_, _, J7, q6⟩
      | ret u =>
        obtain ⟨v6, σ6, H6, S6, r6, q6⟩ := hsp
        exact end_ S6 fun s7 J7 => ⟨_, _, _, J7, r6, q6⟩
    | false =>
      show wpAny _ X.A (handleBy (.ref a) X.env []) _ _ _
      refine wpAny_handleBy_nil ?_
      obtain ⟨k1, k2, k3, oe, vs, T, oT, ts', he, hz, hd, h1, hr⟩ := id fl3
      unfold PySem.passOn
      refine wpAny_bind (wpAny_field he hd h1 ?_)
      rw [if_neg (show ¬ ((Value.ref T == Value.none) = true) from by simp)]
      have fin : wpAny (model X.prog X.w) X.A (setFlight (.ref a) X.env.frame) (fun _ s4 => wpAny (model X.prog X.w) X.A (throw (.ref a) : Sem Flow) (SP X pins D) X.xe s4) X.xe { s' with heap := h3 } := by
        rw [hf]
        refine HandSPX.setFlight_upZ fl3 fun h4 hh4 up4 => wpAny_throw (tk _ _ ?_)
        exact ⟨a, B, sI, pins, σ', H', cls, d, rfl, J, nb, (up.trans up3).trans up4, .inr (.inr (by rw [hs]; exact hh4)), na, os, ag, hno rfl⟩
      first
        | exact wpAny_bind (wpAny_pure (wpAny_bind fin))
        | exact wpAny_bind fin
  · cases f with
    | next =>
      obtain ⟨σ', H', J', q⟩ := hsp
      exact wpAny_execs_nil ⟨σ', H', J'.ofTry ok, q⟩
    | brk =>
      obtain ⟨σ', H', J', q⟩ := hsp
      exact ⟨σ', H', J'.ofTry ok, q⟩
    | cont =>
      obtain ⟨σ', H', J', q⟩ := hsp
      exact ⟨σ', H', J'.ofTry ok, q⟩
    | ret u =>
      obtain ⟨v, σ', H', J', r, q⟩ := hsp
      exact ⟨v, σ', H', J'.ofTry ok, r, q⟩
end
/-! ### isinstance of a kept error -/
/-- what the written part says of the class of an error -/
structure ErrC (K : PySem.W.Frag) (C : Addr) : Prop where
  hg : PySem.W.findIn K (.ref C) "__getattribute__" = some (some (.builtin "BaseException.__getattribute__"))
  hk : PySem.W.findIn K (.ref C) "__getattr__" = some none
  hs : PySem.W.subIn K (.ref C) (.type "BaseException") = some true
  hd : PySem.W.hasDictIn K C = true
  ha : PySem.W.findIn K (.ref C) "__class__" = some (some (.builtin "object.__class__"))
  hn : PySem.W.specialIn K (.builtin "object.__class__") "__get__" = some (some (.builtin "getset_descriptor.__get__"))
  ht : PySem.W.takesIn K (.builtin "object.__class__") = some true
  hm : PySem.W.mroIn K C (.type "object") = some true
theorem kept_at {X : Cx} {pins : List (Addr × Obj)} {σ : L2.St} {H : Hp} {s : Shared} {a C d : Addr} {fs : List (Str × V)} (I : Inv X pins σ H s) (e : H a = some (kept a (.ref C) (some d))) (ed : H d = some (.xd fs)) :
    ∃ oe od, PySem.W.InstAt s.heap a oe C (some od) := by
  obtain ⟨⟨oe, h1, hz, vs, hd⟩, _⟩ := (show ObjOk X.prog X.w H s.heap a (kept a (.ref C) (some d)) from I.hok a _ e)
  obtain ⟨mA, hns, _⟩ := (show ObjOk X.prog X.w H s.heap d (.xd fs) from I.hok d _ ed)
  obtain ⟨od, _, _, ho, _⟩ := hns
  exact ⟨oe, od, h1, hz.1, by unfold PySem.W.notCls; rw [hd] <;> rfl, by rw [hz.2]; exact ho⟩
theorem ErrC.kit {K : PySem.W.Frag} {C x : Addr} {ox : Obj} {od : Option Obj} (E : ErrC K C) : PySem.W.KitX K (.ref x) (.ref C) (fun h => PySem.W.InstAt h x ox C od) :=
  PySem.W.kitx_exc (by obtain ⟨cd, hc, _⟩ := PySem.W.any_some E.hd; rw [hc]; rfl) E.hg E.hk E.hs E.ha E.hn E.ht E.hm
/-- isinstance(e, c), e a kept error of the class C -/
def rIsX (K : PySem.W.Frag) : List V → Hp → VK → Prop := fun xs H Q => ∃ (a C d : Addr) (fs : List (Str × V)) (c : V) (u : Value) (b : Bool), xs = [.ref a, c] ∧ H a = some (kept a (.ref C) (some d)) ∧ H d = some (.xd fs) ∧ ErrC K C ∧ ClsV c u ∧ PySem.W.kitOne K (.ref C) u = some b ∧ Q (.bl b) H
/-- isinstance(e, (c1, c2, ..)) -/
def rIsXT (K : PySem.W.Frag) : List V → Hp → VK → Prop := fun xs H Q => ∃ (a C d : Addr) (fs : List (Str × V)) (tp : Addr) (cs : List V) (us : List Value) (b : Bool), xs = [.ref a, .ref tp] ∧ H a = some (kept a (.ref C) (some d)) ∧ H d = some (.xd fs) ∧ ErrC K C ∧ H tp = some (.tup cs) ∧ Paired ClsV cs us ∧ PySem.W.kitAny K (.ref C) us = some b ∧ Q (.bl b) H
section
variable {X : Cx}
theorem call_isX : CallR X (.builtin "isinstance") (rIsX X.K) := by
  intro pins s σ H xs us Q I r h
  obtain ⟨a, C, d, fs, c, u, b, rfl, ea, ed, E, k, e, q⟩ := h
  obtain ⟨u1, u2, rfl, r1, r2⟩ := vals2 r
  have e2 := k.eq r2
  subst e2
  cases (show u1 = Value.ref a from r1)
  obtain ⟨oe, od, J⟩ := kept_at I ea ed
  exact PySem.W.kia_one E.kit I.kIn J e (fun z => nomatch z) fun tk => ⟨.bl b, H, I.tok tk, rfl, q⟩
theorem call_isXT : CallR X (.builtin "isinstance") (rIsXT X.K) := by
  intro pins s σ H xs us Q I r h
  obtain ⟨a, C, d, fs, tp, cs, ws, b, rfl, ea, ed, E, hT, k, e, q⟩ := h
  obtain ⟨u1, u2, rfl, r1, r2⟩ := vals2 r
  cases (show u1 = Value.ref a from r1)
  cases (show u2 = Value.ref tp from r2)
  obtain ⟨oe, od, J⟩ := kept_at I ea ed
  obtain ⟨_, its, rv, o, h1, h2, n, h3⟩ := (show ObjOk X.prog X.w H s.heap tp (.tup cs) from I.hok tp _ hT)
  have e3 := ClsV.all k rv
  subst e3
  obtain ⟨oc, od', dt, sl⟩ := o
  simp only at h2 h3
  subst h2 h3
  exact PySem.W.kia_tup E.kit I.kIn J h1 e (fun z => nomatch z) fun tk => ⟨.bl b, H, I.tok tk, rfl, q⟩
end
/-! ### defs that raise, called by name -/
structure CalX (P : Program) (w : World) (K : PySem.W.Frag) (mg : Str → Option Value) (base : Heap) (x : Str) (k : Nat) (ps : List Str) (sp : Sp) : Prop where
  ex : ∃ (f : Addr) (fd : FuncData), FnOk P w K mg base (L2.CX P w) k f fd ps sp ∧ mg x = some (.ref f) ∧ PySem.W.keepIn K (.ref f) = true ∧ Binds K fd ps []
theorem pe_calX {X : Cx} {x : Str} {k : Nat} {ps : List Str} {sp : Sp} {e : Expr} {es : List Expr} {t : TA} {W : WX} {p pos : Pos} (C : CalX X.prog X.w X.K X.mg X.base x k ps sp) (hr : Room k X.A) (tk : Takes X W)
    (ha : PA X (e :: es) t) (hg : Gl X x := by rfl) (hdb : (x == ("__debug__" : Str)) = false := by decide) (he : starEach (e :: es) X.env = (false, eval e X.env) :: starEach es X.env := by rfl) (hpl : (backTo pos (starEach es X.env)).any (·.1) = false := by rfl) :
    PE X (.Call (.Name x p) (e :: es) [] pos) (tCallS sp (WE W) t) := by
  obtain ⟨f, fd, G, g, kp, b⟩ := C.ex
  exact pe_callS G hr hg g kp b (fun σ => passAt tk σ) ha hdb he hpl
/-! ### own errors of one field -/
/-- what __init__ keeps -/
def spErr (C : Addr) (f : Str) : Sp := fun vs H Q _ => ∃ (a : Addr) (v : V), vs = [.ref a, v] ∧ H a = some (exo a C none) ∧ ∀ dx, H dx = none → dx ≠ a → Q .non (upd (upd H dx (exd dx [(f, v)])) a (exo a C (some dx)))
/-- the class of errors by the name x, its field f -/
structure ErrK (P : Program) (w : World) (K : PySem.W.Frag) (mg : Str → Option Value) (base : Heap) (x f : Str) : Prop where
  ex : ∃ (C fI : Addr) (fd : FuncData), PySem.W.nsIn K mainGlobals x = some (some (.ref C)) ∧ mg x = some (.ref C) ∧ OexC K C ∧ PySem.W.findIn K (.ref C) "__init__" = some (some (.ref fI)) ∧ PySem.W.typeIn K (.ref fI) = some (.type "function") ∧
    FnOk P w K mg base CX0 1 fI fd ["self", f] (spErr C f) ∧ Binds K fd ["self", f] []
/-- an error of the class by the name x may leave, its field f, all else as it was -/
def Lets (K : PySem.W.Frag) (x f : Str) (H : Hp) (E : XK) : Prop := ∀ (C d : Addr) (v : V) (H1 : Hp), PySem.W.nsIn K mainGlobals x = some (some (.ref C)) → Same H H1 → H1 d = none → E (.ref C) (some d) (upd H1 d (.xd [(f, v)]))
theorem Lets.same {K : PySem.W.Frag} {x f : Str} {H H2 : Hp} {E : XK} (l : Lets K x f H E) (s : Same H H2) : Lets K x f H2 E := fun C d v H1 h1 h2 h3 => l C d v H1 h1 (s.trans h2) h3
section
variable {X : Cx} {x f : Str} {e : Expr} {te : TE} {p pos : Pos}
theorem PE.more (he : PE X e te) : PE X e (fun σ H Q => ∃ Q1 : VK, te σ H Q1 ∧ ∀ v H1, Q1 v H1 → Q v H1) :=
  ⟨fun pins s σ H Q I ⟨Q1, h, k⟩ => wpAny_mono (he.run pins s σ H Q1 I h) (fun _ _ ⟨v, H', I', r, q⟩ => ⟨v, H', I', r, k _ _ q⟩) fun _ _ z => z⟩
theorem pmk_err (R : ErrK X.prog X.w X.K X.mg X.base x f) (hr : Room 2 X.A) (ha : PE X e te) (hg : Gl X x := by rfl) (hdb : (x == ("__debug__" : Str)) = false := by decide)
    (he : starEach (e :: []) X.env = (false, eval e X.env) :: starEach [] X.env := by rfl) (hpl : (backTo pos (starEach [] X.env)).any (·.1) = false := by rfl) :
    PMk X (.Call (.Name x p) [e] [] pos) (fun σ H Q => te σ H fun v H1 => ∀ C d, PySem.W.nsIn X.K mainGlobals x = some (some (.ref C)) → H1 d = none → Q (.ref C) (some d) (upd H1 d (.xd [(f, v)]))) := by
  obtain ⟨C, fI, fd, aC, gC, T, iC, tI, F, b⟩ := R.ex
  intro pins s σ H Q I h
  refine pmk_oex (dvs := []) (ds := []) T iC tI F hr b .nil pass0 hg gC (pa_cons (PE.more ha) pa_nil (hs := he)) hdb he hpl pins s σ H Q I ⟨_, h, fun v H1 q => ?_⟩
  refine ⟨(by show 1 ≤ 1000; decide), fun a na => ⟨a, v, rfl, upd_same, fun dx hd ne => ⟨rfl, dx, [(f, v)], upd_same, ?_, ?_, ?_⟩⟩⟩
  · rw [upd_ne ne, upd_same]
  · rw [upd_ne ne] at hd; exact hd
  · rw [upd_ne ne] at hd
    have z := q C dx aC hd
    have eq : upd (del (upd (upd (upd H1 a (exo a C none)) dx (exd dx [(f, v)])) a (exo a C (some dx))) a) dx (.xd [(f, v)]) = upd H1 dx (.xd [(f, v)]) := by
      funext c
      by_cases h1 : c = dx
      · rw [h1, upd_same, upd_same]
      · rw [upd_ne h1, upd_ne h1]
        by_cases h2 : c = a
        · rw [h2, del_same, na]
        · rw [del_ne h2, upd_ne h2, upd_ne h1, upd_ne h2]
    rw [eq]
    exact z
end
section
variable {X : Cx} {x : Str} {k : Nat} {ps : List Str} {sp : Sp} {e : Expr} {es : List Expr} {t : TA} {p pos : Pos}
/-- a def that may raise, called where it doesn't -/
theorem pe_calX0 (C : CalX X.prog X.w X.K X.mg X.base x k ps sp) (hr : Room k X.A)
    (ha : PA X (e :: es) t) (hg : Gl X x := by rfl) (hdb : (x == ("__debug__" : Str)) = false := by decide) (he : starEach (e :: es) X.env = (false, eval e X.env) :: starEach es X.env := by rfl) (hpl : (backTo pos (starEach es X.env)).any (·.1) = false := by rfl) :
    PE X (.Call (.Name x p) (e :: es) [] pos) (tCall sp [] E0 t) := by
  obtain ⟨f, fd, G, g, kp, b⟩ := C.ex
  exact pe_call G hr hg g kp b .nil passL ha hdb he hpl
end
theorem exm_own {K : PySem.W.Frag} {C : Addr} {cls : Value} {b : Bool} (h1 : PySem.W.subIn K (.ref C) (.type "BaseException") = some true) (hdct : PySem.W.hasDictIn K C = true) (ht : PySem.W.typeIn K (.ref C) = some (.type "type")) (h4 : PySem.W.subIn K cls (.ref C) = some b) : PySem.W.exmOne K cls (.ref C) = some b := by
  obtain ⟨cd, hc, _⟩ := PySem.W.any_some hdct
  have e1 : (PySem.W.subIn K (.ref C) (.type "BaseException") == some true) = true := by rw [h1] <;> rfl
  have e2 : ((PySem.W.clsIn K C).isSome && PySem.W.typeIn K (.ref C) == some (.type "type")) = true := by rw [hc, ht] <;> rfl
  show (if (PySem.W.subIn K (.ref C) (.type "BaseException") == some true) = true then (if ((PySem.W.clsIn K C).isSome && PySem.W.typeIn K (.ref C) == some (.type "type")) = true then PySem.W.subIn K cls (.ref C) else none) else none) = some b
  rw [if_pos e1, if_pos e2]
  exact h4
/-- one class stands by a name -/
theorem ns_one {K : PySem.W.Frag} {x : Str} {C D : Addr} (h : PySem.W.nsIn K mainGlobals x = some (some (.ref C))) (k : PySem.W.nsIn K mainGlobals x = some (some (.ref D))) : C = D := by
  rw [h] at k
  cases k
  rfl
/-! ### defs that raise, with keyword-only names; calls by names alone -/
structure CalXD (P : Program) (w : World) (K : PySem.W.Frag) (mg : Str → Option Value) (base : Heap) (x : Str) (k : Nat) (ps : List Str) (dvs : List V) (sp : Sp) : Prop where
  ex : ∃ (f : Addr) (fd : FuncData) (ds : List Value), FnOk P w K mg base (L2.CX P w) k f fd ps sp ∧ mg x = some (.ref f) ∧ PySem.W.keepIn K (.ref f) = true ∧ Vals dvs ds ∧ Binds K fd ps ds
structure CalXK (P : Program) (w : World) (K : PySem.W.Frag) (mg : Str → Option Value) (base : Heap) (x : Str) (k : Nat) (ps : List Str) (n : Nat) (ks : List Str) (sp : Sp) : Prop where
  ex : ∃ (f : Addr) (fd : FuncData) (g : List Value → List Value → List Value), FnOk P w K mg base (L2.CX P w) k f fd ps sp ∧ mg x = some (.ref f) ∧ PySem.W.keepIn K (.ref f) = true ∧ KBn K fd ps n ks g (fun vs zs => vs ++ zs)
/-- two handed in the other way about -/
def swap2 {α : Type} : List α → List α
  | [a, b] => [b, a]
  | l => l
theorem swap2_rel : ∀ {zs : List V} {ws : List Value}, Vals zs ws → Vals (swap2 zs) (swap2 ws)
  | _, _, .nil => .nil
  | _, _, .cons a .nil => .cons a .nil
  | _, _, .cons a (.cons b .nil) => .cons b (.cons a .nil)
  | _, _, .cons a (.cons b (.cons c r)) => .cons a (.cons b (.cons c r))
structure CalN (CX : CXT) (P : Program) (w : World) (K : PySem.W.Frag) (mg : Str → Option Value) (base : Heap) (x : Str) (k : Nat) (ps : List Str) (ks : List Str) (c : List V → List V) (sp : Sp) : Prop where
  ex : ∃ (f : Addr) (fd : FuncData) (g : List Value → List Value → List Value), FnOk P w K mg base CX k f fd ps sp ∧ mg x = some (.ref f) ∧ PySem.W.keepIn K (.ref f) = true ∧ KBn K fd ps 0 ks g (fun _ zs => c zs)
section
variable {X : Cx} {x : Str} {k n : Nat} {ps ks : List Str} {dvs : List V} {sp : Sp} {e : Expr} {es : List Expr} {kws : List Keyword} {t tk : TA} {p pos : Pos}
theorem pe_calXD0 (C : CalXD X.prog X.w X.K X.mg X.base x k ps dvs sp) (hr : Room k X.A)
    (ha : PA X (e :: es) t) (hg : Gl X x := by rfl) (hdb : (x == ("__debug__" : Str)) = false := by decide) (he : starEach (e :: es) X.env = (false, eval e X.env) :: starEach es X.env := by rfl) (hpl : (backTo pos (starEach es X.env)).any (·.1) = false := by rfl) :
    PE X (.Call (.Name x p) (e :: es) [] pos) (tCall sp dvs E0 t) := by
  obtain ⟨f, fd, ds, G, g, kp, hd, b⟩ := C.ex
  exact pe_call G hr hg g kp b hd passL ha hdb he hpl
theorem pe_calXK0 (C : CalXK X.prog X.w X.K X.mg X.base x k ps n ks sp) (hr : Room k X.A)
    (ha : PA X (e :: es) t) (hkw : PK X kws tk) (hg : Gl X x := by rfl) (hall : (backToKw pos (keywordEach kws X.env)).all (·.1.isSome) = true := by rfl) (hks : (backToKw pos (keywordEach kws X.env)).filterMap (·.1) = ks := by rfl)
    (hdb : (x == ("__debug__" : Str)) = false := by decide) (he : starEach (e :: es) X.env = (false, eval e X.env) :: starEach es X.env := by rfl)
    (hpl : ((backTo pos (starEach (e :: es) X.env)).any (·.1) || (backToKw pos (keywordEach kws X.env)).any (·.1.isNone)) = false := by rfl) :
    PE X (.Call (.Name x p) (e :: es) kws pos) (tCallN n ks.length sp (fun vs zs => vs ++ zs) E0 t tk) := by
  obtain ⟨f, fd, g, G, gm, kp, b⟩ := C.ex
  exact pe_callN G hr hg gm kp b passL ha hkw hall hks hdb he hpl
/-- f(e, .., k = v, ..) that may raise -/
def tCallNS (n m : Nat) (sp : Sp) (gV : List V → List V → List V) (E : L2.St → XK) (t tk : TA) : TE := fun σ H Q => t σ H fun vs H1 => tk σ H1 fun zs H2 => vs.length = n ∧ zs.length = m ∧ sp (gV vs zs) H2 Q (E σ)
theorem run_fnNS {CX : CXT} {pins : List (Addr × Obj)} {σ : L2.St} {H : Hp} {s : Shared} {Q : VK} {us ws : List Value} {vs zs : List V} {f : Addr} {fd : FuncData} {g : List Value → List Value → List Value} {gV : List V → List V → List V} {E : L2.St → XK} (F : FnOk X.prog X.w X.K X.mg X.base CX k f fd ps sp) (hr : Room k X.A) (hb : KBn X.K fd ps n ks g gV) (hx : PassesAt CX X σ (E σ))
    (I : Inv X pins σ H s) (r : Vals vs us) (rz : Vals zs ws) (l1 : vs.length = n) (l2 : zs.length = ks.length) (h : sp (gV vs zs) H Q (E σ)) : wpAny (model X.prog X.w) X.A (call (.ref f) us (ks.zip ws)) (EP X pins σ Q) X.xe s := by
  have r2 := hb.rel r rz
  refine wpAny_call (codeAny_mono (F.run X.A X.stack s H ⟨us, ks.zip ws⟩ (g us ws) (gV vs zs) Q (E σ) hr I.env0 (hb.to s us ws I.kIn (r.length.symm.trans l1) (rz.length.symm.trans l2)) r2 h) fun r s' hq => ?_)
  cases r with
  | error e => exact hx pins H s e s' I hq
  | ok fl =>
    cases fl with
    | ret u => exact I.after hq
    | next => exact False.elim hq
    | brk => exact False.elim hq
    | cont => exact False.elim hq
theorem pe_calXK {W : WX} (C : CalXK X.prog X.w X.K X.mg X.base x k ps n ks sp) (hr : Room k X.A) (tw : Takes X W)
    (ha : PA X (e :: es) t) (hkw : PK X kws tk) (hg : Gl X x := by rfl) (hall : (backToKw pos (keywordEach kws X.env)).all (·.1.isSome) = true := by rfl) (hks : (backToKw pos (keywordEach kws X.env)).filterMap (·.1) = ks := by rfl)
    (hdb : (x == ("__debug__" : Str)) = false := by decide) (he : starEach (e :: es) X.env = (false, eval e X.env) :: starEach es X.env := by rfl)
    (hpl : ((backTo pos (starEach (e :: es) X.env)).any (·.1) || (backToKw pos (keywordEach kws X.env)).any (·.1.isNone)) = false := by rfl) :
    PE X (.Call (.Name x p) (e :: es) kws pos) (tCallNS n ks.length sp (fun vs zs => vs ++ zs) (WE W) t tk) := by
  obtain ⟨f, fd, g, G, gm, kp, b⟩ := C.ex
  refine ⟨fun pins s σ H Q I h => ?_⟩
  refine wpAny_Call_Name_kw (ld_glob I hg gm ?_ hdb)
  refine PySem.W.callWith_KW (h₀ := X.base) I.ok.mod.kin kp hall (thn (ha.run pos pins s σ H _ I h) fun us s1 ⟨vs, H1, I1, r, q⟩ => ?_) hpl he
  refine thn (hkw.run pos pins s1 σ H1 _ I1 q) fun ws s2 ⟨zs, H2, I2, rz, l1, l2, q2⟩ => ⟨I2.kIn, ?_⟩
  rw [hks]
  exact run_fnNS G hr b (passAt tw σ) I2 r rz l1 l2 q2
/-- f(k = v, ..), by names alone -/
theorem pe_calN {CX : CXT} {c : List V → List V} (C : CalN CX X.prog X.w X.K X.mg X.base x k ps ks c sp) (hr : Room k X.A) (hx : Passes CX X E0) (hkw : PK X kws tk) (hg : Gl X x := by rfl)
    (hall : (backToKw pos (keywordEach kws X.env)).all (·.1.isSome) = true := by rfl) (hks : (backToKw pos (keywordEach kws X.env)).filterMap (·.1) = ks := by rfl) (hdb : (x == ("__debug__" : Str)) = false := by decide)
    (hpl : ((backTo pos (starEach [] X.env)).any (·.1) || (backToKw pos (keywordEach kws X.env)).any (·.1.isNone)) = false := by rfl) :
    PE X (.Call (.Name x p) [] kws pos) (fun σ H Q => tk σ H fun zs H2 => zs.length = ks.length ∧ sp (c zs) H2 Q E0) := by
  obtain ⟨f, fd, g, G, gm, kp, b⟩ := C.ex
  refine ⟨fun pins s σ H Q I h => ?_⟩
  refine wpAny_Call_Name_kw (ld_glob I hg gm ?_ hdb)
  refine PySem.W.callWith_KW0 (h₀ := X.base) I.ok.mod.kin kp hall ?_ hpl
  refine thn (hkw.run pos pins s σ H _ I h) fun ws s2 ⟨zs, H2, I2, rz, l2, q2⟩ => ⟨I2.kIn, ?_⟩
  rw [hks]
  exact run_fnN (us := []) (vs := []) G hr b hx I2 .nil rz rfl l2 q2
end
/-! ### the law's own call, where nothing guards: repr of data -/
/-- a def's body, walked for one caller's state A alone -/
theorem body_at {P : Program} {w : World} {K : PySem.W.Frag} {mg : Str → Option Value} {base : Heap} {k : Nat} {f : Addr} {name qual : Str} {params : Arguments} {body : List Stmt} {scope : Scope}
    {dV kV doc pm cdv ct oc : Value} {an od : Option Addr} {osl : Array (Option Value)} {N ps : List Str} {A : Around} {outer : List Env} {s : Shared} {H : Hp} {args : Args} {us : List Value} {vs : List V} {Q : VK}
    (lk : K.lookup f = some ⟨oc, od, .func (PySem.W.fnOf name qual params body scope dV kV doc pm an cdv ct), osl⟩) (hcd : PySem.W.codeIn K cdv qual = true) (S : FnScope N ps scope) (hl : vs.length = ps.length)
    (hr : Room (k + 1) A) (e0 : Env0 P w K mg base A outer s H) (hb : BindsTo s (PySem.W.fnOf name qual params body scope dV kV doc pm an cdv ct) args (ps.zip us)) (rv : Vals vs us)
    (walk : ∃ t, PSs (cxOf CX0 P w K mg base N qual scope f cdv A outer s H (fun _ _ _ => False)) body t ∧ t { nx := fun _ H' => Q .non H', rt := Q } (start N vs) H) :
    codeAny (model P w) A (.call (.ref f) args) (CR CX0 outer P w H s Q fun _ _ _ => False) s := by
  have old : ∀ b o, base.get? b = some o → s.heap.get? b = some o := fun b o z => (e0.bs b o z).1
  have inK : K.In s.heap := e0.mod.kin.keeps old
  have slots : ∀ y ∈ ps.zip us, scope.names.lookup y.1 = some .local ∨ (scope.names.lookup y.1 = some .cell ∧ ((cellsFrom (s.heap.objs.size + 1) scope.names []).lookup y.1).isSome = true) := by
    rintro ⟨n, v⟩ hy
    cases S.par n (List.of_mem_zip hy).1 with
    | inl z => exact Or.inl z
    | inr z => exact Or.inr ⟨z, PySem.W.cellsFrom_some _ _ _ (Or.inl z)⟩
  obtain ⟨t, ht, hq⟩ := walk
  refine codeAny_call_function hr.depth (inK _ _ lk) rfl S.co S.gen rfl (PySem.W.codeRec_of inK hcd) (hb _ _ _ _ ?_)
  refine wpAny_newFunctionEnv_cells S.kind slots fun env eenv s1 ic => ?_
  subst eenv
  refine ⟨(e0.mod.nolimit.keeps old).keeps ic.toInCall.keep, codeAny_func ?_⟩
  have J := inv_start (CX := CX0) (E := fun _ _ _ => False) S hr.hd e0 hl rv ic
  refine wpAny_mono (ht.run [] s1 _ H _ J hq) (fun fl s' got => ?_) fun _ _ z => z
  match fl, got with
  | .ret u, ⟨v, σ', H', J', r', q'⟩ => exact ⟨v, H', J'.os, J'.bare, J'.base, J'.hok, r', q'⟩
  | .next, ⟨σ', H', J', q'⟩ => exact ⟨.non, H', J'.os, J'.bare, J'.base, J'.hok, rfl, q'⟩
  | .brk, ⟨_, _, _, q'⟩ => exact q'.elim
  | .cont, ⟨_, _, _, q'⟩ => exact q'.elim
/-- the script as the only thing that may be tracked -/
structure Scr (P : Program) (w : World) (K : PySem.W.Frag) (h : Heap) (a : Addr) (ns : List Int) (H : Hp) : Prop where
  only : Only H
  seq : SqL K H a (ns.map V.int)
  ok : HOk P w H h
  at' : ∀ b, H b ≠ none → b = a ∧ K.lookup a = none
theorem scr {P : Program} {w : World} {K : PySem.W.Frag} {h : Heap} {a : Addr} {vs : List Value} {ns : List Int} (KX : K.In h)
    (ha : h.get? a = some { cls := .type "list", data := .seq vs.toArray }) (hi : IntsAre vs ns) (hl : ns.length ≤ sizeLine) : ∃ H, Scr P w K h a ns H := by
  have rel := vals_ints hi
  have len : (ns.map V.int).length ≤ sizeLine := by rw [List.length_map]; exact hl
  by_cases inK : K.lookup a = none
  · refine ⟨upd (fun _ => none) a (.frz { cls := .type "list", data := .seq vs.toArray } (.lst (ns.map V.int))), fun b => ?_, .inl (.inr ⟨_, upd_same⟩), fun b o e => ?_, fun b e => ?_⟩
    · rcases Decidable.em (b = a) with z | z
      · subst z; exact .inr ⟨_, _, upd_same⟩
      · exact .inl (upd_ne z)
    · rcases Decidable.em (b = a) with z | z
      · subst z
        rw [upd_same] at e
        cases e
        exact ⟨ha, len, vs, _, rel, ha⟩
      · rw [upd_ne z] at e; cases e
    · rcases Decidable.em (b = a) with z | z
      · exact ⟨z, inK⟩
      · exact absurd (upd_ne z) e
  · obtain ⟨o, ho⟩ : ∃ o, K.lookup a = some o := by
      cases e : K.lookup a with
      | none => exact absurd e inK
      | some o => exact ⟨o, rfl⟩
    have same : o = { cls := .type "list", data := .seq vs.toArray } := Option.some.inj ((KX a o ho).symm.trans ha)
    subst same
    refine ⟨fun _ => none, fun _ => .inl rfl, .inr ⟨_, vs.toArray, 0, ho, rfl, rfl, rfl, ?_, ?_⟩, fun _ _ e => ?_, fun _ e => absurd rfl e⟩
    · have := hi.length
      show vs.toArray.size ≤ sizeLine
      rw [List.size_toArray]; omega
    · show Vals _ vs.toArray.toList
      exact rel
    · exact nomatch e
/-- the law's call from its promise, walked where nothing guards -/
theorem call_scr {P : Program} {w : World} {K : PySem.W.Frag} {mg mb : Str → Option Value} {fa a : Addr} {s₁ : Shared} {vs : List Value} {ns : List Int}
    (KX : K.In s₁.heap) (hns : s₁.heap.Ns mainGlobals mg) (hb : s₁.heap.Ns builtinsNs mb) (hbb : ∀ x : Str, x ≠ "__name__" → mb x = bootBuiltins x) (hlim : s₁.heap.NoLimit) (hg : s₁.gens = #[])
    (ha : s₁.heap.get? a = some { cls := .type "list", data := .seq vs.toArray }) (hi : IntsAre vs ns) (hl : ns.length ≤ sizeLine)
    (B : ∀ base H, K.In base → base.Ns mainGlobals mg → Env0 P w K mg base callerA [] s₁ H → SqL K H a (ns.map V.int) →
      codeAny (model P w) callerA (.call (.ref fa) ⟨[.ref a], []⟩) (CR CX0 [] P w H s₁ (fun v _ => v = .bl true) fun _ _ _ => False) s₁) :
    codeAny (model P w) callerA (.call (.ref fa) ⟨[.ref a], []⟩) (fun r s' => r = .ok (.ret (.bool true)) ∧ OldK s₁.heap s'.heap ∧ s'.os = s₁.os ∧ AllBare s'.gens) s₁ := by
  obtain ⟨H, C⟩ := scr (P := P) (w := w) KX ha hi hl
  -- what holds no list stands in the part that is not tracked
  have free : ∀ b o, s₁.heap.get? b = some o → (∀ n, o.data ≠ .seq vs.toArray n) → H b = none := fun b o e nd => by
    rcases Decidable.em (H b = none) with z | z
    · exact z
    · have q := (C.at' b z).1
      subst q
      rw [ha] at e
      cases e
      exact absurd rfl (nd _)
  have ns_of : ∀ L m, s₁.heap.Ns L m → (hidT s₁.heap H).Ns L m := fun L m n => by
    obtain ⟨o, es, ep, e, d, r⟩ := n
    exact ⟨o, es, ep, hidT_get e (free _ _ e fun k z => by rw [d] at z; cases z), d, r⟩
  have kin : K.In (hidT s₁.heap H) := fun b o e => by
    refine hidT_get (KX b o e) ?_
    rcases Decidable.em (H b = none) with z | z
    · exact z
    · obtain ⟨q, u⟩ := C.at' b z
      subst q
      rw [u] at e; cases e
  obtain ⟨mc, l1, l2⟩ := hlim
  have e0 : Env0 P w K mg (hidT s₁.heap H) callerA [] s₁ H :=
    ⟨rfl, ⟨kin, ns_of _ _ hns, ⟨mb, ns_of _ _ hb, hbb⟩, mc, ns_of _ _ l1, l2⟩, fun b o e => of_hidT e, Nat.le_of_eq (hidT_size _ _), trivial, fun b z => absurd (show b ∈ ([] : List Addr) from z) (by simp), C.ok, AllBare.of_eq hg⟩
  refine codeAny_mono (B _ H kin (ns_of _ _ hns) e0 C.seq) fun r s' got => ?_
  match r, got with
  | .ok (.ret u), ⟨v, H', os, bare, un, hok', rv, q⟩ =>
    cases q
    cases rv
    refine ⟨rfl, OldK.of_keep fun b o e => ?_, os, bare⟩
    rcases C.only b with z | ⟨ob, xs, z⟩
    · exact un.keep b o e z (fun y => nomatch y) (fun y => nomatch y)
    · have o1 := (C.ok b _ z).1
      have o2 := (hok' b _ (un.frzs b ob _ z)).1
      have := Option.some.inj (o1.symm.trans e)
      subst this
      exact o2
  | .ok .next, z => exact False.elim z
  | .ok .brk, z => exact False.elim z
  | .ok .cont, z => exact False.elim z
  | .error e, z => exact False.elim z
/-- the goal that the head leaves: the law's def walked for its caller's own state, in which nothing guards -/
theorem walk_scr {l : PySem.W.OpenLaw} {n : Nat} {q : Program} {loose : List Str} {XP : (Str → Option Value) → Heap → Prop} {YP : World → Heap → Prop} {d : DefRec} {K : Params → PySem.W.Frag}
    (hn : l.most = some n) (hn2 : n ≤ sizeLine) (hdf : d.params.defaults = []) (hY : ∀ (w : World) (h : Heap), YP w h → (K w.params).In h)
    (F : ∀ (w : World) (mg : Str → Option Value) (fa : Addr) (h : Heap), (K w.params).In h → h.Ns mainGlobals mg → mg d.name = some (.ref fa) →
      ∀ (base : Heap) (H : Hp) (s : Shared) (a : Addr) (ns : List Int), (K w.params).In base → base.Ns mainGlobals mg → Env0 l.prog w (K w.params) mg base callerA [] s H → SqL (K w.params) H a (ns.map V.int) → ns.length ≤ n →
        codeAny (model l.prog w) callerA (.call (.ref fa) ⟨[.ref a], []⟩) (CR CX0 [] l.prog w H s (fun v _ => v = .bl true) fun _ _ _ => False) s) :
    PySem.W.WalkO q loose XP YP l.row.toRowW d [] (fun f vs => PySem.call f vs) := by
  refine Att.attach_call hn hdf fun w s₀ s₁ mg mb fa o pm cd doc a vs ns G Y _ _ _ hmg hobj hints hlen hg => ?_
  have KX := hY w _ Y
  exact call_scr KX G.T.g G.T.b G.T.builtins G.T.nolimit hg hobj hints (Nat.le_trans hlen hn2) fun base H kb nb e0 hS => F w mg fa _ KX G.T.g hmg base H s₁ a ns kb nb e0 hS hlen
theorem caller_guards : callerA.guards = some [] := by first | rfl | decide
/-- repr of data, where nothing guards -/
def rRepr (K : PySem.W.Frag) : List V → Hp → VK → Prop := fun xs H Q => ∃ (x : V) (d : PyData), xs = [x] ∧ Dp K H x d ∧ d.showable = true ∧ d.hasDict = false ∧ d.depth ≤ 50 ∧ d.shown.length ≤ sizeLine ∧ Q (.str d.shown) H
theorem call_reprD {X : Cx} (gd : X.A.guards = some []) (hu : X.A.units + 64 < cLine) : CallR X (.builtin "repr") (rRepr X.K) := by
  intro pins s σ H xs us Q I r h
  obtain ⟨x, d, rfl, hd, hs, hnd, hdp, hz, hq⟩ := h
  obtain ⟨u, rfl, ru⟩ := r.one
  obtain ⟨as, rd⟩ := Dp.reads I d x u hd ru
  have byRef : ∀ a, u = .ref a → wpAny (model X.prog X.w) X.A (call (.builtin "repr") [u]) (EP X pins σ Q) X.xe s := fun a e => by
    subst e
    exact repr_of_reads' rd hs (fun z => by rw [hnd] at z; cases z) gd (by omega) (fun _ _ z => z) (fun h' v tk k => ⟨.str d.shown, H, I.kept (t' := tk) k, ⟨_, rfl⟩, hq⟩) hz
  cases hd with
  | non =>
    cases ru
    exact PySem.P.repr_of_none ⟨.str "None", H, I.tok _, ⟨_, rfl⟩, hq⟩
  | bl b =>
    cases ru
    exact PySem.P.repr_of_bool ⟨.str (if b then "True" else "False"), H, I.tok _, ⟨_, rfl⟩, hq⟩
  | int i =>
    obtain ⟨t, rfl⟩ := ru
    exact PySem.P.repr_of_int (of_decide_eq_true hs) ⟨.str (toString i), H, I.tok _, ⟨_, rfl⟩, hq⟩
  | str z =>
    obtain ⟨t, rfl⟩ := ru
    exact PySem.P.repr_of_str ⟨.str (reprText z), H, I.tok _, ⟨_, rfl⟩, hq⟩ hz
  | lst _ _ => exact byRef _ ru
  | tup _ _ => exact byRef _ ru
/-! ### isinstance of the error that the suite holds -/
def rIsS (K : PySem.W.Frag) (a : Addr) (cls : Value) (d : Option Addr) : List V → Hp → VK → Prop := fun xs H Q => ∃ (C dd : Addr) (fs : List (Str × V)) (c : V) (u : Value) (b : Bool), xs = [.ref a, c] ∧ cls = .ref C ∧ d = some dd ∧ H dd = some (.xd fs) ∧ ErrC K C ∧ ClsV c u ∧ PySem.W.kitOne K (.ref C) u = some b ∧ Q (.bl b) H
theorem call_isS {X : Cx} {a : Addr} {oe : Obj} {cls : Value} {d : Option Addr} {pn : List (Addr × Obj)} (hz : Zc cls d oe) (hf : ∃ vs, oe.data = .fields vs) : CallR (X.suite a ((a, oe) :: pn)) (.builtin "isinstance") (rIsS X.K a cls d) := by
  intro pins s σ H xs us Q I r h
  obtain ⟨C, dd, fs, c, u, b, rfl, rfl, rfl, ed, E, k, e, q⟩ := h
  obtain ⟨u1, u2, rfl, r1, r2⟩ := vals2 r
  have e2 := k.eq r2
  subst e2
  cases (show u1 = Value.ref a from r1)
  obtain ⟨hget, _⟩ := I.pin (a, oe) (List.mem_append.mpr (.inl List.mem_cons_self))
  obtain ⟨vs, hv⟩ := hf
  obtain ⟨mA, hns, _⟩ := (show ObjOk X.prog X.w H s.heap dd (.xd fs) from I.hok dd _ ed)
  obtain ⟨od, _, _, ho, _⟩ := hns
  have J : PySem.W.InstAt s.heap a oe C (some od) := ⟨hget, hz.1, by unfold PySem.W.notCls; rw [hv] <;> rfl, by rw [hz.2]; exact ho⟩
  exact PySem.W.kia_one E.kit I.kIn J e (fun z => nomatch z) fun tk => ⟨.bl b, H, I.tok tk, rfl, q⟩
/-! ### list(text), tuple(text): its signs -/
theorem vals_idx : ∀ (xs : List V) (us : List Value), us.length = xs.length → (∀ (j : Nat) (u : Value), us[j]? = some u → ∃ x, xs[j]? = some x ∧ RelV x u) → Vals xs us := by
  intro xs
  induction xs with
  | nil =>
    intro us hl _
    cases us with
    | nil => exact .nil
    | cons _ _ => simp at hl
  | cons x xs ih =>
    intro us hl hk
    cases us with
    | nil => simp at hl
    | cons u us =>
      obtain ⟨y, e, r⟩ := hk 0 u rfl
      have ey : x = y := by simpa using e
      subst ey
      refine .cons r (ih us (by simpa using hl) fun j v hj => ?_)
      simpa using hk (j + 1) v (by simpa using hj)
def signs (z : Str) : List V := z.cps.toList.map fun c => V.str ⟨#[c]⟩
theorem signs_vals {z : Str} {acc : Array Value} (it : ItemsOf (SignAt z) acc z.cps.size) : Vals (signs z) acc.toList := by
  refine vals_idx _ _ (by unfold signs; rw [Array.length_toList, List.length_map, Array.length_toList]; exact it.1) fun j u hj => ?_
  obtain ⟨c, t, hc, rfl⟩ := it.2 j u (by rw [← Array.getElem?_toList]; exact hj)
  refine ⟨V.str ⟨#[c]⟩, ?_, ⟨t, rfl⟩⟩
  unfold signs
  rw [List.getElem?_map, Array.getElem?_toList, hc]; rfl
theorem call_listStr {X : Cx} (hc : X.calm = true) : CallR X (.type "list") (fun xs H Q => ∃ z, xs = [.str z] ∧ z.cps.size ≤ sizeLine ∧ ∀ l, H l = none → Q (.ref l) (upd H l (.lst (signs z)))) := by
  intro pins s σ H xs us Q I r h
  obtain ⟨z, rfl, hz, q⟩ := h
  obtain ⟨u, rfl, rx⟩ := vals1 r
  obtain ⟨t, rfl⟩ := rx
  refine call_list_str (I.ok.hd hc) z t (fun h' tk acc c' kp e it => ?_) hz
  refine ⟨.ref s.heap.objs.size, _, I.laid (t' := tk) kp (Nat.le_refl _) (show ObjOk X.prog X.w _ h' _ (.lst (signs z)) from ⟨?_, acc.toList, c', signs_vals it, by rw [Array.toArray_toList]; exact e⟩), rfl, q _ (I.hok.fresh (Nat.le_refl _))⟩
  unfold signs
  rw [List.length_map, Array.length_toList]; exact hz
theorem call_tupleStr {X : Cx} (hc : X.calm = true) : CallR X (.type "tuple") (fun xs H Q => ∃ z, xs = [.str z] ∧ z.cps.size ≤ sizeLine ∧ ∀ l, H l = none → Q (.ref l) (upd H l (.tup (signs z)))) := by
  intro pins s σ H xs us Q I r h
  obtain ⟨z, rfl, hz, q⟩ := h
  obtain ⟨u, rfl, rx⟩ := vals1 r
  obtain ⟨t, rfl⟩ := rx
  refine call_tuple_str (I.ok.hd hc) z t (fun h' tk acc kp it => ?_) hz
  have I1 : Inv X pins σ H { s with heap := h', toks := tk } := I.kept (t' := tk) kp
  have I2 : Inv X pins σ (upd H h'.objs.size (.tup (signs z))) { s with heap := h'.push { cls := .type "tuple", data := .seq acc }, toks := tk } :=
    I1.laid (t' := tk) (fun b o e => Heap.get?_push_of_some _ e) (Nat.le_refl _) (show ObjOk X.prog X.w _ _ _ (.tup (signs z)) from ⟨?_, acc.toList, signs_vals it, by rw [Array.toArray_toList]; exact IsTup.new _ _⟩)
  · exact ⟨.ref h'.objs.size, _, I2, rfl, q _ (I1.hok.fresh (Nat.le_refl _))⟩
  · unfold signs
    rw [List.length_map, Array.length_toList]; exact hz
/-! ### things of many kinds, as data -/
theorem seqL_same {K : PySem.W.Frag} {H H' : Hp} {a : Addr} {xs : List V} (s : Same H H') (h : SqL K H a xs) : SqL K H' a xs := s.seq h
theorem seqT_same {K : PySem.W.Frag} {H H' : Hp} {a : Addr} {xs : List V} (e : Same H H') (h : SqT K H a xs) : SqT K H' a xs := by
  rcases h with (h | ⟨o, h⟩) | h
  · exact .inl (.inl (e _ _ h))
  · exact .inl (.inr ⟨o, e _ _ h⟩)
  · exact .inr h
mutual
theorem Dp.same {K : PySem.W.Frag} {H H' : Hp} (s : Same H H') : ∀ {v : V} {d : PyData}, Dp K H v d → Dp K H' v d
  | _, _, .non => .non
  | _, _, .bl b => .bl b
  | _, _, .int i => .int i
  | _, _, .str x => .str x
  | _, _, .lst h k => .lst (seqL_same s h) (DpAll.same s k)
  | _, _, .tup h k => .tup (seqT_same s h) (DpAll.same s k)
theorem DpAll.same {K : PySem.W.Frag} {H H' : Hp} (s : Same H H') : ∀ {vs : List V} {ds : List PyData}, DpAll K H vs ds → DpAll K H' vs ds
  | _, _, .nil => .nil
  | _, _, .cons h k => .cons (Dp.same s h) (DpAll.same s k)
end
theorem NoT.same {H H' : Hp} {v : V} (k : NoT H v) (s : Same H H') : NoT H' v := by
  cases k with
  | non => exact .non
  | bl b => exact .bl b
  | int i => exact .int i
  | str x => exact .str x
  | lst e => exact .lst (s _ _ e)
  | dk e => exact .dk (s _ _ e)
/-- the heap but for what stands at a -/
def hide (a : Addr) (H : Hp) : Hp := fun b => if b = a then none else H b
theorem hide_same (a : Addr) (H : Hp) : Same (hide a H) H := fun b o h => by
  unfold hide at h
  by_cases c : b = a
  · rw [if_pos c] at h; cases h
  · rw [if_neg c] at h; exact h
theorem hide_but {a : Addr} {H H' : Hp} (b : But a H H') : Same (hide a H) (hide a H') := fun c o h => by
  unfold hide at h ⊢
  by_cases e : c = a
  · rw [if_pos e] at h; cases h
  · rw [if_neg e] at h ⊢; exact b c o e h
theorem hide_at {a p : Addr} {H : Hp} {o : HO} (h : H p = some o) (n : p ≠ a) : hide a H p = some o := by
  unfold hide; rw [if_neg n]; exact h
def Sok (s : Str) : Prop := PyData.strOk s = true ∧ s.cps.size ≤ 100
def LeafD (d : PyData) : Prop := d.showable = true ∧ d.hasDict = false ∧ d.leavesShort 600 = true ∧ d.weight ≤ 200 ∧ d.depth ≤ 1
def FitD (d : PyData) : Prop := d.showable = true ∧ d.hasDict = false ∧ d.depth ≤ 50 ∧ d.shown.length ≤ sizeLine
/-- a leaf, or little more -/
def Leafy (K : PySem.W.Frag) (H : Hp) (v : V) : Prop := (∃ d, Dp K H v d ∧ LeafD d) ∧ Kd H v ∧ ∀ s, v = .str s → Sok s
theorem Leafy.same {K : PySem.W.Frag} {H H' : Hp} {v : V} (l : Leafy K H v) (s : Same H H') : Leafy K H' v := by
  obtain ⟨⟨d, h, k⟩, kd, so⟩ := l
  exact ⟨⟨d, Dp.same s h, k⟩, kd.same s, so⟩
theorem leafs_all {K : PySem.W.Frag} {H : Hp} : ∀ {xs : List V}, (∀ x ∈ xs, Leafy K H x) → ∃ ds, DpAll K H xs ds ∧ ds.length = xs.length ∧ ∀ d ∈ ds, LeafD d := by
  intro xs
  induction xs with
  | nil => exact fun _ => ⟨[], .nil, rfl, fun d hd => nomatch hd⟩
  | cons x xs ih =>
    intro h
    obtain ⟨⟨d, h1, h2⟩, _⟩ := h x (by simp)
    obtain ⟨ds, k1, k2, k3⟩ := ih fun y hy => h y (by simp [hy])
    refine ⟨d :: ds, .cons h1 k1, by simp [k2], fun e he => ?_⟩
    rcases List.mem_cons.mp he with z | z
    · rw [z]; exact h2
    · exact k3 e z
theorem leafs_fit {ds : List PyData} (h : ∀ d ∈ ds, LeafD d) (n : ds.length ≤ 8) : PyData.showableAll ds = true ∧ PyData.hasDictAll ds = false ∧ PyData.leavesShortAll 600 ds = true ∧ PyData.weightAll ds ≤ 1608 ∧ PyData.depthAll ds ≤ 1 := by
  have key : ∀ ds : List PyData, (∀ d ∈ ds, LeafD d) → PyData.showableAll ds = true ∧ PyData.hasDictAll ds = false ∧ PyData.leavesShortAll 600 ds = true ∧ PyData.weightAll ds ≤ 201 * ds.length ∧ PyData.depthAll ds ≤ 1 := by
    intro ds
    induction ds with
    | nil => intro _; simp [PyData.showableAll, PyData.hasDictAll, PyData.leavesShortAll, PyData.weightAll, PyData.depthAll]
    | cons d ds ih =>
      intro h
      obtain ⟨a1, a2, a3, a4, a5⟩ := h d (by simp)
      obtain ⟨b1, b2, b3, b4, b5⟩ := ih fun e he => h e (by simp [he])
      simp only [PyData.showableAll, PyData.hasDictAll, PyData.leavesShortAll, PyData.weightAll, PyData.depthAll, a1, a2, a3, b1, b2, b3, List.length_cons]
      refine ⟨rfl, rfl, rfl, by omega, by omega⟩
  obtain ⟨a1, a2, a3, a4, a5⟩ := key ds h
  exact ⟨a1, a2, a3, by omega, a5⟩
theorem fit_shown {d : PyData} (h : d.leavesShort 600 = true) (w : d.weight ≤ 2000) : d.shown.length ≤ sizeLine := by
  have := PyData.shown_le 600 (by decide) d h
  rw [sizeLine_eq]; omega
theorem fit_tup {ds : List PyData} (h : ∀ d ∈ ds, LeafD d) (n : ds.length ≤ 8) : FitD (.tuple ds) := by
  obtain ⟨a1, a2, a3, a4, a5⟩ := leafs_fit h n
  refine ⟨by simp only [PyData.showable, a1], by simp only [PyData.hasDict, a2], by simp only [PyData.depth]; omega, fit_shown (by simp only [PyData.leavesShort, a3]) (by simp only [PyData.weight]; omega)⟩
theorem fit_lst {ds : List PyData} (h : ∀ d ∈ ds, LeafD d) (n : ds.length ≤ 8) : FitD (.list ds) := by
  obtain ⟨a1, a2, a3, a4, a5⟩ := leafs_fit h n
  refine ⟨by simp only [PyData.showable, a1], by simp only [PyData.hasDict, a2], by simp only [PyData.depth]; omega, fit_shown (by simp only [PyData.leavesShort, a3]) (by simp only [PyData.weight]; omega)⟩
theorem leaf_str {s : Str} (h : Sok s) : LeafD (.str s) := by
  obtain ⟨h1, h2⟩ := h
  refine ⟨by simp [PyData.showable], by simp [PyData.hasDict], ?_, by simp only [PyData.weight]; omega, by simp [PyData.depth]⟩
  simp only [PyData.leavesShort]
  rw [List.all_eq_true]
  intro c hc
  unfold PyData.strOk at h1
  rw [Array.all_eq_true_iff_forall_mem] at h1
  have := of_decide_eq_true (h1 c (by simpa using hc))
  exact decide_eq_true (Nat.lt_trans this (by decide))
theorem leafy_str {K : PySem.W.Frag} {H : Hp} {s : Str} (h : Sok s) : Leafy K H (.str s) := ⟨⟨_, .str s, leaf_str h⟩, .str s, fun _ e => by cases e; exact h⟩
theorem leafy_none {K : PySem.W.Frag} {H : Hp} : Leafy K H .non := ⟨⟨_, .non, by unfold LeafD; decide⟩, .non, fun _ e => nomatch e⟩
theorem leafy_bl {K : PySem.W.Frag} {H : Hp} (b : Bool) : Leafy K H (.bl b) := ⟨⟨_, .bl b, by cases b <;> (unfold LeafD; decide)⟩, .bl b, fun _ e => nomatch e⟩
theorem leaf_int {i : Int} (h : i.natAbs < 10 ^ 40) : LeafD (.int i) := by
  have e := int_text_length_le10 (k := 40) (by decide) h
  have h2 : (10 : Nat) ^ 40 ≤ 16 ^ 40 := Nat.pow_le_pow_left (by decide) 40
  have h3 : (16 : Nat) ^ 40 = 2 ^ 160 := by rw [show (16 : Nat) = 2 ^ 4 by decide, ← Nat.pow_mul]
  have l : i.natAbs.log2 < 160 := PySem.Flt.log2_lt_of (by decide) (Nat.lt_of_lt_of_le h (h3 ▸ h2))
  clear h h2 h3
  refine ⟨?_, by simp [PyData.hasDict], ?_, ?_, by simp [PyData.depth]⟩
  · simp only [PyData.showable]; exact decide_eq_true (by omega)
  · simp only [PyData.leavesShort, PyData.shown]
    refine decide_eq_true ?_
    rw [PySem.ofString_length]; omega
  · simp only [PyData.weight]; split <;> omega
theorem leafy_int {K : PySem.W.Frag} {H : Hp} {i : Int} (h : i.natAbs < 10 ^ 40) : Leafy K H (.int i) := ⟨⟨_, .int i, leaf_int h⟩, .int i, fun _ e => nomatch e⟩
theorem small40 {i : Int} (h0 : -100000 ≤ i) (h1 : i ≤ 100000) : i.natAbs < 10 ^ 40 := by
  have : (100001 : Nat) ≤ 10 ^ 40 := by decide
  omega
theorem leafy_one {K : PySem.W.Frag} {H : Hp} {p : Addr} {i : Int} (h : H p = some (.tup [.int i])) (b : i.natAbs < 10 ^ 40) : Leafy K H (.ref p) := by
  refine ⟨⟨.tuple [.int i], .tup (.of h) (.cons (.int i) .nil), ?_⟩, .tup h, fun _ e => nomatch e⟩
  obtain ⟨a1, a2, a3, a4, a5⟩ := leaf_int b
  refine ⟨?_, ?_, ?_, ?_, ?_⟩
  · simp only [PyData.showable, PyData.showableAll, Bool.and_true] at *; exact a1
  · simp [PyData.hasDict, PyData.hasDictAll]
  · simp only [PyData.leavesShort, PyData.leavesShortAll, Bool.and_true] at *; exact a3
  · have l : i.natAbs.log2 < 160 := by
      have h2 : (10 : Nat) ^ 40 ≤ 16 ^ 40 := Nat.pow_le_pow_left (by decide) 40
      have h3 : (16 : Nat) ^ 40 = 2 ^ 160 := by rw [show (16 : Nat) = 2 ^ 4 by decide, ← Nat.pow_mul]
      exact PySem.Flt.log2_lt_of (by decide) (Nat.lt_of_lt_of_le b (h3 ▸ h2))
    simp only [PyData.weight, PyData.weightAll]; split <;> omega
  · simp [PyData.depth, PyData.depthAll]
/-- a thing: a tuple of leaves, a list of such, or a leaf that is no tuple -/
def Thing (K : PySem.W.Frag) (H : Hp) (v : V) : Prop := (∃ d, Dp K H v d ∧ FitD d) ∧ ((∃ (p : Addr) (xs : List V), v = .ref p ∧ H p = some (.tup xs) ∧ (∀ x ∈ xs, Kd H x) ∧ ∀ s, V.str s ∈ xs → Sok s) ∨ NoT H v)
theorem Thing.same {K : PySem.W.Frag} {H H' : Hp} {v : V} (t : Thing K H v) (s : Same H H') : Thing K H' v := by
  obtain ⟨⟨d, h, k⟩, t⟩ := t
  refine ⟨⟨d, Dp.same s h, k⟩, ?_⟩
  rcases t with ⟨p, xs, rfl, h1, h2, h3⟩ | t
  · exact .inl ⟨p, xs, rfl, s _ _ h1, fun x hx => (h2 x hx).same s, h3⟩
  · exact .inr (t.same s)
theorem Thing.tup {K : PySem.W.Frag} {H : Hp} {p : Addr} {xs : List V} (h : H p = some (.tup xs)) (l : ∀ x ∈ xs, Leafy K H x) (n : xs.length ≤ 8) : Thing K H (.ref p) := by
  obtain ⟨ds, k1, k2, k3⟩ := leafs_all l
  exact ⟨⟨.tuple ds, .tup (.of h) k1, fit_tup k3 (by omega)⟩, .inl ⟨p, xs, rfl, h, fun x hx => (l x hx).2.1, fun s hs => (l _ hs).2.2 s rfl⟩⟩
theorem Thing.lst {K : PySem.W.Frag} {H : Hp} {p : Addr} {xs : List V} (h : H p = some (.lst xs)) (l : ∀ x ∈ xs, Leafy K H x) (n : xs.length ≤ 8) : Thing K H (.ref p) := by
  obtain ⟨ds, k1, k2, k3⟩ := leafs_all l
  exact ⟨⟨.list ds, .lst (.of h) k1, fit_lst k3 (by omega)⟩, .inr (.lst h)⟩
theorem Thing.non {K : PySem.W.Frag} {H : Hp} : Thing K H .non := ⟨⟨_, .non, by unfold FitD; decide +kernel⟩, .inr .non⟩
theorem with_finVH {A P : Addr → Hp → Prop} {G : Prop} (h : ∀ p H, A p H → P p H) (k : (∀ p H, A p H → P p H) → G) : G := k h

def Cnd (lo hi : Int) (t : Nat) : Prop := lo / 2 ^ t * 2 ^ t = lo ∧ hi / 2 ^ t * 2 ^ t = hi ∧ (hi - lo) / 2 ^ t ≤ 16 ∧ (8 < (hi - lo) / 2 ^ t ∨ t = 0)
theorem cpd {x : Int} {s : Nat} (h0 : 0 ≤ x) (h1 : x ≤ 4096) (h : s ≤ 8) : CPow (x / 2 ^ s) (s : Int) := by
  have := div_le' (s := s) h0
  exact ⟨by omega, by omega, na (by omega) (by omega)⟩
theorem cnd_ex {lo hi : Int} {t : Nat} (b : Bd lo hi) (h8 : t ≤ 8) (c : Cnd lo hi t) : Ex lo hi t := by
  obtain ⟨b1, b2, b3⟩ := b
  unfold Cnd at c
  unfold Ex StepIs Dd
  refine ⟨⟨h8, ?_, fun u hu => ?_⟩, c.1, ?_⟩
  · rcases le8 h8 with e | e | e | e | e | e | e | e | e <;> subst e <;> simp at * <;> omega
  · have h9 : u ≤ 8 := by omega
    rcases le8 h8 with e | e | e | e | e | e | e | e | e <;> subst e <;> rcases le8 h9 with e | e | e | e | e | e | e | e | e <;> subst e <;> first | omega | (simp at *; omega)
  · rcases le8 h8 with e | e | e | e | e | e | e | e | e <;> subst e <;> simp at * <;> omega
theorem ex_cnd {lo hi : Int} {t : Nat} (b : Bd lo hi) (e : Ex lo hi t) : t ≤ 8 ∧ Cnd lo hi t := by
  obtain ⟨⟨h8, h1, h2⟩, e1, e2⟩ := e
  obtain ⟨b1, b2, b3⟩ := b
  have h3 : t = 0 ∨ 15 < Dd lo hi (t - 1) := by
    rcases Nat.eq_zero_or_pos t with e | e
    · exact .inl e
    · exact .inr (h2 _ (by omega))
  clear h2
  refine ⟨h8, ?_⟩
  unfold Cnd Dd at *
  rcases le8 h8 with e | e | e | e | e | e | e | e | e <;> subst e <;> simp at * <;> omega

theorem made_cnd {r c : Int} {s : Nat} (h8 : s ≤ 8) (r0 : 0 ≤ r) (r1 : r < 4096 / 2 ^ s - c + 1) (c1 : 1 ≤ c) (c2 : c ≤ 16) (c3 : 9 ≤ c ∨ s = 0) : Bd (r * 2 ^ s) (r * 2 ^ s + c * 2 ^ s) ∧ Cnd (r * 2 ^ s) (r * 2 ^ s + c * 2 ^ s) s := by
  unfold Bd Cnd
  rcases le8 h8 with e | e | e | e | e | e | e | e | e <;> subst e <;> simp at * <;> omega
theorem made_many {c : Int} {s : Nat} (h8 : s ≤ 8) (c1 : 1 ≤ c) (c2 : c ≤ 16) : 0 < 4096 / 2 ^ s - c + 1 ∧ 4096 / 2 ^ s - c + 1 < 1073741824 := by
  rcases le8 h8 with e | e | e | e | e | e | e | e | e <;> subst e <;> simp <;> omega

theorem ext_str {x y : Str} (h : x.cps.toList = y.cps.toList) : x = y := by
  cases x; cases y
  simp only at h
  rw [Array.toList_inj.mp h]
theorem rcs_ext {r : Str} (h : (rcs (hasR r) 9).map V.str = signs r) : r = rtx (hasR r) := by
  refine ext_str ?_
  rw [rtx_codes]
  unfold signs rcs at h
  rw [List.map_map] at h
  have e1 : List.map (V.str ∘ fun k => one (code k)) (List.filter (hasR r) (List.range 9)) = ((List.filter (hasR r) (List.range 9)).map code).map fun c => V.str (one c) := by
    rw [List.map_map]; rfl
  rw [e1] at h
  refine ((List.map_inj_right ?_).mp h).symm
  intro a b e
  have e3 : (#[a] : Array Nat) = #[b] := congrArg Str.cps (V.str.inj e)
  simpa using e3
theorem rcs_sig {r : Str} (h : r = rtx (hasR r)) : (rcs (hasR r) 9).map V.str = signs r := by
  have e : signs r = signs (rtx (hasR r)) := by rw [← h]
  rw [e]
  unfold signs rcs
  rw [rtx_codes, List.map_map, List.map_map]; rfl
theorem lay_strs : ∀ l : List Str, (∀ x ∈ l, PyData.strOk x = true) → PyData.canLay0 (.list (l.map .str)) = true := by
  intro l h
  rw [PyData.canLay0]
  induction l with
  | nil => simp [PyData.canLayAll0]
  | cons x l ih =>
    simp only [List.map_cons, PyData.canLayAll0, PyData.canLay0, Bool.and_eq_true]
    exact ⟨h x (by simp), ih fun y hy => h y (by simp [hy])⟩
theorem depth_strs : ∀ l : List Str, PyData.depth (.list (l.map .str)) ≤ 1 := by
  intro l
  rw [PyData.depth]
  have : PyData.depthAll (l.map .str) = 0 := by
    induction l with
    | nil => simp [PyData.depthAll]
    | cons x l ih => simp only [List.map_cons, PyData.depthAll, ih]; simp [PyData.depth]
  omega
theorem shaped_strs {l : List Str} (h : ∀ x ∈ l, PyData.strOk x = true) : SeqAt.shaped (.list (l.map .str)) = true := by
  unfold SeqAt.shaped
  rw [lay_strs l h, Bool.true_and]
  have := depth_strs l
  exact decide_eq_true (by omega)
theorem dp_txts {K : PySem.W.Frag} {H : Hp} {p : Addr} {l : List Str} (h : H p = some (.lst (l.map V.str))) : Dp K H (.ref p) (.list (l.map .str)) := by
  refine .lst (.of h) ?_
  clear h
  induction l with
  | nil => exact .nil
  | cons x l ih => exact .cons (.str x) ih
theorem eqv_strs {l m : List Str} : PyData.eqv (.list (l.map .str)) (.list (m.map .str)) = true ↔ l = m := by
  rw [PyData.eqv]
  induction l generalizing m with
  | nil => cases m <;> simp [PyData.eqvAll]
  | cons x l ih =>
    cases m with
    | nil => simp [PyData.eqvAll]
    | cons y m =>
      simp only [List.map_cons, PyData.eqvAll, Bool.and_eq_true, List.cons.injEq, ih]
      simp [PyData.eqv]
theorem signs_strs (z : Str) : signs z = (z.cps.toList.map one).map V.str := by unfold signs one; rw [List.map_map]; rfl
theorem ok_signs {z : Str} (h : PyData.strOk z = true) : ∀ x ∈ z.cps.toList.map one, PyData.strOk x = true := by
  intro x hx
  obtain ⟨c, hc, rfl⟩ := List.mem_map.mp hx
  unfold PyData.strOk at h ⊢
  rw [Array.all_eq_true_iff_forall_mem] at h
  have := h c (by simpa using hc)
  unfold one
  simpa using this
theorem code_small : ∀ k, k < 9 → code k < 1114112 := by decide
theorem ok_rcs (p : Nat → Bool) : ∀ x ∈ rcs p 9, PyData.strOk x = true := by
  intro x hx
  unfold rcs at hx
  obtain ⟨k, hk, rfl⟩ := List.mem_map.mp hx
  have k9 := List.mem_range.mp (List.mem_filter.mp hk).1
  have := code_small k k9
  unfold PyData.strOk one
  simpa using this

structure Bt (a f R : Addr) (x y lo hi at' : Int) (r : Str) (kd : Int) (H H1 : Hp) : Prop where
  ff : H1 f = some (.tup [.int lo, .int hi, .int at', .str r, .int kd])
  fR : H1 R = some (.tup [.int at', .str r, .int kd])
  P : Pool H1 a x y
  B : But a H H1
theorem Bt.go {a f R : Addr} {x y lo hi at' : Int} {r : Str} {kd : Int} {H H1 H2 : Hp} (t : Bt a f R x y lo hi at' r kd H H1) (s : Same H1 H2) : Bt a f R x y lo hi at' r kd H H2 :=
  ⟨s _ _ t.ff, s _ _ t.fR, t.P.same s, t.B.trans (But.of s)⟩
theorem Thing.go {K : PySem.W.Frag} {a : Addr} {H H' : Hp} {v : V} (t : Thing K (hide a H) v) (s : Same H H') : Thing K (hide a H') v := t.same (hide_but (But.of s))
theorem Leafy.go {K : PySem.W.Frag} {a : Addr} {H H' : Hp} {v : V} (t : Leafy K (hide a H) v) (s : Same H H') : Leafy K (hide a H') v := t.same (hide_but (But.of s))
theorem sok_of {s : Str} (h : (PyData.strOk s && decide (s.cps.size ≤ 100)) = true) : Sok s := by
  rw [Bool.and_eq_true] at h
  exact ⟨h.1, of_decide_eq_true h.2⟩
theorem lnil {P : V → Prop} : ∀ x ∈ ([] : List V), P x := fun _ h => nomatch h
theorem lcons {P : V → Prop} {v : V} {xs : List V} (h : P v) (t : ∀ x ∈ xs, P x) : ∀ x ∈ v :: xs, P x := fun x hx => by
  rcases List.mem_cons.mp hx with z | z
  · rw [z]; exact h
  · exact t x z
local macro_rules | `(tactic| walk_at "leafs") => `(tactic| first | exact lnil | (refine lcons ?hd ?tl; (case hd => first | exact leafy_int (small40 (by omega) (by omega)) | exact leafy_str (by assumption) | exact leafy_none | assumption); (case tl => walk_at "leafs")))

theorem five {xs : List V} {a b c d e : V} (h : F5 [a, b, c, d, e]) : ∃ lo hi at' r kd, a = V.int lo ∧ b = V.int hi ∧ c = V.int at' ∧ d = V.str r ∧ e = V.int kd ∧ Bd lo hi ∧ (∃ s, Ex lo hi s) ∧ OneW r := by
  obtain ⟨lo, hi, a', r, kd, ex, b1, b2, b3, b4, b5, b6, b7, b8⟩ := h
  injection ex with e1 ex
  injection ex with e2 ex
  injection ex with e3 ex
  injection ex with e4 ex
  injection ex with e5 ex
  exact ⟨lo, hi, a', r, kd, e1, e2, e3, e4, e5, b1, b2, b8⟩
theorem nf0 : ¬ F5 [] := by rintro ⟨lo, hi, a, r, kd, ex, _⟩; cases ex
theorem nf6 {a b c d e f : V} : ¬ F5 [a, b, c, d, e, f] := by rintro ⟨lo, hi, a, r, kd, ex, _⟩; cases ex
theorem rx_two : ¬ OneW (Str.ofString "rx") := by unfold OneW; decide +kernel
theorem nfrx {a b c e : V} : ¬ F5 [a, b, c, .str (Str.ofString "rx"), e] := fun h => by
  obtain ⟨lo, hi, at', r, kd, e1, e2, e3, e4, e5, h1, h2, h3⟩ := five (xs := []) h
  cases e4
  exact rx_two h3
theorem nf17 {c d e : V} : ¬ F5 [.int 0, .int 17, c, d, e] := fun h => by
  obtain ⟨lo, hi, at', r, kd, e1, e2, e3, e4, e5, h1, ⟨s, h2⟩, h3⟩ := five (xs := []) h
  cases e1; cases e2
  obtain ⟨⟨h8, d1, d2⟩, x1, x2⟩ := h2
  clear d2
  unfold Dd at d1
  rcases le8 h8 with z | z | z | z | z | z | z | z | z <;> subst z <;> simp at * <;> omega
theorem kds {H : Hp} {xs : List V} (l : ∀ x ∈ xs, Kd H x) {H' : Hp} (s : Same H H') : ∀ x ∈ xs, Kd H' x := fun x hx => (l x hx).same s

def topS (i : Nat) : Stmt := PySem.Challenge.pw_sealedreach_k03_no_fields.main.body.getD i (.Pass ⟨0, 0, 0, 0⟩)
abbrev s_is_whole : Stmt := topS 5
abbrev s_are_bounds : Stmt := topS 11
abbrev s_look_at_bounds : Stmt := topS 12
abbrev s__steps_over : Stmt := topS 16
abbrev s_in_bits : Stmt := topS 15
abbrev s_least_bounds : Stmt := topS 14
abbrev s_is_exact : Stmt := topS 13
abbrev s__has_some : Stmt := topS 36
abbrev s__lead_one_way : Stmt := topS 35
abbrev s_bits_of_rights : Stmt := topS 33
abbrev s_field : Stmt := topS 30
abbrev s_rights_in : Stmt := topS 32
abbrev s__tell : Stmt := topS 34
abbrev s_bounds_in : Stmt := topS 31
abbrev s_fields_of : Stmt := topS 28
abbrev s_is_rights : Stmt := topS 27
abbrev s__are_fields : Stmt := topS 37
abbrev s_word_of : Stmt := topS 29
abbrev s__law_take : Stmt := topS 40
abbrev s__law_pool : Stmt := topS 39
abbrev s__law_told : Stmt := topS 45
abbrev s__law_is_refused : Stmt := topS 46
abbrev s__law_whole : Stmt := topS 42
abbrev s__law_good : Stmt := topS 41
abbrev s__law_exact : Stmt := topS 43
abbrev s__law_are_fields : Stmt := topS 44
abbrev s__law_bounds : Stmt := topS 47
abbrev s__law_bent : Stmt := topS 48
abbrev s_law : Stmt := topS 49
theorem sc_is_whole : FnScope ["thing", "least", "most"] ["thing", "least", "most"] (defScope s_is_whole) := ⟨rfl, rfl, rfl, by decide +kernel, rfl, by decide +kernel, by decide +kernel⟩
theorem sc_are_bounds : FnScope ["low", "high"] ["low", "high"] (defScope s_are_bounds) := ⟨rfl, rfl, rfl, by decide +kernel, rfl, by decide +kernel, by decide +kernel⟩
theorem sc_look_at_bounds : FnScope ["low", "high"] ["low", "high"] (defScope s_look_at_bounds) := ⟨rfl, rfl, rfl, by decide +kernel, rfl, by decide +kernel, by decide +kernel⟩
theorem sc__steps_over : FnScope ["low", "high", "step", "first", "behind"] ["low", "high", "step"] (defScope s__steps_over) := ⟨rfl, rfl, rfl, by decide +kernel, rfl, by decide +kernel, by decide +kernel⟩
theorem sc_in_bits : FnScope ["low", "high", "step"] ["low", "high"] (defScope s_in_bits) := ⟨rfl, rfl, rfl, by decide +kernel, rfl, by decide +kernel, by decide +kernel⟩
theorem sc_least_bounds : FnScope ["low", "high", "step", "first", "count"] ["low", "high"] (defScope s_least_bounds) := ⟨rfl, rfl, rfl, by decide +kernel, rfl, by decide +kernel, by decide +kernel⟩
theorem sc_is_exact : FnScope ["low", "high"] ["low", "high"] (defScope s_is_exact) := ⟨rfl, rfl, rfl, by decide +kernel, rfl, by decide +kernel, by decide +kernel⟩
theorem sc__has_some : FnScope ["rights", "group", "sign"] ["rights", "group"] (defScope s__has_some) := ⟨rfl, rfl, rfl, by decide +kernel, rfl, by decide +kernel, by decide +kernel⟩
theorem sc__lead_one_way : FnScope ["rights", "group"] ["rights"] (defScope s__lead_one_way) := ⟨rfl, rfl, rfl, by decide +kernel, rfl, by decide +kernel, by decide +kernel⟩
theorem sc_bits_of_rights : FnScope ["rights", "k", "sign"] ["rights"] (defScope s_bits_of_rights) := ⟨rfl, rfl, rfl, by decide +kernel, rfl, by decide +kernel, by decide +kernel⟩
theorem sc_field : FnScope ["bits", "place", "lowest", "many"] ["bits", "place"] (defScope s_field) := ⟨rfl, rfl, rfl, by decide +kernel, rfl, by decide +kernel, by decide +kernel⟩
theorem sc_rights_in : FnScope ["bits", "number", "k", "sign"] ["bits"] (defScope s_rights_in) := ⟨rfl, rfl, rfl, by decide +kernel, rfl, by decide +kernel, by decide +kernel⟩
theorem sc__tell : FnScope ["bits", "step", "count"] ["bits"] (defScope s__tell) := ⟨rfl, rfl, rfl, by decide +kernel, rfl, by decide +kernel, by decide +kernel⟩
theorem sc_bounds_in : FnScope ["bits", "step", "first"] ["bits"] (defScope s_bounds_in) := ⟨rfl, rfl, rfl, by decide +kernel, rfl, by decide +kernel, by decide +kernel⟩
theorem sc_fields_of : FnScope ["word", "bits", "low", "high"] ["word"] (defScope s_fields_of) := ⟨rfl, rfl, rfl, by decide +kernel, rfl, by decide +kernel, by decide +kernel⟩
theorem sc_is_rights : FnScope ["thing", "sign"] ["thing"] (defScope s_is_rights) := ⟨rfl, rfl, rfl, by decide +kernel, rfl, by decide +kernel, by decide +kernel⟩
theorem sc__are_fields : FnScope ["thing", "low", "high", "at", "rights", "kind"] ["thing"] (defScope s__are_fields) := ⟨rfl, rfl, rfl, by decide +kernel, rfl, by decide +kernel, by decide +kernel⟩
theorem sc_word_of : FnScope ["fields", "marked", "low", "high", "at", "rights", "kind", "step", "first", "count", "places", "worths", "place", "worth"] ["fields", "marked"] (defScope s_word_of) := ⟨rfl, rfl, rfl, by decide +kernel, rfl, by decide +kernel, by decide +kernel⟩
theorem sc__law_take : FnScope ["_law_pool_here", "_law_many", "_law_found"] ["_law_pool_here", "_law_many"] (defScope s__law_take) := ⟨rfl, rfl, rfl, by decide +kernel, rfl, by decide +kernel, by decide +kernel⟩
theorem sc__law_pool : FnScope ["_law_script", "_law_k", "_law_cell", "_law_great", "_law_mixed"] ["_law_script", "_law_k"] (defScope s__law_pool) := ⟨rfl, rfl, rfl, by decide +kernel, rfl, by decide +kernel, by decide +kernel⟩
theorem sc__law_told : FnScope ["_law_thing", "_law_mark", "_law_found", "e"] ["_law_thing", "_law_mark"] (defScope s__law_told) := ⟨rfl, rfl, rfl, by decide +kernel, rfl, by decide +kernel, by decide +kernel⟩
theorem sc__law_is_refused : FnScope ["_law_thing", "_law_mark"] ["_law_thing", "_law_mark"] (defScope s__law_is_refused) := ⟨rfl, rfl, rfl, by decide +kernel, rfl, by decide +kernel, by decide +kernel⟩
theorem sc__law_whole : FnScope ["_law_thing", "_law_low", "_law_high"] ["_law_thing", "_law_low", "_law_high"] (defScope s__law_whole) := ⟨rfl, rfl, rfl, by decide +kernel, rfl, by decide +kernel, by decide +kernel⟩
theorem sc__law_good : FnScope ["_law_rights", "_law_sign", "_law_some", "_law_groups"] ["_law_rights"] (defScope s__law_good) := ⟨rfl, rfl, rfl, by decide +kernel, rfl, by decide +kernel, by decide +kernel⟩
theorem sc__law_exact : FnScope ["_law_low", "_law_high", "_law_step", "_law_count"] ["_law_low", "_law_high"] (defScope s__law_exact) := ⟨rfl, rfl, rfl, by decide +kernel, rfl, by decide +kernel, by decide +kernel⟩
theorem sc__law_are_fields : FnScope ["_law_thing", "_law_low", "_law_high", "_law_at", "_law_rights", "_law_kind", "_law_sign"] ["_law_thing"] (defScope s__law_are_fields) := ⟨rfl, rfl, rfl, by decide +kernel, rfl, by decide +kernel, by decide +kernel⟩
theorem sc__law_bounds : FnScope ["_law_pool_here", "_law_step", "_law_count", "_law_low"] ["_law_pool_here"] (defScope s__law_bounds) := ⟨rfl, rfl, rfl, by decide +kernel, rfl, by decide +kernel, by decide +kernel⟩
theorem sc__law_bent : FnScope ["_law_pool_here", "_law_fields", "_law_odd", "_law_at", "_law_low", "_law_high", "_law_rest", "_law_some"] ["_law_pool_here", "_law_fields"] (defScope s__law_bent) := ⟨rfl, rfl, rfl, by decide +kernel, rfl, by decide +kernel, by decide +kernel⟩
theorem sc_law : FnScope ["_law_script", "_law_k", "_law_pool_here", "_law_rights", "_law_fields", "_law_thing", "_law_kept", "_law_mark", "_law_good_here"] ["_law_script"] (defScope s_law) := ⟨rfl, rfl, rfl, by decide +kernel, rfl, by decide +kernel, by decide +kernel⟩
abbrev si_NoFields : Stmt := inClass (topS 2) 0
theorem sci_NoFields : FnScope ["self", "text"] ["self", "text"] (defScope si_NoFields) := ⟨rfl, rfl, rfl, by decide +kernel, rfl, by decide +kernel, by decide +kernel⟩
structure Txt (K : PySem.W.Frag) (mg : Str → Option Value) : Prop where
  z_ValueError : mg "ValueError" = none
  z_abs : mg "abs" = none
  z_any : mg "any" = none
  z_bool : mg "bool" = none
  z_enumerate : mg "enumerate" = none
  z_int : mg "int" = none
  z_isinstance : mg "isinstance" = none
  z_len : mg "len" = none
  z_list : mg "list" = none
  z_max : mg "max" = none
  z_min : mg "min" = none
  z_range : mg "range" = none
  z_repr : mg "repr" = none
  z_str : mg "str" = none
  z_sum : mg "sum" = none
  z_tuple : mg "tuple" = none
  z_zip : mg "zip" = none
  c_AT : ∃ p, mg "AT" = some (.ref p) ∧ ∀ H, SqT K H p [.int 0, .int 12]
  c_CELLS : ∃ t, mg "CELLS" = some (.int 4096 t)
  c_COUNT_LESS_ONE : ∃ p, mg "COUNT_LESS_ONE" = some (.ref p) ∧ ∀ H, SqT K H p [.int 24, .int 4]
  c_FIRST : ∃ p, mg "FIRST" = some (.ref p) ∧ ∀ H, SqT K H p [.int 12, .int 12]
  c_GROUPS : ∃ p, mg "GROUPS" = some (.ref p) ∧ ∀ H, SqT K H p [.str (Str.ofString "rwlsn"), .str (Str.ofString "x"), .str (Str.ofString "co")]
  c_KIND : ∃ p, mg "KIND" = some (.ref p) ∧ ∀ H, SqT K H p [.int 41, .int 4]
  c_LEAST_COUNT : ∃ t, mg "LEAST_COUNT" = some (.int 9 t)
  c_RIGHTS : ∃ t, mg "RIGHTS" = some (.str (Str.ofString "rwlsnfxco") t)
  c_RIGHTS_BITS : ∃ p, mg "RIGHTS_BITS" = some (.ref p) ∧ ∀ H, SqT K H p [.int 32, .int 9]
  c_STEP : ∃ p, mg "STEP" = some (.ref p) ∧ ∀ H, SqT K H p [.int 28, .int 4]
  c_TOP_COUNT : ∃ t, mg "TOP_COUNT" = some (.int 16 t)
  c_TOP_KIND : ∃ t, mg "TOP_KIND" = some (.int 15 t)
  c_TOP_STEP : ∃ t, mg "TOP_STEP" = some (.int 8 t)
  k_NoFields : ∃ C, mg "NoFields" = some (.ref C) ∧ PySem.W.nsIn K mainGlobals "NoFields" = some (some (.ref C))
  x_NoFields_NoFields : ∀ C D, PySem.W.nsIn K mainGlobals "NoFields" = some (some (.ref C)) → PySem.W.nsIn K mainGlobals "NoFields" = some (some (.ref D)) → PySem.W.exmOne K (.ref C) (.ref D) = some true
  e_NoFields : ∀ C, PySem.W.nsIn K mainGlobals "NoFields" = some (some (.ref C)) → ErrC K C
  i_NoFields_ValueError : ∀ C, PySem.W.nsIn K mainGlobals "NoFields" = some (some (.ref C)) → PySem.W.kitOne K (.ref C) (.type "ValueError") = some true
section
variable {P : Program} {w : World} {K : PySem.W.Frag} {mg : Str → Option Value} {base : Heap}
theorem oki_NoFields {f C : Addr} {fd : FuncData} (F : Fun K "__init__" "NoFields.__init__" si_NoFields f fd) (T : OexC K C) (hno : PySem.W.findIn K (.ref C) "text" = some none) : FnOk P w K mg base CX0 1 f fd ["self", "text"] (spErr C "text") := by
  refine F.ok sci_NoFields (fun vs H Q E h => ?_) (fun cdv A outer s H vs Q E hr h => ?_)
  · obtain ⟨a, v, rfl, h1, q⟩ := h; rfl
  · obtain ⟨a, v, rfl, h1, q⟩ := h
    refine ⟨_, pss_one (ps_ost (pv 0) (pv 1)), ?_⟩
    exact ⟨_, rfl, _, rfl, a, C, rfl, T, hno, .inl ⟨h1, fun dx h2 h3 => q dx h2 h3⟩⟩

def sp_is_whole (K : PySem.W.Frag) : Sp := fun vs H Q _ => ∃ v l m, vs = [v, .int l, .int m] ∧ Kd H v ∧ ∀ b, (b = true ↔ ∃ n, v = .int n ∧ l ≤ n ∧ n ≤ m) → Q (.bl b) H
theorem ok_is_whole {f : Addr} {fd : FuncData} (F : Fun K "is_whole" "is_whole" s_is_whole f fd) (T : Txt K mg) : FnOk P w K mg base CX0 1 f fd ["thing", "least", "most"] (sp_is_whole K) := by
  refine F.ok sc_is_whole (fun vs H Q E h => ?_) (fun cdv A outer s H vs Q E hr h => ?_)
  · obtain ⟨v, l, m, rfl, hv, q⟩ := h; rfl
  · obtain ⟨v, l, m, rfl, hv, q⟩ := h
    refine ⟨_, (pss_one (ps_ret (pe_and (pe_callB call_isi (by rfl) T.z_isinstance (by decide +kernel) (pa_cons (pv 0) (pa_cons (pe_bltn (v := .ty "int") (by rfl) T.z_int (by decide +kernel) rfl) pa_nil))) (pe_and (pe_not (pe_callB call_isi (by rfl) T.z_isinstance (by decide +kernel) (pa_cons (pv 0) (pa_cons (pe_bltn (v := .ty "bool") (by rfl) T.z_bool (by decide +kernel) rfl) pa_nil)))) (pe_one (pe_chain op_le op_le (pv 1) (pv 0) (pv 2))))))), ?_⟩
    obtain ⟨t, ty, kt⟩ := hv.int? (K := K)
    refine ⟨_, rfl, _, _, t, _, isI v, rfl, .ty "int", ty, kt, isI v, rfl, ifb (fun e1 => ?_) (fun e1 => ?_)⟩
    · obtain ⟨t2, ty2, kt2⟩ := hv.bool? (K := K)
      refine ⟨_, rfl, _, _, t2, _, isB v, rfl, .ty "bool", ty2, kt2, isB v, rfl, !isB v, rfl, ifnb (fun e2 => ?_) (fun e2 => ?_)⟩
      · obtain ⟨n, rfl⟩ : ∃ n, v = .int n := by
          cases hv with
          | int i => exact ⟨i, rfl⟩
          | bl b => cases e2
          | _ => cases e1
        refine ⟨_, rfl, _, rfl, _, _, rfl, rfl, _, rfl, ifd (fun h1 => ?_) (fun h1 => ?_)⟩
        · refine ⟨_, rfl, _, _, rfl, rfl, q _ ?_⟩
          rw [decide_eq_true_iff]
          exact ⟨fun h => ⟨n, rfl, h1, h⟩, fun ⟨n', e, h3, h4⟩ => by cases e; exact h4⟩
        · refine q _ ⟨fun h => Bool.noConfusion h, fun ⟨n', e, h3, h4⟩ => by cases e; exact absurd h3 h1⟩
      · refine q _ ⟨fun h => Bool.noConfusion h, fun ⟨n', e, h3, h4⟩ => by cases e; cases e2⟩
    · refine q _ ⟨fun h => Bool.noConfusion h, fun ⟨n', e, h3, h4⟩ => by cases e; cases e1⟩

def sp_are_bounds (K : PySem.W.Frag) : Sp := fun vs H Q _ => ∃ v u, vs = [v, u] ∧ Kd H v ∧ Kd H u ∧ ∀ b, (b = true ↔ ∃ lo hi, v = .int lo ∧ u = .int hi ∧ Bd lo hi) → Q (.bl b) H
theorem ok_are_bounds {f : Addr} {fd : FuncData} (F : Fun K "are_bounds" "are_bounds" s_are_bounds f fd) (T : Txt K mg) (C_is_whole : Cal P w K mg base "is_whole" 1 ["thing", "least", "most"] (sp_is_whole K)) : FnOk P w K mg base CX0 2 f fd ["low", "high"] (sp_are_bounds K) := by
  obtain ⟨t_CELLS, hc_CELLS⟩ := T.c_CELLS
  refine F.ok sc_are_bounds (fun vs H Q E h => ?_) (fun cdv A outer s H vs Q E hr h => ?_)
  · obtain ⟨v, u, rfl, hv, hu, q⟩ := h; rfl
  · obtain ⟨v, u, rfl, hv, hu, q⟩ := h
    refine ⟨_, (pss_one (ps_ret (pe_and (pe_cal C_is_whole (hr.mono (by decide)) (pa_cons (pv 0) (pa_cons pe_int (pa_cons (pe_glob (v := .int 4096) (by rfl) hc_CELLS ⟨_, rfl⟩) pa_nil)))) (pe_and (pe_cal C_is_whole (hr.mono (by decide)) (pa_cons (pv 1) (pa_cons pe_int (pa_cons (pe_glob (v := .int 4096) (by rfl) hc_CELLS ⟨_, rfl⟩) pa_nil)))) (pe_one (pe_cmpR op_lt (pv 0) (pv 1) (nomark _))))))), ?_⟩
    refine ⟨_, rfl, _, _, _, rfl, hv, fun b hb => ⟨_, rfl, ifb (fun e => ?_) (fun e => ?_)⟩⟩
    · refine ⟨_, rfl, _, _, _, rfl, hu, fun c hc => ⟨_, rfl, ifb (fun e2 => ?_) (fun e2 => ?_)⟩⟩
      · obtain ⟨lo, rfl, l1, l2⟩ := hb.mp e
        obtain ⟨hi, rfl, l3, l4⟩ := hc.mp e2
        refine ⟨_, rfl, _, rfl, _, _, rfl, rfl, q _ ?_⟩
        rw [decide_eq_true_iff]
        exact ⟨fun h => ⟨lo, hi, rfl, rfl, l1, h, l4⟩, fun ⟨a, c, e3, e4, h⟩ => by cases e3; cases e4; exact h.2.1⟩
      · refine q _ ⟨fun h => Bool.noConfusion h, fun ⟨a, c, e3, e4, h⟩ => ?_⟩
        obtain ⟨h1, h2, h3⟩ := h
        rw [hc.mpr ⟨c, e4, by omega, h3⟩] at e2; cases e2
    · refine q _ ⟨fun h => Bool.noConfusion h, fun ⟨a, c, e3, e4, h⟩ => ?_⟩
      obtain ⟨h1, h2, h3⟩ := h
      rw [hb.mpr ⟨a, e3, h1, by omega⟩] at e; cases e

def sp_look_at_bounds (K : PySem.W.Frag) : Sp := fun vs H Q _ => ∃ lo hi, vs = [.int lo, .int hi] ∧ Bd lo hi ∧ Q .non H
theorem ok_look_at_bounds {f : Addr} {fd : FuncData} (F : Fun K "look_at_bounds" "look_at_bounds" s_look_at_bounds f fd) (T : Txt K mg) (C_are_bounds : Cal P w K mg base "are_bounds" 2 ["low", "high"] (sp_are_bounds K)) : FnOk P w K mg base CX0 3 f fd ["low", "high"] (sp_look_at_bounds K) := by
  refine F.ok sc_look_at_bounds (fun vs H Q E h => ?_) (fun cdv A outer s H vs Q E hr h => ?_)
  · obtain ⟨lo, hi, rfl, hb, q⟩ := h; rfl
  · obtain ⟨lo, hi, rfl, hb, q⟩ := h
    refine ⟨_, (pss_one (ps_if (pt_not (pt_val (pe_cal C_are_bounds (hr.mono (by decide)) (pa_cons (pv 0) (pa_cons (pv 1) pa_nil))))) (pss_one ps_never) pss_nil)), ?_⟩
    refine ⟨_, rfl, _, rfl, .int lo, .int hi, rfl, .int _, .int _, fun b hb2 => ⟨_, rfl, ?_⟩⟩
    have e : b = true := hb2.mpr ⟨lo, hi, rfl, rfl, hb⟩
    subst e
    exact q

def sp__steps_over (K : PySem.W.Frag) : Sp := fun vs H Q _ => ∃ (lo hi : Int) (s : Nat), vs = [.int lo, .int hi, .int s] ∧ s ≤ 1000 ∧ Q (.int (Dd lo hi s + 1)) H
theorem ok__steps_over {f : Addr} {fd : FuncData} (F : Fun K "_steps_over" "_steps_over" s__steps_over f fd) (T : Txt K mg) : FnOk P w K mg base CX0 1 f fd ["low", "high", "step"] (sp__steps_over K) := by
  refine F.ok sc__steps_over (fun vs H Q E h => ?_) (fun cdv A outer s H vs Q E hr h => ?_)
  · obtain ⟨lo, hi, s, rfl, hs, q⟩ := h; rfl
  · obtain ⟨lo, hi, s, rfl, hs, q⟩ := h
    refine ⟨_, (pss_cons (ps_set (i := 3) sc__steps_over.nd rfl (.inl rfl) (pe_op op_shr (pv 0) (pv 2)))
      (pss_cons (ps_set (i := 4) sc__steps_over.nd rfl (.inl rfl) (pe_op op_shr (pe_op op_sub (pe_op op_add (pv 1) (pe_op op_shl pe_int (pv 2))) pe_int) (pv 2)))
      (pss_one (ps_ret (pe_op op_sub (pv 4) (pv 3)))))), ?_⟩
    walk_at "g"
    rw [← over_eq] at q
    exact q

def sp_in_bits (K : PySem.W.Frag) : Sp := fun vs H Q _ => ∃ lo hi, vs = [.int lo, .int hi] ∧ Bd lo hi ∧ ∀ (s : Nat) p, StepIs lo hi s → H p = none → Q (.ref p) (upd H p (.tup [.int s, .int (lo / 2 ^ s), .int (Dd lo hi s + 1)]))
theorem ok_in_bits {f : Addr} {fd : FuncData} (F : Fun K "in_bits" "in_bits" s_in_bits f fd) (T : Txt K mg) (C_look_at_bounds : Cal P w K mg base "look_at_bounds" 3 ["low", "high"] (sp_look_at_bounds K)) (C__steps_over : Cal P w K mg base "_steps_over" 1 ["low", "high", "step"] (sp__steps_over K)) : FnOk P w K mg base CX0 4 f fd ["low", "high"] (sp_in_bits K) := by
  obtain ⟨t_TOP_COUNT, hc_TOP_COUNT⟩ := T.c_TOP_COUNT
  refine F.ok sc_in_bits (fun vs H Q E h => ?_) (fun cdv A outer s H vs Q E hr h => ?_)
  · obtain ⟨lo, hi, rfl, hb, q⟩ := h; rfl
  · obtain ⟨lo, hi, rfl, hb, q⟩ := h
    refine ⟨_, (pss_cons (ps_expr (pe_cal C_look_at_bounds (hr.mono (by decide)) (pa_cons (pv 0) (pa_cons (pv 1) pa_nil))))
      (pss_cons (ps_set (i := 2) sc_in_bits.nd rfl (.inl rfl) pe_int)
      (pss_cons (ps_while PassesOwn.never (pt_cmpR op_gt (pe_cal C__steps_over (hr.mono (by decide)) (pa_cons (pv 0) (pa_cons (pv 1) (pa_cons (pv 2) pa_nil)))) (pe_glob (v := .int 16) (by rfl) hc_TOP_COUNT ⟨_, rfl⟩) (nomark _)) (pss_one (ps_aug (i := 2) sc_in_bits.nd rfl (.inl rfl) pe_int ip_add)))
      (pss_one (ps_ret (pe_tup (pa_cons (pv 2) (pa_cons (pe_op op_shr (pv 0) (pv 2)) (pa_cons (pe_cal C__steps_over (hr.mono (by decide)) (pa_cons (pv 0) (pa_cons (pv 1) (pa_cons (pv 2) pa_nil)))) pa_nil))))))))), ?_⟩
    refine ⟨_, rfl, _, rfl, lo, hi, rfl, hb, ?_⟩
    refine ⟨fun m σ H' => ∃ s : Nat, σ = [some (.int lo), some (.int hi), some (.int s)] ∧ H' = H ∧ s ≤ 8 ∧ m = 8 - s ∧ ∀ t, t < s → 15 < Dd lo hi t, ⟨8, 0, rfl, rfl, by omega, rfl, fun t ht => by omega⟩, ?_⟩
    rintro m σ H' ⟨s, rfl, rfl, h8, em, hbl⟩
    refine ⟨_, rfl, _, rfl, _, rfl, lo, hi, s, rfl, by omega, ?_⟩
    refine ⟨_, _, rfl, rfl, _, rfl, ifd (fun c => ?_) (fun c => ?_)⟩
    · have l8 := lt8 hb (by omega) h8
      refine ⟨_, fun _ _ h => h, ?_⟩
      refine ⟨_, rfl, _, _, rfl, rfl, 8 - (s + 1), by omega, s + 1, rfl, rfl, by omega, rfl, fun t ht => ?_⟩
      rcases Nat.lt_or_ge t s with d | d
      · exact hbl t d
      · have : t = s := by omega
        subst this; omega
    · refine ⟨_, rfl, _, rfl, _, rfl, _, _, rfl, rfl, by omega, ?_⟩
      refine ⟨_, rfl, _, rfl, _, rfl, lo, hi, s, rfl, by omega, ?_⟩
      refine ⟨sz (by simp), fun p hp => ?_⟩
      exact q s p ⟨h8, by omega, hbl⟩ hp

def sp_least_bounds (K : PySem.W.Frag) : Sp := fun vs H Q _ => ∃ lo hi, vs = [.int lo, .int hi] ∧ Bd lo hi ∧ ∀ (s : Nat) p H', StepIs lo hi s → Same H H' → H p = none → H' p = some (.tup [.int (lo / 2 ^ s * 2 ^ s), .int (((hi - 1) / 2 ^ s + 1) * 2 ^ s)]) → Q (.ref p) H'
theorem ok_least_bounds {f : Addr} {fd : FuncData} (F : Fun K "least_bounds" "least_bounds" s_least_bounds f fd) (T : Txt K mg) (C_in_bits : Cal P w K mg base "in_bits" 4 ["low", "high"] (sp_in_bits K)) : FnOk P w K mg base CX0 5 f fd ["low", "high"] (sp_least_bounds K) := by
  refine F.ok sc_least_bounds (fun vs H Q E h => ?_) (fun cdv A outer s H vs Q E hr h => ?_)
  · obtain ⟨lo, hi, rfl, hb, q⟩ := h; rfl
  · obtain ⟨lo, hi, rfl, hb, q⟩ := h
    refine ⟨_, (pss_cons (ps_asg (pe_cal C_in_bits (hr.mono (by decide)) (pa_cons (pv 0) (pa_cons (pv 1) pa_nil))) (pg_tup rfl (pgs_cons (pg_name (i := 2) sc_least_bounds.nd rfl (.inl rfl)) (pgs_cons (pg_name (i := 3) sc_least_bounds.nd rfl (.inl rfl)) (pgs_cons (pg_name (i := 4) sc_least_bounds.nd rfl (.inl rfl)) pgs_nil)))))
      (pss_one (ps_ret (pe_tup (pa_cons (pe_op op_shl (pv 3) (pv 2)) (pa_cons (pe_op op_shl (pe_op op_add (pv 3) (pv 4)) (pv 2)) pa_nil)))))), ?_⟩
    refine ⟨_, rfl, _, rfl, lo, hi, rfl, hb, fun s p hs hp => ?_⟩
    refine ⟨p, _, rfl, .of upd_same, rfl, _, _, rfl, _, _, rfl, _, _, rfl, rfl, ?_⟩
    have h8 := hs.1
    refine ⟨_, rfl, _, rfl, _, _, rfl, rfl, bc hb h8, ?_⟩
    refine ⟨_, rfl, _, rfl, _, _, rfl, rfl, _, rfl, _, _, rfl, rfl, bc2 hb hs, sz (by simp), fun p2 hp2 => ?_⟩
    have n : p ≠ p2 := ne_of_none upd_same hp2
    refine q s p2 _ hs (sameN (same_new hp) hp2) ?_ ?_
    · exact Same.free (same_new hp) hp2
    · rw [upd_same, first_over]; rfl

def sp_is_exact (K : PySem.W.Frag) : Sp := fun vs H Q _ => ∃ lo hi, vs = [.int lo, .int hi] ∧ Bd lo hi ∧ ∀ b H', Same H H' → (b = true ↔ ∃ s, Ex lo hi s) → Q (.bl b) H'
theorem ok_is_exact {f : Addr} {fd : FuncData} (F : Fun K "is_exact" "is_exact" s_is_exact f fd) (T : Txt K mg) (C_least_bounds : Cal P w K mg base "least_bounds" 5 ["low", "high"] (sp_least_bounds K)) : FnOk P w K mg base CX0 6 f fd ["low", "high"] (sp_is_exact K) := by
  refine F.ok sc_is_exact (fun vs H Q E h => ?_) (fun cdv A outer s H vs Q E hr h => ?_)
  · obtain ⟨lo, hi, rfl, hb, q⟩ := h; rfl
  · obtain ⟨lo, hi, rfl, hb, q⟩ := h
    refine ⟨_, (pss_one (ps_ret (pe_cmpR (r := rEqD K) (op_eqD hr.units) (pe_cal C_least_bounds (hr.mono (by decide)) (pa_cons (pv 0) (pa_cons (pv 1) pa_nil))) (pe_tup (pa_cons (pv 0) (pa_cons (pv 1) pa_nil))) (nomark _)))), ?_⟩
    refine ⟨_, rfl, _, rfl, lo, hi, rfl, hb, fun s p H1 hs sm hp hp1 => ?_⟩
    refine ⟨_, rfl, _, rfl, sz (by simp), fun p2 hp2 => ?_⟩
    have n : p ≠ p2 := ne_of_none hp1 hp2
    refine ⟨_, _, dp2 (by walk_at "at"), dp2 upd_same, rfl, rfl, ?_⟩
    refine q _ _ (sameN sm hp2) ?_
    rw [t2_eqv]
    constructor
    · intro e; exact ⟨s, hs, e.1, e.2⟩
    · rintro ⟨t, ht, e1, e2⟩
      have : t = s := ht.uniq hs
      subst this
      exact ⟨e1, e2⟩

def sp__has_some (K : PySem.W.Frag) : Sp := fun vs H Q _ => ∃ r g : Str, vs = [.str r, .str g] ∧ g.cps.size ≤ 9 ∧ ∀ H', Same H H' → Q (.bl (hasG r g)) H'
theorem ok__has_some {f : Addr} {fd : FuncData} (F : Fun K "_has_some" "_has_some" s__has_some f fd) (T : Txt K mg) : FnOk P w K mg base CX0 1 f fd ["rights", "group"] (sp__has_some K) := by
  refine F.ok sc__has_some (fun vs H Q E h => ?_) (fun cdv A outer s H vs Q E hr h => ?_)
  · obtain ⟨r, g, rfl, hg, q⟩ := h; rfl
  · obtain ⟨r, g, rfl, hg, q⟩ := h
    refine ⟨_, (pss_one (ps_ret (pe_callB (cr_any rfl) (by rfl) T.z_any (by decide +kernel) (pa_cons (pe_lc (own := [("sign", 2)]) rfl sc__has_some.nd (pi_str (pv 1)) (blkOk_by (own := [("sign", 2)]) (N := ["rights", "group", "sign"]) (sc := defScope s__has_some) (by decide +kernel)) (fun _ _ _ _ _ => (pg_name (i := 2) sc__has_some.nd rfl (.inl rfl))) (fun _ _ _ _ _ => pts_nil) (fun _ _ _ _ _ => (pe_cmpR op_in_sign (pv 2) (pv 0) (by rfl)))) pa_nil)))), ?_⟩
    refine ⟨_, rfl, g, rfl, fun D hD => ?_⟩
    refine lc_it (walk_str (z := g)) (fun i H' => Same H H' ∧ H' D = some (.lst (((g.cps.toList.take i).map fun c => decide (c ∈ r.cps.toList)).map V.bl))) ⟨same_new hD, upd_same⟩ (fun _ _ _ _ => trivial) ?_ ?_
    · rintro i x H1 H2 hi ⟨sm, hl⟩ ⟨rfl, c, hc, rfl⟩
      refine ⟨rfl, ?_⟩
      refine ⟨_, rfl, _, rfl, c, r, rfl, rfl, _, hl, ?_, ?_, ?_⟩
      · rw [List.length_map, List.length_map, List.length_take]; exact szn (by omega)
      · exact fun b o e => by
          have n : b ≠ D := ne_of_none e hD
          rw [upd_ne n]; exact sm b o e
      · rw [upd_same, take_any hi, List.map_append]
        have e : g.cps[i] = c := by
          have := Array.getElem?_eq_getElem hi
          rw [this] at hc
          exact Option.some.inj hc
        rw [e]; rfl
    · rintro H1 ⟨sm, hl⟩
      refine ⟨D, _, rfl, .of hl, ?_⟩
      have e : (((g.cps.toList.take g.cps.size).map fun c => decide (c ∈ r.cps.toList)).any id) = hasG r g := by
        rw [show g.cps.size = g.cps.toList.length by simp, List.take_length]
        unfold hasG
        rw [List.any_map]; rfl
      exact qb (q _ sm) e

def sp__lead_one_way (K : PySem.W.Frag) : Sp := fun vs H Q _ => ∃ r : Str, vs = [.str r] ∧ ∀ H', Same H H' → Q (.bl (decide (([G0, G1, G2].filter (hasG r)).length ≤ 1))) H'
theorem ok__lead_one_way {f : Addr} {fd : FuncData} (F : Fun K "_lead_one_way" "_lead_one_way" s__lead_one_way f fd) (T : Txt K mg) (C__has_some : Cal P w K mg base "_has_some" 1 ["rights", "group"] (sp__has_some K)) : FnOk P w K mg base CX0 2 f fd ["rights"] (sp__lead_one_way K) := by
  obtain ⟨p_GROUPS, hc_GROUPS, hs_GROUPS⟩ := T.c_GROUPS
  refine F.ok sc__lead_one_way (fun vs H Q E h => ?_) (fun cdv A outer s H vs Q E hr h => ?_)
  · obtain ⟨r, rfl, q⟩ := h; rfl
  · obtain ⟨r, rfl, q⟩ := h
    refine ⟨_, (pss_one (ps_ret (pe_cmpR op_le (pe_callB call_len_seq (by rfl) T.z_len (by decide +kernel) (pa_cons (pe_lc (own := [("group", 1)]) rfl sc__lead_one_way.nd (pi_tup (pe_glob (v := .ref p_GROUPS) (by rfl) hc_GROUPS rfl)) (blkOk_by (own := [("group", 1)]) (N := ["rights", "group"]) (sc := defScope s__lead_one_way) (by decide +kernel)) (fun _ _ _ _ _ => (pg_name (i := 1) sc__lead_one_way.nd rfl (.inl rfl))) (fun _ _ _ _ _ => (pts_one (pt_val (pe_cal C__has_some (hr.mono (by decide)) (pa_cons (pv 0) (pa_cons (pv 1) pa_nil)))))) (fun _ _ _ _ _ => (pv 1))) pa_nil)) pe_int (nomark _)))), ?_⟩
    refine ⟨p_GROUPS, rfl, ⟨_, hs_GROUPS _⟩, fun D hD => ?_⟩
    refine lc_it (walk_tup (xs := [.str G0, .str G1, .str G2])) (fun i H' => Same H H' ∧ H' D = some (.lst ((([G0, G1, G2].take i).filter (hasG r)).map V.str))) ⟨same_new hD, upd_same⟩ (fun _ _ _ _ => hs_GROUPS _) ?_ ?_
    · rintro i x H1 H2 hi ⟨sm, hl⟩ ⟨rfl, hx⟩
      obtain ⟨g, hg, rfl⟩ : ∃ g, [G0, G1, G2][i]? = some g ∧ x = V.str g := by
        have : i = 0 ∨ i = 1 ∨ i = 2 := by simp at hi; omega
        rcases this with e | e | e <;> subst e <;> exact ⟨_, rfl, (Option.some.inj hx).symm⟩
      have hg9 : g.cps.size ≤ 9 := by
        have : i = 0 ∨ i = 1 ∨ i = 2 := by simp at hi; omega
        rcases this with e | e | e <;> subst e <;> (cases hg; decide +kernel)
      refine ⟨rfl, ?_⟩
      refine ⟨_, rfl, _, rfl, r, g, rfl, hg9, fun H3 s3 => ⟨_, rfl, ?_⟩⟩
      have tk : [G0, G1, G2].take (i + 1) = [G0, G1, G2].take i ++ [g] := by rw [List.take_add_one, hg]; rfl
      have sm3 := sm.trans s3
      refine ifb (fun e => ?_) (fun e => ?_)
      · refine ⟨_, rfl, _, s3 _ _ hl, ?_, ?_, ?_⟩
        · rw [List.length_map]
          have h1 := List.length_filter_le (hasG r) ([G0, G1, G2].take i)
          have h2 : ([G0, G1, G2].take i).length ≤ 3 := by rw [List.length_take]; exact Nat.min_le_right _ _
          exact szn (by omega)
        · exact fun b o e => by
            have n : b ≠ D := ne_of_none e hD
            rw [upd_ne n]; exact sm3 b o e
        · rw [upd_same, tk, List.filter_append, List.map_append]
          simp [e]
      · refine ⟨sm3, ?_⟩
        rw [tk, List.filter_append]
        simp [e]
        exact s3 _ _ hl
    · rintro H1 ⟨sm, hl⟩
      refine ⟨D, _, rfl, .inl (.of hl), _, _, rfl, rfl, ?_⟩
      have e : decide (((([G0, G1, G2].take 3).filter (hasG r)).map V.str).length ≤ (1 : Int)) = decide (([G0, G1, G2].filter (hasG r)).length ≤ 1) := by
        rw [List.length_map, show [G0, G1, G2].take 3 = [G0, G1, G2] from rfl]
        rw [decide_eq_decide]
        omega
      exact qb (q _ sm) e

def sp_bits_of_rights (K : PySem.W.Frag) : Sp := fun vs H Q _ => ∃ r : Str, vs = [.str r] ∧ ∀ H', Same H H' → Q (.int (maskOf r)) H'
theorem ok_bits_of_rights {f : Addr} {fd : FuncData} (F : Fun K "bits_of_rights" "bits_of_rights" s_bits_of_rights f fd) (T : Txt K mg) : FnOk P w K mg base CX0 1 f fd ["rights"] (sp_bits_of_rights K) := by
  obtain ⟨t_RIGHTS, hc_RIGHTS⟩ := T.c_RIGHTS
  refine F.ok sc_bits_of_rights (fun vs H Q E h => ?_) (fun cdv A outer s H vs Q E hr h => ?_)
  · obtain ⟨r, rfl, q⟩ := h; rfl
  · obtain ⟨r, rfl, q⟩ := h
    refine ⟨_, (pss_one (ps_ret (pe_callB (cr_sum rfl) (by rfl) T.z_sum (by decide +kernel) (pa_cons (pe_lc (own := [("k", 1), ("sign", 2)]) (g := gTup K 2 (gCons (gName 1) (gCons (gName 2) gNil))) rfl sc_bits_of_rights.nd (pi_enumS (by rfl) T.z_enumerate (pa_cons (pe_glob (v := .str (Str.ofString "rwlsnfxco")) (by rfl) hc_RIGHTS ⟨_, rfl⟩) pa_nil)) (blkOk_by (own := [("k", 1), ("sign", 2)]) (N := ["rights", "k", "sign"]) (sc := defScope s_bits_of_rights) (by decide +kernel)) (fun _ _ _ _ _ => by exact (pg_tup rfl (pgs_cons (pg_name (i := 1) sc_bits_of_rights.nd rfl (.inl rfl)) (pgs_cons (pg_name (i := 2) sc_bits_of_rights.nd rfl (.inl rfl)) pgs_nil)))) (fun _ _ _ _ _ => (pts_one (pt_cmpR op_in_sign (pv 2) (pv 0) (by rfl)))) (fun _ _ _ _ _ => (pe_op op_shl pe_int (pv 1)))) pa_nil)))), ?_⟩
    refine ⟨RT, rfl, fun D hD => ?_⟩
    refine lc_it (walk_enumS (z := RT)) (fun i H' => Same H H' ∧ H' D = some (.lst ((mask (hasR r) i).map V.int))) ⟨same_new hD, upd_same⟩ (fun _ _ _ _ => trivial) ?_ ?_
    · rintro i x H1 H2 hi ⟨sm, hl⟩ ⟨Tp, x1, y1, rfl, hn, rfl, hx1, hy1⟩
      rw [RT_size] at hi
      have hy1 : (RT.cps[i]?).map (fun c => V.str ⟨#[c]⟩) = some y1 := hy1
      rw [RT_get i hi] at hy1
      have e1 : x1 = .int (i : Int) := (Option.some.inj hx1).symm
      have e2 : y1 = .str (one (code i)) := (Option.some.inj hy1).symm
      subst e1 e2
      have nD : D ≠ Tp := ne_of_none hl hn
      refine ⟨Tp, _, rfl, .of upd_same, rfl, _, _, rfl, _, _, rfl, rfl, wp2 (by simp) (by simp), ?_⟩
      refine ⟨_, rfl, _, rfl, code i, r, rfl, rfl, _, rfl, ifb (fun e => ?_) (fun e => ?_)⟩
      · refine ⟨_, rfl, _, _, rfl, rfl, ⟨by omega, by omega, by decide⟩, _, (by rw [upd_ne nD]; exact hl), ?_, ?_, ?_⟩
        · rw [List.length_map]
          have := mask_len (hasR r) i
          exact szn (by omega)
        · exact fun b o e => by
            have n : b ≠ D := ne_of_none e hD
            have n2 : b ≠ Tp := ne_of_none (sm b o e) hn
            rw [upd_ne n, upd_ne n2]; exact sm b o e
        · rw [upd_same, mask_succ, List.map_append, if_pos (show hasR r i = true from e)]
          show some (HO.lst (_ ++ [V.int (1 * 2 ^ i)])) = some (HO.lst (_ ++ [V.int (2 ^ i)]))
          rw [Int.one_mul]
      · refine ⟨sameN sm hn, ?_⟩
        rw [upd_ne nD, mask_succ, if_neg (by unfold hasR; rw [e]; exact Bool.false_ne_true), List.append_nil]
        exact hl
    · rintro H1 ⟨sm, hl⟩
      rw [RT_size] at hl
      exact ⟨D, _, rfl, .of hl, q _ sm⟩

def sp_field (K : PySem.W.Frag) : Sp := fun vs H Q _ => ∃ (b : Int) (p : Addr) (lo mn : Nat), vs = [.int b, .ref p] ∧ SqT K H p [.int lo, .int mn] ∧ 0 ≤ b ∧ lo ≤ 100 ∧ mn ≤ 100 ∧ Q (.int (b / 2 ^ lo % 2 ^ mn)) H
theorem ok_field {f : Addr} {fd : FuncData} (F : Fun K "field" "field" s_field f fd) (T : Txt K mg) : FnOk P w K mg base CX0 1 f fd ["bits", "place"] (sp_field K) := by
  refine F.ok sc_field (fun vs H Q E h => ?_) (fun cdv A outer s H vs Q E hr h => ?_)
  · obtain ⟨b, p, lo, mn, rfl, hp, hb, hlo, hmn, q⟩ := h; rfl
  · obtain ⟨b, p, lo, mn, rfl, hp, hb, hlo, hmn, q⟩ := h
    refine ⟨_, (pss_cons (ps_asg (pv 1) (pg_tup rfl (pgs_cons (pg_name (i := 2) sc_field.nd rfl (.inl rfl)) (pgs_cons (pg_name (i := 3) sc_field.nd rfl (.inl rfl)) pgs_nil))))
      (pss_one (ps_ret (pe_op op_and (pe_op op_shr (pv 0) (pv 2)) (pe_op op_sub (pe_op op_shl pe_int (pv 3)) pe_int))))), ?_⟩
    refine ⟨_, rfl, p, _, rfl, hp, rfl, _, _, rfl, _, _, rfl, rfl, ?_⟩
    refine ⟨_, rfl, _, rfl, _, _, rfl, rfl, by omega, _, rfl, _, _, rfl, rfl, ⟨by omega, by omega, by decide⟩, _, _, rfl, rfl, _, _, rfl, rfl, ?_⟩
    have e : Builtin.bitAnd (b / 2 ^ lo) (1 * 2 ^ mn - 1) = b / 2 ^ lo % 2 ^ mn := by
      rw [Int.one_mul, Bits.bitAnd_mask mn (Int.ediv_nonneg hb (Int.le_of_lt (pow_pos2 lo)))]
    exact qi q e

def sp_rights_in (K : PySem.W.Frag) : Sp := fun vs H Q _ => ∃ b : Int, vs = [.int b] ∧ 0 ≤ b ∧ ∀ H', Same H H' → Q (.str (rtx (bitp (fRts b)))) H'
theorem ok_rights_in {f : Addr} {fd : FuncData} (F : Fun K "rights_in" "rights_in" s_rights_in f fd) (T : Txt K mg) (C_field : Cal P w K mg base "field" 1 ["bits", "place"] (sp_field K)) : FnOk P w K mg base CX0 2 f fd ["bits"] (sp_rights_in K) := by
  obtain ⟨t_RIGHTS, hc_RIGHTS⟩ := T.c_RIGHTS
  obtain ⟨p_RIGHTS_BITS, hc_RIGHTS_BITS, hs_RIGHTS_BITS⟩ := T.c_RIGHTS_BITS
  refine F.ok sc_rights_in (fun vs H Q E h => ?_) (fun cdv A outer s H vs Q E hr h => ?_)
  · obtain ⟨b, rfl, hb, q⟩ := h; rfl
  · obtain ⟨b, rfl, hb, q⟩ := h
    refine ⟨_, (pss_cons (ps_set (i := 1) sc_rights_in.nd rfl (.inr rfl) (pe_cal C_field (hr.mono (by decide)) (pa_cons (pv 0) (pa_cons (pe_glob (v := .ref p_RIGHTS_BITS) (by rfl) hc_RIGHTS_BITS rfl) pa_nil))))
      (pss_one (ps_ret (pe_join pe_str (pe_lc (own := [("k", 2), ("sign", 3)]) (g := gTup K 2 (gCons (gName 2) (gCons (gName 3) gNil))) rfl sc_rights_in.nd (pi_enumS (by rfl) T.z_enumerate (pa_cons (pe_glob (v := .str (Str.ofString "rwlsnfxco")) (by rfl) hc_RIGHTS ⟨_, rfl⟩) pa_nil)) (blkOk_by (own := [("k", 2), ("sign", 3)]) (N := ["bits", "number", "k", "sign"]) (sc := defScope s_rights_in) (by decide +kernel)) (fun _ _ _ _ _ => by exact (pg_tup rfl (pgs_cons (pg_name (i := 2) sc_rights_in.nd rfl (.inl rfl)) (pgs_cons (pg_name (i := 3) sc_rights_in.nd rfl (.inl rfl)) pgs_nil)))) (fun _ _ _ _ _ => (pts_one (pt_cmpR op_eq (pe_op op_and (pe_op op_shr (pv 1) (pv 2)) pe_int) pe_int (nomark _)))) (fun _ _ _ _ _ => (pv 3))))))), ?_⟩
    refine ⟨_, rfl, b, p_RIGHTS_BITS, 32, 9, rfl, hs_RIGHTS_BITS _, hb, by decide, by decide, ?_⟩
    refine ⟨⟨_, rfl⟩, RT, rfl, fun D hD => ?_⟩
    have h0 : 0 ≤ fRts b := Int.emod_nonneg _ (by decide)
    refine lc_it (walk_enumS (z := RT)) (fun i H' => Same H H' ∧ H' D = some (.lst ((rcs (bitp (fRts b)) i).map V.str))) ⟨same_new hD, upd_same⟩ (fun _ _ _ _ => trivial) ?_ ?_
    · rintro i x H1 H2 hi ⟨sm, hl⟩ ⟨Tp, x1, y1, rfl, hn, rfl, hx1, hy1⟩
      rw [RT_size] at hi
      have hy1 : (RT.cps[i]?).map (fun c => V.str ⟨#[c]⟩) = some y1 := hy1
      rw [RT_get i hi] at hy1
      have e1 : x1 = .int (i : Int) := (Option.some.inj hx1).symm
      have e2 : y1 = .str (one (code i)) := (Option.some.inj hy1).symm
      subst e1 e2
      have nD : D ≠ Tp := ne_of_none hl hn
      refine ⟨Tp, _, rfl, .of upd_same, rfl, _, _, rfl, _, _, rfl, rfl, wp2 (by simp) (by simp), ?_⟩
      have eb : Builtin.bitAnd (fRts b / 2 ^ i) 1 = fRts b / 2 ^ i % 2 := by
        have := Bits.bitAnd_mask 1 (x := fRts b / 2 ^ i) (Int.ediv_nonneg h0 (Int.le_of_lt (pow_pos2 i)))
        exact this
      refine ⟨_, rfl, _, rfl, _, _, rfl, rfl, by omega, _, _, rfl, rfl, rfl, _, rfl, ifd (fun e => ?_) (fun e => ?_)⟩
      · have e3 : bitp (fRts b) i = true := by
          unfold bitp
          rw [← eb]
          exact decide_eq_true (V.int.inj e)
        refine ⟨_, rfl, _, (by rw [upd_ne nD]; exact hl), ?_, ?_, ?_⟩
        · rw [List.length_map]
          have := rcs_len (bitp (fRts b)) i
          exact szn (by omega)
        · exact fun b o e => by
            have n : b ≠ D := ne_of_none e hD
            have n2 : b ≠ Tp := ne_of_none (sm b o e) hn
            rw [upd_ne n, upd_ne n2]; exact sm b o e
        · rw [upd_same, rcs_succ, List.map_append, if_pos e3]; rfl
      · refine ⟨sameN sm hn, ?_⟩
        have e3 : ¬ bitp (fRts b) i = true := by
          unfold bitp
          rw [← eb]
          intro z
          exact e (congrArg V.int (of_decide_eq_true z))
        rw [upd_ne nD, rcs_succ, if_neg e3, List.append_nil]
        exact hl
    · rintro H1 ⟨sm, hl⟩
      rw [RT_size] at hl
      exact ⟨_, D, _, rfl, rfl, .inl (.of hl), rcs_fit _, q _ sm⟩

def sp__tell (K : PySem.W.Frag) : Sp := fun vs H Q _ => ∃ b : Int, vs = [.int b] ∧ 0 ≤ b ∧ ∀ c, (c = true ↔ Tells b) → Q (.bl c) H
theorem ok__tell {f : Addr} {fd : FuncData} (F : Fun K "_tell" "_tell" s__tell f fd) (T : Txt K mg) (C_field : Cal P w K mg base "field" 1 ["bits", "place"] (sp_field K)) : FnOk P w K mg base CX0 2 f fd ["bits"] (sp__tell K) := by
  obtain ⟨t_CELLS, hc_CELLS⟩ := T.c_CELLS
  obtain ⟨p_COUNT_LESS_ONE, hc_COUNT_LESS_ONE, hs_COUNT_LESS_ONE⟩ := T.c_COUNT_LESS_ONE
  obtain ⟨p_FIRST, hc_FIRST, hs_FIRST⟩ := T.c_FIRST
  obtain ⟨t_LEAST_COUNT, hc_LEAST_COUNT⟩ := T.c_LEAST_COUNT
  obtain ⟨p_STEP, hc_STEP, hs_STEP⟩ := T.c_STEP
  obtain ⟨t_TOP_STEP, hc_TOP_STEP⟩ := T.c_TOP_STEP
  refine F.ok sc__tell (fun vs H Q E h => ?_) (fun cdv A outer s H vs Q E hr h => ?_)
  · obtain ⟨b, rfl, hb, q⟩ := h; rfl
  · obtain ⟨b, rfl, hb, q⟩ := h
    refine ⟨_, (pss_cons (ps_set (i := 1) sc__tell.nd rfl (.inl rfl) (pe_cal C_field (hr.mono (by decide)) (pa_cons (pv 0) (pa_cons (pe_glob (v := .ref p_STEP) (by rfl) hc_STEP rfl) pa_nil))))
      (pss_cons (ps_set (i := 2) sc__tell.nd rfl (.inl rfl) (pe_op op_add (pe_cal C_field (hr.mono (by decide)) (pa_cons (pv 0) (pa_cons (pe_glob (v := .ref p_COUNT_LESS_ONE) (by rfl) hc_COUNT_LESS_ONE rfl) pa_nil))) pe_int))
      (pss_cons (ps_if (PW.pt (pw_or (pt_cmpR op_gt (pv 1) (pe_glob (v := .int 8) (by rfl) hc_TOP_STEP ⟨_, rfl⟩) (nomark _)) (pw_or1 (PW.pt (pw_and (pt_cmpR op_gt (pv 1) pe_int (nomark _)) (pw_and1 (pt_cmpR op_lt (pv 2) (pe_glob (v := .int 9) (by rfl) hc_LEAST_COUNT ⟨_, rfl⟩) (nomark _)))))))) (pss_one (ps_ret pe_bl)) pss_nil)
      (pss_one (ps_ret (pe_cmpR op_le (pe_op op_shl (pe_op op_add (pe_cal C_field (hr.mono (by decide)) (pa_cons (pv 0) (pa_cons (pe_glob (v := .ref p_FIRST) (by rfl) hc_FIRST rfl) pa_nil))) (pv 2)) (pv 1)) (pe_glob (v := .int 4096) (by rfl) hc_CELLS ⟨_, rfl⟩) (nomark _))))))), ?_⟩
    have f := fb b
    refine ⟨_, rfl, b, p_STEP, 28, 4, rfl, hs_STEP _, hb, by decide, by decide, ?_⟩
    refine ⟨_, rfl, b, p_COUNT_LESS_ONE, 24, 4, rfl, hs_COUNT_LESS_ONE _, hb, by decide, by decide, _, _, rfl, rfl, ?_⟩
    refine ⟨_, rfl, _, _, rfl, rfl, _, rfl, ifd (fun c1 => ?_) (fun c1 => ?_)⟩
    · have c2 : 8 < fStep b := c1
      show Q (.bl false) H
      exact q _ ⟨fun h => Bool.noConfusion h, fun h => absurd h.1 (by omega)⟩
    have c2 : ¬ 8 < fStep b := c1
    have fin : ((fStep b = 0 ∨ 9 ≤ fCnt b)) → Q (.bl (decide ((fFirst b + fCnt b) * 2 ^ (fStep b).toNat ≤ 4096))) H := fun z => by
      refine q _ ?_
      rw [decide_eq_true_iff]
      exact ⟨fun h => ⟨by omega, z, h⟩, fun h => h.2.2⟩
    refine ⟨_, rfl, _, _, rfl, rfl, _, rfl, ifd (fun c3 => ?_) (fun c3 => ?_)⟩
    · have c4 : 0 < fStep b := c3
      refine ⟨_, rfl, _, _, rfl, rfl, _, rfl, ifd (fun c5 => ?_) (fun c5 => ?_)⟩
      · have c6 : fCnt b < 9 := c5
        show Q (.bl false) H
        exact q _ ⟨fun h => Bool.noConfusion h, fun h => by have := h.2.1; omega⟩
      · have c6 : ¬ fCnt b < 9 := c5
        refine ⟨_, rfl, b, p_FIRST, 12, 12, rfl, hs_FIRST _, hb, by decide, by decide, _, rfl, _, _, rfl, rfl, _, rfl, _, _, rfl, rfl, cpw (z := fFirst b + fCnt b) (s := fStep b) (by omega) (by omega) (by omega) (by omega), _, _, rfl, rfl, fin (.inr (by omega))⟩
    · have c4 : ¬ 0 < fStep b := c3
      refine ⟨_, rfl, b, p_FIRST, 12, 12, rfl, hs_FIRST _, hb, by decide, by decide, _, rfl, _, _, rfl, rfl, _, rfl, _, _, rfl, rfl, cpw (z := fFirst b + fCnt b) (s := fStep b) (by omega) (by omega) (by omega) (by omega), _, _, rfl, rfl, fin (.inl (by omega))⟩

def sp_bounds_in (K : PySem.W.Frag) : Sp := fun vs H Q _ => ∃ b : Int, vs = [.int b] ∧ 0 ≤ b ∧ ∀ p H', Same H H' → H p = none → H' p = some (.tup [.int (fFirst b * 2 ^ (fStep b).toNat), .int ((fFirst b + fCnt b) * 2 ^ (fStep b).toNat)]) → Q (.ref p) H'
theorem ok_bounds_in {f : Addr} {fd : FuncData} (F : Fun K "bounds_in" "bounds_in" s_bounds_in f fd) (T : Txt K mg) (C_field : Cal P w K mg base "field" 1 ["bits", "place"] (sp_field K)) : FnOk P w K mg base CX0 2 f fd ["bits"] (sp_bounds_in K) := by
  obtain ⟨p_COUNT_LESS_ONE, hc_COUNT_LESS_ONE, hs_COUNT_LESS_ONE⟩ := T.c_COUNT_LESS_ONE
  obtain ⟨p_FIRST, hc_FIRST, hs_FIRST⟩ := T.c_FIRST
  obtain ⟨p_STEP, hc_STEP, hs_STEP⟩ := T.c_STEP
  refine F.ok sc_bounds_in (fun vs H Q E h => ?_) (fun cdv A outer s H vs Q E hr h => ?_)
  · obtain ⟨b, rfl, hb, q⟩ := h; rfl
  · obtain ⟨b, rfl, hb, q⟩ := h
    refine ⟨_, (pss_cons (ps_set (i := 1) sc_bounds_in.nd rfl (.inl rfl) (pe_cal C_field (hr.mono (by decide)) (pa_cons (pv 0) (pa_cons (pe_glob (v := .ref p_STEP) (by rfl) hc_STEP rfl) pa_nil))))
      (pss_cons (ps_set (i := 2) sc_bounds_in.nd rfl (.inl rfl) (pe_cal C_field (hr.mono (by decide)) (pa_cons (pv 0) (pa_cons (pe_glob (v := .ref p_FIRST) (by rfl) hc_FIRST rfl) pa_nil))))
      (pss_one (ps_ret (pe_tup (pa_cons (pe_op op_shl (pv 2) (pv 1)) (pa_cons (pe_op op_shl (pe_op op_add (pe_op op_add (pv 2) (pe_cal C_field (hr.mono (by decide)) (pa_cons (pv 0) (pa_cons (pe_glob (v := .ref p_COUNT_LESS_ONE) (by rfl) hc_COUNT_LESS_ONE rfl) pa_nil)))) pe_int) (pv 1)) pa_nil))))))), ?_⟩
    have f := fb b
    refine ⟨_, rfl, b, p_STEP, 28, 4, rfl, hs_STEP _, hb, by decide, by decide, ?_⟩
    refine ⟨_, rfl, b, p_FIRST, 12, 12, rfl, hs_FIRST _, hb, by decide, by decide, ?_⟩
    refine ⟨_, rfl, _, rfl, _, _, rfl, rfl, cpw (z := fFirst b) (s := fStep b) (by omega) (by omega) (by omega) (by omega), ?_⟩
    refine ⟨_, rfl, _, rfl, b, p_COUNT_LESS_ONE, 24, 4, rfl, hs_COUNT_LESS_ONE _, hb, by decide, by decide, _, _, rfl, rfl, _, _, rfl, rfl, _, rfl, _, _, rfl, rfl, cpw (z := fFirst b + (b / 2 ^ 24 % 2 ^ 4) + 1) (s := fStep b) (by unfold fCnt at f; omega) (by unfold fCnt at f; omega) (by omega) (by omega), sz (by simp), fun p hp => ?_⟩
    refine q p _ (same_new hp) hp ?_
    rw [upd_same]
    have e2 : fFirst b + (b / 2 ^ 24 % 2 ^ 4) + 1 = fFirst b + fCnt b := by unfold fCnt; omega
    rw [← e2]
    rfl

def sp_fields_of (K : PySem.W.Frag) : Sp := fun vs H Q _ => ∃ (p : Addr) (v : V) (b : Int), vs = [.ref p] ∧ H p = some (.tup [v, .int b]) ∧ 0 ≤ b ∧ (¬ Tells b → ∀ H', Same H H' → Q .non H') ∧ (Tells b → ∀ q H', Same H H' → H q = none → H' q = some (.tup [.int (fFirst b * 2 ^ (fStep b).toNat), .int ((fFirst b + fCnt b) * 2 ^ (fStep b).toNat), .int (fAt b), .str (rtx (bitp (fRts b))), .int (fKind b)]) → Q (.ref q) H')
theorem ok_fields_of {f : Addr} {fd : FuncData} (F : Fun K "fields_of" "fields_of" s_fields_of f fd) (T : Txt K mg) (C_field : Cal P w K mg base "field" 1 ["bits", "place"] (sp_field K)) (C_rights_in : Cal P w K mg base "rights_in" 2 ["bits"] (sp_rights_in K)) (C__tell : Cal P w K mg base "_tell" 2 ["bits"] (sp__tell K)) (C_bounds_in : Cal P w K mg base "bounds_in" 2 ["bits"] (sp_bounds_in K)) : FnOk P w K mg base CX0 3 f fd ["word"] (sp_fields_of K) := by
  obtain ⟨p_AT, hc_AT, hs_AT⟩ := T.c_AT
  obtain ⟨p_KIND, hc_KIND, hs_KIND⟩ := T.c_KIND
  refine F.ok sc_fields_of (fun vs H Q E h => ?_) (fun cdv A outer s H vs Q E hr h => ?_)
  · obtain ⟨p, v, b, rfl, hp, hb, q1, q2⟩ := h; rfl
  · obtain ⟨p, v, b, rfl, hp, hb, q1, q2⟩ := h
    refine ⟨_, (pss_cons (ps_set (i := 1) sc_fields_of.nd rfl (.inl rfl) (pe_ix (r := rIxT K) ix_tup (pv 0) pe_int (fun _ _ => rfl)))
      (pss_cons (ps_if (pt_not (pt_val (pe_cal C__tell (hr.mono (by decide)) (pa_cons (pv 1) pa_nil)))) (pss_one (ps_ret pe_non)) pss_nil)
      (pss_cons (ps_asg (pe_cal C_bounds_in (hr.mono (by decide)) (pa_cons (pv 1) pa_nil)) (pg_tup rfl (pgs_cons (pg_name (i := 2) sc_fields_of.nd rfl (.inl rfl)) (pgs_cons (pg_name (i := 3) sc_fields_of.nd rfl (.inl rfl)) pgs_nil))))
      (pss_one (ps_ret (pe_tup (pa_cons (pv 2) (pa_cons (pv 3) (pa_cons (pe_cal C_field (hr.mono (by decide)) (pa_cons (pv 1) (pa_cons (pe_glob (v := .ref p_AT) (by rfl) hc_AT rfl) pa_nil))) (pa_cons (pe_cal C_rights_in (hr.mono (by decide)) (pa_cons (pv 1) pa_nil)) (pa_cons (pe_cal C_field (hr.mono (by decide)) (pa_cons (pv 1) (pa_cons (pe_glob (v := .ref p_KIND) (by rfl) hc_KIND rfl) pa_nil))) pa_nil))))))))))), ?_⟩
    refine ⟨_, rfl, p, _, 1, _, rfl, rfl, .of hp, atI_nat (j := 1) rfl, ?_⟩
    refine ⟨_, rfl, b, rfl, hb, fun c hc => ⟨_, rfl, ifnb (fun e => ?_) (fun e => ?_)⟩⟩
    · show Q .non H
      exact q1 (fun z => by rw [hc.mpr z] at e; cases e) H (Same.refl _)
    refine ⟨_, rfl, b, rfl, hb, fun p1 H0 s0 hp1 h1 => ?_⟩
    refine ⟨p1, _, rfl, .of h1, rfl, _, _, rfl, _, _, rfl, rfl, ?_⟩
    refine ⟨_, rfl, _, rfl, _, rfl, b, p_AT, 0, 12, rfl, hs_AT _, hb, by decide, by decide, _, rfl, b, rfl, hb, fun H1 s1 => ?_⟩
    refine ⟨_, rfl, b, p_KIND, 41, 4, rfl, hs_KIND _, hb, by decide, by decide, sz (by simp), fun q hq => ?_⟩
    refine q2 (hc.mp e) q _ (sameN (s0.trans s1) hq) (Same.free (s0.trans s1) hq) ?_
    rw [upd_same]
    rfl

def sp_is_rights (K : PySem.W.Frag) : Sp := fun vs H Q _ => ∃ v, vs = [v] ∧ Kd H v ∧ ∀ b H', Same H H' → (b = true ↔ ∃ r, v = .str r ∧ r = rtx (hasR r)) → Q (.bl b) H'
theorem ok_is_rights {f : Addr} {fd : FuncData} (F : Fun K "is_rights" "is_rights" s_is_rights f fd) (T : Txt K mg) : FnOk P w K mg base CX0 1 f fd ["thing"] (sp_is_rights K) := by
  obtain ⟨t_RIGHTS, hc_RIGHTS⟩ := T.c_RIGHTS
  refine F.ok sc_is_rights (fun vs H Q E h => ?_) (fun cdv A outer s H vs Q E hr h => ?_)
  · obtain ⟨v, rfl, hv, q⟩ := h; rfl
  · obtain ⟨v, rfl, hv, q⟩ := h
    refine ⟨_, (pss_one (ps_ret (pe_and (pe_callB call_isi (by rfl) T.z_isinstance (by decide +kernel) (pa_cons (pv 0) (pa_cons (pe_bltn (v := .ty "str") (by rfl) T.z_str (by decide +kernel) rfl) pa_nil))) (pe_one (pe_cmpR op_eq (pv 0) (pe_join pe_str (pe_lc (own := [("sign", 1)]) rfl sc_is_rights.nd (pi_str (pe_glob (v := .str (Str.ofString "rwlsnfxco")) (by rfl) hc_RIGHTS ⟨_, rfl⟩)) (blkOk_by (own := [("sign", 1)]) (N := ["thing", "sign"]) (sc := defScope s_is_rights) (by decide +kernel)) (fun _ _ _ _ _ => (pg_name (i := 1) sc_is_rights.nd rfl (.inl rfl))) (fun _ _ _ _ _ => (pts_one (pt_cmpR op_in_sign (pv 1) (pv 0) (by rfl)))) (fun _ _ _ _ _ => (pv 1)))) (nomark _)))))), ?_⟩
    obtain ⟨t, ty, kt⟩ := hv.str? (K := K)
    refine ⟨_, rfl, _, _, t, _, isS v, rfl, .ty "str", ty, kt, isS v, rfl, ifb (fun e1 => ?_) (fun e1 => ?_)⟩
    · obtain ⟨r, rfl⟩ : ∃ r, v = .str r := by
        cases hv with
        | str r => exact ⟨r, rfl⟩
        | _ => cases e1
      refine ⟨_, rfl, ⟨_, rfl⟩, RT, rfl, fun D hD => ?_⟩
      refine lc_it (walk_str (z := RT)) (fun i H' => Same H H' ∧ H' D = some (.lst ((rcs (hasR r) i).map V.str))) ⟨same_new hD, upd_same⟩ (fun _ _ _ _ => trivial) ?_ ?_
      · rintro i x H1 H2 hi ⟨sm, hl⟩ ⟨rfl, c, hc, rfl⟩
        rw [RT_size] at hi
        rw [RT_get i hi] at hc
        have ec : c = code i := (Option.some.inj hc).symm
        subst ec
        refine ⟨rfl, ?_⟩
        refine ⟨_, rfl, _, rfl, code i, r, rfl, rfl, _, rfl, ifb (fun e => ?_) (fun e => ?_)⟩
        · refine ⟨_, rfl, _, hl, ?_, ?_, ?_⟩
          · rw [List.length_map]
            have := rcs_len (hasR r) i
            exact szn (by omega)
          · exact fun b o e => by
              have n : b ≠ D := ne_of_none e hD
              rw [upd_ne n]; exact sm b o e
          · rw [upd_same, rcs_succ, List.map_append, if_pos (show hasR r i = true from e)]; rfl
        · refine ⟨sm, ?_⟩
          rw [rcs_succ, if_neg (by unfold hasR; rw [e]; exact Bool.false_ne_true), List.append_nil]
          exact hl
      · rintro H1 ⟨sm, hl⟩
        rw [RT_size] at hl
        refine ⟨_, D, _, rfl, rfl, .inl (.of hl), rcs_fit _, rfl, q _ _ sm ?_⟩
        rw [decide_eq_true_iff]
        exact ⟨fun h => ⟨r, rfl, V.str.inj h⟩, fun ⟨r', e, h⟩ => by cases e; exact congrArg V.str h⟩
    · refine q _ _ (Same.refl _) ⟨fun h => Bool.noConfusion h, fun ⟨r', e, h⟩ => by cases e; cases e1⟩

def sp__are_fields (K : PySem.W.Frag) : Sp := fun vs H Q _ => ∃ v, vs = [v] ∧ ((∃ p xs, v = .ref p ∧ H p = some (.tup xs) ∧ (∀ x ∈ xs, Kd H x) ∧ ∀ b H', Same H H' → (b = true ↔ F5 xs) → Q (.bl b) H') ∨ (NoT H v ∧ ∀ H', Same H H' → Q (.bl false) H'))
theorem ok__are_fields {f : Addr} {fd : FuncData} (F : Fun K "_are_fields" "_are_fields" s__are_fields f fd) (T : Txt K mg) (C_is_whole : Cal P w K mg base "is_whole" 1 ["thing", "least", "most"] (sp_is_whole K)) (C_are_bounds : Cal P w K mg base "are_bounds" 2 ["low", "high"] (sp_are_bounds K)) (C_is_exact : Cal P w K mg base "is_exact" 6 ["low", "high"] (sp_is_exact K)) (C__lead_one_way : Cal P w K mg base "_lead_one_way" 2 ["rights"] (sp__lead_one_way K)) (C_is_rights : Cal P w K mg base "is_rights" 1 ["thing"] (sp_is_rights K)) : FnOk P w K mg base CX0 7 f fd ["thing"] (sp__are_fields K) := by
  obtain ⟨t_CELLS, hc_CELLS⟩ := T.c_CELLS
  obtain ⟨t_TOP_KIND, hc_TOP_KIND⟩ := T.c_TOP_KIND
  refine F.ok sc__are_fields (fun vs H Q E h => ?_) (fun cdv A outer s H vs Q E hr h => ?_)
  · obtain ⟨v, rfl, q⟩ := h; rfl
  · obtain ⟨v, rfl, q⟩ := h
    refine ⟨_, (pss_cons (ps_if (PW.pt (pw_or (pt_not (pt_val (pe_callB call_isi (by rfl) T.z_isinstance (by decide +kernel) (pa_cons (pv 0) (pa_cons (pe_bltn (v := .ty "tuple") (by rfl) T.z_tuple (by decide +kernel) rfl) pa_nil))))) (pw_or1 (pt_cmpR op_ne (pe_callB call_len_seq (by rfl) T.z_len (by decide +kernel) (pa_cons (pv 0) pa_nil)) pe_int (nomark _))))) (pss_one (ps_ret pe_bl)) pss_nil)
      (pss_cons (ps_asg (pv 0) (pg_tup rfl (pgs_cons (pg_name (i := 1) sc__are_fields.nd rfl (.inl rfl)) (pgs_cons (pg_name (i := 2) sc__are_fields.nd rfl (.inl rfl)) (pgs_cons (pg_name (i := 3) sc__are_fields.nd rfl (.inl rfl)) (pgs_cons (pg_name (i := 4) sc__are_fields.nd rfl (.inl rfl)) (pgs_cons (pg_name (i := 5) sc__are_fields.nd rfl (.inl rfl)) pgs_nil)))))))
      (pss_cons (ps_if (PW.pt (pw_or (pt_not (pt_val (pe_cal C_are_bounds (hr.mono (by decide)) (pa_cons (pv 1) (pa_cons (pv 2) pa_nil))))) (pw_or1 (pt_not (pt_val (pe_cal C_is_exact (hr.mono (by decide)) (pa_cons (pv 1) (pa_cons (pv 2) pa_nil)))))))) (pss_one (ps_ret pe_bl)) pss_nil)
      (pss_cons (ps_if (PW.pt (pw_or (pt_not (pt_val (pe_cal C_is_whole (hr.mono (by decide)) (pa_cons (pv 3) (pa_cons pe_int (pa_cons (pe_op op_sub (pe_glob (v := .int 4096) (by rfl) hc_CELLS ⟨_, rfl⟩) pe_int) pa_nil)))))) (pw_or1 (pt_not (pt_val (pe_cal C_is_whole (hr.mono (by decide)) (pa_cons (pv 5) (pa_cons pe_int (pa_cons (pe_glob (v := .int 15) (by rfl) hc_TOP_KIND ⟨_, rfl⟩) pa_nil))))))))) (pss_one (ps_ret pe_bl)) pss_nil)
      (pss_one (ps_ret (pe_and (pe_cal C_is_rights (hr.mono (by decide)) (pa_cons (pv 4) pa_nil)) (pe_one (pe_cal C__lead_one_way (hr.mono (by decide)) (pa_cons (pv 4) pa_nil)))))))))), ?_⟩
    rcases q with ⟨p, xs, rfl, hp, hk, q⟩ | ⟨nt, q⟩
    · refine ⟨_, rfl, _, _, _, _, true, rfl, .ty "tuple", .base (.tup hp), kit_ty (by decide +kernel), true, rfl, ?_⟩
      refine ⟨_, rfl, p, _, rfl, .inr (.of hp), rfl, _, rfl, ifnd (fun c => ?_) (fun c => ?_)⟩
      · show Q (.bl false) H
        refine q _ _ (Same.refl _) ⟨fun h => Bool.noConfusion h, fun ⟨a1, a2, a3, a4, a5, e, _⟩ => ?_⟩
        subst e
        exact absurd rfl c
      have h5 : xs.length = 5 := by
        have := V.int.inj c
        omega
      obtain ⟨x1, x2, x3, x4, x5, rfl⟩ : ∃ x1 x2 x3 x4 x5, xs = [x1, x2, x3, x4, x5] := match xs, h5 with
        | [a, b, c, d, e], _ => ⟨a, b, c, d, e, rfl⟩
      refine ⟨_, rfl, p, _, rfl, .of hp, rfl, _, _, rfl, _, _, rfl, _, _, rfl, _, _, rfl, _, _, rfl, rfl, ?_⟩
      have no : ∀ H', Same H H' → ¬ F5 [x1, x2, x3, x4, x5] → Q (.bl false) H' := fun H' s z => q _ _ s ⟨fun h => Bool.noConfusion h, fun h => absurd h z⟩
      refine ⟨_, rfl, _, rfl, x1, x2, rfl, hk x1 (by simp), hk x2 (by simp), fun b hb => ⟨_, rfl, ifnb (fun e => ?_) (fun e => ?_)⟩⟩
      · show Q (.bl false) H
        refine no _ (Same.refl _) ?_
        rintro ⟨lo, hi, a, r, kd, ex, bd, _⟩
        injection ex with e1 e2
        injection e2 with e2 e3
        rw [hb.mpr ⟨lo, hi, e1, e2, bd⟩] at e; cases e
      obtain ⟨lo, hi, rfl, rfl, bd⟩ := hb.mp e
      refine ⟨_, rfl, _, rfl, lo, hi, rfl, bd, fun b2 H1 s1 hb2 => ⟨_, rfl, ifnb (fun e2 => ?_) (fun e2 => ?_)⟩⟩
      · show Q (.bl false) H1
        refine no _ s1 ?_
        rintro ⟨lo', hi', a, r, kd, ex, bd, hex, _⟩
        injection ex with e1 e3
        injection e3 with e3 e4
        cases e1; cases e3
        rw [hb2.mpr hex] at e2; cases e2
      have hex := hb2.mp e2
      refine ⟨_, rfl, _, _, rfl, rfl, x3, _, _, rfl, (hk x3 (by simp)).same s1, fun b3 hb3 => ⟨_, rfl, ifnb (fun e3 => ?_) (fun e3 => ?_)⟩⟩
      · show Q (.bl false) H1
        refine no _ s1 ?_
        rintro ⟨lo', hi', a, r, kd, ex, _, _, a0, a1, _⟩
        injection ex with _ ex
        injection ex with _ ex
        injection ex with ex _
        rw [hb3.mpr ⟨a, ex, a0, a1⟩] at e3; cases e3
      obtain ⟨at', rfl, a0, a1⟩ := hb3.mp e3
      refine ⟨_, rfl, x5, _, _, rfl, (hk x5 (by simp)).same s1, fun b4 hb4 => ⟨_, rfl, ifnb (fun e4 => ?_) (fun e4 => ?_)⟩⟩
      · show Q (.bl false) H1
        refine no _ s1 ?_
        rintro ⟨lo', hi', a, r, kd, ex, _, _, _, _, k0, k1, _⟩
        injection ex with _ ex
        injection ex with _ ex
        injection ex with _ ex
        injection ex with _ ex
        injection ex with ex _
        rw [hb4.mpr ⟨kd, ex, k0, k1⟩] at e4; cases e4
      obtain ⟨kd, rfl, k0, k1⟩ := hb4.mp e4
      refine ⟨_, rfl, x4, rfl, (hk x4 (by simp)).same s1, fun b5 H2 s2 hb5 => ⟨_, rfl, ifb (fun e5 => ?_) (fun e5 => ?_)⟩⟩
      · obtain ⟨r, rfl, hr5⟩ := hb5.mp e5
        refine ⟨_, rfl, r, rfl, fun H3 s3 => q _ _ ((s1.trans s2).trans s3) ?_⟩
        rw [decide_eq_true_iff]
        constructor
        · intro h
          exact ⟨lo, hi, at', r, kd, rfl, bd, hex, a0, a1, k0, k1, hr5, h⟩
        · rintro ⟨lo', hi', a, r', kd', ex, _, _, _, _, _, _, _, h⟩
          injection ex with _ ex
          injection ex with _ ex
          injection ex with _ ex
          injection ex with ex _
          cases ex
          exact h
      · refine no _ (s1.trans s2) ?_
        rintro ⟨lo', hi', a, r, kd', ex, _, _, _, _, _, _, hr5, _⟩
        injection ex with _ ex
        injection ex with _ ex
        injection ex with _ ex
        injection ex with ex _
        rw [hb5.mpr ⟨r, ex, hr5⟩] at e5; cases e5
    · obtain ⟨t, ty, kt⟩ := nt.tup? (K := K)
      refine ⟨_, rfl, _, _, t, _, false, rfl, .ty "tuple", ty, kt, false, rfl, ?_⟩
      show Q (.bl false) H
      exact q _ (Same.refl _)

def sp_word_of (K : PySem.W.Frag) : Sp := fun vs H Q E => ∃ (v mk : V), vs = [v, mk] ∧ ((∃ (p : Addr) (xs : List V), v = .ref p ∧ H p = some (.tup xs) ∧ (∀ x ∈ xs, Kd H x) ∧ (∀ (lo hi at' : Int) (r : Str) (kd : Int), xs = [.int lo, .int hi, .int at', .str r, .int kd] → F5 xs → ∀ (s : Nat) q H', StepIs lo hi s → Same H H' → H q = none → H' q = some (.tup [mk, .int (wbits lo hi at' (maskOf r) kd s)]) → Q (.ref q) H') ∧ (¬ F5 xs → Lets K "NoFields" "text" H E)) ∨ (NoT H v ∧ Lets K "NoFields" "text" H E))
theorem ok_word_of {f : Addr} {fd : FuncData} (F : Fun K "word_of" "word_of" s_word_of f fd) (T : Txt K mg) (C_in_bits : Cal P w K mg base "in_bits" 4 ["low", "high"] (sp_in_bits K)) (C_bits_of_rights : Cal P w K mg base "bits_of_rights" 1 ["rights"] (sp_bits_of_rights K)) (C__are_fields : Cal P w K mg base "_are_fields" 7 ["thing"] (sp__are_fields K)) (R_NoFields : ErrK P w K mg base "NoFields" "text") : FnOk P w K mg base (L2.CX P w) 8 f fd ["fields", "marked"] (sp_word_of K) := by
  obtain ⟨p_AT, hc_AT, hs_AT⟩ := T.c_AT
  obtain ⟨p_COUNT_LESS_ONE, hc_COUNT_LESS_ONE, hs_COUNT_LESS_ONE⟩ := T.c_COUNT_LESS_ONE
  obtain ⟨p_FIRST, hc_FIRST, hs_FIRST⟩ := T.c_FIRST
  obtain ⟨p_KIND, hc_KIND, hs_KIND⟩ := T.c_KIND
  obtain ⟨p_RIGHTS_BITS, hc_RIGHTS_BITS, hs_RIGHTS_BITS⟩ := T.c_RIGHTS_BITS
  obtain ⟨p_STEP, hc_STEP, hs_STEP⟩ := T.c_STEP
  refine F.okX sc_word_of (fun vs H Q E h => ?_) (fun cdv A outer s H vs Q E hr h => ?_)
  · obtain ⟨v, mk, rfl, q⟩ := h; rfl
  · obtain ⟨v, mk, rfl, q⟩ := h
    refine ⟨_, (pss_cons (ps_if (pt_not (pt_val (pe_cal C__are_fields (hr.mono (by decide)) (pa_cons (pv 0) pa_nil)))) (pss_one (ps_raise rfl (takes_of rfl rfl rfl rfl) (by exact (pmk_err R_NoFields (hr.mono (by decide)) pe_str)))) pss_nil)
      (PSs.nox (pss_cons (ps_asg (pv 0) (pg_tup rfl (pgs_cons (pg_name (i := 2) sc_word_of.nd rfl (.inl rfl)) (pgs_cons (pg_name (i := 3) sc_word_of.nd rfl (.inl rfl)) (pgs_cons (pg_name (i := 4) sc_word_of.nd rfl (.inl rfl)) (pgs_cons (pg_name (i := 5) sc_word_of.nd rfl (.inl rfl)) (pgs_cons (pg_name (i := 6) sc_word_of.nd rfl (.inl rfl)) pgs_nil)))))))
      (pss_cons (ps_asg (pe_cal C_in_bits (hr.mono (by decide)) (pa_cons (pv 2) (pa_cons (pv 3) pa_nil))) (pg_tup rfl (pgs_cons (pg_name (i := 7) sc_word_of.nd rfl (.inl rfl)) (pgs_cons (pg_name (i := 8) sc_word_of.nd rfl (.inl rfl)) (pgs_cons (pg_name (i := 9) sc_word_of.nd rfl (.inl rfl)) pgs_nil)))))
      (pss_cons (ps_set (i := 10) sc_word_of.nd rfl (.inl rfl) (pe_tup (pa_cons (pe_glob (v := .ref p_AT) (by rfl) hc_AT rfl) (pa_cons (pe_glob (v := .ref p_FIRST) (by rfl) hc_FIRST rfl) (pa_cons (pe_glob (v := .ref p_COUNT_LESS_ONE) (by rfl) hc_COUNT_LESS_ONE rfl) (pa_cons (pe_glob (v := .ref p_STEP) (by rfl) hc_STEP rfl) (pa_cons (pe_glob (v := .ref p_RIGHTS_BITS) (by rfl) hc_RIGHTS_BITS rfl) (pa_cons (pe_glob (v := .ref p_KIND) (by rfl) hc_KIND rfl) pa_nil))))))))
      (pss_cons (ps_set (i := 11) sc_word_of.nd rfl (.inl rfl) (pe_tup (pa_cons (pv 4) (pa_cons (pv 8) (pa_cons (pe_op op_sub (pv 9) pe_int) (pa_cons (pv 7) (pa_cons (pe_cal C_bits_of_rights (hr.mono (by decide)) (pa_cons (pv 5) pa_nil)) (pa_cons (pv 6) pa_nil))))))))
      (pss_one (ps_ret (pe_tup (pa_cons (pv 1) (pa_cons (pe_callB (cr_sum rfl) (by rfl) T.z_sum (by decide +kernel) (pa_cons (pe_lc (own := [("place", 12), ("worth", 13)]) (g := gTup K 2 (gCons (gName 12) (gCons (gName 13) gNil))) rfl sc_word_of.nd (RZ.pi_zipA (by rfl) T.z_zip (pa_cons (pv 10) (pa_cons (pv 11) pa_nil))) (blkOk_by (own := [("place", 12), ("worth", 13)]) (N := ["fields", "marked", "low", "high", "at", "rights", "kind", "step", "first", "count", "places", "worths", "place", "worth"]) (sc := defScope s_word_of) (by decide +kernel)) (fun _ _ _ _ _ => by exact (pg_tup rfl (pgs_cons (pg_name (i := 12) sc_word_of.nd rfl (.inl rfl)) (pgs_cons (pg_name (i := 13) sc_word_of.nd rfl (.inl rfl)) pgs_nil)))) (fun _ _ _ _ _ => pts_nil) (fun _ _ _ _ _ => (pe_op op_shl (pv 13) (pe_ix (r := rIxT K) ix_tup (pv 12) pe_int (fun _ _ => rfl))))) pa_nil)) pa_nil))))))))))), ?_⟩
    rcases q with ⟨p, xs, rfl, hp, hk, q, bad⟩ | ⟨nt, bad⟩
    · refine ⟨_, rfl, _, rfl, .inl ⟨p, xs, rfl, hp, hk, fun b H1 s1 hb => ⟨_, rfl, ?_⟩⟩⟩
      refine ifnb (fun e => ?_) (fun e => ?_)
      · have nf : ¬ F5 xs := fun z => by rw [hb.mpr z] at e; cases e
        exact fun C d hC hd => bad nf C d _ H1 hC s1 hd
      have hf := hb.mp e
      obtain ⟨lo, hi, at', r, kd, ex, bd, hex, a0, a1, k0, k1, hr5, how⟩ := id hf
      subst ex
      replace q := q lo hi at' r kd rfl hf
      refine ⟨_, rfl, p, _, rfl, .of (s1 _ _ hp), rfl, _, _, rfl, _, _, rfl, _, _, rfl, _, _, rfl, _, _, rfl, rfl, ?_⟩
      refine ⟨_, rfl, _, rfl, lo, hi, rfl, bd, fun s p1 hs hp1 => ?_⟩
      refine ⟨p1, _, rfl, .of upd_same, rfl, _, _, rfl, _, _, rfl, _, _, rfl, rfl, ?_⟩
      refine ⟨sz (by simp), fun pp hpp => ?_⟩
      refine ⟨_, rfl, _, rfl, _, rfl, _, _, rfl, rfl, _, rfl, _, rfl, r, rfl, fun H2 s2 => ⟨_, rfl, sz (by simp), fun pw hpw => ?_⟩⟩
      have npw : pp ≠ pw := ne_of_none (s2 _ _ upd_same) hpw
      refine ⟨_, rfl, _, rfl, _, rfl, pp, pw, _, _, rfl, .inr ⟨.of (by rw [upd_ne npw]; exact s2 _ _ upd_same), .of upd_same, fun D hD => ?_⟩⟩
      have sA : Same H (upd H2 pw (.tup [.int at', .int (lo / 2 ^ s), .int (Dd lo hi s + 1 - 1), .int s, .int (maskOf r), .int kd])) := sameN (((s1.trans (sameN (same_new hp1) hpp))).trans s2) hpw
      have fpp := s2 pp _ upd_same
      have h8 := hs.1
      have dl := div_le' (s := s) bd.1
      have mb := maskOf_b r
      have dd := hs.2.1
      have dd0' : 0 ≤ Dd lo hi s := by
        unfold Dd
        have := Int.ediv_le_ediv (pow_pos2 s) (show lo ≤ hi - 1 by have := bd.2.1; omega)
        omega
      have b3 := bd.2
      have ewb : wbits lo hi at' (maskOf r) kd s = (wl at' (lo / 2 ^ s) (Dd lo hi s + 1 - 1) s (maskOf r) kd).sum := rfl
      have q' := q s
      rw [ewb] at q'
      have w1 : BW at' := ⟨a0, by omega⟩
      have w2 : BW (lo / 2 ^ s) := ⟨dl.1, by omega⟩
      have w3 : BW (Dd lo hi s + 1 - 1) := ⟨by omega, by omega⟩
      have w4 : BW (s : Int) := ⟨by omega, by omega⟩
      have w5 : BW (maskOf r) := ⟨mb.1, by omega⟩
      have w6 : BW kd := ⟨k0, by omega⟩
      clear mb dd dd0' q
      refine lc_it (walk_zipT (K := K) (a := pp) (b := pw) (n := 6) (xs := [.ref p_AT, .ref p_FIRST, .ref p_COUNT_LESS_ONE, .ref p_STEP, .ref p_RIGHTS_BITS, .ref p_KIND]) (ys := [.int at', .int (lo / 2 ^ s), .int (Dd lo hi s + 1 - 1), .int s, .int (maskOf r), .int kd]) rfl) (fun i H' => Same _ H' ∧ H' D = some (.lst (((wl at' (lo / 2 ^ s) (Dd lo hi s + 1 - 1) s (maskOf r) kd).take i).map V.int))) ⟨same_new hD, upd_same⟩ (fun i H' _ h => ⟨.of (h.1 _ _ (by rw [upd_ne npw]; exact fpp)), .of (h.1 _ _ upd_same)⟩) ?_ ?_
      · rintro i x H3 H4 hi6 ⟨sm, hl⟩ ⟨Tp, x1, y1, rfl, hn, rfl, hx1, hy1⟩
        have nD : D ≠ Tp := ne_of_none hl hn
        obtain ⟨pa, lo2, mn2, z, rfl, sq, l100, rfl, bz, tk⟩ := six_at hi6 hx1 hy1 hs_AT hs_FIRST hs_COUNT_LESS_ONE hs_STEP hs_RIGHTS_BITS hs_KIND w1 w2 w3 w4 w5 w6
        generalize hw : wipe _ (List.map _ _) = τ
        have ht : τ = [some (.ref p), some mk, some (.int lo), some (.int hi), some (.int at'), some (.str r), some (.int kd), some (.int s), some (.int (lo / 2 ^ s)), some (.int (Dd lo hi s + 1)), some (.ref pp), some (.ref pw), none, none] := by rw [← hw]; rfl
        clear hw
        subst ht
        refine ⟨Tp, _, rfl, .of upd_same, rfl, _, _, rfl, _, _, rfl, rfl, rfl, ?_⟩
        refine ⟨_, rfl, _, rfl, pa, _, 0, _, rfl, rfl, sq _, atI_nat (j := 0) rfl, _, _, rfl, rfl, cpw bz.1 bz.2 (by omega) (by omega), _, (by rw [upd_ne nD]; exact hl), ?_, ?_, ?_⟩
        · rw [List.length_map, List.length_take]
          exact szn (Nat.lt_of_le_of_lt (Nat.min_le_left _ _) (by omega))
        · exact fun b o e => by
            have n : b ≠ D := ne_of_none e hD
            have n2 : b ≠ Tp := ne_of_none (sm b o e) hn
            rw [upd_ne n, upd_ne n2]; exact sm b o e
        · rw [upd_same, tk, List.map_append]; rfl
      · rintro H3 ⟨sm, hl⟩
        refine ⟨D, _, rfl, .of hl, sz (by simp), fun pq hpq => ?_⟩
        refine q' pq _ hs (sameN (sA.trans sm) hpq) (Same.free (sA.trans sm) hpq) ?_
        rw [upd_same]; rfl
    · refine ⟨_, rfl, _, rfl, .inr ⟨nt, fun H1 s1 => ⟨_, rfl, ?_⟩⟩⟩
      refine ifnb (fun _ => ?_) (fun e => by cases e)
      exact fun C d hC hd => bad C d _ H1 hC s1 hd

def sp__law_take (K : PySem.W.Frag) : Sp := fun vs H Q _ => ∃ (a : Addr) (x y m : Int), vs = [.ref a, .int m] ∧ Pool H a x y ∧ 0 < m ∧ m < 1073741824 ∧ ∀ r x1 y1, 0 ≤ r → r < m → Pool (upd H a (.lst [.int x1, .int y1])) a x1 y1 → Q (.int r) (upd H a (.lst [.int x1, .int y1]))
theorem ok__law_take {f : Addr} {fd : FuncData} (F : Fun K "_law_take" "_law_take" s__law_take f fd) (T : Txt K mg) : FnOk P w K mg base CX0 1 f fd ["_law_pool_here", "_law_many"] (sp__law_take K) := by
  refine F.ok sc__law_take (fun vs H Q E h => ?_) (fun cdv A outer s H vs Q E hr h => ?_)
  · obtain ⟨a, x, y, m, rfl, hp, hm, hm2, q⟩ := h; rfl
  · obtain ⟨a, x, y, m, rfl, hp, hm, hm2, q⟩ := h
    refine ⟨_, (pss_cons (ps_if (pt_cmpR op_gt (pe_ix (r := rIxL K) ix_list (pv 0) pe_int (fun _ _ => rfl)) pe_int (nomark _)) (pss_cons (ps_set (i := 2) sc__law_take.nd rfl (.inl rfl) (pe_op op_mod (pe_ix (r := rIxL K) ix_list (pv 0) pe_int (fun _ _ => rfl)) (pv 1)))
      (pss_cons (ps_asg (pe_op op_fdiv (pe_ix (r := rIxL K) ix_list (pv 0) pe_int (fun _ _ => rfl)) (pv 1)) (pg_sub (pv 0) pe_int set_list))
      (pss_one (ps_ret (pv 2))))) pss_nil)
      (pss_cons (ps_asg (pe_op op_mod (pe_op op_add (pe_op op_mul (pe_ix (r := rIxL K) ix_list (pv 0) pe_int (fun _ _ => rfl)) pe_int) pe_int) pe_int) (pg_sub (pv 0) pe_int set_list))
      (pss_one (ps_ret (pe_op op_mod (pe_op op_fdiv (pe_op op_mod (pe_op op_mul (pe_ix (r := rIxL K) ix_list (pv 0) pe_int (fun _ _ => rfl)) (pe_ix (r := rIxL K) ix_list (pv 0) pe_int (fun _ _ => rfl))) pe_int) pe_int) (pv 1)))))), ?_⟩
    obtain ⟨hp, x0, y0, y1⟩ := hp
    refine ⟨_, rfl, a, _, 0, _, rfl, rfl, .of hp, atI_nat (j := 0) rfl, _, _, rfl, rfl, _, rfl, ifd (fun c => ?_) (fun c => ?_)⟩
    · refine ⟨_, rfl, a, _, 0, _, rfl, rfl, .of hp, atI_nat (j := 0) rfl, _, rfl, _, _, rfl, rfl, hm, ?_⟩
      refine ⟨_, rfl, a, _, 0, _, rfl, rfl, .of hp, atI_nat (j := 0) rfl, _, rfl, _, _, rfl, rfl, ⟨hm, hm2⟩, ?_⟩
      refine ⟨_, rfl, a, _, 0, 0, rfl, rfl, hp, rfl, ?_⟩
      refine ⟨_, rfl, q (x % m) (x / m) y (Int.emod_nonneg _ (by omega)) (Int.emod_lt_of_pos _ hm) ⟨upd_same, Int.ediv_nonneg x0 (by omega), y0, y1⟩⟩
    · refine ⟨_, rfl, a, _, 1, _, rfl, rfl, .of hp, atI_nat (j := 1) rfl, _, _, rfl, rfl, .inr ⟨by decide, by decide⟩, _, _, rfl, rfl, _, _, rfl, rfl, (by show (0 : Int) < _; decide), ?_⟩
      refine ⟨_, rfl, a, _, 1, 1, rfl, rfl, hp, rfl, ?_⟩
      have u1 : 0 ≤ (y * 48271 + 11) % 2147483647 := Int.emod_nonneg _ (by decide)
      have u2 : (y * 48271 + 11) % 2147483647 < 2147483647 := Int.emod_lt_of_pos _ (by decide)
      refine ⟨_, rfl, a, _, 1, _, rfl, rfl, .of upd_same, atI_nat (j := 1) rfl, _, rfl, a, _, 1, _, rfl, rfl, .of upd_same, atI_nat (j := 1) rfl, _, _, rfl, rfl, .inl ⟨by omega, by omega⟩, _, _, rfl, rfl, (by show (0 : Int) < _; decide), _, _, rfl, rfl, ⟨by decide, by decide⟩, _, rfl, _, _, rfl, rfl, hm, ?_⟩
      exact q _ x ((y * 48271 + 11) % 2147483647) (Int.emod_nonneg _ (by omega)) (Int.emod_lt_of_pos _ hm) ⟨upd_same, x0, u1, u2⟩

def sp__law_pool (K : PySem.W.Frag) : Sp := fun vs H Q _ => ∃ (a : Addr) (ns : List Int) (k : Nat), vs = [.ref a, .int k] ∧ SqL K H a (ns.map V.int) ∧ ns.length ≤ 63 ∧ k ≤ 63 ∧ ∀ x y p H', Same H H' → H p = none → Pool H' p x y → Q (.ref p) H'
theorem ok__law_pool {f : Addr} {fd : FuncData} (F : Fun K "_law_pool" "_law_pool" s__law_pool f fd) (T : Txt K mg) : FnOk P w K mg base CX0 1 f fd ["_law_script", "_law_k"] (sp__law_pool K) := by
  refine F.ok sc__law_pool (fun vs H Q E h => ?_) (fun cdv A outer s H vs Q E hr h => ?_)
  · obtain ⟨a, ns, k, rfl, hS, hlen, hk, q⟩ := h; rfl
  · obtain ⟨a, ns, k, rfl, hS, hlen, hk, q⟩ := h
    refine ⟨_, (pss_cons (ps_set (i := 2) sc__law_pool.nd rfl (.inl rfl) (pe_op op_add (pe_op op_mul pe_int (pe_callB (cr_sum rfl) (by rfl) T.z_sum (by decide +kernel) (pa_cons (pe_slice sl_list (pv 0) po_none (po_some pe_int)) pa_nil))) (pv 1)))
      (pss_cons (ps_if (pt_cmpR op_lt (pv 1) (pe_callB call_len_seq (by rfl) T.z_len (by decide +kernel) (pa_cons (pv 0) pa_nil)) (nomark _)) (pss_one (ps_set (i := 2) sc__law_pool.nd rfl (.inl rfl) (pe_ix (r := rIxL K) ix_list (pv 0) (pv 1) (fun _ _ => rfl)))) pss_nil)
      (pss_cons (ps_set (i := 3) sc__law_pool.nd rfl (.inl rfl) (pe_callB call_abs (by rfl) T.z_abs (by decide +kernel) (pa_cons (pv 2) pa_nil)))
      (pss_cons (ps_set (i := 4) sc__law_pool.nd rfl (.inl rfl) (pe_op op_mod (pe_op op_mul (pe_op op_add (pe_op op_add (pe_op op_add (pe_op op_mod (pv 3) pe_int) (pe_op op_mul (pe_op op_mul pe_int (pv 1)) (pv 1))) (pe_op op_mul pe_int (pv 1))) pe_int) pe_int) pe_int))
      (pss_one (ps_ret (pe_lst (pa_cons (pe_op op_mul (pv 3) (pe_callTy call_int1 (by rfl) T.z_int (by decide +kernel) (pa_cons (pe_cmpR op_ge (pv 3) (pe_op op_pow pe_int pe_int) (nomark _)) pa_nil))) (pa_cons (pe_op op_mod (pe_op op_mul (pv 4) (pv 4)) pe_int) pa_nil))))))))), ?_⟩
    refine ⟨_, rfl, _, rfl, a, _, rfl, hS, fun p hp => ?_⟩
    have s1 : Same H (upd H p (.lst (cutV (ns.map V.int) none (some 63)))) := same_new hp
    have hS1 : SqL K (upd H p (.lst (cutV (ns.map V.int) none (some 63)))) a (ns.map V.int) := s1.seq hS
    refine ⟨p, ns, rfl, .of (by rw [upd_same, cut63 hlen]), _, _, rfl, rfl, .inl ⟨by decide, by decide⟩, _, rfl, _, _, rfl, rfl, ?_⟩
    refine ⟨_, rfl, _, rfl, a, _, rfl, .inl hS1, _, _, rfl, rfl, _, rfl, ifd (fun c => ?_) (fun c => ?_)⟩
    · rw [List.length_map] at c
      have hk2 : k < ns.length := by omega
      refine ⟨_, rfl, _, rfl, a, _, (k : Int), .int ns[k], rfl, rfl, hS1, atI_nat (by rw [List.getElem?_map, List.getElem?_eq_getElem hk2]; rfl), ?_⟩
      refine ⟨_, rfl, _, rfl, ?_⟩
      refine ⟨_, rfl, _, _, rfl, rfl, (by show (0 : Int) < _; decide), _, rfl, _, _, rfl, rfl, .inl ⟨by decide, by decide⟩, _, rfl, _, _, rfl, rfl, .inr ⟨by omega, by omega⟩, _, _, rfl, rfl, _, rfl, _, _, rfl, rfl, .inl ⟨by decide, by decide⟩, _, _, rfl, rfl, _, _, rfl, rfl, _, _, rfl, rfl, .inr ⟨by decide, by decide⟩, _, _, rfl, rfl, (by show (0 : Int) < _; decide), ?_⟩
      refine ⟨_, rfl, _, rfl, _, _, rfl, rfl, ⟨by decide, by decide, by decide⟩, _, _, rfl, rfl, .inr ⟨_, rfl, _, _, rfl, rfl, .inr (b01 _), ?_⟩⟩
      refine ⟨_, rfl, _, rfl, _, _, rfl, rfl, .inl (mixb _), _, _, rfl, rfl, (by show (0 : Int) < _; decide), sz (by simp), fun p2 hp2 => ?_⟩
      exact q _ _ p2 _ (sameN s1 hp2) (Same.free s1 hp2) ⟨upd_same, sizeb _ _, Int.emod_nonneg _ (by decide), Int.lt_trans (Int.emod_lt_of_pos _ (by decide)) (by decide)⟩
    · refine ⟨_, rfl, _, rfl, ?_⟩
      refine ⟨_, rfl, _, _, rfl, rfl, (by show (0 : Int) < _; decide), _, rfl, _, _, rfl, rfl, .inl ⟨by decide, by decide⟩, _, rfl, _, _, rfl, rfl, .inr ⟨by omega, by omega⟩, _, _, rfl, rfl, _, rfl, _, _, rfl, rfl, .inl ⟨by decide, by decide⟩, _, _, rfl, rfl, _, _, rfl, rfl, _, _, rfl, rfl, .inr ⟨by decide, by decide⟩, _, _, rfl, rfl, (by show (0 : Int) < _; decide), ?_⟩
      refine ⟨_, rfl, _, rfl, _, _, rfl, rfl, ⟨by decide, by decide, by decide⟩, _, _, rfl, rfl, .inr ⟨_, rfl, _, _, rfl, rfl, .inr (b01 _), ?_⟩⟩
      refine ⟨_, rfl, _, rfl, _, _, rfl, rfl, .inl (mixb _), _, _, rfl, rfl, (by show (0 : Int) < _; decide), sz (by simp), fun p2 hp2 => ?_⟩
      exact q _ _ p2 _ (sameN s1 hp2) (Same.free s1 hp2) ⟨upd_same, sizeb _ _, Int.emod_nonneg _ (by decide), Int.lt_trans (Int.emod_lt_of_pos _ (by decide)) (by decide)⟩

def sp__law_told (K : PySem.W.Frag) : Sp := fun vs H Q _ => ∃ (p : Addr) (lo hi at' : Int) (r : Str) (kd : Int) (mk : Bool), vs = [.ref p, .bl mk] ∧ H p = some (.tup [.int lo, .int hi, .int at', .str r, .int kd]) ∧ F5 [.int lo, .int hi, .int at', .str r, .int kd] ∧ ∀ H', Same H H' → Q (.bl true) H'
theorem ok__law_told {f : Addr} {fd : FuncData} (F : Fun K "_law_told" "_law_told" s__law_told f fd) (T : Txt K mg) (C_fields_of : Cal P w K mg base "fields_of" 3 ["word"] (sp_fields_of K)) (C_word_of : CalXD P w K mg base "word_of" 8 ["fields", "marked"] [.bl true] (sp_word_of K)) (C_word_of_k : CalXK P w K mg base "word_of" 8 ["fields", "marked"] 1 ["marked"] (sp_word_of K)) : FnOk P w K mg base CX0 9 f fd ["_law_thing", "_law_mark"] (sp__law_told K) := by
  obtain ⟨p_NoFields, hk_NoFields, ak_NoFields⟩ := T.k_NoFields
  refine F.ok sc__law_told (fun vs H Q E h => ?_) (fun cdv A outer s H vs Q E hr h => ?_)
  · obtain ⟨p, lo, hi, at', r, kd, mk, rfl, hp, hf, q⟩ := h; rfl
  · obtain ⟨p, lo, hi, at', r, kd, mk, rfl, hp, hf, q⟩ := h
    refine ⟨_, (pss_cons (ps_try_keep (i := 3) (c := .ref p_NoFields) (Wout := fun _ _ _ _ => False) rfl rfl rfl sc__law_told.nd rfl rfl ⟨rfl, by decide, .inl hk_NoFields⟩ takes0
      (fun W pn xe tk _ => (pss_one (ps_set (i := 2) sc__law_told.nd rfl (.inl rfl) (by exact (pe_calXK C_word_of_k (hr.mono (by decide)) tk (by exact (pa_cons (pv 0) pa_nil)) (by exact (pk_cons (pv 1) pk_nil)))))))
      (fun a oe cls d pn hz hf => (pss_one (ps_ret (pe_callB (call_isS hz hf) (by rfl) T.z_isinstance (by decide +kernel) (pa_cons (pv 3) (pa_cons (pe_bltn (v := .ty "ValueError") (by rfl) T.z_ValueError (by decide +kernel) rfl) pa_nil)))))))
      (pss_one (ps_ret (pe_and (pe_cmpR (r := rEqD K) (op_eqD hr.units) (pe_cal C_fields_of (hr.mono (by decide)) (pa_cons (pv 2) pa_nil)) (pv 0) (nomark _)) (pe_and (pe_cmpR op_eq (pe_ix (r := rIxT K) ix_tup (pv 2) pe_int (fun _ _ => rfl)) (pv 1) (nomark _)) (pe_one (pe_callB call_isi (by rfl) T.z_isinstance (by decide +kernel) (pa_cons (pe_ix (r := rIxT K) ix_tup (pv 2) pe_int (fun _ _ => rfl)) (pa_cons (pe_bltn (v := .ty "bool") (by rfl) T.z_bool (by decide +kernel) rfl) pa_nil))))))))), ?_⟩
    obtain ⟨_, _, _, _, _, ex, bd, ⟨s0, hex⟩, a0, a1, k0, k1, hr5, how⟩ := id hf
    cases ex
    have W : WF (wbits lo hi at' (maskOf r) kd s0) lo hi at' (hasR r) kd s0 := ⟨bd, hex, a0, a1, k0, k1, by rw [← hr5]; exact how, by rw [← hr5]⟩
    have can := rtx_can (hasR r)
    rw [← hr5] at can
    refine ⟨_, rfl, _, rfl, rfl, rfl, .ref p, .bl mk, rfl, .inl ⟨p, _, rfl, hp, ?_, fun lo2 hi2 a2 r2 kd2 ex _ s q1 H1 hs sm hq hq2 => ?_, fun nf => absurd hf nf⟩⟩
    · intro x hx
      simp at hx
      rcases hx with h | h | h | h | h <;> subst h
      · exact .int _
      · exact .int _
      · exact .int _
      · exact .str _
      · exact .int _
    cases ex
    have es : s0 = s := hex.1.uniq hs
    subst es
    have al := W.all
    generalize wbits lo hi at' (maskOf r) kd s0 = b at hq2 W al
    refine ⟨_, rfl, q1, _, b, rfl, hq2, al.1.1, fun nt => absurd al.2.1.1 nt, fun _ q2 H2 s2 h1 h2 => ?_⟩
    have h3 : H2 q2 = some (.tup (tup5 b)) := h2
    rw [al.2.2.1, ← hr5] at h3
    refine ⟨_, rfl, _, _, dp5 h3, dp5 ((sm.trans s2) _ _ hp), d5_sh _ _ _ _ _ can, d5_sh _ _ _ _ _ can, _, rfl, ifb (fun _ => ?_) (fun c => (d5_no c).elim)⟩
    refine ⟨_, rfl, q1, _, 0, _, rfl, rfl, .of (s2 _ _ hq2), atI_nat (j := 0) rfl, _, rfl, rfl, _, rfl, ifd (fun _ => ?_) (fun c => absurd rfl c)⟩
    refine ⟨_, rfl, q1, _, 0, _, rfl, rfl, .of (s2 _ _ hq2), atI_nat (j := 0) rfl, _, _, _, _, true, rfl, .ty "bool", .base (.bl mk), kit_ty (by decide +kernel), ?_⟩
    exact q H2 (sm.trans s2)

def sp__law_is_refused (K : PySem.W.Frag) : Sp := fun vs H Q _ => ∃ (v : V) (mk : Bool), vs = [v, .bl mk] ∧ ((∃ (p : Addr) (xs : List V), v = .ref p ∧ H p = some (.tup xs) ∧ (∀ x ∈ xs, Kd H x) ∧ (F5 xs → ∀ H', Same H H' → Q (.bl false) H') ∧ (¬ F5 xs → ∀ H', Same H H' → Q (.bl true) H')) ∨ (NoT H v ∧ ∀ H', Same H H' → Q (.bl true) H'))
theorem ok__law_is_refused {f : Addr} {fd : FuncData} (F : Fun K "_law_is_refused" "_law_is_refused" s__law_is_refused f fd) (T : Txt K mg) (C_word_of : CalXD P w K mg base "word_of" 8 ["fields", "marked"] [.bl true] (sp_word_of K)) (C_word_of_k : CalXK P w K mg base "word_of" 8 ["fields", "marked"] 1 ["marked"] (sp_word_of K)) : FnOk P w K mg base CX0 9 f fd ["_law_thing", "_law_mark"] (sp__law_is_refused K) := by
  obtain ⟨p_NoFields, hk_NoFields, ak_NoFields⟩ := T.k_NoFields
  refine F.ok sc__law_is_refused (fun vs H Q E h => ?_) (fun cdv A outer s H vs Q E hr h => ?_)
  · obtain ⟨v, mk, rfl, q⟩ := h; rfl
  · obtain ⟨v, mk, rfl, q⟩ := h
    refine ⟨_, (pss_cons (ps_try_only (c := .ref p_NoFields) (Wout := fun _ _ _ _ => False) rfl rfl ⟨rfl, by decide, .inl hk_NoFields⟩ takes0
      (fun W pn xe tk _ => (pss_one (ps_expr (by exact (pe_calXK C_word_of_k (hr.mono (by decide)) tk (by exact (pa_cons (pv 0) pa_nil)) (by exact (pk_cons (pv 1) pk_nil)))))))
      (fun a oe cls d pn hz hf => (pss_one (ps_ret pe_bl))))
      (pss_one (ps_ret pe_bl))), ?_⟩
    rcases q with ⟨p, xs, rfl, hp, hk, q1, q2⟩ | ⟨nt, q⟩
    · refine ⟨_, rfl, _, rfl, rfl, rfl, .ref p, .bl mk, rfl, .inl ⟨p, xs, rfl, hp, hk, fun lo hi at' r kd ex hf s q H1 hs sm hq hq2 => ?_, fun nf C d v H1 hC sm hd => ?_⟩⟩
      · exact q1 hf H1 sm
      · refine ⟨true, T.x_NoFields_NoFields _ _ hC ak_NoFields, fun _ a na => ?_, fun z => nomatch z⟩
        exact q2 nf _ (sameN sm hd)
    · refine ⟨_, rfl, _, rfl, rfl, rfl, v, .bl mk, rfl, .inr ⟨nt, fun C d u H1 hC sm hd => ?_⟩⟩
      refine ⟨true, T.x_NoFields_NoFields _ _ hC ak_NoFields, fun _ a na => ?_, fun z => nomatch z⟩
      exact q _ (sameN sm hd)

def sp__law_whole (K : PySem.W.Frag) : Sp := fun vs H Q _ => ∃ v l m, vs = [v, .int l, .int m] ∧ Kd H v ∧ ∀ b, (b = true ↔ ∃ n, v = .int n ∧ l ≤ n ∧ n ≤ m) → Q (.bl b) H
theorem ok__law_whole {f : Addr} {fd : FuncData} (F : Fun K "_law_whole" "_law_whole" s__law_whole f fd) (T : Txt K mg) : FnOk P w K mg base CX0 1 f fd ["_law_thing", "_law_low", "_law_high"] (sp__law_whole K) := by
  refine F.ok sc__law_whole (fun vs H Q E h => ?_) (fun cdv A outer s H vs Q E hr h => ?_)
  · obtain ⟨v, l, m, rfl, hv, q⟩ := h; rfl
  · obtain ⟨v, l, m, rfl, hv, q⟩ := h
    refine ⟨_, (pss_one (ps_ret (pe_and (pe_callB call_isi (by rfl) T.z_isinstance (by decide +kernel) (pa_cons (pv 0) (pa_cons (pe_bltn (v := .ty "int") (by rfl) T.z_int (by decide +kernel) rfl) pa_nil))) (pe_and (pe_not (pe_callB call_isi (by rfl) T.z_isinstance (by decide +kernel) (pa_cons (pv 0) (pa_cons (pe_bltn (v := .ty "bool") (by rfl) T.z_bool (by decide +kernel) rfl) pa_nil)))) (pe_one (pe_chain op_le op_le (pv 1) (pv 0) (pv 2))))))), ?_⟩
    obtain ⟨t, ty, kt⟩ := hv.int? (K := K)
    refine ⟨_, rfl, _, _, t, _, isI v, rfl, .ty "int", ty, kt, isI v, rfl, ifb (fun e1 => ?_) (fun e1 => ?_)⟩
    · obtain ⟨t2, ty2, kt2⟩ := hv.bool? (K := K)
      refine ⟨_, rfl, _, _, t2, _, isB v, rfl, .ty "bool", ty2, kt2, isB v, rfl, !isB v, rfl, ifnb (fun e2 => ?_) (fun e2 => ?_)⟩
      · obtain ⟨n, rfl⟩ : ∃ n, v = .int n := by
          cases hv with
          | int i => exact ⟨i, rfl⟩
          | bl b => cases e2
          | _ => cases e1
        refine ⟨_, rfl, _, rfl, _, _, rfl, rfl, _, rfl, ifd (fun h1 => ?_) (fun h1 => ?_)⟩
        · refine ⟨_, rfl, _, _, rfl, rfl, q _ ?_⟩
          rw [decide_eq_true_iff]
          exact ⟨fun h => ⟨n, rfl, h1, h⟩, fun ⟨n', e, h3, h4⟩ => by cases e; exact h4⟩
        · refine q _ ⟨fun h => Bool.noConfusion h, fun ⟨n', e, h3, h4⟩ => by cases e; exact absurd h3 h1⟩
      · refine q _ ⟨fun h => Bool.noConfusion h, fun ⟨n', e, h3, h4⟩ => by cases e; cases e2⟩
    · refine q _ ⟨fun h => Bool.noConfusion h, fun ⟨n', e, h3, h4⟩ => by cases e; cases e1⟩
abbrev scope_good : Scope := { kind := ScopeKind.function, names := [(Str.ofString ".0", NameKind.local), (Str.ofString "_law_some", NameKind.cell), (Str.ofString "_law_rights", NameKind.cell)], isGenerator := false, isCoroutine := false }
def sp__law_good (K : PySem.W.Frag) : Sp := fun vs H Q _ => ∃ p, vs = [.str (rtx p)] ∧ ∀ b H', Same H H' → (b = true ↔ OneW (rtx p)) → Q (.bl b) H'
theorem ok__law_good {f : Addr} {fd : FuncData} (F : Fun K "_law_good" "_law_good" s__law_good f fd) (T : Txt K mg) : FnOk P w K mg base CX0 1 f fd ["_law_rights"] (sp__law_good K) := by
  refine F.ok sc__law_good (fun vs H Q E h => ?_) (fun cdv A outer s H vs Q E hr h => ?_)
  · obtain ⟨p, rfl, q⟩ := h; rfl
  · obtain ⟨p, rfl, q⟩ := h
    refine ⟨_, (pss_cons (ps_setLc (i := 3) (own := [("_law_some", 2)]) rfl sc__law_good.nd rfl rfl (sw_true rfl rfl rfl (by decide +kernel)) (pi_list (pe_lst (pa_cons pe_str (pa_cons pe_str (pa_cons pe_str pa_nil))))) (blkOk_by (own := [("_law_some", 2)]) (N := ["_law_rights", "_law_sign", "_law_some", "_law_groups"]) (sc := defScope s__law_good) (by decide +kernel)) (fun _ _ _ _ _ => (pg_name (i := 2) sc__law_good.nd rfl (.inr rfl))) (fun _ _ _ _ _ => pts_nil) (fun _ _ _ _ _ => (pe_cmpR (r := rNeD K) (op_neD hr.units) (pe_lc (own := [("_law_sign", 1)]) rfl sc__law_good.nd (pi_str (pv 0)) (blkOk_by (own := [("_law_sign", 1)]) (N := ["_law_rights", "_law_sign", "_law_some", "_law_groups"]) (sc := scope_good) (by decide +kernel)) (fun _ _ _ _ _ => (pg_name (i := 1) sc__law_good.nd rfl (.inl rfl))) (fun _ _ _ _ _ => by exact (pts_one (pt_cmpR op_in_sign (pv 1) (pv 2) (by rfl)))) (fun _ _ _ _ _ => by exact (pv 1))) (pe_lst pa_nil) (nomark _))))
      (pss_one (ps_ret (pe_cmpR op_lt (pe_bm PySem.F.plainAttrs_list PySem.F.slot_list_count PySem.F.type_list_count mt_lcountB (pv 3) (pa_cons pe_bl pa_nil)) pe_int (nomark _))))), ?_⟩
    refine ⟨sz (by simp), fun L hL => ?_⟩
    refine ⟨L, rfl, ⟨_, .of upd_same⟩, fun D hD => ?_⟩
    have nLD : L ≠ D := ne_of_none upd_same hD
    refine lc_it (walk_list (xs := [.str G0, .str G1, .str G2])) (fun i H' => Same _ H' ∧ H' D = some (.lst ((([G0, G1, G2].take i).map (hasG (rtx p))).map V.bl))) ⟨same_new hD, upd_same⟩ (fun i H' _ h => .of (h.1 _ _ upd_same)) ?_ ?_
    · rintro i x H1 H2 hi ⟨sm, hl⟩ ⟨rfl, hx⟩
      obtain ⟨g, hg, rfl⟩ : ∃ g, [G0, G1, G2][i]? = some g ∧ x = V.str g := by
        have : i = 0 ∨ i = 1 ∨ i = 2 := by simp at hi; omega
        rcases this with e | e | e <;> subst e <;> exact ⟨_, rfl, (Option.some.inj hx).symm⟩
      have tk : [G0, G1, G2].take (i + 1) = [G0, G1, G2].take i ++ [g] := by rw [List.take_add_one, hg]; rfl
      refine ⟨rfl, ?_⟩
      refine ⟨_, rfl, _, rfl, fun D2 hD2 => ?_⟩
      have nD2 : D ≠ D2 := ne_of_none hl hD2
      refine lc_it (walk_str (z := rtx p)) (fun j H' => Same H2 H' ∧ H' D2 = some (.lst ((((rtx p).cps.toList.take j).filter fun c => decide (c ∈ g.cps.toList)).map fun c => V.str (one c)))) ⟨same_new hD2, upd_same⟩ (fun _ _ _ _ => trivial) ?_ ?_
      · rintro j x H3 H4 hj ⟨sm3, hl3⟩ ⟨rfl, c, hc, rfl⟩
        refine ⟨rfl, ?_⟩
        have ec : (rtx p).cps.toList[j]? = some c := by rw [Array.getElem?_toList]; exact hc
        have tk2 : (rtx p).cps.toList.take (j + 1) = (rtx p).cps.toList.take j ++ [c] := by rw [List.take_add_one, ec]; rfl
        refine ⟨_, rfl, _, rfl, c, g, rfl, rfl, _, rfl, ifb (fun e => ?_) (fun e => ?_)⟩
        · refine ⟨_, rfl, _, hl3, ?_, ?_, ?_⟩
          · rw [List.length_map]
            have h1 := List.length_filter_le (fun c => decide (c ∈ g.cps.toList)) ((rtx p).cps.toList.take j)
            have h2 : ((rtx p).cps.toList.take j).length ≤ j := by rw [List.length_take]; exact Nat.min_le_left _ _
            have h3 := rtx_len p
            exact szn (by omega)
          · exact fun b o e => by
              have n : b ≠ D2 := ne_of_none e hD2
              rw [upd_ne n]; exact sm3 b o e
          · rw [upd_same, tk2, List.filter_append, List.map_append, show List.filter (fun c => decide (c ∈ g.cps.toList)) [c] = [c] by rw [List.filter_cons, if_pos e]; rfl]
            rfl
        · refine ⟨sm3, ?_⟩
          rw [tk2, List.filter_append, show List.filter (fun c => decide (c ∈ g.cps.toList)) [c] = [] by rw [List.filter_cons, if_neg (by rw [e]; exact Bool.false_ne_true)]; rfl, List.append_nil]
          exact hl3
      · rintro H3 ⟨sm3, hl3⟩
        refine ⟨sz (by simp), fun D3 hD3 => ?_⟩
        have n23 : D2 ≠ D3 := ne_of_none hl3 hD3
        have nD3 : D ≠ D3 := ne_of_none (sm3 _ _ hl) hD3
        have efull : (rtx p).cps.toList.take (rtx p).cps.size = (rtx p).cps.toList := by rw [show (rtx p).cps.size = (rtx p).cps.toList.length by simp, List.take_length]
        rw [efull] at hl3
        refine ⟨_, _, .lst (.of (show (upd H3 D3 _) D2 = _ by rw [upd_ne n23]; exact hl3)) (dp_strs _), .lst (.of upd_same) .nil, strs_shape (fun c hc => rtx_ok p (List.mem_filter.mp hc).1), rfl, ?_⟩
        refine ⟨_, (show (upd H3 D3 _) D = _ by rw [upd_ne nD3]; exact sm3 _ _ hl), ?_, ?_, ?_⟩
        · rw [List.length_map, List.length_map, List.length_take]
          exact szn (Nat.lt_of_le_of_lt (Nat.min_le_right _ _) (by decide))
        · exact fun b o e => by
            have n : b ≠ D := ne_of_none e hD
            have n3 : b ≠ D3 := ne_of_none (sm3 _ _ (sm _ _ e)) hD3
            rw [upd_ne n, upd_ne n3]
            exact sm3 _ _ (sm _ _ e)
        · rw [upd_same, tk, List.map_append, List.map_append, strs_eqv, hasG_iff]
          rfl
    · rintro H1 ⟨sm, hl⟩
      refine ⟨_, rfl, .inl ⟨rfl, _, .inl (.inl hl)⟩, D, _, rfl, rfl, .of hl, _, _, rfl, rfl, q _ _ (Same.trans (same_new hL) sm) ?_⟩
      rw [decide_eq_true_iff]
      unfold OneW
      have e : ((([G0, G1, G2].take 3).map (hasG (rtx p))).filter id).length = ([G0, G1, G2].filter (hasG (rtx p))).length := by
        rw [List.filter_map, List.length_map]; rfl
      show ((((([G0, G1, G2].take 3).map (hasG (rtx p))).filter id).length : Nat) : Int) < 2 ↔ _
      rw [e]
      omega

def sp__law_exact (K : PySem.W.Frag) : Sp := fun vs H Q _ => ∃ lo hi : Int, vs = [.int lo, .int hi] ∧ Bd lo hi ∧ ∀ b H', Same H H' → (b = true ↔ ∃ s, Ex lo hi s) → Q (.bl b) H'
theorem ok__law_exact {f : Addr} {fd : FuncData} (F : Fun K "_law_exact" "_law_exact" s__law_exact f fd) (T : Txt K mg) : FnOk P w K mg base CX0 1 f fd ["_law_low", "_law_high"] (sp__law_exact K) := by
  refine F.ok sc__law_exact (fun vs H Q E h => ?_) (fun cdv A outer s H vs Q E hr h => ?_)
  · obtain ⟨lo, hi, rfl, bd, q⟩ := h; rfl
  · obtain ⟨lo, hi, rfl, bd, q⟩ := h
    refine ⟨_, (pss_cons (ps_for PassesOwn.never rfl (pi_range1 (by rfl) T.z_range (pa_cons pe_int pa_nil)) (pg_name (i := 2) sc__law_exact.nd rfl (.inl rfl)) (pss_one (ps_if (PW.pt (pw_and (pt_cmpR op_eq (pe_op op_shl (pe_op op_shr (pv 0) (pv 2)) (pv 2)) (pv 0) (nomark _)) (pw_and1 (pt_cmpR op_eq (pe_op op_shl (pe_op op_shr (pv 1) (pv 2)) (pv 2)) (pv 1) (nomark _))))) (pss_cons (ps_set (i := 3) sc__law_exact.nd rfl (.inl rfl) (pe_op op_shr (pe_op op_sub (pv 1) (pv 0)) (pv 2)))
      (pss_one (ps_if (PW.pt (pw_and (pt_cmpR op_le (pv 3) pe_int (nomark _)) (pw_and1 (PW.pt (pw_or (pt_cmpR op_gt (pv 3) pe_int (nomark _)) (pw_or1 (pt_cmpR op_eq (pv 2) pe_int (nomark _)))))))) (pss_one (ps_ret pe_bl)) pss_nil))) pss_nil)))
      (pss_one (ps_ret pe_bl))), ?_⟩
    refine ⟨9, rfl, by decide, by decide, for_range (n := 9) (fun i σ H' => ∃ v2 v3, σ = [some (.int lo), some (.int hi), v2, v3] ∧ Same H H' ∧ ∀ t, t < i → ¬ Cnd lo hi t) ⟨_, _, rfl, Same.refl _, fun t ht => absurd ht (Nat.not_lt_zero t)⟩ ?_ ?_⟩
    · rintro i σ H1 hi9 ⟨v2, v3, rfl, sm, no⟩
      rw [i0]
      have h8 : i ≤ 8 := by omega
      have nx : ¬ Cnd lo hi i → ∀ t, t < i + 1 → ¬ Cnd lo hi t := fun nc t ht => by
        rcases Nat.lt_or_ge t i with d | d
        · exact no t d
        · have e : t = i := by omega
          rw [e]; exact nc
      obtain ⟨b1, b2, b3⟩ := id bd
      have d1 := div_le' (s := i) (x := lo) b1
      have d2 := div_le' (s := i) (x := hi) (by omega)
      refine ⟨_, rfl, _, rfl, _, _, rfl, rfl, by omega, _, rfl, _, _, rfl, rfl, cpd b1 (by omega) h8, _, rfl, rfl, _, rfl, ifd (fun c1 => ?_) (fun c1 => ⟨_, _, rfl, sm, nx fun c => c1 (congrArg V.int c.1)⟩)⟩
      refine ⟨_, rfl, _, rfl, _, _, rfl, rfl, by omega, _, rfl, _, _, rfl, rfl, cpd (by omega) b3 h8, _, rfl, rfl, _, rfl, ifd (fun c2 => ?_) (fun c2 => ⟨_, _, rfl, sm, nx fun c => c2 (congrArg V.int c.2.1)⟩)⟩
      refine ⟨_, rfl, _, rfl, _, _, rfl, rfl, _, rfl, _, _, rfl, rfl, by omega, ?_⟩
      refine ⟨_, rfl, _, _, rfl, rfl, _, rfl, ifd (fun c3 => ?_) (fun c3 => ⟨_, _, rfl, sm, nx fun c => c3 c.2.2.1⟩)⟩
      have yes : (8 < (hi - lo) / 2 ^ i ∨ i = 0) → Q (.bl true) H1 := fun c4 => q true H1 sm ⟨fun _ => ⟨i, cnd_ex bd h8 ⟨V.int.inj c1, V.int.inj c2, c3, c4⟩⟩, fun _ => rfl⟩
      refine ⟨_, rfl, _, _, rfl, rfl, _, rfl, ifd (fun c4 => yes (.inl c4)) (fun c4 => ?_)⟩
      refine ⟨_, rfl, rfl, _, rfl, ifd (fun c5 => yes (.inr (by have := V.int.inj c5; omega))) (fun c5 => ⟨_, _, rfl, sm, nx fun c => ?_⟩)⟩
      rcases c.2.2.2 with h | h
      · exact c4 h
      · exact c5 (by rw [h]; rfl)
    · rintro σ H1 ⟨v2, v3, rfl, sm, no⟩
      refine q false H1 sm ⟨fun z => Bool.noConfusion z, fun h => ?_⟩
      obtain ⟨s, e⟩ := h
      obtain ⟨h8, c⟩ := ex_cnd bd e
      exact absurd c (no s (by omega))

def sp__law_are_fields (K : PySem.W.Frag) : Sp := fun vs H Q _ => ∃ v, vs = [v] ∧ ((∃ p xs, v = .ref p ∧ H p = some (.tup xs) ∧ (∀ x ∈ xs, Kd H x) ∧ (∀ s, V.str s ∈ xs → Sok s) ∧ ∀ b H', Same H H' → (b = true ↔ F5 xs) → Q (.bl b) H') ∨ (NoT H v ∧ ∀ H', Same H H' → Q (.bl false) H'))
theorem ok__law_are_fields {f : Addr} {fd : FuncData} (F : Fun K "_law_are_fields" "_law_are_fields" s__law_are_fields f fd) (T : Txt K mg) (C__law_whole : Cal P w K mg base "_law_whole" 1 ["_law_thing", "_law_low", "_law_high"] (sp__law_whole K)) (C__law_good : Cal P w K mg base "_law_good" 1 ["_law_rights"] (sp__law_good K)) (C__law_exact : Cal P w K mg base "_law_exact" 1 ["_law_low", "_law_high"] (sp__law_exact K)) : FnOk P w K mg base CX0 2 f fd ["_law_thing"] (sp__law_are_fields K) := by
  refine F.ok sc__law_are_fields (fun vs H Q E h => ?_) (fun cdv A outer s H vs Q E hr h => ?_)
  · obtain ⟨v, rfl, q⟩ := h; rfl
  · obtain ⟨v, rfl, q⟩ := h
    refine ⟨_, (pss_cons (ps_if (PW.pt (pw_or (pt_not (pt_val (pe_callB call_isi (by rfl) T.z_isinstance (by decide +kernel) (pa_cons (pv 0) (pa_cons (pe_bltn (v := .ty "tuple") (by rfl) T.z_tuple (by decide +kernel) rfl) pa_nil))))) (pw_or1 (pt_cmpR op_ne (pe_callB call_len_seq (by rfl) T.z_len (by decide +kernel) (pa_cons (pv 0) pa_nil)) pe_int (nomark _))))) (pss_one (ps_ret pe_bl)) pss_nil)
      (pss_cons (ps_asg (pv 0) (pg_tup rfl (pgs_cons (pg_name (i := 1) sc__law_are_fields.nd rfl (.inl rfl)) (pgs_cons (pg_name (i := 2) sc__law_are_fields.nd rfl (.inl rfl)) (pgs_cons (pg_name (i := 3) sc__law_are_fields.nd rfl (.inl rfl)) (pgs_cons (pg_name (i := 4) sc__law_are_fields.nd rfl (.inr rfl)) (pgs_cons (pg_name (i := 5) sc__law_are_fields.nd rfl (.inl rfl)) pgs_nil)))))))
      (pss_cons (ps_if (PW.pt (pw_or (pt_not (pt_val (pe_cal C__law_whole (hr.mono (by decide)) (pa_cons (pv 1) (pa_cons pe_int (pa_cons pe_int pa_nil)))))) (pw_or (pt_not (pt_val (pe_cal C__law_whole (hr.mono (by decide)) (pa_cons (pv 2) (pa_cons pe_int (pa_cons pe_int pa_nil)))))) (pw_or (pt_cmpR op_ge (pv 1) (pv 2) (nomark _)) (pw_or1 (pt_not (pt_val (pe_cal C__law_exact (hr.mono (by decide)) (pa_cons (pv 1) (pa_cons (pv 2) pa_nil)))))))))) (pss_one (ps_ret pe_bl)) pss_nil)
      (pss_cons (ps_if (PW.pt (pw_or (pt_not (pt_val (pe_callB call_isi (by rfl) T.z_isinstance (by decide +kernel) (pa_cons (pv 4) (pa_cons (pe_bltn (v := .ty "str") (by rfl) T.z_str (by decide +kernel) rfl) pa_nil))))) (pw_or1 (pt_cmpR (r := rNeD K) (op_neD hr.units) (pe_lc (own := [("_law_sign", 6)]) rfl sc__law_are_fields.nd (pi_str pe_str) (blkOk_by (own := [("_law_sign", 6)]) (N := ["_law_thing", "_law_low", "_law_high", "_law_at", "_law_rights", "_law_kind", "_law_sign"]) (sc := defScope s__law_are_fields) (by decide +kernel)) (fun _ _ _ _ _ => (pg_name (i := 6) sc__law_are_fields.nd rfl (.inl rfl))) (fun _ _ _ _ _ => (pts_one (pt_cmpR op_in_sign (pv 6) (pv 4) (by rfl)))) (fun _ _ _ _ _ => (pv 6))) (pe_callTy (call_listStr rfl) (by rfl) T.z_list (by decide +kernel) (pa_cons (pv 4) pa_nil)) (nomark _))))) (pss_one (ps_ret pe_bl)) pss_nil)
      (pss_one (ps_ret (pe_and (pe_cal C__law_good (hr.mono (by decide)) (pa_cons (pv 4) pa_nil)) (pe_and (pe_cal C__law_whole (hr.mono (by decide)) (pa_cons (pv 3) (pa_cons pe_int (pa_cons pe_int pa_nil)))) (pe_one (pe_cal C__law_whole (hr.mono (by decide)) (pa_cons (pv 5) (pa_cons pe_int (pa_cons pe_int pa_nil))))))))))))), ?_⟩
    rcases q with ⟨p, xs, rfl, hp, hk, hs, q⟩ | ⟨nt, q⟩
    · refine ⟨_, rfl, _, _, _, _, true, rfl, .ty "tuple", .base (.tup hp), kit_ty (by decide +kernel), true, rfl, ?_⟩
      refine ⟨_, rfl, p, _, rfl, .inr (.of hp), rfl, _, rfl, ifnd (fun c => ?_) (fun c => ?_)⟩
      · show Q (.bl false) H
        refine q _ _ (Same.refl _) ⟨fun h => Bool.noConfusion h, fun ⟨a1, a2, a3, a4, a5, e, _⟩ => ?_⟩
        subst e
        exact absurd rfl c
      have h5 : xs.length = 5 := by
        have := V.int.inj c
        omega
      obtain ⟨x1, x2, x3, x4, x5, rfl⟩ : ∃ x1 x2 x3 x4 x5, xs = [x1, x2, x3, x4, x5] := match xs, h5 with
        | [a, b, c, d, e], _ => ⟨a, b, c, d, e, rfl⟩
      refine ⟨_, rfl, p, _, rfl, .of hp, rfl, _, _, rfl, _, _, rfl, _, _, rfl, _, _, rfl, _, _, rfl, rfl, ?_⟩
      have no : ∀ H', Same H H' → ¬ F5 [x1, x2, x3, x4, x5] → Q (.bl false) H' := fun H' s z => q _ _ s ⟨fun h => Bool.noConfusion h, fun h => absurd h z⟩
      have F : ∀ {P : Prop}, (∀ lo hi at' r kd, x1 = V.int lo → x2 = V.int hi → x3 = V.int at' → x4 = V.str r → x5 = V.int kd → Bd lo hi → (∃ s, Ex lo hi s) → 0 ≤ at' → at' ≤ 4095 → 0 ≤ kd → kd ≤ 15 → r = rtx (hasR r) → OneW r → P) → F5 [x1, x2, x3, x4, x5] → P := fun {P} h => by
        rintro ⟨lo, hi, a, r, kd, ex, b1, b2, b3, b4, b5, b6, b7, b8⟩
        injection ex with e1 ex
        injection ex with e2 ex
        injection ex with e3 ex
        injection ex with e4 ex
        injection ex with e5 ex
        exact h lo hi a r kd e1 e2 e3 e4 e5 b1 b2 b3 b4 b5 b6 b7 b8
      refine ⟨_, rfl, x1, _, _, rfl, hk x1 (by simp), fun b1 hb1 => ⟨_, rfl, ifnb (fun e => ?_) (fun e1 => ?_)⟩⟩
      · show Q (.bl false) H
        exact no _ (Same.refl _) (F fun lo hi a r kd z1 z2 z3 z4 z5 bd _ _ _ _ _ _ _ => by rw [hb1.mpr ⟨lo, z1, bd.1, by have := bd.2; omega⟩] at e; cases e)
      obtain ⟨lo, rfl, l1, l2⟩ := hb1.mp e1
      refine ⟨_, rfl, x2, _, _, rfl, hk x2 (by simp), fun b2 hb2 => ⟨_, rfl, ifnb (fun e => ?_) (fun e2 => ?_)⟩⟩
      · show Q (.bl false) H
        exact no _ (Same.refl _) (F fun lo' hi a r kd z1 z2 z3 z4 z5 bd _ _ _ _ _ _ _ => by rw [hb2.mpr ⟨hi, z2, by have := bd.1; have := bd.2; omega, bd.2.2⟩] at e; cases e)
      obtain ⟨hi, rfl, l3, l4⟩ := hb2.mp e2
      refine ⟨_, rfl, _, rfl, _, _, rfl, rfl, _, rfl, ifd (fun c1 => ?_) (fun c1 => ?_)⟩
      · show Q (.bl false) H
        exact no _ (Same.refl _) (F fun lo' hi' a r kd z1 z2 z3 z4 z5 bd _ _ _ _ _ _ _ => by cases z1; cases z2; have := bd.2.1; omega)
      have bd : Bd lo hi := ⟨l1, by omega, l4⟩
      refine ⟨_, rfl, _, rfl, lo, hi, rfl, bd, fun b3 H1 s1 hb3 => ⟨_, rfl, ifnb (fun e => ?_) (fun e3 => ?_)⟩⟩
      · show Q (.bl false) H1
        exact no _ s1 (F fun lo' hi' a r kd z1 z2 z3 z4 z5 _ hex _ _ _ _ _ _ => by cases z1; cases z2; rw [hb3.mpr hex] at e; cases e)
      have hex := hb3.mp e3
      obtain ⟨t, ty, kt⟩ := ((hk x4 (by simp)).same s1).str? (K := K)
      refine ⟨_, rfl, _, _, t, _, isS x4, rfl, .ty "str", ty, kt, isS x4, rfl, ifnb (fun e => ?_) (fun e4 => ?_)⟩
      · show Q (.bl false) H1
        exact no _ s1 (F fun lo' hi' a r kd z1 z2 z3 z4 z5 _ _ _ _ _ _ _ _ => by rw [z4] at e; cases e)
      obtain ⟨r, rfl⟩ : ∃ r, x4 = .str r := by
        cases hk x4 (by simp) with
        | str r => exact ⟨r, rfl⟩
        | _ => cases e4
      have sr := hs r (by simp)
      refine ⟨RT, rfl, fun D hD => ?_⟩
      refine lc_it (walk_str (z := RT)) (fun i H' => Same H1 H' ∧ H' D = some (.lst ((rcs (hasR r) i).map V.str))) ⟨same_new hD, upd_same⟩ (fun _ _ _ _ => trivial) ?_ ?_
      · rintro i x H2 H3 hi ⟨sm, hl⟩ ⟨rfl, c, hc, rfl⟩
        rw [RT_size] at hi
        rw [RT_get i hi] at hc
        have ec : c = code i := (Option.some.inj hc).symm
        subst ec
        refine ⟨rfl, ?_⟩
        refine ⟨_, rfl, _, rfl, code i, r, rfl, rfl, _, rfl, ifb (fun e => ?_) (fun e => ?_)⟩
        · refine ⟨_, rfl, _, hl, ?_, ?_, ?_⟩
          · rw [List.length_map]
            have := rcs_len (hasR r) i
            exact szn (by omega)
          · exact fun b o e => by
              have n : b ≠ D := ne_of_none e hD
              rw [upd_ne n]; exact sm b o e
          · rw [upd_same, rcs_succ, List.map_append, if_pos (show hasR r i = true from e)]; rfl
        · refine ⟨sm, ?_⟩
          rw [rcs_succ, if_neg (by unfold hasR; rw [e]; exact Bool.false_ne_true), List.append_nil]
          exact hl
      rintro H2 ⟨sm, hl⟩
      rw [RT_size] at hl
      refine ⟨_, rfl, r, rfl, ?_, fun L hL => ?_⟩
      · have := sr.2; rw [sizeLine_eq]; omega
      have hl2 : (upd H2 L (.lst (signs r))) D = some (.lst ((rcs (hasR r) 9).map V.str)) := by rw [upd_ne (ne_of_none hl hL)]; exact hl
      have S2 : Same H (upd H2 L (.lst (signs r))) := sameN (s1.trans sm) hL
      have hL2 : (upd H2 L (.lst (signs r))) L = some (.lst ((r.cps.toList.map one).map V.str)) := by rw [upd_same, signs_strs]
      generalize upd H2 L _ = H3 at hl2 S2 hL2 ⊢
      refine ⟨_, _, dp_txts hl2, dp_txts hL2, shaped_strs (ok_rcs _), shaped_strs (ok_signs sr.1), _, rfl, ifnb (fun e => ?_) (fun e5 => ?_)⟩
      · show Q (.bl false) H3
        refine no _ S2 (F fun lo' hi' a r' kd z1 z2 z3 z4 z5 _ _ _ _ _ _ hr _ => ?_)
        cases z4
        have e6 := rcs_sig hr
        rw [signs_strs] at e6
        have e7 := (List.map_inj_right (fun a b e => V.str.inj e)).mp e6
        rw [eqv_strs.mpr e7] at e; cases e
      have hr5 : r = rtx (hasR r) := rcs_ext (by rw [signs_strs, eqv_strs.mp e5])
      refine ⟨_, rfl, hasR r, congrArg (fun z => [V.str z]) hr5, fun b6 H4 s4 hb6 => ⟨_, rfl, ifb (fun e6 => ?_) (fun e => ?_)⟩⟩
      case refine_2 =>
        refine no _ (S2.trans s4) (F fun lo' hi' a r' kd z1 z2 z3 z4 z5 _ _ _ _ _ _ hr hw => ?_)
        cases z4
        rw [hb6.mpr (by rw [← hr5]; exact hw)] at e; cases e
      have S4 := S2.trans s4
      have ow : OneW r := by have := hb6.mp e6; rw [← hr5] at this; exact this
      refine ⟨_, rfl, x3, _, _, rfl, (hk x3 (by simp)).same S4, fun b7 hb7 => ⟨_, rfl, ifb (fun e7 => ?_) (fun e => ?_)⟩⟩
      case refine_2 =>
        exact no _ S4 (F fun lo' hi' a r' kd z1 z2 z3 z4 z5 _ _ a0 a1 _ _ _ _ => by rw [hb7.mpr ⟨a, z3, a0, a1⟩] at e; cases e)
      obtain ⟨at', rfl, a0, a1⟩ := hb7.mp e7
      refine ⟨_, rfl, x5, _, _, rfl, (hk x5 (by simp)).same S4, fun b8 hb8 => q _ _ S4 ?_⟩
      rw [hb8]
      constructor
      · rintro ⟨kd, rfl, k0, k1⟩
        exact ⟨lo, hi, at', r, kd, rfl, bd, hex, a0, a1, k0, k1, hr5, ow⟩
      · exact F fun lo' hi' a r' kd z1 z2 z3 z4 z5 _ _ _ _ k0 k1 _ _ => ⟨kd, z5, k0, k1⟩
    · obtain ⟨t, ty, kt⟩ := nt.tup? (K := K)
      refine ⟨_, rfl, _, _, t, _, false, rfl, .ty "tuple", ty, kt, false, rfl, ?_⟩
      show Q (.bl false) H
      exact q _ (Same.refl _)

def sp__law_bounds (K : PySem.W.Frag) : Sp := fun vs H Q _ => ∃ (a : Addr) (x y : Int), vs = [.ref a] ∧ Pool H a x y ∧ ∀ lo hi p x1 y1 H', Bd lo hi → (∃ s, Ex lo hi s) → But a H H' → Pool H' a x1 y1 → H p = none → H' p = some (.tup [.int lo, .int hi]) → Q (.ref p) H'
theorem ok__law_bounds {f : Addr} {fd : FuncData} (F : Fun K "_law_bounds" "_law_bounds" s__law_bounds f fd) (T : Txt K mg) (C__law_take : Cal P w K mg base "_law_take" 1 ["_law_pool_here", "_law_many"] (sp__law_take K)) : FnOk P w K mg base CX0 2 f fd ["_law_pool_here"] (sp__law_bounds K) := by
  refine F.ok sc__law_bounds (fun vs H Q E h => ?_) (fun cdv A outer s H vs Q E hr h => ?_)
  · obtain ⟨a, x, y, rfl, hP, q⟩ := h; rfl
  · obtain ⟨a, x, y, rfl, hP, q⟩ := h
    refine ⟨_, (pss_cons (ps_set (i := 1) sc__law_bounds.nd rfl (.inl rfl) (pe_cal C__law_take (hr.mono (by decide)) (pa_cons (pv 0) (pa_cons pe_int pa_nil))))
      (pss_cons (ps_set (i := 2) sc__law_bounds.nd rfl (.inl rfl) (pe_ix (r := rIxL K) ix_list (pe_lst (pa_cons (pe_op op_add pe_int (pe_cal C__law_take (hr.mono (by decide)) (pa_cons (pv 0) (pa_cons pe_int pa_nil)))) (pa_cons (pe_op op_add pe_int (pe_cal C__law_take (hr.mono (by decide)) (pa_cons (pv 0) (pa_cons pe_int pa_nil)))) pa_nil))) (pe_callTy call_int1 (by rfl) T.z_int (by decide +kernel) (pa_cons (pe_cmpR op_eq (pv 1) pe_int (nomark _)) pa_nil)) (fun _ _ => rfl)))
      (pss_cons (ps_set (i := 3) sc__law_bounds.nd rfl (.inl rfl) (pe_op op_shl (pe_cal C__law_take (hr.mono (by decide)) (pa_cons (pv 0) (pa_cons (pe_op op_add (pe_op op_sub (pe_op op_shr pe_int (pv 1)) (pv 2)) pe_int) pa_nil))) (pv 1)))
      (pss_one (ps_ret (pe_tup (pa_cons (pv 3) (pa_cons (pe_op op_add (pv 3) (pe_op op_shl (pv 2) (pv 1))) pa_nil)))))))), ?_⟩
    refine ⟨_, rfl, a, x, y, _, rfl, hP, by decide, by decide, fun st x1 y1 s0 s1 P1 => ?_⟩
    obtain ⟨s, rfl⟩ := Int.eq_ofNat_of_zero_le s0
    have h8 : s ≤ 8 := by omega
    refine ⟨_, rfl, a, x1, y1, _, rfl, P1, by decide, by decide, fun r1 x2 y2 r10 r11 P2 => ⟨_, _, rfl, rfl, ?_⟩⟩
    refine ⟨_, rfl, a, x2, y2, _, rfl, P2, by decide, by decide, fun r2 x3 y3 r20 r21 P3 => ⟨_, _, rfl, rfl, sz (by simp), fun L hL => ?_⟩⟩
    have P4 := P3.new hL (o := .lst [.int (9 + r1), .int (1 + r2)])
    have B4 : But a H (upd (upd (upd (upd H a (.lst [.int x1, .int y1])) a (.lst [.int x2, .int y2])) a (.lst [.int x3, .int y3])) L (.lst [.int (9 + r1), .int (1 + r2)])) := ((((But.refl a H).upd).upd).upd).new hL
    have fL := upd_same (H := upd (upd (upd H a (.lst [.int x1, .int y1])) a (.lst [.int x2, .int y2])) a (.lst [.int x3, .int y3])) (a := L) (o := .lst [.int (9 + r1), .int (1 + r2)])
    generalize upd (upd (upd (upd H a (.lst [.int x1, .int y1])) a (.lst [.int x2, .int y2])) a (.lst [.int x3, .int y3])) L (.lst [.int (9 + r1), .int (1 + r2)]) = H4 at P4 B4 fL ⊢
    have key : ∀ c : Int, 1 ≤ c → c ≤ 16 → (9 ≤ c ∨ s = 0) → 0 < 4096 / 2 ^ s - c + 1 ∧ 4096 / 2 ^ s - c + 1 < 1073741824 ∧ ∀ r, 0 ≤ r → r < 4096 / 2 ^ s - c + 1 → ∀ x5 y5 p, upd H4 a (.lst [.int x5, .int y5]) p = none → Pool (upd H4 a (.lst [.int x5, .int y5])) a x5 y5 → Q (.ref p) (upd (upd H4 a (.lst [.int x5, .int y5])) p (.tup [.int (r * 2 ^ s), .int (r * 2 ^ s + c * 2 ^ s)])) := fun c c1 c2 c3 => by
      have mm := made_many h8 c1 c2
      refine ⟨mm.1, mm.2, fun r r0 r1 x5 y5 p hp P5 => ?_⟩
      have m := made_cnd h8 r0 r1 c1 c2 c3
      have B5 : But a H (upd H4 a (.lst [.int x5, .int y5])) := B4.upd
      exact q _ _ p x5 y5 _ m.1 ⟨s, cnd_ex m.1 h8 m.2⟩ (B5.new hp) (P5.new hp) (B5.free P5 hp) upd_same
    by_cases z : s = 0
    · obtain ⟨k1, k2, k3⟩ := key (1 + r2) (by omega) (by omega) (.inr z)
      have dv := div_le' (s := s) (x := 4096) (by decide)
      refine ⟨_, rfl, rfl, .inr ⟨_, rfl, L, _, _, .int (1 + r2), rfl, rfl, .of fL, (by rw [decide_eq_true (show V.int ((s : Nat) : Int) = V.int 0 by rw [z]; rfl)]; exact atI_nat (j := 1) rfl), ?_⟩⟩
      refine ⟨_, rfl, _, rfl, _, _, rfl, rfl, by omega, _, rfl, _, _, rfl, rfl, _, _, rfl, rfl, a, x3, y3, _, rfl, P4, k1, k2, fun r5 x5 y5 r50 r51 P5 => ?_⟩
      have r52 : r5 < 4096 / 2 ^ s - (1 + r2) + 1 := r51
      refine ⟨_, rfl, _, _, rfl, rfl, cpw r50 (by omega) (by omega) (by omega), ?_⟩
      refine ⟨_, rfl, _, rfl, _, rfl, _, rfl, _, _, rfl, rfl, cpw (by omega) (by omega) (by omega) (by omega), _, _, rfl, rfl, sz (by simp), fun p hp => ?_⟩
      exact k3 r5 r50 r51 x5 y5 p hp P5
    · obtain ⟨k1, k2, k3⟩ := key (9 + r1) (by omega) (by omega) (.inl (by omega))
      have dv := div_le' (s := s) (x := 4096) (by decide)
      refine ⟨_, rfl, rfl, .inr ⟨_, rfl, L, _, _, .int (9 + r1), rfl, rfl, .of fL, (by rw [decide_eq_false (fun h : V.int ((s : Nat) : Int) = V.int 0 => z (by have := V.int.inj h; omega))]; exact atI_nat (j := 0) rfl), ?_⟩⟩
      refine ⟨_, rfl, _, rfl, _, _, rfl, rfl, by omega, _, rfl, _, _, rfl, rfl, _, _, rfl, rfl, a, x3, y3, _, rfl, P4, k1, k2, fun r5 x5 y5 r50 r51 P5 => ?_⟩
      have r52 : r5 < 4096 / 2 ^ s - (9 + r1) + 1 := r51
      refine ⟨_, rfl, _, _, rfl, rfl, cpw r50 (by omega) (by omega) (by omega), ?_⟩
      refine ⟨_, rfl, _, rfl, _, rfl, _, rfl, _, _, rfl, rfl, cpw (by omega) (by omega) (by omega) (by omega), _, _, rfl, rfl, sz (by simp), fun p hp => ?_⟩
      exact k3 r5 r50 r51 x5 y5 p hp P5

def sp__law_bent (K : PySem.W.Frag) : Sp := fun vs H Q _ => ∃ (a f : Addr) (x y lo hi at' : Int) (r : Str) (kd : Int), vs = [.ref a, .ref f] ∧ Pool H a x y ∧ H f = some (.tup [.int lo, .int hi, .int at', .str r, .int kd]) ∧ Sok r ∧ (0 ≤ lo ∧ lo ≤ 5000 ∧ 0 ≤ hi ∧ hi ≤ 5000 ∧ 0 ≤ at' ∧ at' ≤ 5000 ∧ 0 ≤ kd ∧ kd ≤ 5000) ∧ ∀ v x1 y1 H', But a H H' → Pool H' a x1 y1 → Thing K (hide a H') v → Q v H'
theorem ok__law_bent {f : Addr} {fd : FuncData} (F : Fun K "_law_bent" "_law_bent" s__law_bent f fd) (T : Txt K mg) (C__law_take : Cal P w K mg base "_law_take" 1 ["_law_pool_here", "_law_many"] (sp__law_take K)) : FnOk P w K mg base CX0 2 f fd ["_law_pool_here", "_law_fields"] (sp__law_bent K) := by
  refine F.ok sc__law_bent (fun vs H Q E h => ?_) (fun cdv A outer s H vs Q E hr h => ?_)
  · obtain ⟨a, f1, x, y, lo, hi, at', r, kd, rfl, hP, ff, sr, ⟨n1, n2, n3, n4, n5, n6, n7, n8⟩, q⟩ := h; rfl
  · obtain ⟨a, f1, x, y, lo, hi, at', r, kd, rfl, hP, ff, sr, ⟨n1, n2, n3, n4, n5, n6, n7, n8⟩, q⟩ := h
    refine ⟨_, (pss_cons (ps_set (i := 2) sc__law_bent.nd rfl (.inl rfl) (pe_ix (r := rIxL K) ix_list (pe_lst (pa_cons pe_non (pa_cons pe_bl (pa_cons (pe_un un_neg pe_int) (pa_cons pe_int (pa_cons pe_int (pa_cons pe_int (pa_cons pe_str (pa_cons pe_str (pa_cons pe_str (pa_cons pe_str (pa_cons pe_str (pa_cons pe_str (pa_cons pe_str (pa_cons (pe_tup (pa_cons pe_int pa_nil)) (pa_cons pe_int (pa_cons (pe_op op_pow pe_int pe_int) pa_nil))))))))))))))))) (pe_cal C__law_take (hr.mono (by decide)) (pa_cons (pv 0) (pa_cons pe_int pa_nil))) (fun _ _ => rfl)))
      (pss_cons (ps_set (i := 3) sc__law_bent.nd rfl (.inl rfl) (pe_cal C__law_take (hr.mono (by decide)) (pa_cons (pv 0) (pa_cons pe_int pa_nil))))
      (pss_cons (ps_par3 (i := 4) (j := 5) (l := 6) rfl sc__law_bent.nd rfl rfl rfl (by decide) (by decide) (by decide) rfl rfl rfl (pa_cons (pe_ix (r := rIxT K) ix_tup (pv 1) pe_int (fun _ _ => rfl)) (pa_cons (pe_ix (r := rIxT K) ix_tup (pv 1) pe_int (fun _ _ => rfl)) (pa_cons (pe_slice sl_tup (pv 1) (po_some pe_int) po_none) pa_nil))) (by rfl))
      (pss_cons (ps_set (i := 7) sc__law_bent.nd rfl (.inl rfl) (pe_lst (pa_cons (pe_op op_catA (pe_op op_catA (pe_slice sl_tup (pv 1) po_none (po_some (pv 3))) (pe_tup (pa_cons (pv 2) pa_nil))) (pe_slice sl_tup (pv 1) (po_some (pe_op op_add (pv 3) pe_int)) po_none)) (pa_cons (pe_op op_catA (pe_tup (pa_cons (pv 5) (pa_cons (pv 4) pa_nil))) (pv 6)) (pa_cons (pe_op op_catA (pe_tup (pa_cons (pv 4) (pa_cons (pv 4) pa_nil))) (pv 6)) (pa_cons (pe_op op_catA (pe_tup (pa_cons (pe_op op_add (pv 4) pe_int) (pa_cons (pv 5) pa_nil))) (pv 6)) pa_nil))))))
      (pss_cons (ps_set (i := 7) sc__law_bent.nd rfl (.inl rfl) (pe_op op_cat (pv 7) (pe_lst (pa_cons (pe_op op_catA (pe_tup (pa_cons (pv 4) (pa_cons (pe_op op_sub (pv 5) pe_int) pa_nil))) (pv 6)) (pa_cons (pe_op op_catA (pv 1) (pe_tup (pa_cons pe_int pa_nil))) (pa_cons (pe_slice sl_tup (pv 1) po_none (po_some pe_int)) (pa_cons (pe_callTy call_list_of (by rfl) T.z_list (by decide +kernel) (pa_cons (pv 1) pa_nil)) (pa_cons pe_non (pa_cons (pe_op op_catA (pe_tup (pa_cons (pv 4) (pa_cons (pe_op op_add (pv 5) pe_int) pa_nil))) (pv 6)) pa_nil)))))))))
      (pss_one (ps_ret (pe_ix (r := rIxL K) ix_list (pv 7) (pe_cal C__law_take (hr.mono (by decide)) (pa_cons (pv 0) (pa_cons pe_int pa_nil))) (fun _ _ => rfl))))))))), ?_⟩
    refine ⟨_, rfl, sz (by simp), fun t0 ht0 => ?_⟩
    refine ⟨_, _, rfl, rfl, ⟨by decide, by decide, by decide⟩, sz (by simp), fun L hL => ?_⟩
    refine ⟨_, rfl, a, x, y, _, rfl, (hP.new ht0).new hL, by decide, by decide, fun r1 x1 y1 r10 r11 P1 => ?_⟩
    have n0 : t0 ≠ a := (ne_of_none hP.1 ht0).symm
    have nL : L ≠ a := (ne_of_none (hP.new ht0).1 hL).symm
    have n0L : t0 ≠ L := ne_of_none upd_same hL
    have nf : f1 ≠ a := fun z => by rw [z, hP.1] at ff; cases ff
    have fT := fun (o : HO) => (updK (H := upd (upd H t0 (.tup [.int 0])) L o) n0 (updK n0L upd_same) : (upd (upd (upd H t0 (.tup [.int 0])) L o) a (.lst [.int x1, .int y1])) t0 = some (.tup [.int 0]))
    have B1 := fun (o : HO) => (((But.refl a H).new ht0).new (o := o) hL).upd (o := .lst [.int x1, .int y1])
    obtain ⟨v, hv, lv⟩ := pick (P := Leafy K (hide a (upd (upd (upd H t0 (.tup [.int 0])) L (.lst [V.non, .bl true, .int (-1), .int 4096, .int 4097, .int 16, .str (Str.ofString ""), .str (Str.ofString "r"), .str (Str.ofString "wr"), .str (Str.ofString "rx"), .str (Str.ofString "xc"), .str (Str.ofString "rr"), .str (Str.ofString "z"), .ref t0, .int 0, .int (10 ^ (20 : Int).toNat)])) a (.lst [.int x1, .int y1])))) (xs := [V.non, .bl true, .int (-1), .int 4096, .int 4097, .int 16, .str (Str.ofString ""), .str (Str.ofString "r"), .str (Str.ofString "wr"), .str (Str.ofString "rx"), .str (Str.ofString "xc"), .str (Str.ofString "rr"), .str (Str.ofString "z"), .ref t0, .int 0, .int (10 ^ (20 : Int).toNat)]) r10 r11 (by
      intro v hv
      simp only [List.mem_cons, List.not_mem_nil, or_false] at hv
      rcases hv with h | h | h | h | h | h | h | h | h | h | h | h | h | h | h | h <;> subst h
      · exact leafy_none
      · exact leafy_bl _
      · exact leafy_int (by decide)
      · exact leafy_int (by decide)
      · exact leafy_int (by decide)
      · exact leafy_int (by decide)
      · exact leafy_str (sok_of (by decide +kernel))
      · exact leafy_str (sok_of (by decide +kernel))
      · exact leafy_str (sok_of (by decide +kernel))
      · exact leafy_str (sok_of (by decide +kernel))
      · exact leafy_str (sok_of (by decide +kernel))
      · exact leafy_str (sok_of (by decide +kernel))
      · exact leafy_str (sok_of (by decide +kernel))
      · exact leafy_one (hide_at (fT _) n0) (by decide)
      · exact leafy_int (by decide)
      · exact leafy_int (by decide))
    refine ⟨L, _, r1, v, rfl, rfl, .of (by rw [upd_ne nL]; exact upd_same), hv, ?_⟩
    have B2 := B1 (.lst [V.non, .bl true, .int (-1), .int 4096, .int 4097, .int 16, .str (Str.ofString ""), .str (Str.ofString "r"), .str (Str.ofString "wr"), .str (Str.ofString "rx"), .str (Str.ofString "xc"), .str (Str.ofString "rr"), .str (Str.ofString "z"), .ref t0, .int 0, .int (10 ^ (20 : Int).toNat)])
    clear hv B1 fT
    generalize upd (upd (upd H t0 _) L _) a _ = H1 at B2 lv P1 ⊢
    refine ⟨_, rfl, a, x1, y1, _, rfl, P1, by decide, by decide, fun r2 x2 y2 r20 r21 P2 => ?_⟩
    have B3 := B2.trans ((But.refl a H1).upd (o := .lst [.int x2, .int y2]))
    have lv2 : Leafy K (hide a (upd H1 a (.lst [.int x2, .int y2]))) v := lv.same (hide_but ((But.refl a H1).upd))
    generalize upd H1 a (.lst [.int x2, .int y2]) = H2 at B3 lv2 P2 ⊢
    have ff2 := B3 _ _ nf ff
    refine ⟨_, rfl, f1, _, 0, _, rfl, rfl, .of ff2, atI_nat (j := 0) rfl, _, rfl, f1, _, 1, _, rfl, rfl, .of ff2, atI_nat (j := 1) rfl, _, rfl, 2, rfl, f1, _, rfl, .of ff2, (by show ¬ (2 = 0 ∧ 5 = 5); decide), fun R hR => ⟨_, _, _, rfl, ?_⟩⟩
    have bt : Bt a f1 R x2 y2 lo hi at' r kd H (upd H2 R (.tup [.int at', .str r, .int kd])) := ⟨same_new hR _ _ ff2, upd_same, P2.new hR, B3.new hR⟩
    have lv3 := lv2.go (same_new (o := .tup [.int at', .str r, .int kd]) hR)
    have eR : cutV [V.int lo, .int hi, .int at', .str r, .int kd] (some 2) none = [.int at', .str r, .int kd] := rfl
    rw [eR]
    generalize upd H2 R _ = H3 at bt lv3 ⊢
    clear lv lv2 B2 B3 ff2 P1 P2
    refine' with_finVH (A := fun T H' => Same H3 H' ∧ T ≠ a ∧ ∃ xs, H' T = some (.tup xs) ∧ xs.length ≤ 8 ∧ ∀ x ∈ xs, Leafy K (hide a H') x) ?h ?k
    case k =>
      intro fin
      have c5 : r2 = 0 ∨ r2 = 1 ∨ r2 = 2 ∨ r2 = 3 ∨ r2 = 4 := by omega
      rcases c5 with h | h | h | h | h
      · refine ⟨_, rfl, _, rfl, r2, rfl, f1, _, rfl, .of bt.ff, (by rw [h]; show ¬ (0 = 0 ∧ 0 = 5); decide), fun A1 hA1 => ⟨_, rfl, sz (by simp), fun A2 hA2 => ?_⟩⟩
        have eX : cutV [V.int lo, .int hi, .int at', .str r, .int kd] none (some r2) = ([] : List V) := by rw [h]; rfl
        rw [eX] at hA2 ⊢
        have S4 := sameN (same_new (o := .tup []) hA1) (o := .tup [v]) hA2
        have e1 : (upd (upd H3 A1 (.tup [])) A2 (.tup [v])) A1 = some (.tup []) := updK (ne_of_none upd_same hA2) upd_same
        have e2 : (upd (upd H3 A1 (.tup [])) A2 (.tup [v])) A2 = some (.tup [v]) := upd_same
        generalize upd (upd H3 A1 (.tup [])) A2 (.tup [v]) = H4 at S4 e1 e2 ⊢
        refine ⟨A1, A2, _, _, rfl, rfl, .of e1, .of e2, sz (by simp), fun _ => ?_, fun z => absurd rfl z, fun z => absurd rfl z⟩
        have S5 := S4; have e3 := e2; have hA2' := e2; clear e2 e1
        have bt5 := bt.go S5
        have nT1 : A2 ≠ a := fun z => by rw [z, bt5.P.1] at e3; cases e3
        refine ⟨_, rfl, _, rfl, _, _, rfl, rfl, r2 + 1, rfl, f1, _, rfl, .of bt5.ff, (by rw [h]; show ¬ (1 = 0 ∧ 5 = 5); decide), fun A4 hA4 => ?_⟩
        have eY : cutV [V.int lo, .int hi, .int at', .str r, .int kd] (some (r2 + 1)) none = ([.int hi, .int at', .str r, .int kd] : List V) := by rw [h]; rfl
        rw [eY]
        have S6 := sameN S5 (o := .tup [.int hi, .int at', .str r, .int kd]) hA4
        have e4 : (upd H4 A4 (.tup [.int hi, .int at', .str r, .int kd])) A4 = some (.tup [.int hi, .int at', .str r, .int kd]) := upd_same
        have e5 : (upd H4 A4 (.tup [.int hi, .int at', .str r, .int kd])) A2 = some (.tup [v]) := same_new hA4 _ _ e3
        generalize upd H4 A4 (.tup [.int hi, .int at', .str r, .int kd]) = H6 at S6 e4 e5 ⊢
        refine ⟨A2, A4, _, _, rfl, rfl, .of e5, .of e4, sz (by simp), (fun z => nomatch z), (fun _ z => nomatch z), fun _ _ T2 hT2 => ?_⟩
        have S7 := sameN S6 (o := .tup ([v] ++ [.int hi, .int at', .str r, .int kd])) hT2
        have nT2 : T2 ≠ a := (ne_of_none (bt.go S6).P.1 hT2).symm
        have e7 : (upd H6 T2 (.tup ([v] ++ [.int hi, .int at', .str r, .int kd]))) T2 = some (.tup [v, .int hi, .int at', .str r, .int kd]) := upd_same
        generalize upd H6 T2 (.tup ([v] ++ [.int hi, .int at', .str r, .int kd])) = H7 at S7 e7 ⊢
        have lv7 := lv3.go S7
        exact fin T2 H7 ⟨S7, nT2, _, e7, by simp, by walk_at "leafs"⟩
      · refine ⟨_, rfl, _, rfl, r2, rfl, f1, _, rfl, .of bt.ff, (by rw [h]; show ¬ (0 = 0 ∧ 1 = 5); decide), fun A1 hA1 => ⟨_, rfl, sz (by simp), fun A2 hA2 => ?_⟩⟩
        have eX : cutV [V.int lo, .int hi, .int at', .str r, .int kd] none (some r2) = ([.int lo] : List V) := by rw [h]; rfl
        rw [eX] at hA2 ⊢
        have S4 := sameN (same_new (o := .tup [.int lo]) hA1) (o := .tup [v]) hA2
        have e1 : (upd (upd H3 A1 (.tup [.int lo])) A2 (.tup [v])) A1 = some (.tup [.int lo]) := updK (ne_of_none upd_same hA2) upd_same
        have e2 : (upd (upd H3 A1 (.tup [.int lo])) A2 (.tup [v])) A2 = some (.tup [v]) := upd_same
        generalize upd (upd H3 A1 (.tup [.int lo])) A2 (.tup [v]) = H4 at S4 e1 e2 ⊢
        refine ⟨A1, A2, _, _, rfl, rfl, .of e1, .of e2, sz (by simp), (fun z => nomatch z), (fun _ z => nomatch z), fun _ _ T1 hT1 => ?_⟩
        have S5 := sameN S4 (o := .tup ([.int lo] ++ [v])) hT1
        have e3 : (upd H4 T1 (.tup ([.int lo] ++ [v]))) T1 = some (.tup [.int lo, v]) := upd_same
        generalize upd H4 T1 (.tup ([.int lo] ++ [v])) = H5 at S5 e3 ⊢
        have bt5 := bt.go S5
        have nT1 : T1 ≠ a := fun z => by rw [z, bt5.P.1] at e3; cases e3
        refine ⟨_, rfl, _, rfl, _, _, rfl, rfl, r2 + 1, rfl, f1, _, rfl, .of bt5.ff, (by rw [h]; show ¬ (2 = 0 ∧ 5 = 5); decide), fun A4 hA4 => ?_⟩
        have eY : cutV [V.int lo, .int hi, .int at', .str r, .int kd] (some (r2 + 1)) none = ([.int at', .str r, .int kd] : List V) := by rw [h]; rfl
        rw [eY]
        have S6 := sameN S5 (o := .tup [.int at', .str r, .int kd]) hA4
        have e4 : (upd H5 A4 (.tup [.int at', .str r, .int kd])) A4 = some (.tup [.int at', .str r, .int kd]) := upd_same
        have e5 : (upd H5 A4 (.tup [.int at', .str r, .int kd])) T1 = some (.tup [.int lo, v]) := same_new hA4 _ _ e3
        generalize upd H5 A4 (.tup [.int at', .str r, .int kd]) = H6 at S6 e4 e5 ⊢
        refine ⟨T1, A4, _, _, rfl, rfl, .of e5, .of e4, sz (by simp), (fun z => nomatch z), (fun _ z => nomatch z), fun _ _ T2 hT2 => ?_⟩
        have S7 := sameN S6 (o := .tup ([.int lo, v] ++ [.int at', .str r, .int kd])) hT2
        have nT2 : T2 ≠ a := (ne_of_none (bt.go S6).P.1 hT2).symm
        have e7 : (upd H6 T2 (.tup ([.int lo, v] ++ [.int at', .str r, .int kd]))) T2 = some (.tup [.int lo, v, .int at', .str r, .int kd]) := upd_same
        generalize upd H6 T2 (.tup ([.int lo, v] ++ [.int at', .str r, .int kd])) = H7 at S7 e7 ⊢
        have lv7 := lv3.go S7
        exact fin T2 H7 ⟨S7, nT2, _, e7, by simp, by walk_at "leafs"⟩
      · refine ⟨_, rfl, _, rfl, r2, rfl, f1, _, rfl, .of bt.ff, (by rw [h]; show ¬ (0 = 0 ∧ 2 = 5); decide), fun A1 hA1 => ⟨_, rfl, sz (by simp), fun A2 hA2 => ?_⟩⟩
        have eX : cutV [V.int lo, .int hi, .int at', .str r, .int kd] none (some r2) = ([.int lo, .int hi] : List V) := by rw [h]; rfl
        rw [eX] at hA2 ⊢
        have S4 := sameN (same_new (o := .tup [.int lo, .int hi]) hA1) (o := .tup [v]) hA2
        have e1 : (upd (upd H3 A1 (.tup [.int lo, .int hi])) A2 (.tup [v])) A1 = some (.tup [.int lo, .int hi]) := updK (ne_of_none upd_same hA2) upd_same
        have e2 : (upd (upd H3 A1 (.tup [.int lo, .int hi])) A2 (.tup [v])) A2 = some (.tup [v]) := upd_same
        generalize upd (upd H3 A1 (.tup [.int lo, .int hi])) A2 (.tup [v]) = H4 at S4 e1 e2 ⊢
        refine ⟨A1, A2, _, _, rfl, rfl, .of e1, .of e2, sz (by simp), (fun z => nomatch z), (fun _ z => nomatch z), fun _ _ T1 hT1 => ?_⟩
        have S5 := sameN S4 (o := .tup ([.int lo, .int hi] ++ [v])) hT1
        have e3 : (upd H4 T1 (.tup ([.int lo, .int hi] ++ [v]))) T1 = some (.tup [.int lo, .int hi, v]) := upd_same
        generalize upd H4 T1 (.tup ([.int lo, .int hi] ++ [v])) = H5 at S5 e3 ⊢
        have bt5 := bt.go S5
        have nT1 : T1 ≠ a := fun z => by rw [z, bt5.P.1] at e3; cases e3
        refine ⟨_, rfl, _, rfl, _, _, rfl, rfl, r2 + 1, rfl, f1, _, rfl, .of bt5.ff, (by rw [h]; show ¬ (3 = 0 ∧ 5 = 5); decide), fun A4 hA4 => ?_⟩
        have eY : cutV [V.int lo, .int hi, .int at', .str r, .int kd] (some (r2 + 1)) none = ([.str r, .int kd] : List V) := by rw [h]; rfl
        rw [eY]
        have S6 := sameN S5 (o := .tup [.str r, .int kd]) hA4
        have e4 : (upd H5 A4 (.tup [.str r, .int kd])) A4 = some (.tup [.str r, .int kd]) := upd_same
        have e5 : (upd H5 A4 (.tup [.str r, .int kd])) T1 = some (.tup [.int lo, .int hi, v]) := same_new hA4 _ _ e3
        generalize upd H5 A4 (.tup [.str r, .int kd]) = H6 at S6 e4 e5 ⊢
        refine ⟨T1, A4, _, _, rfl, rfl, .of e5, .of e4, sz (by simp), (fun z => nomatch z), (fun _ z => nomatch z), fun _ _ T2 hT2 => ?_⟩
        have S7 := sameN S6 (o := .tup ([.int lo, .int hi, v] ++ [.str r, .int kd])) hT2
        have nT2 : T2 ≠ a := (ne_of_none (bt.go S6).P.1 hT2).symm
        have e7 : (upd H6 T2 (.tup ([.int lo, .int hi, v] ++ [.str r, .int kd]))) T2 = some (.tup [.int lo, .int hi, v, .str r, .int kd]) := upd_same
        generalize upd H6 T2 (.tup ([.int lo, .int hi, v] ++ [.str r, .int kd])) = H7 at S7 e7 ⊢
        have lv7 := lv3.go S7
        exact fin T2 H7 ⟨S7, nT2, _, e7, by simp, by walk_at "leafs"⟩
      · refine ⟨_, rfl, _, rfl, r2, rfl, f1, _, rfl, .of bt.ff, (by rw [h]; show ¬ (0 = 0 ∧ 3 = 5); decide), fun A1 hA1 => ⟨_, rfl, sz (by simp), fun A2 hA2 => ?_⟩⟩
        have eX : cutV [V.int lo, .int hi, .int at', .str r, .int kd] none (some r2) = ([.int lo, .int hi, .int at'] : List V) := by rw [h]; rfl
        rw [eX] at hA2 ⊢
        have S4 := sameN (same_new (o := .tup [.int lo, .int hi, .int at']) hA1) (o := .tup [v]) hA2
        have e1 : (upd (upd H3 A1 (.tup [.int lo, .int hi, .int at'])) A2 (.tup [v])) A1 = some (.tup [.int lo, .int hi, .int at']) := updK (ne_of_none upd_same hA2) upd_same
        have e2 : (upd (upd H3 A1 (.tup [.int lo, .int hi, .int at'])) A2 (.tup [v])) A2 = some (.tup [v]) := upd_same
        generalize upd (upd H3 A1 (.tup [.int lo, .int hi, .int at'])) A2 (.tup [v]) = H4 at S4 e1 e2 ⊢
        refine ⟨A1, A2, _, _, rfl, rfl, .of e1, .of e2, sz (by simp), (fun z => nomatch z), (fun _ z => nomatch z), fun _ _ T1 hT1 => ?_⟩
        have S5 := sameN S4 (o := .tup ([.int lo, .int hi, .int at'] ++ [v])) hT1
        have e3 : (upd H4 T1 (.tup ([.int lo, .int hi, .int at'] ++ [v]))) T1 = some (.tup [.int lo, .int hi, .int at', v]) := upd_same
        generalize upd H4 T1 (.tup ([.int lo, .int hi, .int at'] ++ [v])) = H5 at S5 e3 ⊢
        have bt5 := bt.go S5
        have nT1 : T1 ≠ a := fun z => by rw [z, bt5.P.1] at e3; cases e3
        refine ⟨_, rfl, _, rfl, _, _, rfl, rfl, r2 + 1, rfl, f1, _, rfl, .of bt5.ff, (by rw [h]; show ¬ (4 = 0 ∧ 5 = 5); decide), fun A4 hA4 => ?_⟩
        have eY : cutV [V.int lo, .int hi, .int at', .str r, .int kd] (some (r2 + 1)) none = ([.int kd] : List V) := by rw [h]; rfl
        rw [eY]
        have S6 := sameN S5 (o := .tup [.int kd]) hA4
        have e4 : (upd H5 A4 (.tup [.int kd])) A4 = some (.tup [.int kd]) := upd_same
        have e5 : (upd H5 A4 (.tup [.int kd])) T1 = some (.tup [.int lo, .int hi, .int at', v]) := same_new hA4 _ _ e3
        generalize upd H5 A4 (.tup [.int kd]) = H6 at S6 e4 e5 ⊢
        refine ⟨T1, A4, _, _, rfl, rfl, .of e5, .of e4, sz (by simp), (fun z => nomatch z), (fun _ z => nomatch z), fun _ _ T2 hT2 => ?_⟩
        have S7 := sameN S6 (o := .tup ([.int lo, .int hi, .int at', v] ++ [.int kd])) hT2
        have nT2 : T2 ≠ a := (ne_of_none (bt.go S6).P.1 hT2).symm
        have e7 : (upd H6 T2 (.tup ([.int lo, .int hi, .int at', v] ++ [.int kd]))) T2 = some (.tup [.int lo, .int hi, .int at', v, .int kd]) := upd_same
        generalize upd H6 T2 (.tup ([.int lo, .int hi, .int at', v] ++ [.int kd])) = H7 at S7 e7 ⊢
        have lv7 := lv3.go S7
        exact fin T2 H7 ⟨S7, nT2, _, e7, by simp, by walk_at "leafs"⟩
      · refine ⟨_, rfl, _, rfl, r2, rfl, f1, _, rfl, .of bt.ff, (by rw [h]; show ¬ (0 = 0 ∧ 4 = 5); decide), fun A1 hA1 => ⟨_, rfl, sz (by simp), fun A2 hA2 => ?_⟩⟩
        have eX : cutV [V.int lo, .int hi, .int at', .str r, .int kd] none (some r2) = ([.int lo, .int hi, .int at', .str r] : List V) := by rw [h]; rfl
        rw [eX] at hA2 ⊢
        have S4 := sameN (same_new (o := .tup [.int lo, .int hi, .int at', .str r]) hA1) (o := .tup [v]) hA2
        have e1 : (upd (upd H3 A1 (.tup [.int lo, .int hi, .int at', .str r])) A2 (.tup [v])) A1 = some (.tup [.int lo, .int hi, .int at', .str r]) := updK (ne_of_none upd_same hA2) upd_same
        have e2 : (upd (upd H3 A1 (.tup [.int lo, .int hi, .int at', .str r])) A2 (.tup [v])) A2 = some (.tup [v]) := upd_same
        generalize upd (upd H3 A1 (.tup [.int lo, .int hi, .int at', .str r])) A2 (.tup [v]) = H4 at S4 e1 e2 ⊢
        refine ⟨A1, A2, _, _, rfl, rfl, .of e1, .of e2, sz (by simp), (fun z => nomatch z), (fun _ z => nomatch z), fun _ _ T1 hT1 => ?_⟩
        have S5 := sameN S4 (o := .tup ([.int lo, .int hi, .int at', .str r] ++ [v])) hT1
        have e3 : (upd H4 T1 (.tup ([.int lo, .int hi, .int at', .str r] ++ [v]))) T1 = some (.tup [.int lo, .int hi, .int at', .str r, v]) := upd_same
        generalize upd H4 T1 (.tup ([.int lo, .int hi, .int at', .str r] ++ [v])) = H5 at S5 e3 ⊢
        have bt5 := bt.go S5
        have nT1 : T1 ≠ a := fun z => by rw [z, bt5.P.1] at e3; cases e3
        refine ⟨_, rfl, _, rfl, _, _, rfl, rfl, r2 + 1, rfl, f1, _, rfl, .of bt5.ff, (by rw [h]; show ¬ (5 = 0 ∧ 5 = 5); decide), fun A4 hA4 => ?_⟩
        have eY : cutV [V.int lo, .int hi, .int at', .str r, .int kd] (some (r2 + 1)) none = ([] : List V) := by rw [h]; rfl
        rw [eY]
        have S6 := sameN S5 (o := .tup []) hA4
        have e4 : (upd H5 A4 (.tup [])) A4 = some (.tup []) := upd_same
        have e5 : (upd H5 A4 (.tup [])) T1 = some (.tup [.int lo, .int hi, .int at', .str r, v]) := same_new hA4 _ _ e3
        generalize upd H5 A4 (.tup []) = H6 at S6 e4 e5 ⊢
        refine ⟨T1, A4, _, _, rfl, rfl, .of e5, .of e4, sz (by simp), (fun z => nomatch z), fun _ _ => ?_, fun _ z => absurd rfl z⟩
        have lv6 := lv3.go S6
        exact fin _ H6 ⟨S6, nT1, _, e5, by simp, by walk_at "leafs"⟩
    rintro T H4 ⟨S4, nT, xs0, eT, len0, lf0⟩
    have tT : Thing K (hide a H4) (.ref T) := Thing.tup (hide_at eT nT) lf0 len0
    have bt4 := bt.go S4
    clear eT lf0 bt S4 len0
    have btG0 := bt4
    clear bt4
    generalize H4 = G0 at btG0 tT ⊢
    refine ⟨_, rfl, _, rfl, sz (by simp), fun pa ha => ⟨_, rfl, pa, R, _, _, rfl, rfl, .of upd_same, .of (same_new ha _ _ btG0.fR), sz (by simp), (fun z => nomatch z), (fun _ z => nomatch z), fun _ _ p0 h0 => ?_⟩⟩
    have S0 := sameN (same_new (o := .tup [.int (hi), .int (lo)]) ha) (o := .tup ([.int (hi), .int (lo)] ++ [.int at', .str r, .int kd])) h0
    have n0 : p0 ≠ a := (ne_of_none (same_new ha _ _ btG0.P.1) h0).symm
    have e0 : (upd (upd G0 pa (.tup [.int (hi), .int (lo)])) p0 (.tup ([.int (hi), .int (lo)] ++ [.int at', .str r, .int kd]))) p0 = some (.tup [.int (hi), .int (lo), .int at', .str r, .int kd]) := upd_same
    generalize upd (upd G0 pa _) p0 _ = G1 at S0 e0 ⊢
    have btG1 := btG0.go S0
    replace tT := tT.go S0
    have t0 : Thing K (hide a G1) (.ref p0) := Thing.tup (hide_at e0 n0) (by walk_at "leafs") (by simp)
    clear S0 e0 n0 btG0
    refine ⟨_, rfl, _, rfl, sz (by simp), fun pa ha => ⟨_, rfl, pa, R, _, _, rfl, rfl, .of upd_same, .of (same_new ha _ _ btG1.fR), sz (by simp), (fun z => nomatch z), (fun _ z => nomatch z), fun _ _ p1 h1 => ?_⟩⟩
    have S1 := sameN (same_new (o := .tup [.int (lo), .int (lo)]) ha) (o := .tup ([.int (lo), .int (lo)] ++ [.int at', .str r, .int kd])) h1
    have n1 : p1 ≠ a := (ne_of_none (same_new ha _ _ btG1.P.1) h1).symm
    have e1 : (upd (upd G1 pa (.tup [.int (lo), .int (lo)])) p1 (.tup ([.int (lo), .int (lo)] ++ [.int at', .str r, .int kd]))) p1 = some (.tup [.int (lo), .int (lo), .int at', .str r, .int kd]) := upd_same
    generalize upd (upd G1 pa _) p1 _ = G2 at S1 e1 ⊢
    have btG2 := btG1.go S1
    replace tT := tT.go S1
    replace t0 := t0.go S1
    have t1 : Thing K (hide a G2) (.ref p1) := Thing.tup (hide_at e1 n1) (by walk_at "leafs") (by simp)
    clear S1 e1 n1 btG1
    refine ⟨_, rfl, _, _, rfl, rfl, _, rfl, sz (by simp), fun pa ha => ⟨_, rfl, pa, R, _, _, rfl, rfl, .of upd_same, .of (same_new ha _ _ btG2.fR), sz (by simp), (fun z => nomatch z), (fun _ z => nomatch z), fun _ _ p2 h2 => ?_⟩⟩
    have S2 := sameN (same_new (o := .tup [.int (lo + 1), .int (hi)]) ha) (o := .tup ([.int (lo + 1), .int (hi)] ++ [.int at', .str r, .int kd])) h2
    have n2 : p2 ≠ a := (ne_of_none (same_new ha _ _ btG2.P.1) h2).symm
    have e2 : (upd (upd G2 pa (.tup [.int (lo + 1), .int (hi)])) p2 (.tup ([.int (lo + 1), .int (hi)] ++ [.int at', .str r, .int kd]))) p2 = some (.tup [.int (lo + 1), .int (hi), .int at', .str r, .int kd]) := upd_same
    generalize upd (upd G2 pa _) p2 _ = G3 at S2 e2 ⊢
    have btG3 := btG2.go S2
    replace tT := tT.go S2
    replace t0 := t0.go S2
    replace t1 := t1.go S2
    have t2 : Thing K (hide a G3) (.ref p2) := Thing.tup (hide_at e2 n2) (by walk_at "leafs") (by simp)
    clear S2 e2 n2 btG2
    refine ⟨sz (by simp), fun L1 hL1 => ?_⟩
    have SL := same_new (o := .lst [.ref T, .ref p0, .ref p1, .ref p2]) hL1
    have eL : (upd G3 L1 (.lst [.ref T, .ref p0, .ref p1, .ref p2])) L1 = some (.lst [.ref T, .ref p0, .ref p1, .ref p2]) := upd_same
    have btG4 := btG3.go SL
    replace tT := tT.go SL
    replace t0 := t0.go SL
    replace t1 := t1.go SL
    replace t2 := t2.go SL
    generalize upd G3 L1 _ = G4 at btG4 eL tT t0 t1 t2 ⊢
    clear SL btG3
    refine ⟨_, rfl, ?_⟩
    refine ⟨_, rfl, _, rfl, _, _, rfl, rfl, sz (by simp), fun pa ha => ⟨_, rfl, pa, R, _, _, rfl, rfl, .of upd_same, .of (same_new ha _ _ btG4.fR), sz (by simp), (fun z => nomatch z), (fun _ z => nomatch z), fun _ _ p4 h4 => ?_⟩⟩
    have S4 := sameN (same_new (o := .tup [.int (lo), .int (hi - 1)]) ha) (o := .tup ([.int (lo), .int (hi - 1)] ++ [.int at', .str r, .int kd])) h4
    have n4 : p4 ≠ a := (ne_of_none (same_new ha _ _ btG4.P.1) h4).symm
    have e4 : (upd (upd G4 pa (.tup [.int (lo), .int (hi - 1)])) p4 (.tup ([.int (lo), .int (hi - 1)] ++ [.int at', .str r, .int kd]))) p4 = some (.tup [.int (lo), .int (hi - 1), .int at', .str r, .int kd]) := upd_same
    generalize upd (upd G4 pa _) p4 _ = G5 at S4 e4 ⊢
    replace eL := S4 _ _ eL
    have btG5 := btG4.go S4
    replace tT := tT.go S4
    replace t0 := t0.go S4
    replace t1 := t1.go S4
    replace t2 := t2.go S4
    have t4 : Thing K (hide a G5) (.ref p4) := Thing.tup (hide_at e4 n4) (by walk_at "leafs") (by simp)
    clear S4 e4 n4 btG4
    refine ⟨_, rfl, sz (by simp), fun pa ha => ⟨f1, pa, _, _, rfl, rfl, .of (same_new ha _ _ btG5.ff), .of upd_same, sz (by simp), (fun z => nomatch z), (fun _ z => nomatch z), fun _ _ p5 h5 => ?_⟩⟩
    have S5 := sameN (same_new (o := .tup [.int 0]) ha) (o := .tup ([.int lo, .int hi, .int at', .str r, .int kd] ++ [.int 0])) h5
    have n5' : p5 ≠ a := (ne_of_none (same_new ha _ _ btG5.P.1) h5).symm
    have e5 : (upd (upd G5 pa (.tup [.int 0])) p5 (.tup ([.int lo, .int hi, .int at', .str r, .int kd] ++ [.int 0]))) p5 = some (.tup [.int lo, .int hi, .int at', .str r, .int kd, .int 0]) := upd_same
    generalize upd (upd G5 pa _) p5 _ = G6 at S5 e5 ⊢
    replace eL := S5 _ _ eL
    have btG6 := btG5.go S5
    replace tT := tT.go S5
    replace t0 := t0.go S5
    replace t1 := t1.go S5
    replace t2 := t2.go S5
    replace t4 := t4.go S5
    have t5 : Thing K (hide a G6) (.ref p5) := Thing.tup (hide_at e5 n5') (by walk_at "leafs") (by simp)
    clear S5 e5 n5' btG5
    refine ⟨_, rfl, 4, rfl, f1, _, rfl, .of btG6.ff, (by show ¬ (0 = 0 ∧ 4 = 5); decide), fun p6 h6 => ?_⟩
    have eZ : cutV [V.int lo, .int hi, .int at', .str r, .int kd] none (some 4) = ([.int lo, .int hi, .int at', .str r] : List V) := rfl
    rw [eZ]
    have S6 := same_new (o := .tup [.int lo, .int hi, .int at', .str r]) h6
    have n6' : p6 ≠ a := (ne_of_none btG6.P.1 h6).symm
    have e6 : (upd G6 p6 (.tup [.int lo, .int hi, .int at', .str r])) p6 = some (.tup [.int lo, .int hi, .int at', .str r]) := upd_same
    generalize upd G6 p6 _ = G7 at S6 e6 ⊢
    replace eL := S6 _ _ eL
    have btG7 := btG6.go S6
    replace tT := tT.go S6
    replace t0 := t0.go S6
    replace t1 := t1.go S6
    replace t2 := t2.go S6
    replace t4 := t4.go S6
    replace t5 := t5.go S6
    have t6 : Thing K (hide a G7) (.ref p6) := Thing.tup (hide_at e6 n6') (by walk_at "leafs") (by simp)
    clear S6 e6 n6' btG6
    refine ⟨_, rfl, f1, _, rfl, .inr (.of btG7.ff), fun p7 h7 => ?_⟩
    have S7 := same_new (o := .lst [.int lo, .int hi, .int at', .str r, .int kd]) h7
    have n7' : p7 ≠ a := (ne_of_none btG7.P.1 h7).symm
    have e7 : (upd G7 p7 (.lst [.int lo, .int hi, .int at', .str r, .int kd])) p7 = some (.lst [.int lo, .int hi, .int at', .str r, .int kd]) := upd_same
    generalize upd G7 p7 _ = G8 at S7 e7 ⊢
    replace eL := S7 _ _ eL
    have btG8 := btG7.go S7
    replace tT := tT.go S7
    replace t0 := t0.go S7
    replace t1 := t1.go S7
    replace t2 := t2.go S7
    replace t4 := t4.go S7
    replace t5 := t5.go S7
    replace t6 := t6.go S7
    have t7 : Thing K (hide a G8) (.ref p7) := Thing.lst (hide_at e7 n7') (by walk_at "leafs") (by simp)
    clear S7 e7 n7' btG7
    refine ⟨_, rfl, _, rfl, _, _, rfl, rfl, sz (by simp), fun pa ha => ⟨_, rfl, pa, R, _, _, rfl, rfl, .of upd_same, .of (same_new ha _ _ btG8.fR), sz (by simp), (fun z => nomatch z), (fun _ z => nomatch z), fun _ _ p8 h8 => ?_⟩⟩
    have S8 := sameN (same_new (o := .tup [.int (lo), .int (hi + 1)]) ha) (o := .tup ([.int (lo), .int (hi + 1)] ++ [.int at', .str r, .int kd])) h8
    have n8 : p8 ≠ a := (ne_of_none (same_new ha _ _ btG8.P.1) h8).symm
    have e8 : (upd (upd G8 pa (.tup [.int (lo), .int (hi + 1)])) p8 (.tup ([.int (lo), .int (hi + 1)] ++ [.int at', .str r, .int kd]))) p8 = some (.tup [.int (lo), .int (hi + 1), .int at', .str r, .int kd]) := upd_same
    generalize upd (upd G8 pa _) p8 _ = G9 at S8 e8 ⊢
    replace eL := S8 _ _ eL
    have btG9 := btG8.go S8
    replace tT := tT.go S8
    replace t0 := t0.go S8
    replace t1 := t1.go S8
    replace t2 := t2.go S8
    replace t4 := t4.go S8
    replace t5 := t5.go S8
    replace t6 := t6.go S8
    replace t7 := t7.go S8
    have t8 : Thing K (hide a G9) (.ref p8) := Thing.tup (hide_at e8 n8) (by walk_at "leafs") (by simp)
    clear S8 e8 n8 btG8
    refine ⟨sz (by simp), fun L2 hL2 => ?_⟩
    have SL := same_new (o := .lst [.ref p4, .ref p5, .ref p6, .ref p7, V.non, .ref p8]) hL2
    have eL2 : (upd G9 L2 (.lst [.ref p4, .ref p5, .ref p6, .ref p7, V.non, .ref p8])) L2 = some (.lst [.ref p4, .ref p5, .ref p6, .ref p7, V.non, .ref p8]) := upd_same
    have btG10 := btG9.go SL
    replace eL := SL _ _ eL
    replace tT := tT.go SL
    replace t0 := t0.go SL
    replace t1 := t1.go SL
    replace t2 := t2.go SL
    replace t4 := t4.go SL
    replace t5 := t5.go SL
    replace t6 := t6.go SL
    replace t7 := t7.go SL
    replace t8 := t8.go SL
    generalize upd G9 L2 _ = G10 at btG10 eL eL2 tT t0 t1 t2 t4 t5 t6 t7 t8 ⊢
    clear SL btG9
    refine ⟨L1, L2, _, _, rfl, rfl, eL, eL2, sz (by simp), fun L3 hL3 => ?_⟩
    have SL := same_new (o := .lst ([.ref T, .ref p0, .ref p1, .ref p2] ++ [.ref p4, .ref p5, .ref p6, .ref p7, V.non, .ref p8])) hL3
    have nL3 : L3 ≠ a := (ne_of_none btG10.P.1 hL3).symm
    have eL3 : (upd G10 L3 (.lst ([.ref T, .ref p0, .ref p1, .ref p2] ++ [.ref p4, .ref p5, .ref p6, .ref p7, V.non, .ref p8]))) L3 = some (.lst [.ref T, .ref p0, .ref p1, .ref p2, .ref p4, .ref p5, .ref p6, .ref p7, V.non, .ref p8]) := upd_same
    have btG11 := btG10.go SL
    replace tT := tT.go SL
    replace t0 := t0.go SL
    replace t1 := t1.go SL
    replace t2 := t2.go SL
    replace t4 := t4.go SL
    replace t5 := t5.go SL
    replace t6 := t6.go SL
    replace t7 := t7.go SL
    replace t8 := t8.go SL
    generalize upd G10 L3 _ = G11 at btG11 eL3 tT t0 t1 t2 t4 t5 t6 t7 t8 ⊢
    clear SL btG10 eL eL2
    refine ⟨_, rfl, _, rfl, a, x2, y2, _, rfl, btG11.P, by decide, by decide, fun r5 x5 y5 r50 r51 P5 => ?_⟩
    have B5 : But a G11 (upd G11 a (.lst [.int x5, .int y5])) := (But.refl a G11).upd
    have eL5 := B5 _ _ nL3 eL3
    have BB := btG11.B.trans B5
    replace tT := tT.same (hide_but B5)
    replace t0 := t0.same (hide_but B5)
    replace t1 := t1.same (hide_but B5)
    replace t2 := t2.same (hide_but B5)
    replace t4 := t4.same (hide_but B5)
    replace t5 := t5.same (hide_but B5)
    replace t6 := t6.same (hide_but B5)
    replace t7 := t7.same (hide_but B5)
    replace t8 := t8.same (hide_but B5)
    generalize upd G11 a _ = G12 at BB P5 eL5 tT t0 t1 t2 t4 t5 t6 t7 t8 ⊢
    obtain ⟨u, hu, tu⟩ := pick (P := Thing K (hide a G12)) (xs := [.ref T, .ref p0, .ref p1, .ref p2, .ref p4, .ref p5, .ref p6, .ref p7, V.non, .ref p8]) r50 r51 (lcons tT (lcons t0 (lcons t1 (lcons t2 (lcons t4 (lcons t5 (lcons t6 (lcons t7 (lcons Thing.non (lcons t8 lnil))))))))))
    exact ⟨L3, _, r5, u, rfl, rfl, .of eL5, hu, q u x5 y5 G12 BB P5 tu⟩

theorem ok_law {f : Addr} {oc kV dc pm cdv ct : Value} {od an : Option Addr} {osl : Array (Option Value)} (lk : K.lookup f = some ⟨oc, od, .func (PySem.W.fnOf "law" "law" (defArgs s_law) (defBody s_law) (defScope s_law) .none kV dc pm an cdv ct), osl⟩) (hcd : PySem.W.codeIn K cdv "law" = true) (T : Txt K mg) (C__law_take : Cal P w K mg base "_law_take" 1 ["_law_pool_here", "_law_many"] (sp__law_take K)) (C__law_pool : Cal P w K mg base "_law_pool" 1 ["_law_script", "_law_k"] (sp__law_pool K)) (C__law_told : Cal P w K mg base "_law_told" 9 ["_law_thing", "_law_mark"] (sp__law_told K)) (C__law_is_refused : Cal P w K mg base "_law_is_refused" 9 ["_law_thing", "_law_mark"] (sp__law_is_refused K)) (C__law_are_fields : Cal P w K mg base "_law_are_fields" 2 ["_law_thing"] (sp__law_are_fields K)) (C__law_bounds : Cal P w K mg base "_law_bounds" 2 ["_law_pool_here"] (sp__law_bounds K)) (C__law_bent : Cal P w K mg base "_law_bent" 2 ["_law_pool_here", "_law_fields"] (sp__law_bent K)) {s : Shared} {H : Hp} {a : Addr} {ns : List Int} (e0 : Env0 P w K mg base callerA [] s H) (hS : SqL K H a (ns.map V.int)) (hlen : ns.length ≤ 63) :
    codeAny (model P w) callerA (.call (.ref f) ⟨[.ref a], []⟩) (CR CX0 [] P w H s (fun v _ => v = .bl true) fun _ _ _ => False) s := by
  have hr : Room 9 (callerA.deeper (envOfC "law" (defScope s_law) s.heap.objs.size f cdv)) := Room.deeper (k := 9) ⟨rfl, by decide, by decide⟩ _
  have gd : (callerA.deeper (envOfC "law" (defScope s_law) s.heap.objs.size f cdv)).guards = some [] := caller_guards
  generalize hQ : (fun (v : V) (_ : Hp) => v = V.bl true) = Q
  have q : ∀ H', Q (.bl true) H' := fun _ => by rw [← hQ]
  refine body_at (N := ["_law_script", "_law_k", "_law_pool_here", "_law_rights", "_law_fields", "_law_thing", "_law_kept", "_law_mark", "_law_good_here"]) (ps := ["_law_script"]) (vs := [.ref a]) (us := [.ref a]) lk hcd sc_law rfl (k := 9) ⟨rfl, by decide, by decide⟩ e0 (.of_eq rfl) (.cons rfl .nil) ?_
  refine ⟨_, PSs.nox (pss_cons (ps_for PassesOwn.never rfl (pi_range1 (by rfl) T.z_range (pa_cons (pe_callB (call_max2 rfl) (by rfl) T.z_max (by decide +kernel) (pa_cons pe_int (pa_cons (pe_callB (call_min2 rfl) (by rfl) T.z_min (by decide +kernel) (pa_cons (pe_callB call_len_seq (by rfl) T.z_len (by decide +kernel) (pa_cons (pv 0) pa_nil)) (pa_cons pe_int pa_nil))) pa_nil))) pa_nil)) (pg_name (i := 1) sc_law.nd rfl (.inl rfl)) (pss_cons (ps_set (i := 2) sc_law.nd rfl (.inl rfl) (pe_cal C__law_pool (hr.mono (by decide)) (pa_cons (pv 0) (pa_cons (pv 1) pa_nil))))
      (pss_cons (ps_set (i := 3) sc_law.nd rfl (.inl rfl) (pe_ix (r := rIxL K) ix_list (pe_lst (pa_cons pe_str (pa_cons pe_str (pa_cons pe_str (pa_cons pe_str (pa_cons pe_str (pa_cons pe_str (pa_cons pe_str (pa_cons pe_str (pa_cons pe_str (pa_cons pe_str pa_nil))))))))))) (pe_cal C__law_take (hr.mono (by decide)) (pa_cons (pv 2) (pa_cons pe_int pa_nil))) (fun _ _ => rfl)))
      (pss_cons (ps_set (i := 4) sc_law.nd rfl (.inl rfl) (pe_op op_catT (pe_cal C__law_bounds (hr.mono (by decide)) (pa_cons (pv 2) pa_nil)) (pe_tup (pa_cons (pe_cal C__law_take (hr.mono (by decide)) (pa_cons (pv 2) (pa_cons pe_int pa_nil))) (pa_cons (pv 3) (pa_cons (pe_cal C__law_take (hr.mono (by decide)) (pa_cons (pv 2) (pa_cons pe_int pa_nil))) pa_nil))))))
      (pss_cons (ps_for PassesOwn.never rfl (pi_list (pe_lst (pa_cons (pv 4) (pa_cons (pe_cal C__law_bent (hr.mono (by decide)) (pa_cons (pv 2) (pa_cons (pv 4) pa_nil))) (pa_cons (pe_cal C__law_bent (hr.mono (by decide)) (pa_cons (pv 2) (pa_cons (pv 4) pa_nil))) (pa_cons (pe_cal C__law_bent (hr.mono (by decide)) (pa_cons (pv 2) (pa_cons (pv 4) pa_nil))) pa_nil)))))) (pg_name (i := 5) sc_law.nd rfl (.inl rfl)) (pss_cons (ps_set (i := 6) sc_law.nd rfl (.inl rfl) (pe_callB (call_reprD gd hr.units) (by rfl) T.z_repr (by decide +kernel) (pa_cons (pv 5) pa_nil)))
      (pss_one (ps_for PassesOwn.never rfl (pi_list (pe_lst (pa_cons pe_bl (pa_cons pe_bl pa_nil)))) (pg_name (i := 7) sc_law.nd rfl (.inl rfl)) (pss_cons (ps_set (i := 8) sc_law.nd rfl (.inl rfl) (pe_cal C__law_are_fields (hr.mono (by decide)) (pa_cons (pv 5) pa_nil)))
      (pss_one (ps_if (PW.pt (pw_or (pt_cmpR op_eq (pe_cal C__law_is_refused (hr.mono (by decide)) (pa_cons (pv 5) (pa_cons (pv 7) pa_nil))) (pv 8) (nomark _)) (pw_or (PW.pt (pw_and (pt_val (pv 8)) (pw_and1 (pt_not (pt_val (pe_cal C__law_told (hr.mono (by decide)) (pa_cons (pv 5) (pa_cons (pv 7) pa_nil)))))))) (pw_or1 (pt_cmpR op_ne (pe_callB (call_reprD gd hr.units) (by rfl) T.z_repr (by decide +kernel) (pa_cons (pv 5) pa_nil)) (pv 6) (nomark _)))))) (pss_one (ps_ret pe_bl)) pss_nil)))))))
      (pss_one (ps_for PassesOwn.never rfl (pi_list (pe_lst (pa_cons pe_non (pa_cons pe_int (pa_cons (pe_tup pa_nil) (pa_cons pe_str (pa_cons pe_dnewK (pa_cons (pe_lst pa_nil) (pa_cons (pe_tup (pa_cons pe_int (pa_cons pe_int (pa_cons pe_int (pa_cons pe_str (pa_cons pe_int (pa_cons pe_int pa_nil))))))) (pa_cons (pe_tup (pa_cons pe_int (pa_cons pe_int (pa_cons pe_int (pa_cons pe_str (pa_cons pe_int pa_nil)))))) (pa_cons (pe_tup (pa_cons pe_int (pa_cons pe_int (pa_cons pe_int (pa_cons pe_str (pa_cons pe_int pa_nil)))))) pa_nil))))))))))) (pg_name (i := 5) sc_law.nd rfl (.inl rfl)) (pss_one (ps_if (pt_not (pt_val (pe_cal C__law_is_refused (hr.mono (by decide)) (pa_cons (pv 5) (pa_cons pe_bl pa_nil))))) (pss_one (ps_ret pe_bl)) pss_nil)))))))))
      (pss_one (ps_ret pe_bl))), ?_⟩
  refine ⟨_, rfl, a, _, rfl, .inl hS, _, _, rfl, _, _, rfl, _, rfl, rep_lo (c := 20) (by decide) (by decide), rep_hi (c := 20) (by decide) (by decide), for_range (fun i σ H' => ∃ v1 v2 v3 v4 v5 v6 v7 v8, σ = [some (.ref a), v1, v2, v3, v4, v5, v6, v7, v8] ∧ Same H H') ⟨_, _, _, _, _, _, _, _, rfl, Same.refl _⟩ ?_ ?_⟩
  · rintro i σ H3 hi ⟨v1, v2, v3, v4, v5, v6, v7, v8, rfl, s3⟩
    have hi63 := rep_i (c := 20) (by decide) (by decide) hi
    rw [i0]
    refine ⟨_, rfl, _, rfl, a, ns, i, rfl, s3.seq hS, hlen, hi63, fun x y p H4 sm4 hp0 P4 => ?_⟩
    refine ⟨sz (by simp), fun L hL => ?_⟩
    refine ⟨_, rfl, p, x, y, _, rfl, P4.new hL, by decide, by decide, fun r1 x1 y1 r10 r11 P5 => ?_⟩
    have nL : L ≠ p := (ne_of_none P4.1 hL).symm
    obtain ⟨rv, hrv, rs, rfl, sk⟩ := pick (P := fun v => ∃ rs, v = V.str rs ∧ Sok rs) (xs := [V.str (Str.ofString "rw"), .str (Str.ofString ""), .str (Str.ofString "f"), .str (Str.ofString "fx"), .str (Str.ofString "x"), .str (Str.ofString "co"), .str (Str.ofString "c"), .str (Str.ofString "fco"), .str (Str.ofString "rwlsnf"), .str (Str.ofString "s")]) r10 r11
      (lcons ⟨_, rfl, sok_of (by decide +kernel)⟩ (lcons ⟨_, rfl, sok_of (by decide +kernel)⟩ (lcons ⟨_, rfl, sok_of (by decide +kernel)⟩ (lcons ⟨_, rfl, sok_of (by decide +kernel)⟩ (lcons ⟨_, rfl, sok_of (by decide +kernel)⟩ (lcons ⟨_, rfl, sok_of (by decide +kernel)⟩ (lcons ⟨_, rfl, sok_of (by decide +kernel)⟩ (lcons ⟨_, rfl, sok_of (by decide +kernel)⟩ (lcons ⟨_, rfl, sok_of (by decide +kernel)⟩ (lcons ⟨_, rfl, sok_of (by decide +kernel)⟩ lnil))))))))))
    refine ⟨L, _, r1, _, rfl, rfl, .of (by rw [upd_ne nL]; exact upd_same), hrv, ?_⟩
    have B5 : But p H4 (upd (upd H4 L (.lst [V.str (Str.ofString "rw"), .str (Str.ofString ""), .str (Str.ofString "f"), .str (Str.ofString "fx"), .str (Str.ofString "x"), .str (Str.ofString "co"), .str (Str.ofString "c"), .str (Str.ofString "fco"), .str (Str.ofString "rwlsnf"), .str (Str.ofString "s")])) p (.lst [.int x1, .int y1])) := ((But.refl p H4).new hL).upd
    clear hrv
    generalize upd (upd H4 L _) p _ = H5 at P5 B5 ⊢
    refine ⟨_, rfl, p, x1, y1, rfl, P5, fun lo hi2 q1 x2 y2 H6 bd ex B6 P6 hq1 f1 => ?_⟩
    have nq1 : q1 ≠ p := fun z => by rw [z, P5.1] at hq1; cases hq1
    refine ⟨_, rfl, p, x2, y2, _, rfl, P6, by decide, by decide, fun r2 x3 y3 r20 r21 P7 => ?_⟩
    refine ⟨_, rfl, _, rfl, p, x3, y3, _, rfl, P7, by decide, by decide, fun r3 x4 y4 r30 r31 P8 => ⟨sz (by simp), fun q2 hq2 => ?_⟩⟩
    have B8 : But p H6 (upd (upd H6 p (.lst [.int x3, .int y3])) p (.lst [.int x4, .int y4])) := ((But.refl p H6).upd).upd
    have f2 := B8 _ _ nq1 f1
    have B9 := (B5.trans B6).trans B8
    generalize upd (upd H6 p _) p _ = H7 at P8 f2 hq2 B9 ⊢
    refine ⟨q1, q2, _, _, rfl, rfl, .of (same_new hq2 _ _ f2), .of upd_same, (fun z => nomatch z), sz (by simp), (fun z => nomatch z), fun _ q3 hq3 => ?_⟩
    have S8 := sameN (same_new (o := .tup [.int r2, .str rs, .int r3]) hq2) (o := .tup ([.int lo, .int hi2] ++ [.int r2, .str rs, .int r3])) hq3
    have f3 : (upd (upd H7 q2 (.tup [.int r2, .str rs, .int r3])) q3 (.tup ([.int lo, .int hi2] ++ [.int r2, .str rs, .int r3]))) q3 = some (.tup [.int lo, .int hi2, .int r2, .str rs, .int r3]) := upd_same
    have nq3 : q3 ≠ p := (ne_of_none (same_new hq2 _ _ P8.1) hq3).symm
    have B10 := B9.trans (But.of S8)
    have P9 := P8.same S8
    generalize upd (upd H7 q2 _) q3 _ = H8 at B10 P9 f3 ⊢
    clear f2 f1 B9 B8 B5 B6 S8 P8 P7 P6 P5
    obtain ⟨b1, b2, b3⟩ := id bd
    have tF : Thing K (hide p H8) (.ref q3) := Thing.tup (hide_at f3 nq3) (by walk_at "leafs") (by simp)
    refine ⟨_, rfl, _, rfl, _, rfl, p, q3, x4, y4, lo, hi2, r2, rs, r3, rfl, P9, f3, sk, ⟨by omega, by omega, by omega, by omega, by omega, by omega, by omega, by omega⟩, fun u1 x5 y5 H9 B11 P10 t1 => ?_⟩
    have f4 := B11 _ _ nq3 f3
    refine ⟨_, rfl, _, rfl, p, q3, x5, y5, lo, hi2, r2, rs, r3, rfl, P10, f4, sk, ⟨by omega, by omega, by omega, by omega, by omega, by omega, by omega, by omega⟩, fun u2 x6 y6 H10 B12 P11 t2 => ?_⟩
    have f5 := B12 _ _ nq3 f4
    refine ⟨_, rfl, _, rfl, p, q3, x6, y6, lo, hi2, r2, rs, r3, rfl, P11, f5, sk, ⟨by omega, by omega, by omega, by omega, by omega, by omega, by omega, by omega⟩, fun u3 x7 y7 H11 B13 P12 t3 => ⟨sz (by simp), fun L2 hL2 => ?_⟩⟩
    have SL := same_new (o := .lst [.ref q3, u1, u2, u3]) hL2
    have g0 : Thing K (upd H11 L2 (.lst [.ref q3, u1, u2, u3])) (.ref q3) := ((tF.same (hide_but (B11.trans (B12.trans B13)))).same (hide_same p _)).same SL
    have g1 : Thing K (upd H11 L2 (.lst [.ref q3, u1, u2, u3])) u1 := ((t1.same (hide_but (B12.trans B13))).same (hide_same p _)).same SL
    have g2 : Thing K (upd H11 L2 (.lst [.ref q3, u1, u2, u3])) u2 := ((t2.same (hide_but B13)).same (hide_same p _)).same SL
    have g3 : Thing K (upd H11 L2 (.lst [.ref q3, u1, u2, u3])) u3 := (t3.same (hide_same p _)).same SL
    have fL2 : (upd H11 L2 (.lst [.ref q3, u1, u2, u3])) L2 = some (.lst [.ref q3, u1, u2, u3]) := upd_same
    have BG : But p H4 (upd H11 L2 (.lst [.ref q3, u1, u2, u3])) := (B10.trans (B11.trans (B12.trans B13))).trans (But.of SL)
    generalize upd H11 L2 _ = G at g0 g1 g2 g3 fL2 BG ⊢
    clear tF t1 t2 t3 f3 f4 f5 B10 B11 B12 B13 P9 P10 P11 P12 SL
    have all : ∀ v ∈ [V.ref q3, u1, u2, u3], Thing K G v := lcons g0 (lcons g1 (lcons g2 (lcons g3 lnil)))
    clear g0 g1 g2 g3
    refine ⟨L2, rfl, ⟨_, .of fL2⟩, for_list (K := K) (a := L2) (xs := [.ref q3, u1, u2, u3]) (fun j σ H' => ∃ v5 v6 v7 v8, σ = [some (.ref a), some (.int (i : Int)), some (.ref p), some (.str rs), some (.ref q3), v5, v6, v7, v8] ∧ Same G H') ⟨_, _, _, _, rfl, Same.refl _⟩ (fun j σ H' _ ⟨_, _, _, _, _, sm⟩ => .of (sm _ _ fL2)) ?_ ?_⟩
    · rintro j xx σ G1 hx ⟨v5, v6, v7, v8, rfl, S1⟩
      obtain ⟨⟨d, dp, ft⟩, tt⟩ := (all xx (List.mem_of_getElem? hx)).same S1
      refine ⟨_, rfl, _, d, rfl, dp, ft.1, ft.2.1, ft.2.2.1, ft.2.2.2, ?_⟩
      refine ⟨sz (by simp), fun L3 hL3 => ?_⟩
      have S2 := S1.trans (same_new (o := .lst [V.bl true, .bl false]) hL3)
      have S12 := same_new (o := .lst [V.bl true, .bl false]) hL3
      have fL3 : (upd G1 L3 (.lst [V.bl true, .bl false])) L3 = some (.lst [V.bl true, .bl false]) := upd_same
      generalize upd G1 L3 _ = G2 at S2 S12 fL3 ⊢
      refine ⟨L3, rfl, ⟨_, .of fL3⟩, for_list (K := K) (a := L3) (xs := [V.bl true, .bl false]) (fun j σ H' => ∃ v7 v8, σ = [some (.ref a), some (.int (i : Int)), some (.ref p), some (.str rs), some (.ref q3), some xx, some (.str d.shown), v7, v8] ∧ Same G2 H') ⟨_, _, rfl, Same.refl _⟩ (fun j σ H' _ ⟨_, _, _, sm⟩ => .of (sm _ _ fL3)) ?_ ?_⟩
      · rintro j2 xx2 σ G3 hx2 ⟨v7, v8, rfl, S3⟩
        obtain ⟨mk, rfl⟩ : ∃ mk : Bool, xx2 = .bl mk := by
          have := List.mem_of_getElem? hx2
          simp only [List.mem_cons, List.not_mem_nil, or_false] at this
          rcases this with z | z
          · exact ⟨_, z⟩
          · exact ⟨_, z⟩
        have SG := S12.trans S3
        rcases tt with ⟨pp, xs, rfl, t1, t2, t3⟩ | tn
        · refine ⟨_, rfl, .ref pp, rfl, .inl ⟨pp, xs, rfl, SG _ _ t1, kds t2 SG, t3, fun b H13 s13 hb => ?_⟩⟩
          have S13 := SG.trans s13
          rcases Classical.em (F5 xs) with F | F
          · have e : b = true := hb.mpr F
            subst e
            refine ⟨_, rfl, _, rfl, .ref pp, mk, rfl, .inl ⟨pp, xs, rfl, S13 _ _ t1, kds t2 S13, fun _ H14 s14 => ?_, fun nf => absurd F nf⟩⟩
            refine ⟨_, rfl, rfl, _, rfl, ifd (fun c => by cases c) (fun _ => ?_)⟩
            refine ⟨_, rfl, _, rfl, iteT ?_⟩
            have S14 := S13.trans s14
            obtain ⟨lo', hi', a', r', kd', ex', _⟩ := id F
            subst ex'
            refine ⟨_, rfl, _, rfl, pp, lo', hi', a', r', kd', mk, rfl, S14 _ _ t1, F, fun H15 s15 => ⟨_, rfl, ?_⟩⟩
            have S15 := S14.trans s15
            refine iteF ?_
            refine ⟨_, rfl, _, d, rfl, Dp.same S15 dp, ft.1, ft.2.1, ft.2.2.1, ft.2.2.2, ?_⟩
            refine ⟨_, rfl, rfl, _, rfl, ifnd (fun c => absurd rfl c) (fun _ => ?_)⟩
            exact ⟨_, _, rfl, ((S3.trans s13).trans s14).trans s15⟩
          · have e : b = false := by
              cases b with
              | false => rfl
              | true => exact absurd (hb.mp rfl) F
            subst e
            refine ⟨_, rfl, _, rfl, .ref pp, mk, rfl, .inl ⟨pp, xs, rfl, S13 _ _ t1, kds t2 S13, fun z => absurd z F, fun _ H14 s14 => ?_⟩⟩
            refine ⟨_, rfl, rfl, _, rfl, ifd (fun c => by cases c) (fun _ => ?_)⟩
            refine ⟨_, rfl, _, rfl, iteF ?_⟩
            have S14 := S13.trans s14
            refine ⟨_, rfl, _, d, rfl, Dp.same S14 dp, ft.1, ft.2.1, ft.2.2.1, ft.2.2.2, ?_⟩
            refine ⟨_, rfl, rfl, _, rfl, ifnd (fun c => absurd rfl c) (fun _ => ?_)⟩
            exact ⟨_, _, rfl, (S3.trans s13).trans s14⟩
        · refine ⟨_, rfl, _, rfl, .inr ⟨tn.same SG, fun H13 s13 => ?_⟩⟩
          have S13 := SG.trans s13
          refine ⟨_, rfl, _, rfl, _, mk, rfl, .inr ⟨tn.same S13, fun H14 s14 => ?_⟩⟩
          refine ⟨_, rfl, rfl, _, rfl, ifd (fun c => by cases c) (fun _ => ?_)⟩
          refine ⟨_, rfl, _, rfl, iteF ?_⟩
          have S14 := S13.trans s14
          refine ⟨_, rfl, _, d, rfl, Dp.same S14 dp, ft.1, ft.2.1, ft.2.2.1, ft.2.2.2, ?_⟩
          refine ⟨_, rfl, rfl, _, rfl, ifnd (fun c => absurd rfl c) (fun _ => ?_)⟩
          exact ⟨_, _, rfl, (S3.trans s13).trans s14⟩
      · rintro σ G3 ⟨v7, v8, rfl, S3⟩
        exact ⟨_, _, _, _, rfl, S2.trans S3⟩
    · rintro σ G1 ⟨v5, v6, v7, v8, rfl, S1⟩
      refine ⟨sz (by simp), fun P0 hP0 P1 hP1 => ⟨sz (by simp), fun P2 hP2 => ⟨sz (by simp), fun P3 hP3 => ⟨sz (by simp), fun P4 hP4 => ⟨sz (by simp), fun P5 hP5 => ?_⟩⟩⟩⟩⟩
      have f0 : (upd (upd (upd (upd (upd (upd G1 P0 (.tup [])) P1 (.dK [])) P2 (.lst [])) P3 (.tup [.int 0, .int 1, .int 0, .str (Str.ofString ""), .int 0, .int 0])) P4 (.tup [.int 0, .int 1, .int 0, .str (Str.ofString "rx"), .int 0])) P5 (.tup [.int 0, .int 17, .int 0, .str (Str.ofString ""), .int 0])) P0 = some (.tup []) := same_new hP5 _ _ (same_new hP4 _ _ (same_new hP3 _ _ (same_new hP2 _ _ (same_new hP1 _ _ upd_same))))
      have f1 : (upd (upd (upd (upd (upd (upd G1 P0 (.tup [])) P1 (.dK [])) P2 (.lst [])) P3 (.tup [.int 0, .int 1, .int 0, .str (Str.ofString ""), .int 0, .int 0])) P4 (.tup [.int 0, .int 1, .int 0, .str (Str.ofString "rx"), .int 0])) P5 (.tup [.int 0, .int 17, .int 0, .str (Str.ofString ""), .int 0])) P1 = some (.dK []) := same_new hP5 _ _ (same_new hP4 _ _ (same_new hP3 _ _ (same_new hP2 _ _ upd_same)))
      have f2 : (upd (upd (upd (upd (upd (upd G1 P0 (.tup [])) P1 (.dK [])) P2 (.lst [])) P3 (.tup [.int 0, .int 1, .int 0, .str (Str.ofString ""), .int 0, .int 0])) P4 (.tup [.int 0, .int 1, .int 0, .str (Str.ofString "rx"), .int 0])) P5 (.tup [.int 0, .int 17, .int 0, .str (Str.ofString ""), .int 0])) P2 = some (.lst []) := same_new hP5 _ _ (same_new hP4 _ _ (same_new hP3 _ _ upd_same))
      have f3 : (upd (upd (upd (upd (upd (upd G1 P0 (.tup [])) P1 (.dK [])) P2 (.lst [])) P3 (.tup [.int 0, .int 1, .int 0, .str (Str.ofString ""), .int 0, .int 0])) P4 (.tup [.int 0, .int 1, .int 0, .str (Str.ofString "rx"), .int 0])) P5 (.tup [.int 0, .int 17, .int 0, .str (Str.ofString ""), .int 0])) P3 = some (.tup [.int 0, .int 1, .int 0, .str (Str.ofString ""), .int 0, .int 0]) := same_new hP5 _ _ (same_new hP4 _ _ upd_same)
      have f4 : (upd (upd (upd (upd (upd (upd G1 P0 (.tup [])) P1 (.dK [])) P2 (.lst [])) P3 (.tup [.int 0, .int 1, .int 0, .str (Str.ofString ""), .int 0, .int 0])) P4 (.tup [.int 0, .int 1, .int 0, .str (Str.ofString "rx"), .int 0])) P5 (.tup [.int 0, .int 17, .int 0, .str (Str.ofString ""), .int 0])) P4 = some (.tup [.int 0, .int 1, .int 0, .str (Str.ofString "rx"), .int 0]) := same_new hP5 _ _ upd_same
      have f5 : (upd (upd (upd (upd (upd (upd G1 P0 (.tup [])) P1 (.dK [])) P2 (.lst [])) P3 (.tup [.int 0, .int 1, .int 0, .str (Str.ofString ""), .int 0, .int 0])) P4 (.tup [.int 0, .int 1, .int 0, .str (Str.ofString "rx"), .int 0])) P5 (.tup [.int 0, .int 17, .int 0, .str (Str.ofString ""), .int 0])) P5 = some (.tup [.int 0, .int 17, .int 0, .str (Str.ofString ""), .int 0]) := upd_same
      have SP : Same G1 (upd (upd (upd (upd (upd (upd G1 P0 (.tup [])) P1 (.dK [])) P2 (.lst [])) P3 (.tup [.int 0, .int 1, .int 0, .str (Str.ofString ""), .int 0, .int 0])) P4 (.tup [.int 0, .int 1, .int 0, .str (Str.ofString "rx"), .int 0])) P5 (.tup [.int 0, .int 17, .int 0, .str (Str.ofString ""), .int 0])) := sameN (sameN (sameN (sameN (sameN (same_new hP0) hP1) hP2) hP3) hP4) hP5
      clear hP0 hP1 hP2 hP3 hP4 hP5
      generalize (upd (upd (upd (upd (upd (upd G1 P0 (.tup [])) P1 (.dK [])) P2 (.lst [])) P3 (.tup [.int 0, .int 1, .int 0, .str (Str.ofString ""), .int 0, .int 0])) P4 (.tup [.int 0, .int 1, .int 0, .str (Str.ofString "rx"), .int 0])) P5 (.tup [.int 0, .int 17, .int 0, .str (Str.ofString ""), .int 0])) = G2 at SP f0 f1 f2 f3 f4 f5 ⊢
      refine ⟨sz (by simp), fun L4 hL4 => ?_⟩
      have SL := same_new (o := .lst [V.non, .int 5, .ref P0, .str (Str.ofString "fields"), .ref P1, .ref P2, .ref P3, .ref P4, .ref P5]) hL4
      have fL4 : (upd G2 L4 (.lst [V.non, .int 5, .ref P0, .str (Str.ofString "fields"), .ref P1, .ref P2, .ref P3, .ref P4, .ref P5])) L4 = some (.lst [V.non, .int 5, .ref P0, .str (Str.ofString "fields"), .ref P1, .ref P2, .ref P3, .ref P4, .ref P5]) := upd_same
      replace f0 := SL _ _ f0
      replace f1 := SL _ _ f1
      replace f2 := SL _ _ f2
      replace f3 := SL _ _ f3
      replace f4 := SL _ _ f4
      replace f5 := SL _ _ f5
      replace SP := SP.trans SL
      generalize upd G2 L4 _ = G3 at SP fL4 f0 f1 f2 f3 f4 f5 ⊢
      clear SL hL4
      have kd3 : ∀ x ∈ ([.int 0, .int 1, .int 0, .str (Str.ofString ""), .int 0, .int 0] : List V), Kd G3 x := lcons (.int _) (lcons (.int _) (lcons (.int _) (lcons (.str _) (lcons (.int _) (lcons (.int _) lnil)))))
      have kd4 : ∀ x ∈ ([.int 0, .int 1, .int 0, .str (Str.ofString "rx"), .int 0] : List V), Kd G3 x := lcons (.int _) (lcons (.int _) (lcons (.int _) (lcons (.str _) (lcons (.int _) lnil))))
      have kd5 : ∀ x ∈ ([.int 0, .int 17, .int 0, .str (Str.ofString ""), .int 0] : List V), Kd G3 x := lcons (.int _) (lcons (.int _) (lcons (.int _) (lcons (.str _) (lcons (.int _) lnil))))
      have odd : ∀ v ∈ [V.non, .int 5, .ref P0, .str (Str.ofString "fields"), .ref P1, .ref P2, .ref P3, .ref P4, .ref P5], (∃ pp ys, v = V.ref pp ∧ G3 pp = some (.tup ys) ∧ (∀ x ∈ ys, Kd G3 x) ∧ ¬ F5 ys) ∨ NoT G3 v := lcons (.inr .non) (lcons (.inr (.int _)) (lcons (.inl ⟨P0, _, rfl, f0, lnil, nf0⟩) (lcons (.inr (.str _)) (lcons (.inr (.dk f1)) (lcons (.inr (.lst f2)) (lcons (.inl ⟨P3, _, rfl, f3, kd3, nf6⟩) (lcons (.inl ⟨P4, _, rfl, f4, kd4, nfrx⟩) (lcons (.inl ⟨P5, _, rfl, f5, kd5, nf17⟩) lnil))))))))
      refine ⟨L4, rfl, ⟨_, .of fL4⟩, for_list (K := K) (a := L4) (xs := [V.non, .int 5, .ref P0, .str (Str.ofString "fields"), .ref P1, .ref P2, .ref P3, .ref P4, .ref P5]) (fun j σ H' => ∃ v5 v6 v7 v8, σ = [some (.ref a), some (.int (i : Int)), some (.ref p), some (.str rs), some (.ref q3), v5, v6, v7, v8] ∧ Same G3 H') ⟨_, _, _, _, rfl, Same.refl _⟩ (fun j σ H' _ ⟨_, _, _, _, _, sm⟩ => .of (sm _ _ fL4)) ?_ ?_⟩
      · rintro j xx σ G4 hx ⟨v5, v6, v7, v8, rfl, S4⟩
        rcases odd xx (List.mem_of_getElem? hx) with ⟨pp, ys, rfl, o1, o2, o3⟩ | o
        · refine ⟨_, rfl, .ref pp, true, rfl, .inl ⟨pp, ys, rfl, S4 _ _ o1, kds o2 S4, fun z => absurd z o3, fun _ G5 s5 => ?_⟩⟩
          exact ⟨_, rfl, iteF ⟨_, _, _, _, rfl, S4.trans s5⟩⟩
        · refine ⟨_, rfl, _, true, rfl, .inr ⟨o.same S4, fun G5 s5 => ?_⟩⟩
          exact ⟨_, rfl, iteF ⟨_, _, _, _, rfl, S4.trans s5⟩⟩
      · rintro σ G4 ⟨v5, v6, v7, v8, rfl, S4⟩
        exact ⟨_, _, _, _, _, _, _, _, rfl, sameP s3 sm4 hp0 (BG.trans (But.of ((S1.trans SP).trans S4)))⟩
  · rintro σ H3 ⟨v1, v2, v3, v4, v5, v6, v7, v8, rfl, s3⟩
    exact q _
end
theorem all_mk {l : PySem.W.OpenLaw} {w : World} {K : PySem.W.Frag} {h : Heap} {mg : Str → Option Value} {fa f0 f1 f2 f3 f4 f5 f6 f7 f8 f9 f10 f11 f12 f13 f14 f15 f16 f17 f18 f19 f20 f21 f22 f23 f24 f25 f26 f27 f28 : Addr} (X : K.In h) (G : h.Ns mainGlobals mg) (hfa : mg "law" = some (.ref fa))
    {od0 an0 od1 an1 od2 an2 od3 an3 od4 an4 od5 an5 od6 an6 od7 an7 od8 an8 od9 an9 od10 an10 od11 an11 od12 an12 od13 an13 od14 an14 od15 an15 od16 an16 od17 an17 od18 an18 od19 an19 od20 an20 od21 an21 od22 an22 od23 an23 od24 an24 od25 an25 od26 an26 od27 an27 od28 an28 : Option Addr} {sl0 sl1 sl2 sl3 sl4 sl5 sl6 sl7 sl8 sl9 sl10 sl11 sl12 sl13 sl14 sl15 sl16 sl17 sl18 sl19 sl20 sl21 sl22 sl23 sl24 sl25 sl26 sl27 sl28 : Array (Option Value)} {oc0 kV0 dc0 pm0 cd0 ct0 oc1 kV1 dc1 pm1 cd1 ct1 oc2 kV2 dc2 pm2 cd2 ct2 oc3 kV3 dc3 pm3 cd3 ct3 oc4 kV4 dc4 pm4 cd4 ct4 oc5 kV5 dc5 pm5 cd5 ct5 oc6 kV6 dc6 pm6 cd6 ct6 oc7 kV7 dc7 pm7 cd7 ct7 oc8 kV8 dc8 pm8 cd8 ct8 oc9 kV9 dc9 pm9 cd9 ct9 oc10 kV10 dc10 pm10 cd10 ct10 oc11 kV11 dc11 pm11 cd11 ct11 oc12 kV12 dc12 pm12 cd12 ct12 oc13 kV13 dc13 pm13 cd13 ct13 oc14 kV14 dc14 pm14 cd14 ct14 oc15 kV15 dc15 pm15 cd15 ct15 oc16 kV16 dc16 pm16 cd16 ct16 oc17 dc17 pm17 cd17 ct17 oc18 kV18 dc18 pm18 cd18 ct18 oc19 kV19 dc19 pm19 cd19 ct19 oc20 kV20 dc20 pm20 cd20 ct20 oc21 kV21 dc21 pm21 cd21 ct21 oc22 kV22 dc22 pm22 cd22 ct22 oc23 kV23 dc23 pm23 cd23 ct23 oc24 kV24 dc24 pm24 cd24 ct24 oc25 kV25 dc25 pm25 cd25 ct25 oc26 kV26 dc26 pm26 cd26 ct26 oc27 kV27 dc27 pm27 cd27 ct27 oc28 kV28 dc28 pm28 cd28 ct28 : Value}
    (a0 : PySem.W.nsIn K mainGlobals "is_whole" = some (some (.ref f0))) (l0 : K.lookup f0 = some ⟨oc0, od0, .func (PySem.W.fnOf "is_whole" "is_whole" (defArgs s_is_whole) (defBody s_is_whole) (defScope s_is_whole) .none kV0 dc0 pm0 an0 cd0 ct0), sl0⟩) (c0 : PySem.W.codeIn K cd0 "is_whole" = true) (k0 : PySem.W.keepIn K (.ref f0) = true)
    (a1 : PySem.W.nsIn K mainGlobals "are_bounds" = some (some (.ref f1))) (l1 : K.lookup f1 = some ⟨oc1, od1, .func (PySem.W.fnOf "are_bounds" "are_bounds" (defArgs s_are_bounds) (defBody s_are_bounds) (defScope s_are_bounds) .none kV1 dc1 pm1 an1 cd1 ct1), sl1⟩) (c1 : PySem.W.codeIn K cd1 "are_bounds" = true) (k1 : PySem.W.keepIn K (.ref f1) = true)
    (a2 : PySem.W.nsIn K mainGlobals "look_at_bounds" = some (some (.ref f2))) (l2 : K.lookup f2 = some ⟨oc2, od2, .func (PySem.W.fnOf "look_at_bounds" "look_at_bounds" (defArgs s_look_at_bounds) (defBody s_look_at_bounds) (defScope s_look_at_bounds) .none kV2 dc2 pm2 an2 cd2 ct2), sl2⟩) (c2 : PySem.W.codeIn K cd2 "look_at_bounds" = true) (k2 : PySem.W.keepIn K (.ref f2) = true)
    (a3 : PySem.W.nsIn K mainGlobals "_steps_over" = some (some (.ref f3))) (l3 : K.lookup f3 = some ⟨oc3, od3, .func (PySem.W.fnOf "_steps_over" "_steps_over" (defArgs s__steps_over) (defBody s__steps_over) (defScope s__steps_over) .none kV3 dc3 pm3 an3 cd3 ct3), sl3⟩) (c3 : PySem.W.codeIn K cd3 "_steps_over" = true) (k3 : PySem.W.keepIn K (.ref f3) = true)
    (a4 : PySem.W.nsIn K mainGlobals "in_bits" = some (some (.ref f4))) (l4 : K.lookup f4 = some ⟨oc4, od4, .func (PySem.W.fnOf "in_bits" "in_bits" (defArgs s_in_bits) (defBody s_in_bits) (defScope s_in_bits) .none kV4 dc4 pm4 an4 cd4 ct4), sl4⟩) (c4 : PySem.W.codeIn K cd4 "in_bits" = true) (k4 : PySem.W.keepIn K (.ref f4) = true)
    (a5 : PySem.W.nsIn K mainGlobals "least_bounds" = some (some (.ref f5))) (l5 : K.lookup f5 = some ⟨oc5, od5, .func (PySem.W.fnOf "least_bounds" "least_bounds" (defArgs s_least_bounds) (defBody s_least_bounds) (defScope s_least_bounds) .none kV5 dc5 pm5 an5 cd5 ct5), sl5⟩) (c5 : PySem.W.codeIn K cd5 "least_bounds" = true) (k5 : PySem.W.keepIn K (.ref f5) = true)
    (a6 : PySem.W.nsIn K mainGlobals "is_exact" = some (some (.ref f6))) (l6 : K.lookup f6 = some ⟨oc6, od6, .func (PySem.W.fnOf "is_exact" "is_exact" (defArgs s_is_exact) (defBody s_is_exact) (defScope s_is_exact) .none kV6 dc6 pm6 an6 cd6 ct6), sl6⟩) (c6 : PySem.W.codeIn K cd6 "is_exact" = true) (k6 : PySem.W.keepIn K (.ref f6) = true)
    (a7 : PySem.W.nsIn K mainGlobals "_has_some" = some (some (.ref f7))) (l7 : K.lookup f7 = some ⟨oc7, od7, .func (PySem.W.fnOf "_has_some" "_has_some" (defArgs s__has_some) (defBody s__has_some) (defScope s__has_some) .none kV7 dc7 pm7 an7 cd7 ct7), sl7⟩) (c7 : PySem.W.codeIn K cd7 "_has_some" = true) (k7 : PySem.W.keepIn K (.ref f7) = true)
    (a8 : PySem.W.nsIn K mainGlobals "_lead_one_way" = some (some (.ref f8))) (l8 : K.lookup f8 = some ⟨oc8, od8, .func (PySem.W.fnOf "_lead_one_way" "_lead_one_way" (defArgs s__lead_one_way) (defBody s__lead_one_way) (defScope s__lead_one_way) .none kV8 dc8 pm8 an8 cd8 ct8), sl8⟩) (c8 : PySem.W.codeIn K cd8 "_lead_one_way" = true) (k8 : PySem.W.keepIn K (.ref f8) = true)
    (a9 : PySem.W.nsIn K mainGlobals "bits_of_rights" = some (some (.ref f9))) (l9 : K.lookup f9 = some ⟨oc9, od9, .func (PySem.W.fnOf "bits_of_rights" "bits_of_rights" (defArgs s_bits_of_rights) (defBody s_bits_of_rights) (defScope s_bits_of_rights) .none kV9 dc9 pm9 an9 cd9 ct9), sl9⟩) (c9 : PySem.W.codeIn K cd9 "bits_of_rights" = true) (k9 : PySem.W.keepIn K (.ref f9) = true)
    (a10 : PySem.W.nsIn K mainGlobals "field" = some (some (.ref f10))) (l10 : K.lookup f10 = some ⟨oc10, od10, .func (PySem.W.fnOf "field" "field" (defArgs s_field) (defBody s_field) (defScope s_field) .none kV10 dc10 pm10 an10 cd10 ct10), sl10⟩) (c10 : PySem.W.codeIn K cd10 "field" = true) (k10 : PySem.W.keepIn K (.ref f10) = true)
    (a11 : PySem.W.nsIn K mainGlobals "rights_in" = some (some (.ref f11))) (l11 : K.lookup f11 = some ⟨oc11, od11, .func (PySem.W.fnOf "rights_in" "rights_in" (defArgs s_rights_in) (defBody s_rights_in) (defScope s_rights_in) .none kV11 dc11 pm11 an11 cd11 ct11), sl11⟩) (c11 : PySem.W.codeIn K cd11 "rights_in" = true) (k11 : PySem.W.keepIn K (.ref f11) = true)
    (a12 : PySem.W.nsIn K mainGlobals "_tell" = some (some (.ref f12))) (l12 : K.lookup f12 = some ⟨oc12, od12, .func (PySem.W.fnOf "_tell" "_tell" (defArgs s__tell) (defBody s__tell) (defScope s__tell) .none kV12 dc12 pm12 an12 cd12 ct12), sl12⟩) (c12 : PySem.W.codeIn K cd12 "_tell" = true) (k12 : PySem.W.keepIn K (.ref f12) = true)
    (a13 : PySem.W.nsIn K mainGlobals "bounds_in" = some (some (.ref f13))) (l13 : K.lookup f13 = some ⟨oc13, od13, .func (PySem.W.fnOf "bounds_in" "bounds_in" (defArgs s_bounds_in) (defBody s_bounds_in) (defScope s_bounds_in) .none kV13 dc13 pm13 an13 cd13 ct13), sl13⟩) (c13 : PySem.W.codeIn K cd13 "bounds_in" = true) (k13 : PySem.W.keepIn K (.ref f13) = true)
    (a14 : PySem.W.nsIn K mainGlobals "fields_of" = some (some (.ref f14))) (l14 : K.lookup f14 = some ⟨oc14, od14, .func (PySem.W.fnOf "fields_of" "fields_of" (defArgs s_fields_of) (defBody s_fields_of) (defScope s_fields_of) .none kV14 dc14 pm14 an14 cd14 ct14), sl14⟩) (c14 : PySem.W.codeIn K cd14 "fields_of" = true) (k14 : PySem.W.keepIn K (.ref f14) = true)
    (a15 : PySem.W.nsIn K mainGlobals "is_rights" = some (some (.ref f15))) (l15 : K.lookup f15 = some ⟨oc15, od15, .func (PySem.W.fnOf "is_rights" "is_rights" (defArgs s_is_rights) (defBody s_is_rights) (defScope s_is_rights) .none kV15 dc15 pm15 an15 cd15 ct15), sl15⟩) (c15 : PySem.W.codeIn K cd15 "is_rights" = true) (k15 : PySem.W.keepIn K (.ref f15) = true)
    (a16 : PySem.W.nsIn K mainGlobals "_are_fields" = some (some (.ref f16))) (l16 : K.lookup f16 = some ⟨oc16, od16, .func (PySem.W.fnOf "_are_fields" "_are_fields" (defArgs s__are_fields) (defBody s__are_fields) (defScope s__are_fields) .none kV16 dc16 pm16 an16 cd16 ct16), sl16⟩) (c16 : PySem.W.codeIn K cd16 "_are_fields" = true) (k16 : PySem.W.keepIn K (.ref f16) = true)
    {D17 : Addr} (a17 : PySem.W.nsIn K mainGlobals "word_of" = some (some (.ref f17))) (l17 : K.lookup f17 = some ⟨oc17, od17, .func (PySem.W.fnOf "word_of" "word_of" (defArgs s_word_of) (defBody s_word_of) (defScope s_word_of) .none (.ref D17) dc17 pm17 an17 cd17 ct17), sl17⟩) (c17 : PySem.W.codeIn K cd17 "word_of" = true) (k17 : PySem.W.keepIn K (.ref f17) = true)
    (d17_marked : PySem.W.nsIn K D17 "marked" = some (some (.bool true)))
    (a18 : PySem.W.nsIn K mainGlobals "_law_take" = some (some (.ref f18))) (l18 : K.lookup f18 = some ⟨oc18, od18, .func (PySem.W.fnOf "_law_take" "_law_take" (defArgs s__law_take) (defBody s__law_take) (defScope s__law_take) .none kV18 dc18 pm18 an18 cd18 ct18), sl18⟩) (c18 : PySem.W.codeIn K cd18 "_law_take" = true) (k18 : PySem.W.keepIn K (.ref f18) = true)
    (a19 : PySem.W.nsIn K mainGlobals "_law_pool" = some (some (.ref f19))) (l19 : K.lookup f19 = some ⟨oc19, od19, .func (PySem.W.fnOf "_law_pool" "_law_pool" (defArgs s__law_pool) (defBody s__law_pool) (defScope s__law_pool) .none kV19 dc19 pm19 an19 cd19 ct19), sl19⟩) (c19 : PySem.W.codeIn K cd19 "_law_pool" = true) (k19 : PySem.W.keepIn K (.ref f19) = true)
    (a20 : PySem.W.nsIn K mainGlobals "_law_told" = some (some (.ref f20))) (l20 : K.lookup f20 = some ⟨oc20, od20, .func (PySem.W.fnOf "_law_told" "_law_told" (defArgs s__law_told) (defBody s__law_told) (defScope s__law_told) .none kV20 dc20 pm20 an20 cd20 ct20), sl20⟩) (c20 : PySem.W.codeIn K cd20 "_law_told" = true) (k20 : PySem.W.keepIn K (.ref f20) = true)
    (a21 : PySem.W.nsIn K mainGlobals "_law_is_refused" = some (some (.ref f21))) (l21 : K.lookup f21 = some ⟨oc21, od21, .func (PySem.W.fnOf "_law_is_refused" "_law_is_refused" (defArgs s__law_is_refused) (defBody s__law_is_refused) (defScope s__law_is_refused) .none kV21 dc21 pm21 an21 cd21 ct21), sl21⟩) (c21 : PySem.W.codeIn K cd21 "_law_is_refused" = true) (k21 : PySem.W.keepIn K (.ref f21) = true)
    (a22 : PySem.W.nsIn K mainGlobals "_law_whole" = some (some (.ref f22))) (l22 : K.lookup f22 = some ⟨oc22, od22, .func (PySem.W.fnOf "_law_whole" "_law_whole" (defArgs s__law_whole) (defBody s__law_whole) (defScope s__law_whole) .none kV22 dc22 pm22 an22 cd22 ct22), sl22⟩) (c22 : PySem.W.codeIn K cd22 "_law_whole" = true) (k22 : PySem.W.keepIn K (.ref f22) = true)
    (a23 : PySem.W.nsIn K mainGlobals "_law_good" = some (some (.ref f23))) (l23 : K.lookup f23 = some ⟨oc23, od23, .func (PySem.W.fnOf "_law_good" "_law_good" (defArgs s__law_good) (defBody s__law_good) (defScope s__law_good) .none kV23 dc23 pm23 an23 cd23 ct23), sl23⟩) (c23 : PySem.W.codeIn K cd23 "_law_good" = true) (k23 : PySem.W.keepIn K (.ref f23) = true)
    (a24 : PySem.W.nsIn K mainGlobals "_law_exact" = some (some (.ref f24))) (l24 : K.lookup f24 = some ⟨oc24, od24, .func (PySem.W.fnOf "_law_exact" "_law_exact" (defArgs s__law_exact) (defBody s__law_exact) (defScope s__law_exact) .none kV24 dc24 pm24 an24 cd24 ct24), sl24⟩) (c24 : PySem.W.codeIn K cd24 "_law_exact" = true) (k24 : PySem.W.keepIn K (.ref f24) = true)
    (a25 : PySem.W.nsIn K mainGlobals "_law_are_fields" = some (some (.ref f25))) (l25 : K.lookup f25 = some ⟨oc25, od25, .func (PySem.W.fnOf "_law_are_fields" "_law_are_fields" (defArgs s__law_are_fields) (defBody s__law_are_fields) (defScope s__law_are_fields) .none kV25 dc25 pm25 an25 cd25 ct25), sl25⟩) (c25 : PySem.W.codeIn K cd25 "_law_are_fields" = true) (k25 : PySem.W.keepIn K (.ref f25) = true)
    (a26 : PySem.W.nsIn K mainGlobals "_law_bounds" = some (some (.ref f26))) (l26 : K.lookup f26 = some ⟨oc26, od26, .func (PySem.W.fnOf "_law_bounds" "_law_bounds" (defArgs s__law_bounds) (defBody s__law_bounds) (defScope s__law_bounds) .none kV26 dc26 pm26 an26 cd26 ct26), sl26⟩) (c26 : PySem.W.codeIn K cd26 "_law_bounds" = true) (k26 : PySem.W.keepIn K (.ref f26) = true)
    (a27 : PySem.W.nsIn K mainGlobals "_law_bent" = some (some (.ref f27))) (l27 : K.lookup f27 = some ⟨oc27, od27, .func (PySem.W.fnOf "_law_bent" "_law_bent" (defArgs s__law_bent) (defBody s__law_bent) (defScope s__law_bent) .none kV27 dc27 pm27 an27 cd27 ct27), sl27⟩) (c27 : PySem.W.codeIn K cd27 "_law_bent" = true) (k27 : PySem.W.keepIn K (.ref f27) = true)
    (a28 : PySem.W.nsIn K mainGlobals "law" = some (some (.ref f28))) (l28 : K.lookup f28 = some ⟨oc28, od28, .func (PySem.W.fnOf "law" "law" (defArgs s_law) (defBody s_law) (defScope s_law) .none kV28 dc28 pm28 an28 cd28 ct28), sl28⟩) (c28 : PySem.W.codeIn K cd28 "law" = true) (k28 : PySem.W.keepIn K (.ref f28) = true)
    (z_ValueError : PySem.W.nsIn K mainGlobals "ValueError" = some none)
    (z_abs : PySem.W.nsIn K mainGlobals "abs" = some none)
    (z_any : PySem.W.nsIn K mainGlobals "any" = some none)
    (z_bool : PySem.W.nsIn K mainGlobals "bool" = some none)
    (z_enumerate : PySem.W.nsIn K mainGlobals "enumerate" = some none)
    (z_int : PySem.W.nsIn K mainGlobals "int" = some none)
    (z_isinstance : PySem.W.nsIn K mainGlobals "isinstance" = some none)
    (z_len : PySem.W.nsIn K mainGlobals "len" = some none)
    (z_list : PySem.W.nsIn K mainGlobals "list" = some none)
    (z_max : PySem.W.nsIn K mainGlobals "max" = some none)
    (z_min : PySem.W.nsIn K mainGlobals "min" = some none)
    (z_range : PySem.W.nsIn K mainGlobals "range" = some none)
    (z_repr : PySem.W.nsIn K mainGlobals "repr" = some none)
    (z_str : PySem.W.nsIn K mainGlobals "str" = some none)
    (z_sum : PySem.W.nsIn K mainGlobals "sum" = some none)
    (z_tuple : PySem.W.nsIn K mainGlobals "tuple" = some none)
    (z_zip : PySem.W.nsIn K mainGlobals "zip" = some none)
    {p_AT : Addr} {dd_AT : Option Addr} {n_AT : Nat} {sl_AT : Array (Option Value)} {t_AT_0 t_AT_1 : Tok} (v_AT : PySem.W.nsIn K mainGlobals "AT" = some (some (.ref p_AT))) (w_AT : K.lookup p_AT = some ⟨.type "tuple", dd_AT, .seq #[(Value.int 0 t_AT_0), (Value.int 12 t_AT_1)] n_AT, sl_AT⟩)
    {t_CELLS : Tok} (v_CELLS : PySem.W.nsIn K mainGlobals "CELLS" = some (some (.int 4096 t_CELLS)))
    {p_COUNT_LESS_ONE : Addr} {dd_COUNT_LESS_ONE : Option Addr} {n_COUNT_LESS_ONE : Nat} {sl_COUNT_LESS_ONE : Array (Option Value)} {t_COUNT_LESS_ONE_0 t_COUNT_LESS_ONE_1 : Tok} (v_COUNT_LESS_ONE : PySem.W.nsIn K mainGlobals "COUNT_LESS_ONE" = some (some (.ref p_COUNT_LESS_ONE))) (w_COUNT_LESS_ONE : K.lookup p_COUNT_LESS_ONE = some ⟨.type "tuple", dd_COUNT_LESS_ONE, .seq #[(Value.int 24 t_COUNT_LESS_ONE_0), (Value.int 4 t_COUNT_LESS_ONE_1)] n_COUNT_LESS_ONE, sl_COUNT_LESS_ONE⟩)
    {p_FIRST : Addr} {dd_FIRST : Option Addr} {n_FIRST : Nat} {sl_FIRST : Array (Option Value)} {t_FIRST_0 t_FIRST_1 : Tok} (v_FIRST : PySem.W.nsIn K mainGlobals "FIRST" = some (some (.ref p_FIRST))) (w_FIRST : K.lookup p_FIRST = some ⟨.type "tuple", dd_FIRST, .seq #[(Value.int 12 t_FIRST_0), (Value.int 12 t_FIRST_1)] n_FIRST, sl_FIRST⟩)
    {p_GROUPS : Addr} {dd_GROUPS : Option Addr} {n_GROUPS : Nat} {sl_GROUPS : Array (Option Value)} {t_GROUPS_0 t_GROUPS_1 t_GROUPS_2 : Tok} (v_GROUPS : PySem.W.nsIn K mainGlobals "GROUPS" = some (some (.ref p_GROUPS))) (w_GROUPS : K.lookup p_GROUPS = some ⟨.type "tuple", dd_GROUPS, .seq #[(Value.str (Str.ofString "rwlsn") t_GROUPS_0), (Value.str (Str.ofString "x") t_GROUPS_1), (Value.str (Str.ofString "co") t_GROUPS_2)] n_GROUPS, sl_GROUPS⟩)
    {p_KIND : Addr} {dd_KIND : Option Addr} {n_KIND : Nat} {sl_KIND : Array (Option Value)} {t_KIND_0 t_KIND_1 : Tok} (v_KIND : PySem.W.nsIn K mainGlobals "KIND" = some (some (.ref p_KIND))) (w_KIND : K.lookup p_KIND = some ⟨.type "tuple", dd_KIND, .seq #[(Value.int 41 t_KIND_0), (Value.int 4 t_KIND_1)] n_KIND, sl_KIND⟩)
    {t_LEAST_COUNT : Tok} (v_LEAST_COUNT : PySem.W.nsIn K mainGlobals "LEAST_COUNT" = some (some (.int 9 t_LEAST_COUNT)))
    {t_RIGHTS : Tok} (v_RIGHTS : PySem.W.nsIn K mainGlobals "RIGHTS" = some (some (.str (Str.ofString "rwlsnfxco") t_RIGHTS)))
    {p_RIGHTS_BITS : Addr} {dd_RIGHTS_BITS : Option Addr} {n_RIGHTS_BITS : Nat} {sl_RIGHTS_BITS : Array (Option Value)} {t_RIGHTS_BITS_0 t_RIGHTS_BITS_1 : Tok} (v_RIGHTS_BITS : PySem.W.nsIn K mainGlobals "RIGHTS_BITS" = some (some (.ref p_RIGHTS_BITS))) (w_RIGHTS_BITS : K.lookup p_RIGHTS_BITS = some ⟨.type "tuple", dd_RIGHTS_BITS, .seq #[(Value.int 32 t_RIGHTS_BITS_0), (Value.int 9 t_RIGHTS_BITS_1)] n_RIGHTS_BITS, sl_RIGHTS_BITS⟩)
    {p_STEP : Addr} {dd_STEP : Option Addr} {n_STEP : Nat} {sl_STEP : Array (Option Value)} {t_STEP_0 t_STEP_1 : Tok} (v_STEP : PySem.W.nsIn K mainGlobals "STEP" = some (some (.ref p_STEP))) (w_STEP : K.lookup p_STEP = some ⟨.type "tuple", dd_STEP, .seq #[(Value.int 28 t_STEP_0), (Value.int 4 t_STEP_1)] n_STEP, sl_STEP⟩)
    {t_TOP_COUNT : Tok} (v_TOP_COUNT : PySem.W.nsIn K mainGlobals "TOP_COUNT" = some (some (.int 16 t_TOP_COUNT)))
    {t_TOP_KIND : Tok} (v_TOP_KIND : PySem.W.nsIn K mainGlobals "TOP_KIND" = some (some (.int 15 t_TOP_KIND)))
    {t_TOP_STEP : Tok} (v_TOP_STEP : PySem.W.nsIn K mainGlobals "TOP_STEP" = some (some (.int 8 t_TOP_STEP)))
    {C_NoFields : Addr} (ac_NoFields : PySem.W.nsIn K mainGlobals "NoFields" = some (some (.ref C_NoFields)))
    {nm_NoFields q_NoFields : Str} {N_NoFields B_NoFields fi_NoFields : Addr} {bs_NoFields : List Value} {sn_NoFields : List Str} {sub_NoFields : List Value} {ab_NoFields : Bool} {col_NoFields : Option Bool} {dd_NoFields od_NoFields an_NoFields : Option Addr} {m0_NoFields m1_NoFields m2_NoFields m3_NoFields m5_NoFields : Option Value} {oc_NoFields kV_NoFields dc_NoFields pm_NoFields cd_NoFields ct_NoFields : Value} {osl_NoFields : Array (Option Value)}
    (xl_NoFields : K.lookup C_NoFields = some (excClassObj nm_NoFields q_NoFields C_NoFields N_NoFields bs_NoFields [.ref B_NoFields, .type "ValueError", .type "Exception", .type "BaseException", .type "object"] true sn_NoFields sub_NoFields ab_NoFields col_NoFields dd_NoFields m0_NoFields m1_NoFields m2_NoFields m3_NoFields m5_NoFields "ValueError.__new__"))
    (sa_NoFields : PySem.W.findIn K (.ref C_NoFields) "__setattr__" = some (some (.builtin "object.__setattr__")))
    (eb_NoFields : PySem.W.subIn K (.ref C_NoFields) (.type "BaseException") = some true)
    (ty_NoFields : PySem.W.typeIn K (.ref C_NoFields) = some (.type "type"))
    (kc_NoFields : PySem.W.keepIn K (.ref C_NoFields) = true)
    (no_NoFields : PySem.W.findIn K (.ref C_NoFields) "text" = some none)
    (in_NoFields : PySem.W.findIn K (.ref C_NoFields) "__init__" = some (some (.ref fi_NoFields))) (ti_NoFields : PySem.W.typeIn K (.ref fi_NoFields) = some (.type "function"))
    (li_NoFields : K.lookup fi_NoFields = some ⟨oc_NoFields, od_NoFields, .func (PySem.W.fnOf "__init__" "NoFields.__init__" (defArgs si_NoFields) (defBody si_NoFields) (defScope si_NoFields) .none kV_NoFields dc_NoFields pm_NoFields an_NoFields cd_NoFields ct_NoFields), osl_NoFields⟩) (ci_NoFields : PySem.W.codeIn K cd_NoFields "NoFields.__init__" = true) (ki_NoFields : PySem.W.keepIn K (.ref fi_NoFields) = true)
    (xb_NoFields_NoFields : PySem.W.subIn K (.ref C_NoFields) (.type "BaseException") = some true)
    (xh_NoFields_NoFields : PySem.W.hasDictIn K C_NoFields = true)
    (xt_NoFields_NoFields : PySem.W.typeIn K (.ref C_NoFields) = some (.type "type"))
    (xs_NoFields_NoFields : PySem.W.subIn K (.ref C_NoFields) (.ref C_NoFields) = some true)
    (ecg_NoFields : PySem.W.findIn K (.ref C_NoFields) "__getattribute__" = some (some (.builtin "BaseException.__getattribute__")))
    (eck_NoFields : PySem.W.findIn K (.ref C_NoFields) "__getattr__" = some none)
    (ecs_NoFields : PySem.W.subIn K (.ref C_NoFields) (.type "BaseException") = some true)
    (ecd_NoFields : PySem.W.hasDictIn K C_NoFields = true)
    (eca_NoFields : PySem.W.findIn K (.ref C_NoFields) "__class__" = some (some (.builtin "object.__class__")))
    (ecn_NoFields : PySem.W.specialIn K (.builtin "object.__class__") "__get__" = some (some (.builtin "getset_descriptor.__get__")))
    (ect_NoFields : PySem.W.takesIn K (.builtin "object.__class__") = some true)
    (ecm_NoFields : PySem.W.mroIn K C_NoFields (.type "object") = some true)
    (kt_NoFields_ValueError : PySem.W.kitOne K (.ref C_NoFields) (.type "ValueError") = some true)
    : ∀ (base : Heap) (H : Hp) (s : Shared) (a : Addr) (ns : List Int), K.In base → base.Ns mainGlobals mg → Env0 l.prog w K mg base callerA [] s H → SqL K H a (ns.map V.int) → ns.length ≤ 63 → codeAny (model l.prog w) callerA (.call (.ref fa) ⟨[.ref a], []⟩) (CR CX0 [] l.prog w H s (fun v _ => v = .bl true) fun _ _ _ => False) s := by
  have e := hfa.symm.trans (PySem.W.mg_of X G a28)
  cases e
  have F0 := fun_mk (st := s_is_whole) l0 c0 k0
  have F1 := fun_mk (st := s_are_bounds) l1 c1 k1
  have F2 := fun_mk (st := s_look_at_bounds) l2 c2 k2
  have F3 := fun_mk (st := s__steps_over) l3 c3 k3
  have F4 := fun_mk (st := s_in_bits) l4 c4 k4
  have F5 := fun_mk (st := s_least_bounds) l5 c5 k5
  have F6 := fun_mk (st := s_is_exact) l6 c6 k6
  have F7 := fun_mk (st := s__has_some) l7 c7 k7
  have F8 := fun_mk (st := s__lead_one_way) l8 c8 k8
  have F9 := fun_mk (st := s_bits_of_rights) l9 c9 k9
  have F10 := fun_mk (st := s_field) l10 c10 k10
  have F11 := fun_mk (st := s_rights_in) l11 c11 k11
  have F12 := fun_mk (st := s__tell) l12 c12 k12
  have F13 := fun_mk (st := s_bounds_in) l13 c13 k13
  have F14 := fun_mk (st := s_fields_of) l14 c14 k14
  have F15 := fun_mk (st := s_is_rights) l15 c15 k15
  have F16 := fun_mk (st := s__are_fields) l16 c16 k16
  have F17 := fun_mk (st := s_word_of) l17 c17 k17
  have F18 := fun_mk (st := s__law_take) l18 c18 k18
  have F19 := fun_mk (st := s__law_pool) l19 c19 k19
  have F20 := fun_mk (st := s__law_told) l20 c20 k20
  have F21 := fun_mk (st := s__law_is_refused) l21 c21 k21
  have F22 := fun_mk (st := s__law_whole) l22 c22 k22
  have F23 := fun_mk (st := s__law_good) l23 c23 k23
  have F24 := fun_mk (st := s__law_exact) l24 c24 k24
  have F25 := fun_mk (st := s__law_are_fields) l25 c25 k25
  have F26 := fun_mk (st := s__law_bounds) l26 c26 k26
  have F27 := fun_mk (st := s__law_bent) l27 c27 k27
  have F28 := fun_mk (st := s_law) l28 c28 k28
  have T : Txt K mg := ⟨PySem.W.mg_none_of X G z_ValueError, PySem.W.mg_none_of X G z_abs, PySem.W.mg_none_of X G z_any, PySem.W.mg_none_of X G z_bool, PySem.W.mg_none_of X G z_enumerate, PySem.W.mg_none_of X G z_int, PySem.W.mg_none_of X G z_isinstance, PySem.W.mg_none_of X G z_len, PySem.W.mg_none_of X G z_list, PySem.W.mg_none_of X G z_max, PySem.W.mg_none_of X G z_min, PySem.W.mg_none_of X G z_range, PySem.W.mg_none_of X G z_repr, PySem.W.mg_none_of X G z_str, PySem.W.mg_none_of X G z_sum, PySem.W.mg_none_of X G z_tuple, PySem.W.mg_none_of X G z_zip, ⟨_, PySem.W.mg_of X G v_AT, fun H => .inr ⟨_, _, _, w_AT, rfl, rfl, by show 2 ≤ sizeLine; decide, .cons ⟨_, rfl⟩ (.cons ⟨_, rfl⟩ (.nil))⟩⟩, ⟨_, PySem.W.mg_of X G v_CELLS⟩, ⟨_, PySem.W.mg_of X G v_COUNT_LESS_ONE, fun H => .inr ⟨_, _, _, w_COUNT_LESS_ONE, rfl, rfl, by show 2 ≤ sizeLine; decide, .cons ⟨_, rfl⟩ (.cons ⟨_, rfl⟩ (.nil))⟩⟩, ⟨_, PySem.W.mg_of X G v_FIRST, fun H => .inr ⟨_, _, _, w_FIRST, rfl, rfl, by show 2 ≤ sizeLine; decide, .cons ⟨_, rfl⟩ (.cons ⟨_, rfl⟩ (.nil))⟩⟩, ⟨_, PySem.W.mg_of X G v_GROUPS, fun H => .inr ⟨_, _, _, w_GROUPS, rfl, rfl, by show 3 ≤ sizeLine; decide, .cons ⟨_, rfl⟩ (.cons ⟨_, rfl⟩ (.cons ⟨_, rfl⟩ (.nil)))⟩⟩, ⟨_, PySem.W.mg_of X G v_KIND, fun H => .inr ⟨_, _, _, w_KIND, rfl, rfl, by show 2 ≤ sizeLine; decide, .cons ⟨_, rfl⟩ (.cons ⟨_, rfl⟩ (.nil))⟩⟩, ⟨_, PySem.W.mg_of X G v_LEAST_COUNT⟩, ⟨_, PySem.W.mg_of X G v_RIGHTS⟩, ⟨_, PySem.W.mg_of X G v_RIGHTS_BITS, fun H => .inr ⟨_, _, _, w_RIGHTS_BITS, rfl, rfl, by show 2 ≤ sizeLine; decide, .cons ⟨_, rfl⟩ (.cons ⟨_, rfl⟩ (.nil))⟩⟩, ⟨_, PySem.W.mg_of X G v_STEP, fun H => .inr ⟨_, _, _, w_STEP, rfl, rfl, by show 2 ≤ sizeLine; decide, .cons ⟨_, rfl⟩ (.cons ⟨_, rfl⟩ (.nil))⟩⟩, ⟨_, PySem.W.mg_of X G v_TOP_COUNT⟩, ⟨_, PySem.W.mg_of X G v_TOP_KIND⟩, ⟨_, PySem.W.mg_of X G v_TOP_STEP⟩, ⟨C_NoFields, PySem.W.mg_of X G ac_NoFields, ac_NoFields⟩, fun C D h1 h2 => by cases ns_one ac_NoFields h1; cases ns_one ac_NoFields h2; exact exm_own xb_NoFields_NoFields xh_NoFields_NoFields xt_NoFields_NoFields xs_NoFields_NoFields, fun C h1 => by cases ns_one ac_NoFields h1; exact ⟨ecg_NoFields, eck_NoFields, ecs_NoFields, ecd_NoFields, eca_NoFields, ecn_NoFields, ect_NoFields, ecm_NoFields⟩, fun C h1 => by cases ns_one ac_NoFields h1; exact kt_NoFields_ValueError⟩
  intro base H s a ns kb nb e0 hS hlen
  have TO_NoFields : OexC K C_NoFields := ⟨⟨_, _, _, _, _, _, _, _, _, _, _, _, _, _, _, xl_NoFields, by rfl⟩, sa_NoFields, eb_NoFields, ty_NoFields, kc_NoFields⟩
  have FI_NoFields := fun_mk (st := si_NoFields) li_NoFields ci_NoFields ki_NoFields
  have R_NoFields : ErrK l.prog w K mg base "NoFields" "text" := ⟨C_NoFields, fi_NoFields, _, ac_NoFields, PySem.W.mg_of X G ac_NoFields, TO_NoFields, in_NoFields, ti_NoFields, oki_NoFields FI_NoFields TO_NoFields no_NoFields, FI_NoFields.binds fun _ _ _ _ _ _ us hl => match us, hl with | [_, _], _ => rfl⟩
  have C_is_whole : Cal l.prog w K mg base "is_whole" 1 ["thing", "least", "most"] (sp_is_whole K) := ⟨_, _, ok_is_whole F0 T, PySem.W.mg_of X G a0, F0.kp, F0.binds fun _ _ _ _ _ _ us hl => match us, hl with | [_, _, _], _ => rfl⟩
  have C_are_bounds : Cal l.prog w K mg base "are_bounds" 2 ["low", "high"] (sp_are_bounds K) := ⟨_, _, ok_are_bounds F1 T C_is_whole, PySem.W.mg_of X G a1, F1.kp, F1.binds fun _ _ _ _ _ _ us hl => match us, hl with | [_, _], _ => rfl⟩
  have C_look_at_bounds : Cal l.prog w K mg base "look_at_bounds" 3 ["low", "high"] (sp_look_at_bounds K) := ⟨_, _, ok_look_at_bounds F2 T C_are_bounds, PySem.W.mg_of X G a2, F2.kp, F2.binds fun _ _ _ _ _ _ us hl => match us, hl with | [_, _], _ => rfl⟩
  have C__steps_over : Cal l.prog w K mg base "_steps_over" 1 ["low", "high", "step"] (sp__steps_over K) := ⟨_, _, ok__steps_over F3 T, PySem.W.mg_of X G a3, F3.kp, F3.binds fun _ _ _ _ _ _ us hl => match us, hl with | [_, _, _], _ => rfl⟩
  have C_in_bits : Cal l.prog w K mg base "in_bits" 4 ["low", "high"] (sp_in_bits K) := ⟨_, _, ok_in_bits F4 T C_look_at_bounds C__steps_over, PySem.W.mg_of X G a4, F4.kp, F4.binds fun _ _ _ _ _ _ us hl => match us, hl with | [_, _], _ => rfl⟩
  have C_least_bounds : Cal l.prog w K mg base "least_bounds" 5 ["low", "high"] (sp_least_bounds K) := ⟨_, _, ok_least_bounds F5 T C_in_bits, PySem.W.mg_of X G a5, F5.kp, F5.binds fun _ _ _ _ _ _ us hl => match us, hl with | [_, _], _ => rfl⟩
  have C_is_exact : Cal l.prog w K mg base "is_exact" 6 ["low", "high"] (sp_is_exact K) := ⟨_, _, ok_is_exact F6 T C_least_bounds, PySem.W.mg_of X G a6, F6.kp, F6.binds fun _ _ _ _ _ _ us hl => match us, hl with | [_, _], _ => rfl⟩
  have C__has_some : Cal l.prog w K mg base "_has_some" 1 ["rights", "group"] (sp__has_some K) := ⟨_, _, ok__has_some F7 T, PySem.W.mg_of X G a7, F7.kp, F7.binds fun _ _ _ _ _ _ us hl => match us, hl with | [_, _], _ => rfl⟩
  have C__lead_one_way : Cal l.prog w K mg base "_lead_one_way" 2 ["rights"] (sp__lead_one_way K) := ⟨_, _, ok__lead_one_way F8 T C__has_some, PySem.W.mg_of X G a8, F8.kp, F8.binds fun _ _ _ _ _ _ us hl => match us, hl with | [_], _ => rfl⟩
  have C_bits_of_rights : Cal l.prog w K mg base "bits_of_rights" 1 ["rights"] (sp_bits_of_rights K) := ⟨_, _, ok_bits_of_rights F9 T, PySem.W.mg_of X G a9, F9.kp, F9.binds fun _ _ _ _ _ _ us hl => match us, hl with | [_], _ => rfl⟩
  have C_field : Cal l.prog w K mg base "field" 1 ["bits", "place"] (sp_field K) := ⟨_, _, ok_field F10 T, PySem.W.mg_of X G a10, F10.kp, F10.binds fun _ _ _ _ _ _ us hl => match us, hl with | [_, _], _ => rfl⟩
  have C_rights_in : Cal l.prog w K mg base "rights_in" 2 ["bits"] (sp_rights_in K) := ⟨_, _, ok_rights_in F11 T C_field, PySem.W.mg_of X G a11, F11.kp, F11.binds fun _ _ _ _ _ _ us hl => match us, hl with | [_], _ => rfl⟩
  have C__tell : Cal l.prog w K mg base "_tell" 2 ["bits"] (sp__tell K) := ⟨_, _, ok__tell F12 T C_field, PySem.W.mg_of X G a12, F12.kp, F12.binds fun _ _ _ _ _ _ us hl => match us, hl with | [_], _ => rfl⟩
  have C_bounds_in : Cal l.prog w K mg base "bounds_in" 2 ["bits"] (sp_bounds_in K) := ⟨_, _, ok_bounds_in F13 T C_field, PySem.W.mg_of X G a13, F13.kp, F13.binds fun _ _ _ _ _ _ us hl => match us, hl with | [_], _ => rfl⟩
  have C_fields_of : Cal l.prog w K mg base "fields_of" 3 ["word"] (sp_fields_of K) := ⟨_, _, ok_fields_of F14 T C_field C_rights_in C__tell C_bounds_in, PySem.W.mg_of X G a14, F14.kp, F14.binds fun _ _ _ _ _ _ us hl => match us, hl with | [_], _ => rfl⟩
  have C_is_rights : Cal l.prog w K mg base "is_rights" 1 ["thing"] (sp_is_rights K) := ⟨_, _, ok_is_rights F15 T, PySem.W.mg_of X G a15, F15.kp, F15.binds fun _ _ _ _ _ _ us hl => match us, hl with | [_], _ => rfl⟩
  have C__are_fields : Cal l.prog w K mg base "_are_fields" 7 ["thing"] (sp__are_fields K) := ⟨_, _, ok__are_fields F16 T C_is_whole C_are_bounds C_is_exact C__lead_one_way C_is_rights, PySem.W.mg_of X G a16, F16.kp, F16.binds fun _ _ _ _ _ _ us hl => match us, hl with | [_], _ => rfl⟩
  have FD17 : FunD K "word_of" "word_of" (defArgs s_word_of) (defBody s_word_of) (defScope s_word_of) [] [("marked", V.bl true)] f17 _ := ⟨⟨_, _, _, _, _, _, _, _, _, _, rfl, l17, c17, .inl ⟨rfl, rfl⟩, .inr ⟨D17, rfl, fun q hq => by simp at hq; subst hq; exact ⟨_, d17_marked, rfl⟩⟩⟩, k17⟩
  obtain ⟨ds17, hd17, hb17⟩ := FD17.binds0 1 (ps := ["fields", "marked"]) (by simp) rfl (fun D doc pm an cdv ct us ks h1 h2 => match us, h1, ks, h2 with | [_], _, [_], _ => ⟨_, _, _, _, _, _, rfl, rfl, rfl⟩)
  have C_word_of : CalXD l.prog w K mg base "word_of" 8 ["fields", "marked"] [.bl true] (sp_word_of K) := ⟨_, _, ds17, ok_word_of F17 T C_in_bits C_bits_of_rights C__are_fields R_NoFields, PySem.W.mg_of X G a17, F17.kp, hd17, hb17⟩
  obtain ⟨mv17, hk17⟩ := FD17.kbinds0 1 (ps := ["fields", "marked"]) ["marked"] [] (fun vs mz zs => vs ++ zs) (by simp) (by simp) (fun r1 _ r3 => Vals.append r1 r3) (fun D doc pm an cdv ct us mv ws h1 h2 h3 => match us, h1, mv, h2, ws, h3 with | [_], _, [], _, [_], _ => rfl)
  have C_word_of_k : CalXK l.prog w K mg base "word_of" 8 ["fields", "marked"] 1 ["marked"] (sp_word_of K) := ⟨_, _, _, ok_word_of F17 T C_in_bits C_bits_of_rights C__are_fields R_NoFields, PySem.W.mg_of X G a17, F17.kp, hk17⟩
  have C__law_take : Cal l.prog w K mg base "_law_take" 1 ["_law_pool_here", "_law_many"] (sp__law_take K) := ⟨_, _, ok__law_take F18 T, PySem.W.mg_of X G a18, F18.kp, F18.binds fun _ _ _ _ _ _ us hl => match us, hl with | [_, _], _ => rfl⟩
  have C__law_pool : Cal l.prog w K mg base "_law_pool" 1 ["_law_script", "_law_k"] (sp__law_pool K) := ⟨_, _, ok__law_pool F19 T, PySem.W.mg_of X G a19, F19.kp, F19.binds fun _ _ _ _ _ _ us hl => match us, hl with | [_, _], _ => rfl⟩
  have C__law_told : Cal l.prog w K mg base "_law_told" 9 ["_law_thing", "_law_mark"] (sp__law_told K) := ⟨_, _, ok__law_told F20 T C_fields_of C_word_of C_word_of_k, PySem.W.mg_of X G a20, F20.kp, F20.binds fun _ _ _ _ _ _ us hl => match us, hl with | [_, _], _ => rfl⟩
  have C__law_is_refused : Cal l.prog w K mg base "_law_is_refused" 9 ["_law_thing", "_law_mark"] (sp__law_is_refused K) := ⟨_, _, ok__law_is_refused F21 T C_word_of C_word_of_k, PySem.W.mg_of X G a21, F21.kp, F21.binds fun _ _ _ _ _ _ us hl => match us, hl with | [_, _], _ => rfl⟩
  have C__law_whole : Cal l.prog w K mg base "_law_whole" 1 ["_law_thing", "_law_low", "_law_high"] (sp__law_whole K) := ⟨_, _, ok__law_whole F22 T, PySem.W.mg_of X G a22, F22.kp, F22.binds fun _ _ _ _ _ _ us hl => match us, hl with | [_, _, _], _ => rfl⟩
  have C__law_good : Cal l.prog w K mg base "_law_good" 1 ["_law_rights"] (sp__law_good K) := ⟨_, _, ok__law_good F23 T, PySem.W.mg_of X G a23, F23.kp, F23.binds fun _ _ _ _ _ _ us hl => match us, hl with | [_], _ => rfl⟩
  have C__law_exact : Cal l.prog w K mg base "_law_exact" 1 ["_law_low", "_law_high"] (sp__law_exact K) := ⟨_, _, ok__law_exact F24 T, PySem.W.mg_of X G a24, F24.kp, F24.binds fun _ _ _ _ _ _ us hl => match us, hl with | [_, _], _ => rfl⟩
  have C__law_are_fields : Cal l.prog w K mg base "_law_are_fields" 2 ["_law_thing"] (sp__law_are_fields K) := ⟨_, _, ok__law_are_fields F25 T C__law_whole C__law_good C__law_exact, PySem.W.mg_of X G a25, F25.kp, F25.binds fun _ _ _ _ _ _ us hl => match us, hl with | [_], _ => rfl⟩
  have C__law_bounds : Cal l.prog w K mg base "_law_bounds" 2 ["_law_pool_here"] (sp__law_bounds K) := ⟨_, _, ok__law_bounds F26 T C__law_take, PySem.W.mg_of X G a26, F26.kp, F26.binds fun _ _ _ _ _ _ us hl => match us, hl with | [_], _ => rfl⟩
  have C__law_bent : Cal l.prog w K mg base "_law_bent" 2 ["_law_pool_here", "_law_fields"] (sp__law_bent K) := ⟨_, _, ok__law_bent F27 T C__law_take, PySem.W.mg_of X G a27, F27.kp, F27.binds fun _ _ _ _ _ _ us hl => match us, hl with | [_, _], _ => rfl⟩
  exact ok_law l28 c28 T C__law_take C__law_pool C__law_told C__law_is_refused C__law_are_fields C__law_bounds C__law_bent e0 hS hlen
end My
open PySem PySem.W PyProof.Rows
set_option maxRecDepth 100000 in
set_option maxHeartbeats 0 in
theorem PySem.Challenge.cw_sealedreach_k03_no_fields_holds : PySem.Challenge.rw_sealedreach_k03_no_fields.Holds := by
  w_on; o_law; k_head; (case hw => w_witness2)
  k_fill
  refine My.walk_scr (l := PySem.Challenge.rw_sealedreach_k03_no_fields) (n := 63) rfl (by decide) rfl (fun w h Y => PySem.W.kIn_of Y) ?F
  case F =>
    intro w mg fa h KX G hmg
    refine' My.all_mk KX G hmg ?a0 ?l0 ?c0 ?k0 ?a1 ?l1 ?c1 ?k1 ?a2 ?l2 ?c2 ?k2 ?a3 ?l3 ?c3 ?k3 ?a4 ?l4 ?c4 ?k4 ?a5 ?l5 ?c5 ?k5 ?a6 ?l6 ?c6 ?k6 ?a7 ?l7 ?c7 ?k7 ?a8 ?l8 ?c8 ?k8 ?a9 ?l9 ?c9 ?k9 ?a10 ?l10 ?c10 ?k10 ?a11 ?l11 ?c11 ?k11 ?a12 ?l12 ?c12 ?k12 ?a13 ?l13 ?c13 ?k13 ?a14 ?l14 ?c14 ?k14 ?a15 ?l15 ?c15 ?k15 ?a16 ?l16 ?c16 ?k16 ?a17 ?l17 ?c17 ?k17 ?d17_marked ?a18 ?l18 ?c18 ?k18 ?a19 ?l19 ?c19 ?k19 ?a20 ?l20 ?c20 ?k20 ?a21 ?l21 ?c21 ?k21 ?a22 ?l22 ?c22 ?k22 ?a23 ?l23 ?c23 ?k23 ?a24 ?l24 ?c24 ?k24 ?a25 ?l25 ?c25 ?k25 ?a26 ?l26 ?c26 ?k26 ?a27 ?l27 ?c27 ?k27 ?a28 ?l28 ?c28 ?k28 ?z_ValueError ?z_abs ?z_any ?z_bool ?z_enumerate ?z_int ?z_isinstance ?z_len ?z_list ?z_max ?z_min ?z_range ?z_repr ?z_str ?z_sum ?z_tuple ?z_zip ?v_AT ?w_AT ?v_CELLS ?v_COUNT_LESS_ONE ?w_COUNT_LESS_ONE ?v_FIRST ?w_FIRST ?v_GROUPS ?w_GROUPS ?v_KIND ?w_KIND ?v_LEAST_COUNT ?v_RIGHTS ?v_RIGHTS_BITS ?w_RIGHTS_BITS ?v_STEP ?w_STEP ?v_TOP_COUNT ?v_TOP_KIND ?v_TOP_STEP ?ac_NoFields ?xl_NoFields ?sa_NoFields ?eb_NoFields ?ty_NoFields ?kc_NoFields ?no_NoFields ?in_NoFields ?ti_NoFields ?li_NoFields ?ci_NoFields ?ki_NoFields ?xb_NoFields_NoFields ?xh_NoFields_NoFields ?xt_NoFields_NoFields ?xs_NoFields_NoFields ?ecg_NoFields ?eck_NoFields ?ecs_NoFields ?ecd_NoFields ?eca_NoFields ?ecn_NoFields ?ect_NoFields ?ecm_NoFields ?kt_NoFields_ValueError
    (case a0 => k_is)
    (case l0 => k_is)
    (case c0 => k_is)
    (case k0 => k_is)
    (case a1 => k_is)
    (case l1 => k_is)
    (case c1 => k_is)
    (case k1 => k_is)
    (case a2 => k_is)
    (case l2 => k_is)
    (case c2 => k_is)
    (case k2 => k_is)
    (case a3 => k_is)
    (case l3 => k_is)
    (case c3 => k_is)
    (case k3 => k_is)
    (case a4 => k_is)
    (case l4 => k_is)
    (case c4 => k_is)
    (case k4 => k_is)
    (case a5 => k_is)
    (case l5 => k_is)
    (case c5 => k_is)
    (case k5 => k_is)
    (case a6 => k_is)
    (case l6 => k_is)
    (case c6 => k_is)
    (case k6 => k_is)
    (case a7 => k_is)
    (case l7 => k_is)
    (case c7 => k_is)
    (case k7 => k_is)
    (case a8 => k_is)
    (case l8 => k_is)
    (case c8 => k_is)
    (case k8 => k_is)
    (case a9 => k_is)
    (case l9 => k_is)
    (case c9 => k_is)
    (case k9 => k_is)
    (case a10 => k_is)
    (case l10 => k_is)
    (case c10 => k_is)
    (case k10 => k_is)
    (case a11 => k_is)
    (case l11 => k_is)
    (case c11 => k_is)
    (case k11 => k_is)
    (case a12 => k_is)
    (case l12 => k_is)
    (case c12 => k_is)
    (case k12 => k_is)
    (case a13 => k_is)
    (case l13 => k_is)
    (case c13 => k_is)
    (case k13 => k_is)
    (case a14 => k_is)
    (case l14 => k_is)
    (case c14 => k_is)
    (case k14 => k_is)
    (case a15 => k_is)
    (case l15 => k_is)
    (case c15 => k_is)
    (case k15 => k_is)
    (case a16 => k_is)
    (case l16 => k_is)
    (case c16 => k_is)
    (case k16 => k_is)
    (case a17 => k_is)
    (case l17 => k_is)
    (case c17 => k_is)
    (case k17 => k_is)
    (case d17_marked => k_is)
    (case a18 => k_is)
    (case l18 => k_is)
    (case c18 => k_is)
    (case k18 => k_is)
    (case a19 => k_is)
    (case l19 => k_is)
    (case c19 => k_is)
    (case k19 => k_is)
    (case a20 => k_is)
    (case l20 => k_is)
    (case c20 => k_is)
    (case k20 => k_is)
    (case a21 => k_is)
    (case l21 => k_is)
    (case c21 => k_is)
    (case k21 => k_is)
    (case a22 => k_is)
    (case l22 => k_is)
    (case c22 => k_is)
    (case k22 => k_is)
    (case a23 => k_is)
    (case l23 => k_is)
    (case c23 => k_is)
    (case k23 => k_is)
    (case a24 => k_is)
    (case l24 => k_is)
    (case c24 => k_is)
    (case k24 => k_is)
    (case a25 => k_is)
    (case l25 => k_is)
    (case c25 => k_is)
    (case k25 => k_is)
    (case a26 => k_is)
    (case l26 => k_is)
    (case c26 => k_is)
    (case k26 => k_is)
    (case a27 => k_is)
    (case l27 => k_is)
    (case c27 => k_is)
    (case k27 => k_is)
    (case a28 => k_is)
    (case l28 => k_is)
    (case c28 => k_is)
    (case k28 => k_is)
    (case z_ValueError => k_is)
    (case z_abs => k_is)
    (case z_any => k_is)
    (case z_bool => k_is)
    (case z_enumerate => k_is)
    (case z_int => k_is)
    (case z_isinstance => k_is)
    (case z_len => k_is)
    (case z_list => k_is)
    (case z_max => k_is)
    (case z_min => k_is)
    (case z_range => k_is)
    (case z_repr => k_is)
    (case z_str => k_is)
    (case z_sum => k_is)
    (case z_tuple => k_is)
    (case z_zip => k_is)
    (case v_AT => k_is)
    (case w_AT => k_is)
    (case v_CELLS => k_is)
    (case v_COUNT_LESS_ONE => k_is)
    (case w_COUNT_LESS_ONE => k_is)
    (case v_FIRST => k_is)
    (case w_FIRST => k_is)
    (case v_GROUPS => k_is)
    (case w_GROUPS => k_is)
    (case v_KIND => k_is)
    (case w_KIND => k_is)
    (case v_LEAST_COUNT => k_is)
    (case v_RIGHTS => k_is)
    (case v_RIGHTS_BITS => k_is)
    (case w_RIGHTS_BITS => k_is)
    (case v_STEP => k_is)
    (case w_STEP => k_is)
    (case v_TOP_COUNT => k_is)
    (case v_TOP_KIND => k_is)
    (case v_TOP_STEP => k_is)
    (case ac_NoFields => k_is)
    (case xl_NoFields => k_is)
    (case sa_NoFields => k_is)
    (case eb_NoFields => k_is)
    (case ty_NoFields => k_is)
    (case kc_NoFields => k_is)
    (case no_NoFields => k_is)
    (case in_NoFields => k_is)
    (case ti_NoFields => k_is)
    (case li_NoFields => k_is)
    (case ci_NoFields => k_is)
    (case ki_NoFields => k_is)
    (case xb_NoFields_NoFields => k_is)
    (case xh_NoFields_NoFields => k_is)
    (case xt_NoFields_NoFields => k_is)
    (case xs_NoFields_NoFields => k_is)
    (case ecg_NoFields => k_is)
    (case eck_NoFields => k_is)
    (case ecs_NoFields => k_is)
    (case ecd_NoFields => k_is)
    (case eca_NoFields => k_is)
    (case ecn_NoFields => k_is)
    (case ect_NoFields => k_is)
    (case ecm_NoFields => k_is)
    (case kt_NoFields_ValueError => kit_is)
